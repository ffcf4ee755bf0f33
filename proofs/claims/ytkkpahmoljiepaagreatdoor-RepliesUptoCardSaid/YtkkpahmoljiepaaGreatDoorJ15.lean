import Derived.Test.YtkkpahmoljiepaaGreatDoorJ13
set_option maxRecDepth 1000000
set_option maxHeartbeats 12800000
set_option linter.unusedSimpArgs false
set_option linter.unusedVariables false
namespace Go.Proofs.YtkkpahmoljiepaaGreatDoor
open Go.RowKit Go.Proofs.Tryz
structure xy(s mb:Nat)(size:Int)(cs:List Int)(W:World):Prop where
 b0:aR W s (aM mb) 216
 b1:aR W (s+1) (aj size) 3
 b2:aR W (s+2) (aH) 56
 b3:ft W (s+3) cs 3
 b4:aR W (s+4) (aD (s+3) 0 3 3) 56
theorem xy.kept{s mb:Nat}{size:Int}{cs:List Int}{W W':World}(h:xy s mb size cs W)(hk:∀k,s<=k->k<s+5->W'.heap[k]? = W.heap[k]?):xy s mb size cs W' :=
 ⟨(hk _ ae ae).trans h.b0,(hk _ ae ae).trans h.b1,(hk _ ae ae).trans h.b2,(hk _ ae ae).trans h.b3,(hk _ ae ae).trans h.b4⟩
theorem xy.lt{s mb:Nat}{size:Int}{cs:List Int}{W:World}(h:xy s mb size cs W):s+4<W.heap.size:=aR.lt h.b4
theorem xy.set{s mb:Nat}{size:Int}{cs:List Int}{W:World}(h:xy s mb size cs W)(k:Nat)(x:Int):xy s mb size (cs.set k x) (W.setCell ⟨s+3,k,none⟩ (.int .i64 x)) :=
 ⟨(cZ _ _ _ _ (by show s≠s+3;omega)).trans h.b0,(cZ _ _ _ _ (by show s+1≠s+3;omega)).trans h.b1,(cZ _ _ _ _ (by show s+2≠s+3;omega)).trans h.b2,h.b3.set k x,(cZ _ _ _ _ (by show s+4≠s+3;omega)).trans h.b4⟩
theorem atT(a:Option Addr)(n c:Nat)(w:World) :
  aB 107 #[.slice a n c] w fun e w'=>e=.returned (.func (.func 233) #[] #[aM w.heap.size,aM (w.heap.size+1)])/\w'.heap.size=w.heap.size+2/\au w w' /\
   aR w' w.heap.size (.slice a n c) 41/\aR w' (w.heap.size+1) (.func (.func 177) #[] #[]) 261:=by refine(aaC a n c w).mono ?_;rintro e w' ⟨rfl,rfl⟩;refine⟨rfl,ar,(aO.alloc aA _).alloc ar _,(aR.l7 _ _ _).alloc _,?_⟩;have:=aR.l7 (w.alloc (.cells #[.slice a n c] 41)) (.func (.func 177) #[] #[]) 261;rwa [dD]at this
def nj(rs:List ai)(i:Nat):List ai:=((bz bu rs).take i).flatMap (·.2)
theorem atU(rs:List ai):nj rs 0 = []:=rfl
theorem atV{rs:List ai}{i:Nat}{x:Nat×List ai}(h:(bz bu rs)[i]? = some x):nj rs (i+1)=nj rs i++x.2:=by unfold nj;rw[Kw h,sZ];simp
theorem XF(rs:List ai)(i:Nat):(nj rs i).length<=rs.length:=by
 have h:rs=nj rs i++((bz bu rs).drop i).flatMap (·.2):=by{unfold nj;rw[<- sZ,j9];exact(KC bu _ _ _ aA).symm};conv=>rhs;rw[h,bj]
 omega
theorem XG{rs:List ai}{x:Nat×List ai}(h:x∈bz bu rs){r:ai}(hr:r∈x.2):r∈rs:=by rw[(wD h).2.2]at hr;exact NR (Az hr)
theorem atW{w w':World}{mb base d:Nat}{l:ah}{ps:cI}(h:nI w mb base d l ps)(hb:au w w'):nI w' mb base d l ps:=by obtain⟨vb,vp,h1,h2,h3,h4,h5⟩:=h;exact⟨vb,vp,h1.kept (hb.block mb h1.lt),ic h2 hb,ic h3 hb,h4,h5⟩
theorem Ra{w:World}{mb base:Nat}{l:ah}{ps:cI}(h:dK w mb base l ps):nI w mb base mb l ps:=by have h0:=h;obtain⟨vb,vp,h1,_⟩:=h0;exact h.away ⟨fun cur hc=>by rw[h1]at hc;simp at hc,fun cur hc=>by rw[h1]at hc;simp at hc⟩
theorem Jm{w w':World}{mb base d x:Nat}{l:ah}{ps:cI}(h:nI w mb base d l ps)(hx:(∀cur,w.heap[x]?≠some (.cells cur 5 (0,0)))/\∀cur,w.heap[x]?≠some (.cells cur 343 (0,0)))(hm:mb≠x)(hk:∀k,k≠x->w'.heap[k]? = w.heap[k]?):nI w' mb base d l ps:=by obtain⟨vb,vp,h1,h2,h3,h4,h5⟩:=h;refine⟨vb,vp,h1.kept (hk mb hm),qm h2 fun g hg=>hk g fun e=>?_,qm h3 fun g hg=>hk g fun e=>?_,h4,h5⟩;{obtain⟨cur,aZ⟩:=DW h2 hg;rw[e]at aZ;exact hx.1 cur aZ};{obtain⟨cur,aZ⟩:=DX h3 hg;rw[e]at aZ;exact hx.2 cur aZ}
theorem GD{mb base k:Nat}{W W':World}{v:Value}{t:TypeId}(h:aR W k v t)(ht:bG mb base W W')(hm:k≠mb)(h8:t≠5)(Rb:t≠343):aR W' k v t:=ht.box h hm h8 Rb
theorem atX{s mb base:Nat}{size:Int}{cs:List Int}{W W':World}(h:xy s mb size cs W)(ht:bG mb base W W')(hm:mb<s):xy s mb size cs W':=by have hl:=h.lt;refine⟨GD h.b0 ht ae bD bD,GD h.b1 ht ae bD bD,GD h.b2 ht ae bD bD,?_,GD h.b4 ht ae bD bD⟩;have:=h.b3;unfold ft at this ⊢;exact ht.box this ae bD bD
structure nM(mb base s lb:Nat)(size:Int)(vs:Array Value)(w:World)(ds:List Nat)(cs:List Int)(d:Nat)(S:ah×cI)(W:World):Prop where
 fb:xy s mb size cs W
 lists:W.heap[lb]? = some (.cells vs 41)
 msg:nI W mb base d S.1 S.2
 po:iH S.2
 g:bK W
 tg:bG mb base w W
 defs:∀x∈ds,W.heap[x]? = some (.deferred (some []))
section
variable {mb base s lb:Nat} {size:Int} {vs:Array Value} {w:World} {ds:List Nat} {cs:List Int} {d:Nat} {S S':ah×cI} {W B:World}
theorem nM.re(h:nM mb base s lb size vs w ds cs d S W)(d':Nat)(hd:(∀cur,W.heap[d']?≠some (.cells cur 5 (0,0)))/\∀cur,W.heap[d']?≠some (.cells cur 343 (0,0))):nM mb base s lb size vs w ds cs d' S W :=
 ⟨h.fb,h.lists,h.msg.msg.away hd,h.po,h.g,h.tg,h.defs⟩
theorem nM.keeps(h:nM mb base s lb size vs w ds cs d S W)(hk:dF d W B)(h1:s+4<d)(h2:lb<d)(h3:mb<d)(h4:w.heap.size<=d)(h6:∀x∈ds,x≠d):nM mb base s lb size vs w ds cs d S B:=by have hl:=h.fb.lt;obtain⟨g0,XH,gc⟩:=h.g;exact⟨h.fb.kept fun k k1 k2=>hk.block k ae ae,(hk.block lb (bV.1 h.lists).1 ae).trans h.lists,h.msg.keeps hk ae,h.po, ⟨dP g0 hk.size,XH,(dh (hk.block 0 g0 ae)).trans gc⟩,h.tg.keeps hk h4,fun x hx=>(hk.block x (bV.1 (h.defs x hx)).1 (h6 x hx)).trans (h.defs x hx)⟩
theorem nM.below(h:nM mb base s lb size vs w ds cs d S W)(hb:au W B):nM mb base s lb size vs w ds cs d S B:=by have hl:=h.fb.lt;exact⟨h.fb.kept fun k k1 k2=>hb.block k ae,(hb.block lb (bV.1 h.lists).1).trans h.lists,atW h.msg hb,h.po,h.g.below hb,h.tg.trans (bG.pE hb),fun x hx=>(hb.block x (bV.1 (h.defs x hx)).1).trans (h.defs x hx)⟩
theorem nM.fit(h:nM mb base s lb size vs w ds cs d S W)(ht:bG mb base W B)(hm:dK B mb base S'.1 S'.2)(mP:iH S'.2)(h0:mb<s)(h1:lb≠mb)(h2:0<base)(h3:0<mb)(h4:∀x∈ds,x≠mb)(hd:(∀cur,B.heap[d]?≠some (.cells cur 5 (0,0)))/\∀cur,B.heap[d]?≠some (.cells cur 343 (0,0))):nM mb base s lb size vs w ds cs d S' B :=
 ⟨atX h.fb ht h0,ht.box h.lists h1 bD bD,hm.away hd,mP,h.g.tg ht h2 h3,h.tg.trans ht,fun x hx=>(ht.other (h.defs x hx) (h4 x hx) (fun _ _ _ e=>by cases e)).trans (h.defs x hx)⟩
theorem nM.set(h:nM mb base s lb size vs w ds cs d S W)(k:Nat)(x:Int)(h0:mb<s)(h1:lb<s)(h2:w.heap.size<=s)(h3:∀y∈ds,y≠s+3):nM mb base s lb size vs w ds (cs.set k x) d S (W.setCell ⟨s+3,k,none⟩ (.int .i64 x)):=by have mX:=h.fb.b3;unfold ft at mX;have hne:∀k',k'≠s+3->(W.setCell ⟨s+3,k,none⟩ (.int .i64 x)).heap[k']? = W.heap[k']?:=fun k' hk=>cZ _ _ _ _ hk;refine⟨h.fb.set k x,(hne lb ae).trans h.lists,Jm h.msg ⟨fun c hc=>?_,fun c hc=>?_⟩ ae hne,h.po,?_,h.tg.same rfl rfl rfl (by simp[World.setCell]) fun i ax=>hne i ae,fun y hy=>(hne y (h3 y hy)).trans (h.defs y hy)⟩;{rw[mX]at hc;simp at hc};{rw[mX]at hc;simp at hc};{obtain⟨g0,XH,gc⟩:=h.g;exact⟨by simpa [World.setCell]using g0,XH,(dh (hne 0 ae)).trans gc⟩}
end
section
attribute [local go_sem] Oper.semAt_some undef
theorem atY(w:World):(Instr.makeSlice 56 (aj 3) (aj 3)).run prog w=.ok (aD w.heap.size 0 3 3) (w.alloc (.cells #[.int .i64 0,.int .i64 0,.int .i64 0] 3)):=aI
end
section
attribute [local go_sem] Oper.semAt_some undef
end
section
attribute [local go_sem] Oper.semAt_some undef
def iI(s:Nat)(n:ah):List (ah×Nat):=(cg n).map fun e=>(e,s+n.length - e.length)
theorem atZ(s:Nat)(n:ah){i:Nat}{x:ah}(h:(cg n)[i]? = some x):(iI s n).take (i+1)=(iI s n).take i++[(x,s+n.length - x.length)]:=by
 have:(iI s n)[i]? = some (x,s+n.length - x.length):=by simp[iI,h]
 obtain⟨ax,e⟩:=jX.1 this;rw[gp ax,e]
theorem agt:∀(f:Nat) (n:ah),n.length<=f->(cg n).length<=n.length
 | 0,n,h=>by obtain rfl:n = []:=fp ae;simp[rS]
 | f+1,n,h=>by by_cases hn:n = [];{subst hn;simp[rS]};{have h1:=CS n hn;rw[qP n hn,bP];have:=agt f (ik n) ae;omega}
theorem at0{W:World}{base i:Nat}{v:Value}{ps:List (ah×Nat)}(h:lD W base v ps)(ax:∀cur,W.heap[i]?≠some (.cells cur 343 (0,0))):some i≠v.ownBlock:=fun e=>by
 obtain⟨_,⟨rfl,_⟩|⟨g,cap,cur,rfl,_,aZ,_⟩⟩:=h
 ·simp[Value.ownBlock]at e
 ·simp only[Value.ownBlock,xN]at e;subst e;exact ax cur aZ
theorem at1{W:World}{base g:Nat}{v:Value}{ps:List (ah×Nat)}(h:lD W base v ps)(hg:v.ownBlock=some g):∃cur,W.heap[g]? = some (.cells cur 343 (0,0)):=by obtain⟨_,⟨rfl,_⟩|⟨g',cap,cur,rfl,_,aZ,_⟩⟩:=h;{simp[Value.ownBlock]at hg};{simp only[Value.ownBlock,xN]at hg;subst hg;exact⟨cur,aZ⟩}
def Ei(W:World)(b:Nat)(h0 h1 h2 h3 h4 h5:Int)(q n:ah)(k c:Int)(op:Bool)(sz bM:Int):Prop:=W.heap[b]? = some (.cells #[.int .i64 h0,.int .i64 h1,.int .i64 h2,.int .i64 h3,.int .i64 h4,.int .i64 h5,.string (aq q),.string (aq n),.int .i64 k,.int .i64 c,.bool op,.int .i64 sz,.int .i64 bM] 137)
theorem Ei.cells{W:World}{b:Nat}{h0 h1 h2 h3 h4 h5:Int}{q n:ah}{k c:Int}{op:Bool}{sz bM:Int}(h:Ei W b h0 h1 h2 h3 h4 h5 q n k c op sz bM):W.cell? (ak b 6)=some (ay q)/\W.cell? (ak b 7)=some (ay n):=by unfold Ei at h;constructor <;> simp[World.cell?,h]
theorem Ei.lt{W:World}{b:Nat}{h0 h1 h2 h3 h4 h5:Int}{q n:ah}{k c:Int}{op:Bool}{sz bM:Int}(h:Ei W b h0 h1 h2 h3 h4 h5 q n k c op sz bM):b<W.heap.size:=(bV.1 h).1
theorem at2(mb base:Nat)(h0 h1 h2 h3 h4 h5:Int)(q n:ah)(k c:Int)(op:Bool)(sz bM:Int)(vb:Value)(l:ah)(w:World)(hm:cL w mb vb (aH))(ho:gC w base vb l)(hg:bK w)(bX:base<=w.heap.size)(hb0:0<base)(hm0:base<=mb)(hn:n.length<=900)(hl:l.length+q.length<=10000) :
  aB 135 #[aM mb,eu h0 h1 h2 h3 h4 h5 q n k c op sz bM] w fun e w' =>
   e=.returned (.tuple #[])/\(∃cJ fK,cL w' mb cJ fK/\gC w' base cJ (l++q)/\lD w' base fK (iI l.length n))/\Below base w w':=by
 unfold eu;refine(cj (n:=0)).1 ?_;refine callsIn_of_wp_marks func135 rfl aQ ?_;simp only[ntmps135,pc,bP,fy,Nat.reduceAdd,Nat.reduceSub,o_,pL,pN,pM,gb,fU];have dA:=ag hm;have HO:=ag ho;have HG:=ag hg;have hlt:=hm.lt;have hg0:=hg.1;have hmx:prog.follows .mixedOrders=true:=aI;have uO:Hid (∀g,vb.ownBlock=some g->g<w.heap.size):=fun g hg=>(iW ho g hg).2;have asj:=agt _ n aA;clear hm ho hg;gi_wp2_with fail;refine⟨aQ,rfl,?_⟩;refine(cj.2 (Om _ _)).mono ?_;rintro e W2 ⟨rfl,e4,hb2,e2⟩;have e0:aR W2 w.heap.size (aM mb) 216:=((aR.l7 _ _ _).alloc _).below hb2 eI;have e1:Ei W2 (w.heap.size+1) h0 h1 h2 h3 h4 h5 q n k c op sz bM:=by{refine(hb2.block _ ar).trans ?_;have:=World.alloc_heap_new (w.alloc (.cells #[.pointer (some ⟨mb,0,none⟩)] 216)) (.cells #[.int .i64 h0,.int .i64 h1,.int .i64 h2,.int .i64 h3,.int .i64 h4,.int .i64 h5,.string (aq q),.string (aq n),.int .i64 k,.int .i64 c,.bool op,.int .i64 sz,.int .i64 bM] 137);simpa using this};have e5:au w W2:=((aO.alloc aA _).alloc ar _).trans (hb2.mono eI);simp only[dD]at e4 e2;have tM:=ag (dA.kept (e5.block mb hlt));have gv:Hid (gC W2 base vb l):=ic (af HO) e5;have H8:=ag (HG.below e5);gi_wp2_with fail;have hgrow:∀r,au W2 ((W2.alloc (.deferred (some []))).alloc (.loop r)):=fun r=>(aO.alloc aA _).alloc ar _;have hB2:Below base w W2:=e5.mono bX;have Ku:l.length<=10000:=ae;refine WG (xs:=cg n) (encs:=fun e:ah=>#[ay e]) (St:=fun A B=>au A B) (Kp:=fun A B=>A.heap.size<=B.heap.size/\B.heap[0]? = A.heap[0]?) (Kx:=fun _ _=>True) (gf:=241) (lb:=#[aM (w.heap.size+1+1)]) rfl (enters_of func241 aI rfl) (fun _=>rfl) ?seq [0] aP (fun A B h=>h) (fun A B h h'=>⟨h',h _ ar⟩) (fun _ _=>aQ) (fun i W=>Below base w W/\gC W base vb l/\aR W w.heap.size (aM mb) 216/\Ei W (w.heap.size+1) h0 h1 h2 h3 h4 h5 q n k c op sz bM/\∃fK,cL W mb vb fK/\lD W base fK ((iI l.length n).take i)/\∀g,fK.ownBlock=some g->g≠W2.heap.size+1) (fun _ _=>False) (fun i A B h hA hk=>⟨h.1.trans (hk.below ae ae),qm h.2.1 (fun g hg=>hk.block g (iW h.2.1 g hg).2 (by have:=af uO g hg;omega)),aR.kept h.2.2.1 (hk.block _ (aR.lt h.2.2.1) ae),(hk.block _ h.2.2.2.1.lt ae).trans h.2.2.2.1,by{obtain⟨fK,p1,fh,eK⟩:=h.2.2.2.2;exact⟨fK,p1.kept (hk.block mb p1.lt ae),qm fh (fun g hg=>hk.block g (iW fh g hg).2 (eK g hg)),eK⟩}⟩) (fun c A B h hA hk=>h) ⟨hB2,gv,e0,e1,aH,tM,ia _ _ _ _,fun g hg=>by simp[Value.ownBlock]at hg⟩ ?round ?done ?stop;case seq =>(intro r;have hg:=hgrow r;exact Oo _ n _ ((hg.cell (p:=⟨w.heap.size+1+1,0,none⟩) (by show w.heap.size+1+1<W2.heap.size;omega)).trans e2) (H8.below hg) ae)
 case round =>(
 intro l' i x V0 W hx hI hsz eP oI;obtain⟨nA,mG,tF,Cc,vp,pJ,nN,xm⟩:=hI;have g_:=Ol (ux hx);have yu:i<(cg n).length:=(jX.1 hx).1;obtain⟨ab,nb,cb,rfl⟩:=sO mG;have yy:nb=l.length:=by{obtain⟨_,⟨e,hz⟩|⟨g',cap',cur',e,_⟩⟩:=mG;{cases e;omega};{cases e;rfl}};subst yy;obtain⟨c0,aC⟩:=pJ.cells;have cx:=tF.cell;obtain⟨cq,cn⟩:=Cc.cells;have uB:(aq x).size=x.length:=bJ x;have Il:(aq n).size=n.length:=bJ n;have aAI:0<mb:=ae;have hd:au W W.drew:=aO.drew;have Mh:=ag (arY mb base x (l.length+n.length - x.length) _ vp _ W.drew (pJ.kept rfl) (ic nN hd) (by show base<=W.heap.size;have:=nA.size;omega) (by simp[iI];omega) ae);have heq:((l.length+n.length - x.length:Nat):Int)=(l.length:Int)+(n.length:Int) - (x.length:Int):=ae;have lM:Hid (∀W4,(∃fK,cL W4 mb (.slice ab l.length cb) fK/\lD W4 base fK ((iI l.length n).take i++[(x,l.length+n.length - x.length)])/\(fK.ownBlock=vp.ownBlock\/∃g,fK.ownBlock=some g/\W.drew.heap.size<=g)/\bn (fun i=>i≠mb/\some i≠vp.ownBlock) W.drew W4) -> jN W2.heap.size W W4/\(∀k∈[0],W4.heap[k]? = W.heap[k]?)/\Below base w W4/\gC W4 base (.slice ab l.length cb) l/\aR W4 w.heap.size (aM mb) 216/\Ei W4 (w.heap.size+1) h0 h1 h2 h3 h4 h5 q n k c op sz bM/\∃fK,cL W4 mb (.slice ab l.length cb) fK/\lD W4 base fK ((iI l.length n).take (i+1))/\∀g,fK.ownBlock=some g->g≠W2.heap.size+1):=by{
 rintro W4 ⟨fK,p1,fh,eK,p4⟩;have hk:∀j,j<W.heap.size->j≠mb->(∀cur,W.heap[j]?≠some (.cells cur 343 (0,0)))->W4.heap[j]? = W.heap[j]?:=fun j hj at3 at4=>p4.block j hj ⟨at3,at0 nN at4⟩;have Cb:∀j,j<base->W4.heap[j]? = W.heap[j]?:=fun j hj=>p4.block j (by show j<W.heap.size;have:=nA.size;omega) ⟨ae,fun e=>by{have:=(iW nN j e.symm).1;omega}⟩;have gj:W.heap.size<=W4.heap.size:=p4.size;refine⟨⟨gj,hk _ ae ae (fun cur hc=>by rw[eP]at hc;cases hc),hk _ ae ae (fun cur hc=>by obtain⟨r,hr⟩:=oI;rw[hr]at hc;cases hc)⟩,fun j hj=>?_,?_,?_,?_,?_,fK,p1,?_,?_⟩;{
 obtain rfl:j=0:=by simpa using hj
 exact Cb 0 ae};{exact nA.trans ⟨p4.os,p4.tape,p4.output,gj,fun j hj=>Cb j ae⟩};{refine qm mG fun g hg=>?_;obtain⟨cur,aZ⟩:=DW mG hg;exact hk g (iW mG g hg).2 (fun e=>by subst e;rw[pJ]at aZ;simp at aZ) (fun c hc=>by rw[aZ]at hc;simp at hc)};{exact tF.kept (hk _ tF.lt ae (fun c hc=>by rw[tF]at hc;simp at hc))};{exact(hk _ Cc.lt ae (fun c hc=>by rw[Cc]at hc;simp at hc)).trans Cc};{rw[atZ _ _ hx];exact fh};{intro g hg;rcases eK with h|⟨g',h,hge⟩;{exact xm g (by rw[<- h];exact hg)};{rw[hg]at h;cases h;have:W.heap.size<=g:=hge;omega}}};rw[heq]at Mh;have y1:IntKind.i64.wrap ((l.length:Int)+(n.length:Int))=(l.length:Int)+(n.length:Int):=by rw[fF];first|omega|(unfold wrap64;omega)
 have y2:IntKind.i64.wrap ((l.length:Int)+(n.length:Int) - (x.length:Int))=(l.length:Int)+(n.length:Int) - (x.length:Int):=by rw[fF];first|omega|(unfold wrap64;omega)
 have HC:=ag (bg pJ (bg nN (bg mG (bg tF Cc))));clear pJ nN mG tF Cc xm nA eP oI hx heq;gi_wp2_with fail;refine⟨aQ,?_⟩;gi_wp2_with fail;refine afj (fun W=>W.cell? (ak w.heap.size 0)=some (aM mb)/\W.cell? (ak (w.heap.size+1) 7)=some (ay n)/\W.cell? (ak mb 0)=some (.slice ab l.length cb)) hmx (AZ aI) ⟨cx,cn,c0⟩ fun hS=>?_;refine mW 0 hS (fun _ _ _ h=>(jh.mm h ar).elim) ?_;refine mW 1 hS (fun _ _ _ h=>(jh.mm h ar).elim) ?_;refine mW 2 hS (fun _ _ _ h=>(jh.mm h ar).elim) ?_;refine mW 3 hS (fun _ _ _ h=>(jh.mm h ar).elim) ?_;refine mW 4 hS (fun _ _ _ h=>(jh.mm h ar).elim) ?_;refine mW 5 hS (fun _ _ _ h=>(jh.mm h ar).elim) ?_;refine mW 6 hS (fun _ _ _ h=>(jh.mm h ar).elim) ?_;refine mW 7 hS (fun _ _ _ h=>(jh.mm h ar).elim) ?_;refine mW 8 hS (fun _ _ _ h=>(jh.mm h ar).elim) ?_;refine mW 9 hS (fun _ _ _ h=>(jh.mm h ar).elim) ?_;refine mW 10 hS (fun _ _ _ h=>(jh.mm h ar).elim) ?_;refine mW 11 hS (fun _ _ _ h=>(jh.mm h ar).elim) ?_;refine mW 12 hS (fun _ _ _ h=>(jh.mm h ar).elim) ?_;refine mW 13 hS (fun _ _ _ h=>(jh.mm h ar).elim) ?_;refine fH (rs:=[14]) aI ar (eT rfl (fun K hK=>?_) fG);go_simp;refine Mh.mono ?_;rintro e W4 ⟨rfl,Bc⟩;have bf:=ag (lM W4 Bc);clear Bc;obtain⟨_,_,_,_,agu,agv,asq,hm4,_⟩:=af bf;refine hK.out _ _ ⟨agu.cell,agv.cells.2,hm4.cells.1⟩ (fun hS=>?_);clear hK K agu agv hm4;refine rL aI ?_ _;refine⟨rfl,?_⟩;gi_wp2_with fail;exact⟨bf.1,bf.2.1,bf.2.2⟩)
 case done =>(
 intro W hI cT hsz;obtain⟨nA,mG,tF,Cc,vp,pJ,nN,xm⟩:=hI;rw[show(cg n).length=(iI l.length n).length by simp[iI],gV]at nN;have cx:=tF.cell;have cq:=Cc.cells.1;have DY:=pJ.lt;have at5:=nA.size;have hnew:=World.alloc_heap_new W (.cells #[.iface 224 (.string (aq q))] 297);have sP:=ag (L0 mb base W.heap.size 1 [nH q] vb vp l (W.alloc (.cells #[.iface 224 (.string (aq q))] 297)) ((cD _ _ _ DY).trans pJ) (mG.alloc _) aP (fun f hf=>by simp at hf;subst hf;exact L6 _) ar ae (.inr fun cur h=>by rw[hnew]at h;simp at h) (fun j hj=>by{
 match j,hj with
 | 0,_=>unfold World.cell?; rw[hnew];rfl
 | j+1,hj=>simp at hj}) ar ar (by simp[ew,nH];omega))
 have HC:=ag (bg nA (bg pJ (bg nN cT)));have at6:W2.heap.size≠mb:=ae;have E4:=ag e4;clear pJ nN mG tF Cc xm nA cT hnew e4;gi_wp2_with fail;refine⟨aQ,rfl,?_⟩;refine(cj.2 (af sP)).mono ?_;rintro e W4 ⟨rfl,⟨XI,h1,h2⟩,h3⟩;have T4:Hid (kH mb base W W4):=(kH.WB (aO.alloc aA _)).trans h3;have at7:Hid (cL W4 mb XI vp/\gC W4 base XI (l++q)):=⟨h1,by simpa [ew,nH]using h2⟩;clear h1 h2 h3 sP;obtain⟨nA,pJ,nN,cT⟩:=af HC;have I7:W4.heap[W2.heap.size]? = some (.deferred (some [])):=(T4.block _ ae at6 (.inr fun c hc=>by rw[cT]at hc;cases hc)).trans cT;have agw:=ag I7;clear nA pJ nN cT I7;gi_wp2_with fail;refine⟨ar,.inl ⟨_,_,rfl,run_takeDeferred (af agw),?_⟩⟩;have e4:=af E4;obtain⟨nA,pJ,nN,cT⟩:=af HC;obtain⟨h1,h2⟩:=af at7;have tK:=dF.put (d:=W2.heap.size) W4 W2.heap.size (.deferred none);have D5:∀g,vp.ownBlock=some g->W4.heap[g]? = W.heap[g]?/\g≠W2.heap.size:=fun g hg=>by{obtain⟨cur,aZ⟩:=at1 nN hg;refine⟨T4.block g (iW nN g hg).2 (fun e=>?_) (.inr fun c hc=>?_),fun e=>?_⟩;{rw[e,pJ]at aZ;simp at aZ};{rw[aZ]at hc;simp at hc};{rw[e,cT]at aZ;cases aZ}};have Gu:lD W4 base vp (iI l.length n):=qm nN fun g hg=>(D5 g hg).1;have gH:Below base w W4:=nA.trans ⟨T4.os,T4.tape,T4.output,T4.size,fun k hk=>T4.block k ae ae (.inl hk)⟩;exact⟨.tuple #[],by simp[results,results135],rfl,⟨XI,vp,h1.kept (tK.block mb h1.lt ae),qm h2 fun g hg=>tK.block g (iW h2 g hg).2 (fun e=>by{obtain⟨cur,aZ⟩:=DW h2 hg;rw[e,af agw]at aZ;cases aZ}),qm Gu fun g hg=>tK.block g (iW Gu g hg).2 (D5 g hg).2⟩,gH.trans (tK.below ae (by have:=gH.size;omega))⟩)
 case stop =>(intro c W hI cT hsz;exact hI.elim)
end
theorem aua{W W':World}{s:Nat}{c0 aC c2 c3 aV gh jF c7 oU c9 zU DM DN d2 d3 d4:Value}(hb:au W W')
  (h:W.cell? (ak s 0)=some c0/\W.cell? (ak s 1)=some aC/\W.cell? (ak s 2)=some c2/\W.cell? (ak s 3)=some c3/\W.cell? (ak s 4)=some aV/\W.cell? (ak s 5)=some gh/\W.cell? (ak s 6)=some jF/\W.cell? (ak s 7)=some c7/\W.cell? (ak s 8)=some oU/\W.cell? (ak s 9)=some c9/\W.cell? (ak s 10)=some zU/\W.cell? (ak s 11)=some DM/\W.cell? (ak s 12)=some DN/\W.cell? (ak (s+1) 2)=some d2/\W.cell? (ak (s+1) 3)=some d3/\W.cell? (ak (s+1) 4)=some d4) :
  W'.cell? (ak s 0)=some c0/\W'.cell? (ak s 1)=some aC/\W'.cell? (ak s 2)=some c2/\W'.cell? (ak s 3)=some c3/\W'.cell? (ak s 4)=some aV/\W'.cell? (ak s 5)=some gh/\W'.cell? (ak s 6)=some jF/\W'.cell? (ak s 7)=some c7/\W'.cell? (ak s 8)=some oU/\W'.cell? (ak s 9)=some c9/\W'.cell? (ak s 10)=some zU/\W'.cell? (ak s 11)=some DM/\W'.cell? (ak s 12)=some DN/\W'.cell? (ak (s+1) 2)=some d2/\W'.cell? (ak (s+1) 3)=some d3/\W'.cell? (ak (s+1) 4)=some d4:=by have kp:∀(a:Addr) (v:Value),W.cell? a=some v->W'.cell? a=some v:=fun a v h=>(hb.cell (iz W a h)).trans h;obtain⟨e0,e1,e2,e3,e4,e5,e6,e7,e8,e9,e10,e11,e12,f2,f3,f4⟩:=h;exact⟨kp _ _ e0,kp _ _ e1,kp _ _ e2,kp _ _ e3,kp _ _ e4,kp _ _ e5,kp _ _ e6,kp _ _ e7,kp _ _ e8,kp _ _ e9,kp _ _ e10,kp _ _ e11,kp _ _ e12,kp _ _ f2,kp _ _ f3,kp _ _ f4⟩
theorem aub(n:ah)(hn:n.length<=900):iH (iI 12 n):=by intro p hp;unfold iI at hp;obtain⟨e,_,rfl⟩:=jZ.1 hp;show 12+n.length - e.length<16384;omega
theorem auc{W:World}{hb:Nat}{a b c d e f:Int}(h:ft W hb [a,b,c,d,e,f] 133)(x:Int):ft (W.setCell ⟨hb,5,none⟩ (.int .i64 x)) hb [a,b,c,d,e,x] 133:=h.set 5 x
structure GF(s hb:Nat)(h0 h1 h2 h3 h4 h5:Int)(q n:ah)(k kc:Int)(op:Bool)(sz bM:Int)(rc:Int)(bw va vb vc:Value)(hs:List Int)(W:World):Prop where
 qu:fu W s h0 h1 h2 h3 h4 h5 q n k kc op sz bM
 an:dY W (s+1) (aj rc) bw va vb vc
 hd:ft W hb hs 133
 g:bK W
theorem GF.keep{s hb base:Nat}{h0 h1 h2 h3 h4 h5:Int}{q n:ah}{k kc:Int}{op:Bool}{sz bM:Int}{rc:Int}{bw va vb vc:Value}{hs:List Int}{W W':World}(h:GF s hb h0 h1 h2 h3 h4 h5 q n k kc op sz bM rc bw va vb vc hs W)
  (hk:∀i,i<base->W'.heap[i]? = W.heap[i]?) (hz:W.heap.size<=W'.heap.size) (e1:s+1<base) (e2:hb<base):GF s hb h0 h1 h2 h3 h4 h5 q n k kc op sz bM rc bw va vb vc hs W':=by obtain⟨g0,m,gc⟩:=h.g;exact⟨h.qu.kept (hk _ ae),(hk _ ae).trans h.an,(hk _ ae).trans h.hd,⟨dP g0 hz,m,(dh (hk 0 ae)).trans gc⟩⟩
def vH(x m:Int)(b:Bool):Int:=if b=true then bits .or .i64 x m else x
theorem aud(id b b2 n0 n1 n2 c0 aC c2 ca cb cc:Nat)(aa ab ac:Option Addr)(h1 h2 h3 h4 h5 k kc rc:Int)(q n:ah)(sz bM lim:Int)(L:ah)(S2:ah×cI)(w:World)(hg:bK w)(hc0:c0<=3001)(hc1:aC<=3001)(hc2:c2<=3001)(op bw:Bool)(c3:Nat)(hc3:c3=cond op (c2+1) c2)
  (Jn:id<65536) (oX:b<65536) (hT:vH (vw h1 rc) 1024 bw=(b:Int)) (hn:n.length<=900) (hq:q.length<=300)
  (tc:Bool) (sS:tc=(decide ((c0:Int)<(n0:Int)) || decide ((aC:Int)<(n1:Int)))) (uh:vH (b:Int) 512 tc=(b2:Int)) (hb2:b2<65536)
  (agx:∀W mb base lb,au w W->w.heap.size<=base->base<=W.heap.size->w.heap.size<=mb->dK W mb base (List.replicate 12 0++q) (iI 12 n)->W.heap[lb]? = some (.cells #[.slice aa n0 ca,.slice ab n1 cb,.slice ac n2 cc] 41)->lb≠mb->aB 137 #[aM mb,aj (lim - (L.length:Int)),aD lb 0 3 3] W fun e w' =>
   e=.returned (aD (W.heap.size+3) 0 3 3)/\ft w' (W.heap.size+3) [(c0:Int),aC,c2] 3/\dK w' mb base S2.1 S2.2/\bG mb base W w')
  (IB:∀W,bK W->aB 136 #[eu id h1 h2 h3 h4 h5 q n k kc op sz bM,aj rc] W (bQ (ay L) W))
  (agy:∀W,aB 138 #[eu id h1 h2 h3 h4 h5 q n k kc op sz bM] W (bQ (aj lim) W))
  (aAJ:L.length<=100) (Td:lim<=2000) (aAK:0<=lim) (vI:12<=S2.1.length) (hl2:S2.1.length+L.length<=5000) :
  aB 73 #[eu id h1 h2 h3 h4 h5 q n k kc op sz bM,.agg #[aj rc,.bool bw,.slice aa n0 ca,.slice ab n1 cb,.slice ac n2 cc]] w fun e w' =>
   e=.returned (ay (ew (iu id b2 1 c0 aC c3)++(S2.1++L).drop 12))/\au w w':=by
 have Ac:=ag agx;have aue:=ag IB;have auf:=ag agy;have aAL:(aq L).size=L.length:=bJ L;have hwr:IntKind.i64.wrap (lim - (L.length:Int))=lim - (L.length:Int):=by rw[fF];omega
 clear agx IB agy;obtain⟨fD,vJ⟩:=bF ((w.alloc (.cells #[.int .i64 id,.int .i64 h1,.int .i64 h2,.int .i64 h3,.int .i64 h4,.int .i64 h5,.string (aq q),.string (aq n),.int .i64 k,.int .i64 kc,.bool op,.int .i64 sz,.int .i64 bM] 137)).alloc (.cells #[.int .i64 rc,.bool bw,.slice aa n0 ca,.slice ab n1 cb,.slice ac n2 cc] 43));have hB0:au w fD:=by rw[vJ];exact(aO.alloc aA _).alloc ar _
 have vK:fu fD w.heap.size id h1 h2 h3 h4 h5 q n k kc op sz bM:=by
  rw[vJ];exact(cD _ _ _ ar).trans (World.alloc_heap_new w _)
 have yO:dY fD (w.heap.size+1) (aj rc) (.bool bw) (.slice aa n0 ca) (.slice ab n1 cb) (.slice ac n2 cc):=by
  rw[vJ];have:=World.alloc_heap_new (w.alloc (.cells #[.int .i64 id,.int .i64 h1,.int .i64 h2,.int .i64 h3,.int .i64 h4,.int .i64 h5,.string (aq q),.string (aq n),.int .i64 k,.int .i64 kc,.bool op,.int .i64 sz,.int .i64 bM] 137)) (.cells #[.int .i64 rc,.bool bw,.slice aa n0 ca,.slice ab n1 cb,.slice ac n2 cc] 43)
  rwa [dD]at this
 have cu:=ag (bg hB0 (bg vK yO));have Ls:=ag hg;have aAM:w.heap.size+2<=fD.heap.size:=by rw[vJ];simp <;> omega
 clear hg hB0 vK yO;unfold eu;go_enter func73,ntmps73;go_wp2_with fail;rw[<- vJ];have xq:=ag vJ;clear vJ;refine(aeJ _ _ _ _ _ _ _ _).mono ?_;rintro e w1 ⟨rfl,hb1⟩;obtain⟨hB0,vK,yO⟩:=af cu;have hg:=af Ls;have Rc:=vK.kept (hb1.block _ vK.lt);have tR:dY w1 (w.heap.size+1) _ _ _ _ _:=(hb1.block _ ae).trans yO;have hB1:au w w1:=hB0.trans (hb1.mono hB0.size);have hs1:=hb1.size;obtain⟨k0,k1,k2,k3,k4⟩:=dY.cells tR;obtain⟨T,agz⟩:=bF (vw h1 rc);rw[<- agz]at hT ⊢;have og:=ag (bg Rc (bg tR hB1));clear hB0 vK yO hg Rc tR hB1 agz hb1 cu k2 k3 k4;have aAN:w.heap.size+1<w1.heap.size:=ae;have agA:=ag sS;have tO:=ag uh;have sM:=ag hc3;clear sS uh hc3
 go_upto_if 15 with fail
 go_cut []from 16 (fun wx=>wx=(w1.alloc (.cells #[.int .i64 id,.int .i64 b,.int .i64 0,.int .i64 0,.int .i64 0,.int .i64 0] 133)))
 case first =>
  cases bw with
  | true =>
   simp only[vH,gZ]at hT;go_wp2_with fail;go_meet;rfl
  | false =>
   simp only[vH,EK,ET]at hT;subst hT;go_wp2_with fail;go_meet;rfl
 case rest =>
 subst hcut;go_wp2_with fail;have nw:Hid ((GF w.heap.size w1.heap.size id h1 h2 h3 h4 h5 q n k kc op sz bM rc (.bool bw) (.slice aa n0 ca) (.slice ab n1 cb) (.slice ac n2 cc) [(id:Int),b,0,0,0,0] (w1.alloc (.cells #[.int .i64 id,.int .i64 b,.int .i64 0,.int .i64 0,.int .i64 0,.int .i64 0] 133)))/\au w (w1.alloc (.cells #[.int .i64 id,.int .i64 b,.int .i64 0,.int .i64 0,.int .i64 0,.int .i64 0] 133))/\w1.heap.size<(w1.alloc (.cells #[.int .i64 id,.int .i64 b,.int .i64 0,.int .i64 0,.int .i64 0,.int .i64 0] 133)).heap.size):=by
  obtain⟨Rc,tR,hB1⟩:=af og;have hg:=af Ls;have hB2:=hB1.alloc ae (.cells #[.int .i64 id,.int .i64 b,.int .i64 0,.int .i64 0,.int .i64 0,.int .i64 0] 133);exact⟨⟨Rc.kept (cD _ _ _ ae),(cD _ _ _ ae).trans tR,World.alloc_heap_new w1 _,hg.below hB2⟩,hB2,ar⟩
 clear og k0 k1 hT xq;generalize (w1.alloc (.cells #[.int .i64 id,.int .i64 b,.int .i64 0,.int .i64 0,.int .i64 0,.int .i64 0] 133))=X1 at *;refine(ae_ _).mono ?_;rintro e w2 ⟨rfl,⟨vm,Gq,ho2⟩,hb2⟩;obtain⟨hR1,hB1,hs2⟩:=af nw;have XJ:=hb2.size;have hR2:=hR1.keep (fun i ax=>hb2.block i ax) hb2.size ae ae;obtain⟨base,hbase⟩:=bF X1.heap.size;obtain⟨mb,yh⟩:=bF (X1.heap.size+1);have hB2:au w w2:=hB1.trans (hb2.mono ae);rw[<- yh]at Gq ⊢;rw[<- hbase]at ho2 hs2 XJ;have BW:base<mb:=ae;have XK:=ag (at2 mb base id h1 h2 h3 h4 h5 q n k kc op sz bM vm (List.replicate 12 0) w2 Gq ho2 hR2.g XJ ae ae hn aP);unfold eu at XK;obtain⟨q0,q1,q2,q3,q4,q5,q6,q7,q8,q9,q10,Ah,Ai⟩:=hR2.qu.cells;have kP:=ag (bg hR2 hB2);clear hR2 hB2 Gq ho2 hb2 hR1 hB1 nw hbase yh;go_wp2_with fail;refine XK.mono ?_;rintro e w3 ⟨rfl,⟨WM,Mg,sq,wJ,p7⟩,hb3⟩;obtain⟨hR2,hB2⟩:=af kP;have rj:=hR2.keep (fun i ax=>hb3.block i ax) hb3.size ae ae;have ig:au w w3:=hB2.trans (hb3.mono ae);have aug:base<=w3.heap.size:=a_ XJ hb3.size;clear q0 q1 q2 q3 q4 q5 q6 q7 q8 q9 q10 Ah Ai;obtain⟨q0,q1,q2,q3,q4,q5,q6,q7,q8,q9,q10,Ah,Ai⟩:=rj.qu.cells;obtain⟨g0,g1,g2,g3,g4⟩:=dY.cells rj.an;have XL:=ag (aue w3 rj.g);unfold eu at XL;have jR:Hid (dK w3 mb base (List.replicate 12 0++q) (iI 12 n)):=⟨WM,Mg,sq,wJ,p7⟩
 have oV:=ag (bg rj ig);clear sq wJ p7 rj ig hR2 hB2 kP XK hb3;go_wp2_with fail;refine XL.mono ?_;rintro e w4 ⟨rfl,hb4⟩;obtain⟨rj,ig⟩:=af oV;have sq:=af jR;have Ej:=rj.keep (base:=base) (fun i ax=>hb4.block i ae) hb4.size ae ae;have gH:au w w4:=ig.trans (hb4.mono ae);have hm4:=sq.below hb4;have aAO:base<=w4.heap.size:=a_ aug hb4.size;clear q0 q1 q2 q3 q4 q5 q6 q7 q8 q9 q10 Ah Ai g0 g1 g2 g3 g4;obtain⟨q0,q1,q2,q3,q4,q5,q6,q7,q8,q9,q10,Ah,Ai⟩:=Ej.qu.cells;obtain⟨g0,g1,g2,g3,g4⟩:=dY.cells Ej.an;have agB:Hid (∀W,aB 138 #[.agg #[aj id,aj h1,aj h2,aj h3,aj h4,aj h5,ay q,ay n,aj k,aj kc,.bool op,aj sz,aj bM]] W (bQ (aj lim) W)):=af auf;have BJ:Hid (∀W lb,au w4 W->W.heap[lb]? = some (.cells #[.slice aa n0 ca,.slice ab n1 cb,.slice ac n2 cc] 41)->w4.heap.size<=lb->aB 137 #[aM mb,aj (lim - (L.length:Int)),aD lb 0 3 3] W fun e w' =>
   ∃nb,e=.returned (aD nb 0 3 3)/\(w'.cell? (ak w.heap.size 0)=some (aj id)/\w'.cell? (ak w.heap.size 1)=some (aj h1)/\w'.cell? (ak w.heap.size 2)=some (aj h2)/\w'.cell? (ak w.heap.size 3)=some (aj h3)/\w'.cell? (ak w.heap.size 4)=some (aj h4)/\w'.cell? (ak w.heap.size 5)=some (aj h5)/\w'.cell? (ak w.heap.size 6)=some (ay q)/\w'.cell? (ak w.heap.size 7)=some (ay n)/\w'.cell? (ak w.heap.size 8)=some (aj k)/\w'.cell? (ak w.heap.size 9)=some (aj kc)/\w'.cell? (ak w.heap.size 10)=some (.bool op)/\w'.cell? (ak w.heap.size 11)=some (aj sz)/\w'.cell? (ak w.heap.size 12)=some (aj bM)/\w'.cell? (ak (w.heap.size+1) 2)=some (.slice aa n0 ca)/\w'.cell? (ak (w.heap.size+1) 3)=some (.slice ab n1 cb)/\w'.cell? (ak (w.heap.size+1) 4)=some (.slice ac n2 cc))/\Hid (w4.heap.size<=nb/\ft w' nb [(c0:Int),aC,c2] 3/\GF w.heap.size w1.heap.size id h1 h2 h3 h4 h5 q n k kc op sz bM rc (.bool bw) (.slice aa n0 ca) (.slice ab n1 cb) (.slice ac n2 cc) [(id:Int),b,0,0,0,0] w'/\au w w'/\base<=w'.heap.size/\dK w' mb base S2.1 S2.2)):=by
  intro W lb hb rV hle;have aAP:=hm4.lt;have hR:=Ej.keep (base:=base) (fun i ax=>hb.block i ae) hb.size ae ae;have aAQ:=hb.size;refine(Ac W mb base lb (gH.trans (hb.mono ae)) ae ae ae (hm4.below hb) rV ae).mono ?_;rintro e w' ⟨rfl,mX,m5,t5⟩;have Ek:=hR.keep (base:=base) (fun i ax=>t5.block i ae ae (.inl ax)) t5.size ae ae;have Jo:au w W:=gH.trans (hb.mono ae);have wu:=t5.size;obtain⟨q0,q1,q2,q3,q4,q5,q6,q7,q8,q9,q10,Ah,Ai⟩:=Ek.qu.cells;obtain⟨_,_,g2,g3,g4⟩:=dY.cells Ek.an;refine⟨W.heap.size+3,rfl,⟨q0,q1,q2,q3,q4,q5,q6,q7,q8,q9,q10,Ah,Ai,g2,g3,g4⟩,ae,mX,Ek,Jo.trans (show Below w.heap.size W w' from⟨t5.os,t5.tape,t5.output,t5.size,fun i ax=>t5.block i ae ae (.inl ae)⟩),ae,m5⟩
 have x8:=ag (bg Ej gH);have hS:w4.drew.cell? (ak w.heap.size 0)=some (aj id)/\w4.drew.cell? (ak w.heap.size 1)=some (aj h1)/\w4.drew.cell? (ak w.heap.size 2)=some (aj h2)/\w4.drew.cell? (ak w.heap.size 3)=some (aj h3)/\w4.drew.cell? (ak w.heap.size 4)=some (aj h4)/\w4.drew.cell? (ak w.heap.size 5)=some (aj h5)/\w4.drew.cell? (ak w.heap.size 6)=some (ay q)/\w4.drew.cell? (ak w.heap.size 7)=some (ay n)/\w4.drew.cell? (ak w.heap.size 8)=some (aj k)/\w4.drew.cell? (ak w.heap.size 9)=some (aj kc)/\w4.drew.cell? (ak w.heap.size 10)=some (.bool op)/\w4.drew.cell? (ak w.heap.size 11)=some (aj sz)/\w4.drew.cell? (ak w.heap.size 12)=some (aj bM)/\w4.drew.cell? (ak (w.heap.size+1) 2)=some (.slice aa n0 ca)/\w4.drew.cell? (ak (w.heap.size+1) 3)=some (.slice ab n1 cb)/\w4.drew.cell? (ak (w.heap.size+1) 4)=some (.slice ac n2 cc):=⟨q0,q1,q2,q3,q4,q5,q6,q7,q8,q9,q10,Ah,Ai,g2,g3,g4⟩
 clear sq rj ig oV jR Ej gH hm4 XL hb4;have auh:=ag (bg Jn (bg oX (bg vI (bg hl2 (bg hc0 (bg hc1 hc2))))));clear Jn oX vI hl2 hc0 hc1 hc2 hn hq;go_wp2_with fail
 go_region_held (fun w'=>w'.cell? (ak w.heap.size 0)=some (aj id)/\w'.cell? (ak w.heap.size 1)=some (aj h1)/\w'.cell? (ak w.heap.size 2)=some (aj h2)/\w'.cell? (ak w.heap.size 3)=some (aj h3)/\w'.cell? (ak w.heap.size 4)=some (aj h4)/\w'.cell? (ak w.heap.size 5)=some (aj h5)/\w'.cell? (ak w.heap.size 6)=some (ay q)/\w'.cell? (ak w.heap.size 7)=some (ay n)/\w'.cell? (ak w.heap.size 8)=some (aj k)/\w'.cell? (ak w.heap.size 9)=some (aj kc)/\w'.cell? (ak w.heap.size 10)=some (.bool op)/\w'.cell? (ak w.heap.size 11)=some (aj sz)/\w'.cell? (ak w.heap.size 12)=some (aj bM)/\w'.cell? (ak (w.heap.size+1) 2)=some (.slice aa n0 ca)/\w'.cell? (ak (w.heap.size+1) 3)=some (.slice ab n1 cb)/\w'.cell? (ak (w.heap.size+1) 4)=some (.slice ac n2 cc)) (first|assumption|go_keep)
  (first
   | (go_at_call 138;go_loud (refine(agB _).mono ?_;rintro e w5 ⟨rfl,hb5⟩;have XM:=aua hb5 (by assumption)))
   | (go_at_call 137;refine(BJ _ _ ((aO.drew.trans hb5).alloc hb5.size _) (World.alloc_heap_new _ _) hb5.size).mono ?_;rintro e w6 ⟨nb,rfl,Re,hP⟩)
   | (go_at_call 137;refine(BJ _ _ ((aO.alloc aA _).drew.trans (hb5.mono ar)) ((hb5.block _ ar).trans (World.alloc_heap_new w4 _)) aA).mono ?_;rintro e w6 ⟨nb,rfl,Re,hP⟩))
 all_goals
  rename_i hH;obtain⟨Jn,oX,vI,hl2,hc0,hc1,hc2⟩:=af auh;clear hH Re hb5 XM BJ agB x8 hS q0 q1 q2 q3 q4 q5 q6 q7 q8 q9 q10 Ah Ai g0 g1 g2 g3 g4;obtain⟨aAR,mX,Jp,vg,aui,Ad⟩:=af hP;have z0:=mX.cell 0 ar;have z1:=mX.cell 1 ar;have z2:=mX.cell 2 ar;simp only[lI,mV]at z0 z1 z2;obtain⟨g0,g1,g2,g3,g4⟩:=dY.cells Jp.an;have GG:=ag (bg mX (bg Jp (bg vg Ad)));clear mX Jp vg Ad hP;go_upto_region 8 with fail
  go_cut [57]from 42 (fun v wx=>v=.bool tc/\Hid (∃m,wx=w6.drewN m))
  case first =>
   by_cases hz0:(c0:Int)<(n0:Int)
   ·have sS:=af agA;have pI:decide ((c0:Int)<(n0:Int))=true:=iy hz0;rw[pI,NG]at sS;subst sS;go_quiet (fail);go_wp2_with fail;go_meet;exact⟨rfl,_,rfl⟩
   ·have sS:=af agA;have pI:decide ((c0:Int)<(n0:Int))=false:=iB hz0;rw[pI,Av]at sS;by_cases hz1:(aC:Int)<(n1:Int)
    ·have eP:decide ((aC:Int)<(n1:Int))=true:=iy hz1;rw[eP]at sS;subst sS;go_quiet (fail);go_wp2_with fail;go_meet;exact⟨rfl,_,rfl⟩
    ·have eP:decide ((aC:Int)<(n1:Int))=false:=iB hz1;rw[eP]at sS;subst sS;go_quiet (fail);go_wp2_with fail;go_meet;exact⟨rfl,_,rfl⟩
  case rest =>
  obtain⟨rfl,agC⟩:=hcut;obtain⟨nq,rfl⟩:=af agC;clear agC;have hD:au w6 (w6.drewN nq):=pj aO nq;obtain⟨mX,Jp,vg,Ad⟩:=af GG;have iO:=Jp.keep (base:=base) (fun i ax=>hD.block i ae) hD.size ae ae;have yP:ft (w6.drewN nq) nb [(c0:Int),aC,c2] 3:=(hD.block nb mX.lt).trans mX;have El:=Ad.below hD;have pB:au w (w6.drewN nq):=vg.trans (hD.mono vg.size);have MD:base<=(w6.drewN nq).heap.size:=a_ aui hD.size;clear mX Jp vg Ad GG z0 z1 z2 g0 g1 g2 g3 g4 hD;generalize w6.drewN nq=w7 at *;have z0:=yP.cell 0 ar;have z1:=yP.cell 1 ar;have z2:=yP.cell 2 ar;simp only[lI,mV]at z0 z1 z2;have y2:=iO.hd.cell 2 ar;have y3:=iO.hd.cell 3 ar;have y4:=iO.hd.cell 4 ar;have oH:=iO.hd.cell 5 ar;simp only[lI,mV]at y2 y3 y4 oH;have nC:=iO.hd.frozen;have auj:nb≠w1.heap.size:=ae;have y1:=iO.hd.cell 1 ar;simp only[lI,mV]at y1;have uh:=af tO;have GH:∀i,i≠w1.heap.size->(w7.setCell ⟨w1.heap.size,1,none⟩ (.int .i64 b2)).heap[i]? = w7.heap[i]?:=fun i ax=>cZ _ _ _ _ ax;have agD:(∀cur,w7.heap[w1.heap.size]?≠some (.cells cur 5 (0,0)))/\∀cur,w7.heap[w1.heap.size]?≠some (.cells cur 343 (0,0)):=by
   have:=iO.hd;unfold ft at this;exact⟨fun c hc=>by rw[this]at hc;simp at hc,fun c hc=>by rw[this]at hc;simp at hc⟩
  have Rf:(w7.setCell ⟨w1.heap.size,1,none⟩ (.int .i64 b2)).heap.size=w7.heap.size:=by simp[World.setCell]
  have XN:Hid (GF w.heap.size w1.heap.size id h1 h2 h3 h4 h5 q n k kc op sz bM rc (.bool bw) (.slice aa n0 ca) (.slice ab n1 cb) (.slice ac n2 cc) [(id:Int),b2,0,0,0,0] (w7.setCell ⟨w1.heap.size,1,none⟩ (.int .i64 b2))/\dK (w7.setCell ⟨w1.heap.size,1,none⟩ (.int .i64 b2)) mb base S2.1 S2.2/\au w (w7.setCell ⟨w1.heap.size,1,none⟩ (.int .i64 b2))/\ft (w7.setCell ⟨w1.heap.size,1,none⟩ (.int .i64 b2)) nb [(c0:Int),aC,c2] 3/\base<=(w7.setCell ⟨w1.heap.size,1,none⟩ (.int .i64 b2)).heap.size):=by
   obtain⟨g0',auk,gc'⟩:=iO.g;exact⟨⟨iO.qu.kept (GH _ ae),(GH _ ae).trans iO.an,iO.hd.set 1 b2,⟨by rw[Rf];exact g0',auk,(dh (GH 0 ae)).trans gc'⟩⟩,(Jm (Ra El) agD ae GH).msg,pB.trans ⟨rfl,rfl,rfl,by rw[Rf];exact bH _,fun i ax=>GH i ae⟩,(GH nb auj).trans yP,by rw[Rf];exact MD⟩
  have Rg:=ag (bg iO (bg El (bg pB (bg yP MD))));clear iO El pB yP GH agD Rf z0 z1 z2 y2 y3 y4 oH MD
  go_upto_if 57 with fail
  go_cut []from 58 (fun wx=>Hid (GF w.heap.size w1.heap.size id h1 h2 h3 h4 h5 q n k kc op sz bM rc (.bool bw) (.slice aa n0 ca) (.slice ab n1 cb) (.slice ac n2 cc) [(id:Int),b2,0,0,0,0] wx/\dK wx mb base S2.1 S2.2/\au w wx/\ft wx nb [(c0:Int),aC,c2] 3/\base<=wx.heap.size))
  case first =>
   cases tc with
   | true =>
    simp only[vH,gZ]at uh;clear Rg;go_wp2_with fail;go_meet;exact XN
   | false =>
    simp only[vH,EK,ET]at uh;rw[uh]at Rg;clear XN;go_wp2_with fail;go_meet;exact Rg
  case rest =>
  obtain⟨iO,El,pB,yP,MD⟩:=af hcut;clear XN Rg y1 nC uh hcut;generalize wc=uq at *;have z0:=yP.cell 0 ar;have z1:=yP.cell 1 ar;have z2:=yP.cell 2 ar;simp only[lI,mV]at z0 z1 z2;have y2:=iO.hd.cell 2 ar;have y3:=iO.hd.cell 3 ar;have y4:=iO.hd.cell 4 ar;have oH:=iO.hd.cell 5 ar;simp only[lI,mV]at y2 y3 y4 oH;have nC:=iO.hd.frozen;have GI:=ag (bg iO (bg El pB));clear iO El pB yP;go_wp2_with fail
  go_region
  have Jq:Hid (fu ((((uq.setCell ⟨w1.heap.size,2,none⟩ (.int .i64 1)).setCell ⟨w1.heap.size,3,none⟩ (.int .i64 c0)).setCell ⟨w1.heap.size,4,none⟩ (.int .i64 aC)).setCell ⟨w1.heap.size,5,none⟩ (.int .i64 c2)).drew w.heap.size id h1 h2 h3 h4 h5 q n k kc op sz bM/\ft ((((uq.setCell ⟨w1.heap.size,2,none⟩ (.int .i64 1)).setCell ⟨w1.heap.size,3,none⟩ (.int .i64 c0)).setCell ⟨w1.heap.size,4,none⟩ (.int .i64 aC)).setCell ⟨w1.heap.size,5,none⟩ (.int .i64 c2)).drew w1.heap.size [(id:Int),b2,1,c0,aC,c2] 133/\dK ((((uq.setCell ⟨w1.heap.size,2,none⟩ (.int .i64 1)).setCell ⟨w1.heap.size,3,none⟩ (.int .i64 c0)).setCell ⟨w1.heap.size,4,none⟩ (.int .i64 aC)).setCell ⟨w1.heap.size,5,none⟩ (.int .i64 c2)).drew mb base S2.1 S2.2/\au w ((((uq.setCell ⟨w1.heap.size,2,none⟩ (.int .i64 1)).setCell ⟨w1.heap.size,3,none⟩ (.int .i64 c0)).setCell ⟨w1.heap.size,4,none⟩ (.int .i64 aC)).setCell ⟨w1.heap.size,5,none⟩ (.int .i64 c2)).drew/\base<=(((((uq.setCell ⟨w1.heap.size,2,none⟩ (.int .i64 1)).setCell ⟨w1.heap.size,3,none⟩ (.int .i64 c0)).setCell ⟨w1.heap.size,4,none⟩ (.int .i64 aC)).setCell ⟨w1.heap.size,5,none⟩ (.int .i64 c2)).drew).heap.size):=by
   obtain⟨iO,El,pB⟩:=af GI;have hh:=(((iO.hd.set 2 1).set 3 c0).set 4 aC).set 5 c2;have hne:∀i,i≠w1.heap.size->(((((uq.setCell ⟨w1.heap.size,2,none⟩ (.int .i64 1)).setCell ⟨w1.heap.size,3,none⟩ (.int .i64 c0)).setCell ⟨w1.heap.size,4,none⟩ (.int .i64 aC)).setCell ⟨w1.heap.size,5,none⟩ (.int .i64 c2)).drew).heap[i]? = uq.heap[i]?:=fun i ax =>
    (cZ _ _ _ _ ax).trans ((cZ _ _ _ _ ax).trans ((cZ _ _ _ _ ax).trans (cZ _ _ _ _ ax)))
   have hsz:(((((uq.setCell ⟨w1.heap.size,2,none⟩ (.int .i64 1)).setCell ⟨w1.heap.size,3,none⟩ (.int .i64 c0)).setCell ⟨w1.heap.size,4,none⟩ (.int .i64 aC)).setCell ⟨w1.heap.size,5,none⟩ (.int .i64 c2)).drew).heap.size=uq.heap.size:=by simp[World.setCell,World.drew]
   have f_:(∀cur,uq.heap[w1.heap.size]?≠some (.cells cur 5 (0,0)))/\∀cur,uq.heap[w1.heap.size]?≠some (.cells cur 343 (0,0)):=by
    have:=iO.hd;unfold ft at this;exact⟨fun c hc=>by rw[this]at hc;simp at hc,fun c hc=>by rw[this]at hc;simp at hc⟩
   refine⟨iO.qu.kept (hne _ ae),hh,(Jm (Ra El) f_ ae hne).msg,?_,by rw[hsz];exact MD⟩
   ·refine pB.trans (show Below w.heap.size uq ((((uq.setCell ⟨w1.heap.size,2,none⟩ (.int .i64 1)).setCell ⟨w1.heap.size,3,none⟩ (.int .i64 c0)).setCell ⟨w1.heap.size,4,none⟩ (.int .i64 aC)).setCell ⟨w1.heap.size,5,none⟩ (.int .i64 c2)).drew from⟨rfl,rfl,rfl,by rw[hsz];exact bH _,fun i ax=>hne i ae⟩)
  clear z0 z1 z2 y2 y3 y4 oH nC GI;generalize ((((uq.setCell ⟨w1.heap.size,2,none⟩ (.int .i64 1)).setCell ⟨w1.heap.size,3,none⟩ (.int .i64 c0)).setCell ⟨w1.heap.size,4,none⟩ (.int .i64 aC)).setCell ⟨w1.heap.size,5,none⟩ (.int .i64 c2)).drew=w8 at *;obtain⟨Dv,Ce,ME,Du,XO⟩:=af Jq;obtain⟨_,_,_,_,_,_,_,_,_,_,q10,_,_⟩:=Dv.cells;have oH:=Ce.cell 5 ar;simp only[lI,mV]at oH;have nC:=Ce.frozen;have XP:∀i,i≠w1.heap.size->(w8.setCell ⟨w1.heap.size,5,none⟩ (.int .i64 c3)).heap[i]? = w8.heap[i]?:=fun i ax=>cZ _ _ _ _ ax;have GK:(w8.setCell ⟨w1.heap.size,5,none⟩ (.int .i64 c3)).heap.size=w8.heap.size:=by simp[World.setCell]
  have XQ:Hid (ft (w8.setCell ⟨w1.heap.size,5,none⟩ (.int .i64 c3)) w1.heap.size [(id:Int),b2,1,c0,aC,c3] 133/\dK (w8.setCell ⟨w1.heap.size,5,none⟩ (.int .i64 c3)) mb base S2.1 S2.2/\au w (w8.setCell ⟨w1.heap.size,5,none⟩ (.int .i64 c3))/\base<=(w8.setCell ⟨w1.heap.size,5,none⟩ (.int .i64 c3)).heap.size):=by
   have f_:(∀cur,w8.heap[w1.heap.size]?≠some (.cells cur 5 (0,0)))/\∀cur,w8.heap[w1.heap.size]?≠some (.cells cur 343 (0,0)):=by
    have:=Ce;unfold ft at this;exact⟨fun c hc=>by rw[this]at hc;simp at hc,fun c hc=>by rw[this]at hc;simp at hc⟩
   refine⟨auc Ce c3,(Jm (Ra ME) f_ ae XP).msg,?_,by rw[GK];exact XO⟩;exact Du.trans (show Below w.heap.size w8 (w8.setCell ⟨w1.heap.size,5,none⟩ (.int .i64 c3))from⟨rfl,rfl,rfl,by rw[GK];exact bH _,fun i ax=>XP i ae⟩)
  have XR:=ag (bg Ce (bg ME (bg Du XO)));have hc3:=af sM;clear Ce ME Du XO Jq Dv XP GK
  go_upto_if 74 with fail
  go_cut []from 75 (fun wx=>Hid (ft wx w1.heap.size [(id:Int),b2,1,c0,aC,c3] 133/\dK wx mb base S2.1 S2.2/\au w wx/\base<=wx.heap.size))
  case first =>
   cases op with
   | true =>
    have aAS:(c2:Int)+1=(c3:Int):=by simp only[cond]at hc3;omega
    clear hc3 XR;go_wp2_with fail;go_meet;exact XQ
   | false =>
    simp only[cond]at hc3;subst hc3;clear XQ;go_wp2_with fail;go_meet;exact XR
  case rest =>
  have aAT:c3<=3002:=by cases op <;> simp only[cond]at hc3 <;> omega
  clear hc3 XQ XR oH nC;have XS:=hcut;clear hcut;generalize wc=w8 at *;have GK:w8.heap.size=w8.heap.size:=rfl;obtain⟨Cf,Jr,BL,aAU⟩:=af XS;have aul:=Jr.lt;have hnew:=World.alloc_heap_new w8 (.cells #[.iface 224 (.string (aq L))] 297);rw[GK]at hnew;have sP:Hid (aB 139 #[aM mb,aD w8.heap.size 0 1 1] (w8.alloc (.cells #[.iface 224 (.string (aq L))] 297)) fun e w'=>e=.returned (.tuple #[])/\dK w' mb base (S2.1++ew [nH L]) S2.2/\bG mb base (w8.alloc (.cells #[.iface 224 (.string (aq L))] 297)) w') :=
   Ma mb base w8.heap.size 1 [nH L] S2.1 S2.2 (w8.alloc (.cells #[.iface 224 (.string (aq L))] 297)) (Jr.below (aO.alloc aA _)) aP
   (fun f hf=>by simp at hf;subst hf;exact L6 _) (by rw[dD,GK];omega) (by rw[GK]at aul;omega) (.inr fun cur h=>by rw[hnew]at h;simp at h)
   (fun j hj=>by
    match j,hj with
    | 0,_=>unfold World.cell?; rw[hnew];rfl
    | j+1,hj=>simp at hj) ar ar (by
     simp only[ew,nH,iV,Hr,h_];omega)
  clear hnew Cf Jr BL;go_wp2_with fail;refine sP.mono ?_;rintro e w9 ⟨rfl,Us,agE⟩;obtain⟨Ce,ME,Du,aum⟩:=af XS;have Em:bG mb base w8 w9:=(bG.pE (aO.alloc aA _)).trans agE;have Cf:ft w9 w1.heap.size [(id:Int),b2,1,c0,aC,c3] 133:=(Em.block _ ae ae (.inl ae)).trans Ce;have BL:au w w9:=Du.trans (show Below w.heap.size w8 w9 from⟨Em.os,Em.tape,Em.output,Em.size,fun i ax=>Em.block i ae ae (.inl ae)⟩);have aun:base<=w9.heap.size:=a_ aum Em.size;rw[show ew [nH L]=L by simp[ew,nH]]at Us;obtain⟨auo,aup,Jr,agF,_⟩:=Us;have x0:=Cf.cell 0 ar;have x1:=Cf.cell 1 ar;have x2:=Cf.cell 2 ar;have x3:=Cf.cell 3 ar;have x4:=Cf.cell 4 ar;have x5:=Cf.cell 5 ar;simp only[lI,mV]at x0 x1 x2 x3 x4 x5;have HU:Hid (aB 131 #[aM mb,.agg #[aj id,aj b2,aj 1,aj c0,aj aC,aj c3]] w9 fun e w'=>e=.returned (ay (ew (iu id b2 1 c0 aC c3)++(S2.1++L).drop 12))/\Wy mb base w9 w') :=
   afN mb base id b2 1 c0 aC c3 auo aup _ w9 Jr agF aun (by simp only[bj];omega) (by simp only[bj];omega) Jn hb2 ae ae ae ae
  have Qk:=ag BL;clear Ce ME Du Jr agF agE Em Cf BL sP XS;go_wp2_with fail;refine HU.mono ?_;rintro e w10 ⟨rfl,Dz⟩;have BL:=af Qk;have auq:Hid (au w w10):=BL.trans (show Below w.heap.size w9 w10 from⟨Dz.os,Dz.tape,Dz.output,Dz.size,fun i ax=>Dz.block i ae ae (.inl ae)⟩);clear Dz BL HU x0 x1 x2 x3 x4 x5;go_wp2;go_ret;exact⟨rfl,auq⟩
theorem h9.back{w w':World}{t:TypeId}{sz:Nat}{v v':Value}(h:h9 w w' t sz v v'):h9 w w' t sz v v:=⟨h.row,fun _ hg=>.inl ⟨hg,bH _⟩⟩
theorem aur(mb base b off cap:Nat)(size:Int)(aK:ai->List dU)(rs:List ai)(ps:cI)(l:ah)(w:World)(hm:dK w mb base l ps)(mP:iH ps)(hg:bK w)(bX:base<=w.heap.size)(hb0:0<base)(hm0:0<mb)
  (hr:dG w b off rs) (nY:b<base) (BW:b≠mb) (dt:rs.length<=cap) (hlen:rs.length<=3001) (bq:∀r∈rs,pH r (aK r)) (hl:(cH aK rs l ps).1.length<=50000) (hp:(cH aK rs l ps).2.length<=20000) (hsz:size<((cH aK rs l ps).1.length:Int)) :
  aB 203 #[aM mb,aj size,aD b off rs.length cap] w fun e w' =>
   e=.returned (.bool false)/\dK w' mb base l ps/\bG mb base w w':=by
 have F_:=ag hm;obtain⟨vb,vp,vC,ho,BX⟩:=hm;obtain⟨a1,n1,aC,rfl⟩:=sO ho;obtain⟨a2,n2,c2,rfl⟩:=sO BX;obtain⟨m0,m1⟩:=vC.cells;have DY:=vC.lt;have Ml:bG mb base w (w.alloc (.cells #[.slice a1 n1 aC,.slice a2 n2 c2] 283)):=bG.pE (aO.alloc aA _);have dA:=ag (show dK (w.alloc (.cells #[.slice a1 n1 aC,.slice a2 n2 c2] 283)) mb base l ps from F_.below (aO.alloc aA _));have kg:=ag Ml;have HOLD:=ag (bg vC (bg ho BX));have FK:Hid (cL (w.alloc (.cells #[.slice a1 n1 aC,.slice a2 n2 c2] 283)) w.heap.size (.slice a1 n1 aC) (.slice a2 n2 c2)):=World.alloc_heap_new w _;have aus:w.heap.size≠mb:=ae;have HG:=ag hg;have bC:=ag hr;have cF:=ag bq;have vA:=ag mP;have CW:=hr.1;clear vC ho BX hg hr bq Ml F_ mP;go_enter func203,ntmps203;go_wp2_with fail
 go_loopw [15] (fun i wr=>∃(k:Nat),i=aj k/\k<=rs.length/\dK wr mb base (cH aK (rs.take k) l ps).1 (cH aK (rs.take k) l ps).2/\bG mb base w wr/\cL wr w.heap.size (.slice a1 n1 aC) (.slice a2 n2 c2)) (fun i _=>rs.length - (intOf i).toNat)
 case atStart=>exact⟨0,rfl,cV _,dA,kg,FK⟩
 case round =>
  obtain⟨k,rfl,hk,qp,qq,MF⟩:=hrel;have ly:=ag MF;have aut:=MF.lt;have Mm:=ag qp;have WX:=ag qq;have fk:=qq.size;by_cases hlt:k<rs.length
  ·have rR:(k:Int)<(rs.length:Int):=ae;have om:=AW (af bC) qq.size (qq.block b CW BW (.inl nY));obtain⟨q0,q1,q2,q3⟩:=om.four k hlt;have iQ:=af cF rs[k] (cM hlt);have Bu:=ag (afE aK rs k hlt l ps);have Ac:=ag (afK aK rs (af cF) l ps (k+1));have Bt:=ag ((Jb aK (rs.take k) (fun f hf=>af cF f (Az hf)) l ps).2.2 (af vA));have hgr:=(HG.tg qq hb0 hm0)
   have hW0:au wr (wr.alloc (.cells #[.string (aq rs[k].owner),.int .i64 rs[k].aG,.int .i64 rs[k].type,.string (aq rs[k].data)] 47)):=aO.alloc aA _;have BZ:sQ (wr.alloc (.cells #[.string (aq rs[k].owner),.int .i64 rs[k].aG,.int .i64 rs[k].type,.string (aq rs[k].data)] 47)) wr.heap.size rs[k]:=World.alloc_heap_new wr _;obtain⟨r,yG⟩:=bF (rs[k]);rw[<- yG]at q0 q1 q2 q3 iQ hW0 BZ;obtain⟨l1,p1,B0⟩:∃l1 p1,cH aK (rs.take k) l ps=(l1,p1):=⟨_,_,rfl⟩
   have Gp:Hid (cH aK (rs.take (k+1)) l ps=iP r (aK r) l1 p1):=by
    have:=af Bu;rw[B0,<- yG]at this;exact this
   have WY:Hid (dK wr mb base l1 p1):=by rw[B0]at qp;exact qp
   have WZ:Hid (iH p1):=by have:=af Bt;rw[B0]at this;exact this
   clear om qp qq yG Bu B0 Mm Bt MF;have dX:wr.heap.size≠mb:=ae;have HD:Hid (∀W1,au wr W1->sQ W1 wr.heap.size r->aB 254 #[.agg #[ay r.owner,aj r.aG,aj r.type,ay r.data]] W1.drew fun e w'=>∃g cp,e=.returned (aD g 0 (aK r).length cp) /\
     (w'.cell? (ak wr.heap.size 0)=some (ay r.owner)/\w'.cell? (ak wr.heap.size 1)=some (aj r.aG)/\w'.cell? (ak wr.heap.size 2)=some (aj r.type)/\w'.cell? (ak wr.heap.size 3)=some (ay r.data)) /\
     Hid ((aK r).length<=cp/\pF mb w' g (aK r)/\sQ w' wr.heap.size r/\dK w' mb base l1 p1/\bK w'/\(bG mb base w w'/\cL w' w.heap.size (.slice a1 n1 aC) (.slice a2 n2 c2)))):=by
    intro W1 hb1 hr1;have B6:au wr W1.drew:=hb1.drew;refine(iQ.data W1.drew (hgr.below B6)).mono ?_;rintro e w' ⟨⟨v,rfl,hv⟩,hb2⟩;obtain⟨g,cp,rfl,qM,vD⟩:=afG (mb:=mb) hv iQ.ne (by have:=B6.size;omega);have hr2:sQ w' wr.heap.size r:=(hb2.block _ (bV.1 hr1).1).trans hr1;have hb3:au wr w':=B6.trans (hb2.mono B6.size);have nE:bG mb base wr w':=bG.pE hb3;exact⟨g,cp,rfl,hr2.cells,qM,vD,hr2,WY.below hb3,hgr.below hb3,WX.trans nE,ly.kept (hb3.block _ aut)⟩
   have oh:Hid (∀g cp W2,Hid ((aK r).length<=cp/\pF mb W2 g (aK r)/\sQ W2 wr.heap.size r/\dK W2 mb base l1 p1/\bK W2/\(bG mb base w W2/\cL W2 w.heap.size (.slice a1 n1 aC) (.slice a2 n2 c2))) ->
     aB 139 #[aM mb,aD W2.heap.size 0 5 5] (W2.alloc (.cells #[.iface 291 (.string (aq r.owner)),.iface 284 (.int .u16 r.type.toNat),.iface 284 (.int .u16 1),.iface 344 (.int .u32 r.aG),.iface 293 (.slice (some ⟨g,0,none⟩) (aK r).length cp)] 297)) fun e w' =>
      e=.returned (.tuple #[])/\(w'.cell? (ak wr.heap.size 0)=some (ay r.owner)/\w'.cell? (ak wr.heap.size 1)=some (aj r.aG)/\w'.cell? (ak wr.heap.size 2)=some (aj r.type)/\w'.cell? (ak wr.heap.size 3)=some (ay r.data)) /\
      Hid (dK w' mb base (cH aK (rs.take (k+1)) l ps).1 (cH aK (rs.take (k+1)) l ps).2/\bG mb base w w'/\cL w' w.heap.size (.slice a1 n1 aC) (.slice a2 n2 c2))):=by
    intro g cp W2 hB;obtain⟨qM,vD,hr2,Gq,Fy,Be,hb2⟩:=af hB;have hL:=af Ac;rw[af Gp]at hL;refine(afL mb base g cp r (aK r) iQ hb0 hm0 l1 p1 W2 Fy vD qM Gq (af WZ) (a_ bX Be.size) ae ae).mono ?_;rintro e w' ⟨rfl,h2,h3⟩;refine⟨rfl,(afM hr2 h3 dX).cells,?_,Be.trans h3,h3.box hb2 aus bD bD⟩;rw[af Gp];exact h2
   have x1:IntKind.u16.wrap r.type=(r.type.toNat:Int):=by
    have h1:=iQ.typ.1;have h2:=iQ.typ.2;rw[zh];omega
   have x2:IntKind.u32.wrap (r.aG:Int)=(r.aG:Int):=by
    have h1:=iQ.aG;rw[NZ];omega
   clear iQ Ac hgr Gp;obtain⟨tn,htn⟩:=bF r.type.toNat;rw[<- htn]at x1 oh;clear htn;go_wp2_with fail;have rX:=ag (HD _ hW0 BZ);have hS1:=BZ.cells;clear hW0 BZ HD q0 q1 q2 q3;generalize (wr.alloc (.cells #[.string (aq r.owner),.int .i64 r.aG,.int .i64 r.type,.string (aq r.data)] 47))=W1 at *;have hS:(W1.drew.cell? (ak wr.heap.size 0)=some (ay r.owner)/\W1.drew.cell? (ak wr.heap.size 1)=some (aj r.aG)/\W1.drew.cell? (ak wr.heap.size 2)=some (aj r.type)/\W1.drew.cell? (ak wr.heap.size 3)=some (ay r.data)):=hS1;clear hS1
   go_region_held (fun w'=>w'.cell? (ak wr.heap.size 0)=some (ay r.owner)/\w'.cell? (ak wr.heap.size 1)=some (aj r.aG)/\w'.cell? (ak wr.heap.size 2)=some (aj r.type)/\w'.cell? (ak wr.heap.size 3)=some (ay r.data)) (first|assumption|go_keep)
    (first
     | (go_at_call 254;go_loud (refine rX.mono ?_;rintro e w2 ⟨g,cp,rfl,lz,bU⟩))
     | (go_at_call 139;go_loud (refine(oh _ _ _ bU).mono ?_;rintro e w3 ⟨rfl,B8,cK⟩)))
   rename_i hH;clear hH hS lz B8 bU rX oh;go_wp2_with fail;obtain⟨h1,h3,h4⟩:=af cK;exact⟨⟨k+1,bW,ae,h1,h3,h4⟩,c5⟩
  ·have fJ:k=rs.length:=ae;subst fJ;rw[gV]at qp;have aW:=ag qq;obtain⟨vb1,asI,hm1,ho1,_⟩:=qp;obtain⟨ab,cb,rfl⟩:=afD ho1;obtain⟨c0,c1'⟩:=hm1.cells;obtain⟨f0,f1⟩:=MF.cells;have Ff:size<(((cH aK rs l ps).1).length:Int):=hsz;have hfz:=hm1.frozen;have aAV:∀u,(wr.setCell ⟨mb,0,none⟩ u).frozen? (ak mb 1)=false:=fun u=>(hm1.set0 u).frozen 1;have ov:=ag hm1;clear hm1 ho1 qq Mm hsz MF;generalize (cH aK rs l ps).1.length=N at *;go_wp2;go_ret;obtain⟨vC,ho,BX⟩:=af HOLD;have hk:=aW.L9 _ _ vC;obtain⟨cJ,fK,Ia,s1,s2⟩:=hk;have n1':some mb≠(Value.slice a1 n1 aC).ownBlock:=LZ vC ho;have agG:some mb≠(Value.slice a2 n2 c2).ownBlock:=WD vC BX;have agH:=(ov.set0 (.slice a1 n1 aC)).set1 (.slice a2 n2 c2);have hB:=(DU (af ov) (t:=5) bD 0 (.slice a1 n1 aC) (.slice a1 n1 aC) 1).trans (DU (ov.set0 (.slice a1 n1 aC)) bD 1 (.slice a2 n2 c2) _ 1) (by simp[World.setCell]);have gM:=(DU (af ov) (t:=343) bD 0 (.slice a1 n1 aC) (.slice a2 n2 c2) 2).trans (DU (ov.set0 (.slice a1 n1 aC)) bD 1 (.slice a2 n2 c2) _ 2) (by simp[World.setCell]);have hT:=af aW;refine⟨rfl,⟨_,_,agH,Gl (Gl (s1.owns ho) n1' _ _) n1' _ _,Gl (Gl (s2.owns BX) agG _ _) agG _ _⟩,hT.os,hT.tape,hT.output,by simpa [World.setCell]using hT.size,fun i ax hm hp=>((cZ _ _ _ _ hm).trans (cZ _ _ _ _ hm)).trans (hT.block i ax hm hp),jS.QG vC agH (s1.back.trans hB hT.size) (s2.back.trans gM hT.size)⟩
section
attribute [local go_sem] Oper.semAt_some undef
structure GL(mb base s:Nat)(w:World)(ds:List Nat)(cs:List Int)(d:Nat)(S:ah×cI)(W:World):Prop where
 b2:aR W (s+2) (aD (s+3) 0 3 3) 56
 b3:ft W (s+3) cs 3
 msg:nI W mb base d S.1 S.2
 tg:bG mb base w W
 defs:∀x∈ds,W.heap[x]? = some (.deferred (some []))
theorem GL.keeps{mb base s:Nat}{w:World}{ds:List Nat}{cs:List Int}{d:Nat}{S:ah×cI}{W B:World}(h:GL mb base s w ds cs d S W)(hk:dF d W B)(h1:s+4<d)(h2:mb<d)(h3:w.heap.size<=d)(h4:∀x∈ds,x≠d):GL mb base s w ds cs d S B :=
 ⟨aR.kept h.b2 (hk.block _ (aR.lt h.b2) ae),(hk.block _ (bV.1 h.b3).1 ae).trans h.b3,h.msg.keeps hk ae,h.tg.keeps hk h3,fun x hx=>(hk.block x (bV.1 (h.defs x hx)).1 (h4 x hx)).trans (h.defs x hx)⟩
end
section
attribute [local go_sem] Oper.semAt_some
structure lG where
 S:ah×cI
 cs:List Nat
 full:Bool
def iJ(size:Int)(aK:ai->List dU)(i:Nat):List (List ai)->lG->lG
 | [],st=>st
 | g :: gs,st=>if st.full=true then st else if size<((cH aK g st.S.1 st.S.2).1.length:Int)then { st with full:=true }
  else iJ size aK i gs { st with S:=cH aK g st.S.1 st.S.2,cs:=st.cs.set i (st.cs.getD i 0+g.length) }
def mr(size:Int)(aK:ai->List dU):Nat->List (List ai)->lG->lG
 | _,[],st=>st
 | i,l :: ls,st=>mr size aK (i+1) ls (iJ size aK i ((bz bu l).map (·.2)) st)
theorem Rh{size:Int}{aK:ai->List dU}{i:Nat}{gs:List (List ai)}{st:lG}(h:st.full=true):iJ size aK i gs st=st:=by
 cases gs with
 | nil=>rfl
 | cons g gs=>unfold iJ;rw[aJ h]
theorem agI{size:Int}{aK:ai->List dU} : ∀ {i:Nat} {ls:List (List ai)} {st:lG},st.full=true->mr size aK i ls st=st
 | _,[],_,_=>rfl
 | i,l :: ls,st,h=>by unfold mr;rw[Rh h];exact agI h
theorem XT{size:Int}{aK:ai->List dU}{i:Nat}{g:List ai}{gs:List (List ai)}{st:lG}(h:st.full=false)(hl:size<((cH aK g st.S.1 st.S.2).1.length:Int)):iJ size aK i (g :: gs) st = { st with full:=true }:=by unfold iJ;rw[aF (by rw[h];simp),aJ hl]
theorem XU{size:Int}{aK:ai->List dU}{i:Nat}{g:List ai}{gs:List (List ai)}{st:lG}(h:st.full=false)(hl:¬size<((cH aK g st.S.1 st.S.2).1.length:Int)):iJ size aK i (g :: gs) st=iJ size aK i gs { st with S:=cH aK g st.S.1 st.S.2,cs:=st.cs.set i (st.cs.getD i 0+g.length) }:=by
 conv=>lhs;unfold iJ
 rw[aF (by rw[h];simp),aF hl]
def rz(ds:List Nat)(w:World):World:=ds.foldl (fun w d=>w.putObj d (.deferred none)) w
theorem XV:∀(ds:List Nat) (w:World) (k:Nat),k ∉ ds->(rz ds w).heap[k]? = w.heap[k]?
 | [],_,_,_=>rfl
 | d :: ds,w,k,h=>by simp only[ei,EU]at h;show(rz ds (w.putObj d (.deferred none))).heap[k]? = _;rw[XV ds _ k h.2,World.putObj_heap_other h.1]
theorem XW:∀(ds:List Nat) (w:World),(rz ds w).os=w.os/\(rz ds w).tape=w.tape/\(rz ds w).output=w.output/\(rz ds w).heap.size=w.heap.size
 | [],_=>⟨rfl,rfl,rfl,rfl⟩
 | d :: ds,w=>by have h:=XW ds (w.putObj d (.deferred none));exact⟨h.1,h.2.1,h.2.2.1,h.2.2.2.trans (by simp[World.putObj_size])⟩
def agJ(d:Nat):Deferred:={ target:=.collected d,args:=#[] }
theorem XX{F:Fence}{n:Nat}{fn:Func}{tmps:Array Value}{R:Ending->World->Prop} : ∀(ds:List Nat) (w:World),ds.Nodup->(∀d∈ds,w.heap[d]? = some (.deferred (some []))) ->
  (∃v,(results fn tmps).run prog (rz ds w)=.ok v (rz ds w)/\R (.returned v) (rz ds w))->LeavesInM F n prog fn tmps R (ds.map agJ) .returning w
 | [],_,_,_,h=>h
 | d :: ds,w,hn,hd,h=>by have hn':=SR.1 hn;refine⟨ar,.inl ⟨d,w.putObj d (.deferred none),rfl,run_takeDeferred (hd d ar),?_⟩⟩;exact XX ds _ hn'.2 (fun x hx=>(World.putObj_heap_other (fun e=>hn'.1 (by rw[<- e];exact hx))).trans (hd x (by simp[hx]))) h
def iR(aK:ai->List dU)(i:Nat)(r:List ai)(st:lG)(j:Nat):lG:=⟨cH aK (nj r j) st.S.1 st.S.2,st.cs.set i (st.cs.getD i 0+(nj r j).length),false⟩
theorem XY(aK:ai->List dU)(i:Nat)(r:List ai)(st:lG)(ax:i<st.cs.length)(hf:st.full=false):iR aK i r st 0=st:=by unfold iR;rw[atU];have h1:st.cs.set i (st.cs.getD i 0+([]:List ai).length)=st.cs:=by{rw[mU,iw ax];simp};rw[h1];cases st;simp only at hf;subst hf;rfl
theorem auu(aK:ai->List dU)(i:Nat)(r:List ai)(st:lG)(j:Nat){x:Nat×List ai}(hx:(bz bu r)[j]? = some x)(ax:i<st.cs.length) :
  iR aK i r st (j+1) = { iR aK i r st j with S:=cH aK x.2 (iR aK i r st j).S.1 (iR aK i r st j).S.2,cs:=(iR aK i r st j).cs.set i ((iR aK i r st j).cs.getD i 0+x.2.length) }:=by unfold iR;rw[atV hx,afF,bj];have h1:(st.cs.set i (st.cs.getD i 0+(nj r j).length)).getD i 0=st.cs.getD i 0+(nj r j).length:=by{rw[mU,SK (by exact ax)];rfl};simp only[h1,List.set_set,CB]
theorem auv{r:List ai}{j:Nat}{x:Nat×List ai}(hx:(bz bu r)[j]? = some x):((bz bu r).map (·.2)).drop j=x.2 :: ((bz bu r).map (·.2)).drop (j+1):=by have hl:=(jX.1 hx).1;have he:=(jX.1 hx).2;rw[ko (by rw[bY];exact hl),vW,he]
theorem auw(mb base lb:Nat)(size:Int)(aK:ai->List dU)(v0 v1 v2:Value)(r0 r1 r2:List ai)(S0:ah×cI)(w:World)
  (hm:dK w mb base S0.1 S0.2) (mP:iH S0.2) (hg:bK w) (bX:base<=w.heap.size) (hb0:0<base) (hm0:0<mb)
  (rV:w.heap[lb]? = some (.cells #[v0,v1,v2] 41)) (DI:lb≠mb)
  (iF:∀i,i<3->∃a n c r b o,[v0,v1,v2][i]? = some (.slice a n c)/\[r0,r1,r2].drop i=r :: [r0,r1,r2].drop (i+1)/\HL (.slice a n c) b o r/\dG w b o r/\b<base/\b≠mb/\r.length<=3001/\(∀x∈r,pH x (aK x))/\n=r.length /\
   ∀x∈bz bu r,∀(l:ah) (ps:cI),iH ps->l.length<=1300->ps.length<=l.length+300->(cH aK x.2 l ps).1.length<=50000/\(cH aK x.2 l ps).2.length<=20000/\(cH aK x.2 l ps).2.length<=(cH aK x.2 l ps).1.length+300)
  (hsz:size<=1300) (hS1:S0.1.length<=1300) (lz:S0.2.length<=S0.1.length+300) :
  aB 137 #[aM mb,aj size,aD lb 0 3 3] w fun e w' =>
   e=.returned (aD (w.heap.size+3) 0 3 3)/\ft w' (w.heap.size+3) ((mr size aK 0 [r0,r1,r2] ⟨S0,[0,0,0],false⟩).cs.map fun n:Nat=>(n:Int)) 3/\dK w' mb base (mr size aK 0 [r0,r1,r2] ⟨S0,[0,0,0],false⟩).S.1 (mr size aK 0 [r0,r1,r2] ⟨S0,[0,0,0],false⟩).S.2/\bG mb base w w':=by
 have DY:=hm.lt;have auy:lb<w.heap.size:=(bV.1 rV).1;have hg0:=hg.1;have Gn:=ag iF;have MG:Hid (∀V,au w V->xy w.heap.size mb size [0,0,0] V->nM mb base w.heap.size lb size #[v0,v1,v2] w [] [0,0,0] mb S0 V):=fun V hB hF=>by
  have hT:bG mb base w V:=bG.pE hB;exact⟨hF,(hB.block lb auy).trans rV,Ra (hm.below hB),mP,hg.below hB,hT,fun x hx=>by cases hx⟩
 obtain⟨FIN,GM⟩:∃F,mr size aK 0 [r0,r1,r2] ⟨S0,[0,0,0],false⟩=F:=⟨_,rfl⟩
 rw[GM];have fX:=ag GM;clear hm mP hg rV iF GM;refine(cj (n:=0)).1 ?_;refine callsIn_of_wp_marks func137 rfl aQ ?_;simp only[ntmps137,pc,bP,fy,Nat.reduceAdd,Nat.reduceSub,o_,pL,pN,pM,gb,fU];have mk:=atY;gi_wp2_with fail;obtain⟨V0,oD⟩:∃V,V=(((((w.alloc (.cells #[.pointer (some ⟨mb,0,none⟩)] 216)).alloc (.cells #[.int .i64 size] 3)).alloc (.cells #[.slice none 0 0] 56)).alloc (.cells #[.int .i64 0,.int .i64 0,.int .i64 0] 3)).alloc (.cells #[.slice (some ⟨w.heap.size+1+1+1,0,none⟩) 3 3] 56)):=⟨_,rfl⟩
 have XZ:Hid (nM mb base w.heap.size lb size #[v0,v1,v2] w [] [0,0,0] mb S0 V0):=by
  rw[oD];refine af MG _ ((((aO.alloc aA _).alloc ar _).alloc aP _).alloc aP _ |>.alloc aP _) ?_;have n0:=World.alloc_heap_new w (.cells #[.pointer (some ⟨mb,0,none⟩)] 216);have n1:=World.alloc_heap_new (w.alloc (.cells #[.pointer (some ⟨mb,0,none⟩)] 216)) (.cells #[.int .i64 size] 3);have n2:=World.alloc_heap_new ((w.alloc (.cells #[.pointer (some ⟨mb,0,none⟩)] 216)).alloc (.cells #[.int .i64 size] 3)) (.cells #[.slice none 0 0] 56);have n3:=World.alloc_heap_new (((w.alloc (.cells #[.pointer (some ⟨mb,0,none⟩)] 216)).alloc (.cells #[.int .i64 size] 3)).alloc (.cells #[.slice none 0 0] 56)) (.cells #[.int .i64 0,.int .i64 0,.int .i64 0] 3);have n4:=World.alloc_heap_new ((((w.alloc (.cells #[.pointer (some ⟨mb,0,none⟩)] 216)).alloc (.cells #[.int .i64 size] 3)).alloc (.cells #[.slice none 0 0] 56)).alloc (.cells #[.int .i64 0,.int .i64 0,.int .i64 0] 3)) (.cells #[.slice (some ⟨w.heap.size+1+1+1,0,none⟩) 3 3] 56);simp only[dD]at n1 n2 n3 n4;refine⟨?_,?_,?_,?_,n4⟩
  ·exact(cD _ _ _ eI).trans ((cD _ _ _ eI).trans ((cD _ _ _ eI).trans ((cD _ _ _ eI).trans n0)))
  ·exact(cD _ _ _ eI).trans ((cD _ _ _ eI).trans ((cD _ _ _ eI).trans n1))
  ·exact(cD _ _ _ eI).trans ((cD _ _ _ eI).trans n2)
  ·exact(cD _ _ _ eI).trans n3
 rw[<- oD];clear oD MG mk;refine wpIn_loop (fun a W=>∃(i:Nat) (ds:List Nat) (st:lG) (u8 u9 agK agL agM u20 u21 u22 u38:Value),a=⟨#[aM mb,aj size,aD lb 0 3 3,aM w.heap.size,aM (w.heap.size+1),undef,aM (w.heap.size+1+1),aM (w.heap.size+1+1+1+1),u8,u9,undef,aD lb 0 3 3,aj 3,aD (w.heap.size+1+1+1) 0 3 3,aD lb 0 3 3,aj 3,aj i,agK,agL,agM,u20,u21,u22,undef,undef,undef,undef,undef,undef,undef,undef,undef,undef,undef,undef,undef,undef,undef,u38,undef],ds.map agJ⟩/\i<=3/\(ds.Nodup/\∀x∈ds,w.heap.size<=x)/\st.cs.length=3/\st.full=false/\(∀c∈st.cs,c<=3001*i)/\st.S.1.length<=1300/\st.S.2.length<=st.S.1.length+300/\Hid (nM mb base w.heap.size lb size #[v0,v1,v2] w ds (st.cs.map fun n:Nat=>(n:Int)) mb st.S W)/\Hid (mr size aK i ([r0,r1,r2].drop i) st=FIN)) (fun a _=>3 - (intOf (a.tmps.getD 16 undef)).toNat) ?_ ?_
 ·exact⟨0,[],⟨S0,[0,0,0],false⟩,undef,undef,undef,undef,undef,undef,undef,undef,undef,rfl,ae,⟨List.nodup_nil,fun x hx=>by cases hx⟩,rfl,rfl,(fun c hc=>by simp at hc;omega),hS1,lz,XZ,fX⟩
 ·rintro _ V ⟨i,ds,st,u8,u9,agK,agL,agM,u20,u21,u22,u38,rfl,ax,⟨gz,r_⟩,hcl,Cg,hcb,hs1,hs2,eG,ej⟩;by_cases Bh:i<3
  ·have Ib:(i:Int)<3:=ae;obtain⟨la,ln,lc,r,b,o,e1,e2,agN,cO,nY,BW,hrl,om,rfl,ie⟩:=af Gn i Bh;have hcell:V.cell? (ak lb i)=some (.slice la r.length lc):=by
    have:=eG.lists;unfold World.cell?;rw[this]
    match i,Bh,e1 with
    | 0,_,e1=>simpa using e1
    | 1,_,e1=>simpa using e1
    | 2,_,e1=>simpa using e1
   have mv:=af eG;have nO:∀x∈ds,x≠mb/\x≠w.heap.size+3/\x≠w.heap.size+2/\x<V.heap.size:=fun x hx=>by
    have hd:=mv.defs x hx;refine⟨fun e=>?_,fun e=>?_,fun e=>?_,(bV.1 hd).1⟩
    ·obtain⟨vb,vp,h1,_⟩:=mv.msg.msg;unfold cL at h1;rw[e,h1]at hd;cases hd
    ·have h3:=mv.fb.b3;unfold ft at h3;rw[e,h3]at hd;cases hd
    ·have h2:=mv.fb.b2;unfold aR at h2;rw[e,h2]at hd;cases hd
   have aAW:=mv.fb.lt;have aAX:=mv.msg.msg.lt;have aAY:=mv.tg.size;gi_wp2_with fail;refine⟨aQ,rfl,?_⟩;refine(cj.2 (atT _ _ _ _)).mono ?_;rintro e W0 ⟨rfl,ez,jO,bx1,X0⟩;have bx0:aR W0 V.heap.size (aj i) 3:=(aR.l7 _ _ _).below jO ar;have agO:au V W0:=(aO.alloc aA _).trans (jO.mono ar);simp only[dD]at ez bx1 X0;have t0:V.heap.size+3<=W0.heap.size:=ae;have zn:Hid (iR aK i r st 0=st):=XY aK i r st ae Cg;have MH:Hid (nM mb base w.heap.size lb size #[v0,v1,v2] w ds ((iR aK i r st 0).cs.map fun n:Nat=>(n:Int)) (W0.heap.size+1) (iR aK i r st 0).S W0):=by
    rw[Hid,af zn];exact(mv.below agO).re _ ⟨fun cur hc=>by have:=(bV.1 hc).1;omega,fun cur hc=>by have:=(bV.1 hc).1;omega⟩
   have xq:=ag (bg bx0 (bg bx1 X0));obtain⟨ST1,GN⟩:∃s,iJ size aK i ((bz bu r).map (·.2)) st=s:=⟨_,rfl⟩
   have wC:Hid (mr size aK (i+1) ([r0,r1,r2].drop (i+1)) ST1=FIN):=by
    have:=af ej;rw[e2,mr,GN]at this;exact this
   have sH:Hid (iJ size aK i (((bz bu r).map (·.2)).drop 0) (iR aK i r st 0)=ST1):=by rw[Hid,af zn,Aw];exact GN
   have ui:=ag om;have Aj:=ag ie;have uV:=ag cO;have auz:=ag agN;have Gg:=cO.1;clear ez jO bx0 bx1 X0 agO hcell eG mv GN ej e1 e2 om ie cO agN Gn XZ fX zn;gi_wp2_with fail;have hgrow:∀q,au W0 ((W0.alloc (.deferred (some []))).alloc (.loop q)):=fun q=>(aO.alloc aA _).alloc ar _;have MI:∀W,bG mb base w W->dG W b o r:=fun W ht=>AW (af uV) ht.size (ht.block b Gg BW (.inl nY));refine WG (xs:=bz bu r) (encs:=fun x:Nat×List ai=>#[aD b (o+x.1*4) x.2.length x.2.length]) (St:=fun A B=>au A B) (Kp:=j_ (V.heap.size+1) (V.heap.size+1+1) b) (Kx:=fun _ _=>True)
    (gf:=233) (lb:=#[aM (V.heap.size+1),aM (V.heap.size+1+1)]) rfl (enters_of func233 aI rfl) (fun _=>rfl) ?auA
    [V.heap.size+1,V.heap.size+1+1,b] aP (fun A B h=>h) (fun A B h h'=>⟨h',h _ ar,h _ ar,h _ ar⟩) (fun _ _=>aQ)
    (fun j W=>nM mb base w.heap.size lb size #[v0,v1,v2] w ds ((iR aK i r st j).cs.map fun n:Nat=>(n:Int)) (W0.heap.size+1) (iR aK i r st j).S W/\aR W V.heap.size (aj i) 3/\aR W (V.heap.size+1) (.slice la r.length lc) 41/\aR W (V.heap.size+1+1) (.func (.func 177) #[] #[]) 261 /\
     Hid (iJ size aK i (((bz bu r).map (·.2)).drop j) (iR aK i r st j)=ST1)/\(iR aK i r st j).S.1.length<=1300/\(iR aK i r st j).S.2.length<=(iR aK i r st j).S.1.length+300)
    (fun c W=>c=.ret/\GL mb base w.heap.size w ds (FIN.cs.map fun n:Nat=>(n:Int)) (W0.heap.size+1) FIN.S W)
    (fun j A B h hA hk=>⟨h.1.keeps hk ae ae ae ae (fun x hx=>by have:=(nO x hx).2.2.2;omega),aR.kept h.2.1 (hk.block _ (aR.lt h.2.1) ae),aR.kept h.2.2.1 (hk.block _ (aR.lt h.2.2.1) ae),aR.kept h.2.2.2.1 (hk.block _ (aR.lt h.2.2.2.1) ae),h.2.2.2.2⟩)
    (fun c A B h hA hk=>⟨h.1,h.2.keeps hk ae ae ae (fun x hx=>by have:=(nO x hx).2.2.2;omega)⟩)
    ⟨MH,xq.1,xq.2.1,xq.2.2,sH,by rw[XY aK i r st ae Cg];exact hs1,by rw[XY aK i r st ae Cg];exact hs2⟩
    ?round0 ?auB ?auC
   case auA =>
    intro q;have hg:=hgrow q;exact TJ _ b o _ _ r _ (af auz) ((hg.cell (p:=⟨V.heap.size+1,0,none⟩) (by show V.heap.size+1<W0.heap.size;omega)).trans (aR.cell xq.2.1)) ((hg.cell (p:=⟨V.heap.size+1+1,0,none⟩) (by show V.heap.size+1+1<W0.heap.size;omega)).trans (aR.cell xq.2.2)) ((MI W0 MH.tg).below hg) (by have:=hg.size;omega) (by have:=hg.size;omega) hrl
   case auC =>
    intro c W hI cT agP;obtain⟨rfl,hX⟩:=hI;have hb2:=aR.lt hX.b2;have aAZ:=hX.msg.msg.lt;have agQ:W0.heap.size ∉ ds:=fun h=>by have:=(nO _ h).2.2.2;omega
    have aY:∀x,x ∉ W0.heap.size :: ds->(rz (W0.heap.size :: ds) W).heap[x]? = W.heap[x]?:=fun x h0=>XV _ W x h0;have GP:∀x,x<W0.heap.size->(∀y∈ds,x≠y)->x ∉ W0.heap.size :: ds:=fun x h1 h2 h=>by
     rcases ei.1 h with h|h
     ·omega
     ·exact h2 x h rfl
    have cr:(rz (W0.heap.size :: ds) W).cell? (ak (w.heap.size+1+1) 0)=some (aD (w.heap.size+3) 0 3 3):=(dh (aY (w.heap.size+2) (GP _ ae (fun y hy e=>(nO y hy).2.2.1 e.symm)))).trans (aR.cell hX.b2);have cu:=ag hX;have auD:=ag agQ;have auE:=ag GP;have um:=ag aY;clear hX hb2 agQ GP aY;gi_wp2_with fail;have hX:=af cu;have aY:=af um;have GP:=af auE;refine XX (W0.heap.size :: ds) W (SR.2 ⟨auD,gz⟩) (fun d hd=>?_) ⟨aD (w.heap.size+3) 0 3 3,by simp[results,results137,go_sem,cr],rfl,?_,?_,?_⟩
    ·rcases ei.1 hd with rfl|hd
     ·exact cT
     ·exact hX.defs d hd
    ·exact(aY _ (GP _ ae (fun y hy e=>(nO y hy).2.1 e.symm))).trans hX.b3
    ·obtain⟨cJ,fK,pJ,mG,nN⟩:=hX.msg.msg;have agR:∀d∈W0.heap.size :: ds,W.heap[d]? = some (.deferred (some [])):=fun d hd=>by
      rcases ei.1 hd with rfl|hd
      ·exact cT
      ·exact hX.defs d hd
     refine⟨cJ,fK,pJ.kept (aY mb (GP mb ae (fun y hy e=>(nO y hy).1 e.symm))),qm mG fun g hg=>?_,qm nN fun g hg=>?_⟩
     ·obtain⟨cur,aZ⟩:=DW mG hg;exact aY g (fun e=>by rw[agR g e]at aZ;cases aZ)
     ·obtain⟨cur,aZ⟩:=DX nN hg;exact aY g (fun e=>by rw[agR g e]at aZ;cases aZ)
    ·obtain⟨k1,k2,k3,k4⟩:=XW (W0.heap.size :: ds) W;exact hX.tg.same k1 k2 k3 (by rw[k4];exact bH _) fun x hx=>aY x (GP x ae (fun y hy e=>by have:=r_ y hy;omega))
   case round0 =>
    intro l' j x asl W hx hI agP eP oI;obtain⟨hF,y0,y1,y2,GQ,dH,hl2⟩:=hI;have hmem:x∈bz bu r:=ux hx;have g_:=CQ hmem;have Ri:=E6 (MI W hF.tg) hmem;have hb:=af Aj x hmem _ _ hF.po dH hl2;have yQ:=auu aK i r st j hx ae;have hdr:=auv hx;have kL:(nj r j).length<=3001:=a_ (XF r j) hrl;have hai:i<(iR aK i r st j).cs.length:=by unfold iR;simp;omega
    have agS:(iR aK i r st j).cs.getD i 0<=3001*i+3001:=by
     have h1:(iR aK i r st j).cs.getD i 0=st.cs.getD i 0+(nj r j).length:=by
      unfold iR;rw[mU,SK ae];rfl
     have h2:st.cs.getD i 0<=3001*i:=by
      rw[mU,iw ae];exact hcb _ (cM _)
     omega
    have Rj:(iR aK i r st j).full=false:=rfl;have iQ:∀q∈x.2,pH q (aK q):=fun q hq=>af ui q (XG hmem hq);have Rk:=(Jb aK x.2 iQ (iR aK i r st j).S.1 (iR aK i r st j).S.2).2.2 hF.po;generalize iR aK i r st (j+1)=A1 at *;generalize iR aK i r st j=AJ at *;obtain⟨GR,mN⟩:∃N,cH aK x.2 AJ.S.1 AJ.S.2=N:=⟨_,rfl⟩
    rw[mN]at hb yQ Rk;obtain⟨cc,hcc⟩:=bF (AJ.cs.getD i 0);rw[<- hcc]at yQ agS;have c0':=aR.cell hF.fb.b0;have c1':=aR.cell hF.fb.b1;obtain⟨lr,GU⟩:=oI;have kQ:∀W3,bG mb base W W3->W3.heap[W0.heap.size+1]? = some (.loop lr)/\W3.heap[W0.heap.size]? = some (.deferred (some [])):=fun W3 t3 =>
     ⟨(t3.block (W0.heap.size+1) ae ae (.inr ⟨fun c hc=>(by rw[GU]at hc;cases hc),fun c hc=>by rw[GU]at hc;cases hc⟩)).trans GU,(t3.block W0.heap.size ae ae (.inr ⟨fun c hc=>(by rw[eP]at hc;cases hc),fun c hc=>by rw[eP]at hc;cases hc⟩)).trans eP⟩
    by_cases kC:size<(GR.1.length:Int)
    ·have MJ:Hid (aB 203 #[aM mb,aj size,aD b (o+x.1*4) x.2.length x.2.length] W fun e w' =>
       e=.returned (.bool false)/\dK w' mb base AJ.S.1 AJ.S.2/\bG mb base W w') :=
      aur mb base b (o+x.1*4) x.2.length size aK x.2 AJ.S.2 AJ.S.1 W hF.msg.msg hF.po hF.g (a_ bX hF.tg.size) hb0 hm0 Ri nY BW aA ae iQ (by rw[mN];omega) (by rw[mN];omega) (by rw[mN];exact kC)
     have HST:Hid (FIN = { AJ with full:=true }):=by
      have h1:=af GQ;rw[hdr,XT Rj (by rw[mN];exact kC)]at h1;have h2:=af wC;rw[<- h1,agI rfl]at h2;exact h2.symm
     have lM:Hid (∀W3,dK W3 mb base AJ.S.1 AJ.S.2->bG mb base W W3 ->
       W3.cell? (ak (w.heap.size+1+1+1+1) 0)=some (aD (w.heap.size+1+1+1) 0 3 3)/\W3.cell? (ak (w.heap.size+1+1) 0)=some (aH)/\W3.frozen? (ak (w.heap.size+1+1) 0)=false /\
       Hid (jN W0.heap.size W (W3.setCell ⟨w.heap.size+1+1,0,none⟩ (.slice (some ⟨w.heap.size+1+1+1,0,none⟩) 3 3))/\GL mb base w.heap.size w ds (FIN.cs.map fun n:Nat=>(n:Int)) (W0.heap.size+1) FIN.S (W3.setCell ⟨w.heap.size+1+1,0,none⟩ (.slice (some ⟨w.heap.size+1+1+1,0,none⟩) 3 3)))):=by
      intro W3 m3 t3;obtain⟨GV,X2⟩:=kQ W3 t3;have xz:=hF.fit t3 m3 hF.po ae DI hb0 hm0 (fun x hx=>(nO x hx).1) ⟨fun cur hc=>(by rw[GV]at hc;cases hc),fun cur hc=>by rw[GV]at hc;cases hc⟩;have hne:∀k',k'≠w.heap.size+2->(W3.setCell ⟨w.heap.size+1+1,0,none⟩ (.slice (some ⟨w.heap.size+1+1+1,0,none⟩) 3 3)).heap[k']? = W3.heap[k']?:=fun k' hk=>cZ _ _ _ _ hk;have dX:=xz.fb.b2;rw[af HST];refine⟨aR.cell xz.fb.b4,aR.cell dX,aR.frozen dX,⟨a_ t3.size (by simp[World.setCell]),(hne _ ae).trans (X2.trans eP.symm),(hne _ ae).trans (GV.trans GU.symm)⟩,aR.set dX _,(hne _ ae).trans xz.fb.b3,Jm xz.msg ⟨fun c hc=>(by rw[dX]at hc;simp at hc),fun c hc=>by rw[dX]at hc;simp at hc⟩ ae hne,xz.tg.same rfl rfl rfl (by simp[World.setCell]) fun i ax=>hne i ae,fun x hx=>(hne x (nO x hx).2.2.1).trans (xz.defs x hx)⟩
     clear hF y0 y1 y2 hmem Ri eP GU hx MH xq hgrow MI hb yQ hdr Rk kQ GQ mN hcc Rj kL hai agS iQ g_ dH hl2 hcb hs1 hs2 Cg gz r_ nO;gi_wp2_with fail;refine⟨aQ,?_⟩;gi_wp2_with fail;refine⟨aQ,rfl,?_⟩;refine(CallsIn.inRound l' (cj.2 (af MJ))).mono ?_;rintro e W3 ⟨rfl,m3,t3⟩;obtain⟨k1,k2,k3,bf⟩:=af lM W3 m3 t3;clear m3 t3 lM MJ;gi_wp2_with fail;exact⟨bf.1,rfl,bf.2⟩
    ·have agT:(GR.1.length:Int)<=size:=ae;have MJ:Hid (aB 203 #[aM mb,aj size,aD b (o+x.1*4) x.2.length x.2.length] W fun e w' =>
       e=.returned (.bool true)/\dK w' mb base GR.1 GR.2/\bG mb base W w'):=by
      have:=asH mb base b (o+x.1*4) x.2.length size aK x.2 AJ.S.2 AJ.S.1 W hF.msg.msg hF.po hF.g (a_ bX hF.tg.size) hb0 hm0 Ri nY BW aA ae iQ (by rw[mN];omega) (by rw[mN];omega) (by rw[mN];exact agT);rw[mN]at this;exact this
     have tH:Hid (iJ size aK i (((bz bu r).map (·.2)).drop (j+1)) A1=ST1):=by
      have h1:=af GQ;rw[hdr,XU Rj (by rw[mN];exact kC),mN,<- hcc]at h1;rw[Hid,yQ];exact h1
     have tR:A1.S=GR:=by rw[yQ]
     have wR:(A1.cs.map fun n:Nat=>(n:Int))=(AJ.cs.map fun n:Nat=>(n:Int)).set i (cc+x.2.length:Int):=by rw[yQ,SL];simp
     have BH:(AJ.cs.map fun n:Nat=>(n:Int))[i]? = some (cc:Int):=by rw[Cv,iw hai,hcc,mU,iw hai];rfl
     have lM:Hid (∀W3,dK W3 mb base GR.1 GR.2->bG mb base W W3 ->
       W3.cell? (ak (w.heap.size+1+1+1+1) 0)=some (aD (w.heap.size+1+1+1) 0 3 3)/\W3.cell? (ak V.heap.size 0)=some (aj i)/\W3.cell? (ak (w.heap.size+1+1+1) i)=some (aj cc)/\W3.frozen? (ak (w.heap.size+1+1+1) i)=false /\
       Hid (jN W0.heap.size W (W3.setCell ⟨w.heap.size+1+1+1,i,none⟩ (.int .i64 (cc+x.2.length:Int)))/\(∀k∈[V.heap.size+1,V.heap.size+1+1,b],(W3.setCell ⟨w.heap.size+1+1+1,i,none⟩ (.int .i64 (cc+x.2.length:Int))).heap[k]? = W.heap[k]?) /\
        (nM mb base w.heap.size lb size #[v0,v1,v2] w ds (A1.cs.map fun n:Nat=>(n:Int)) (W0.heap.size+1) A1.S (W3.setCell ⟨w.heap.size+1+1+1,i,none⟩ (.int .i64 (cc+x.2.length:Int)))/\aR (W3.setCell ⟨w.heap.size+1+1+1,i,none⟩ (.int .i64 (cc+x.2.length:Int))) V.heap.size (aj i) 3/\aR (W3.setCell ⟨w.heap.size+1+1+1,i,none⟩ (.int .i64 (cc+x.2.length:Int))) (V.heap.size+1) (.slice la r.length lc) 41/\aR (W3.setCell ⟨w.heap.size+1+1+1,i,none⟩ (.int .i64 (cc+x.2.length:Int))) (V.heap.size+1+1) (.func (.func 177) #[] #[]) 261 /\
         Hid (iJ size aK i (((bz bu r).map (·.2)).drop (j+1)) A1=ST1)/\A1.S.1.length<=1300/\A1.S.2.length<=A1.S.1.length+300))):=by
      intro W3 m3 t3;obtain⟨GV,X2⟩:=kQ W3 t3;have xz:=hF.fit t3 m3 Rk ae DI hb0 hm0 (fun x hx=>(nO x hx).1) ⟨fun cur hc=>(by rw[GV]at hc;cases hc),fun cur hc=>by rw[GV]at hc;cases hc⟩;have z0:=GD y0 t3 ae bD bD;have z1:=GD y1 t3 ae bD bD;have z2:=GD y2 t3 ae bD bD;have auF:=xz.set i (cc+x.2.length:Int) ae ae aA (fun x hx=>(nO x hx).2.1);have hne:∀k',k'≠w.heap.size+3->(W3.setCell ⟨w.heap.size+1+1+1,i,none⟩ (.int .i64 (cc+x.2.length:Int))).heap[k']? = W3.heap[k']?:=fun k' hk=>cZ _ _ _ _ hk;refine⟨aR.cell xz.fb.b4,aR.cell z0,(xz.fb.b3.cell i (by rw[bY];exact hai)).trans (by rw[(jX.1 BH).2]),xz.fb.b3.frozen i,⟨a_ t3.size (by simp[World.setCell]),(hne _ ae).trans (X2.trans eP.symm),(hne _ ae).trans (GV.trans GU.symm)⟩,fun k hk=>?_,?_,aR.kept z0 (hne _ ae),aR.kept z1 (hne _ ae),aR.kept z2 (hne _ ae),tH,by rw[tR];omega,by rw[tR];exact hb.2.2⟩
      ·simp only[ei,vX,tk]at hk;rcases hk with rfl|rfl|rfl
       ·exact(hne _ ae).trans (z1.trans y1.symm)
       ·exact(hne _ ae).trans (z2.trans y2.symm)
       ·exact(hne _ ae).trans (t3.block _ (by have:=hF.tg.size;omega) BW (.inl nY))
      ·rw[tR,wR];exact auF
     clear hF y0 y1 y2 hmem Ri eP GU hx MH xq hgrow MI hb yQ hdr Rk kQ GQ mN hcc Rj kL hai iQ dH hl2 hcb hs1 hs2 Cg gz r_ nO tR wR BH tH kC agT;gi_wp2_with fail;refine⟨aQ,?_⟩;gi_wp2_with fail;refine⟨aQ,rfl,?_⟩;refine(CallsIn.inRound l' (cj.2 (af MJ))).mono ?_;rintro e W3 ⟨rfl,m3,t3⟩;obtain⟨k1,k2,k3,k4,bf⟩:=af lM W3 m3 t3;clear m3 t3 lM MJ;gi_wp2_with fail;exact⟨bf.1,bf.2.1,bf.2.2⟩
   case auB =>
    intro W hI cT agP;obtain⟨hF,y0,y1,y2,GQ,dH,hl2⟩:=hI;have hend:iR aK i r st (bz bu r).length=ST1:=by
     have:=af GQ;rw[NJ (by rw[bY];exact bH _)]at this;exact this
    have aW:=ag hF;have CY:=ag hend;clear hF y0 y1 y2 GQ hend MH xq hgrow MI;gi_wp2_with fail;refine⟨⟨i+1,W0.heap.size :: ds,iR aK i r st (bz bu r).length,_,_,_,_,_,_,_,_,_,rfl,ae,⟨SR.2 ⟨fun h=>by have:=(nO _ h).2.2.2;omega,gz⟩,fun x hx=>?_⟩,?_,rfl,fun c hc=>?_,dH,hl2,?_,?_⟩,c5⟩
    ·rcases ei.1 hx with rfl|hx
     ·omega
     ·exact r_ x hx
    ·unfold iR;simp;exact hcl
    ·unfold iR at hc;rcases SQ hc with hc|hc
     ·have:=hcb c hc;omega
     ·have h2:st.cs.getD i 0<=3001*i:=by
       rw[mU,iw ae];exact hcb _ (cM _)
      have:=a_ (XF r (bz bu r).length) hrl;omega
    ·have h:=aW.re mb (by
      obtain⟨vb,vp,h1,_⟩:=aW.msg.msg;unfold cL at h1;exact⟨fun cur hc=>(by rw[h1]at hc;simp at hc),fun cur hc=>by rw[h1]at hc;simp at hc⟩)
     exact⟨h.fb,h.lists,h.msg,h.po,h.g,h.tg,fun x hx=>by
      rcases ei.1 hx with rfl|hx
      ·exact cT
      ·exact h.defs x hx⟩
    ·rw[Hid,af CY];exact wC
  ·obtain rfl:i=3:=ae;have mv:=af eG;have nO:∀x∈ds,x≠mb/\x≠w.heap.size+3/\x≠w.heap.size+2/\x<V.heap.size:=fun x hx=>by
    have hd:=mv.defs x hx;refine⟨fun e=>?_,fun e=>?_,fun e=>?_,(bV.1 hd).1⟩
    ·obtain⟨vb,vp,h1,_⟩:=mv.msg.msg;unfold cL at h1;rw[e,h1]at hd;cases hd
    ·have h3:=mv.fb.b3;unfold ft at h3;rw[e,h3]at hd;cases hd
    ·have h2:=mv.fb.b2;unfold aR at h2;rw[e,h2]at hd;cases hd
   have hst:st=FIN:=af ej;have k1:=aR.cell mv.fb.b4;have k2:=aR.cell mv.fb.b2;have k3:=aR.frozen mv.fb.b2;have hX:Hid (GL mb base w.heap.size w ds (FIN.cs.map fun n:Nat=>(n:Int)) mb FIN.S (V.setCell ⟨w.heap.size+1+1,0,none⟩ (.slice (some ⟨w.heap.size+1+1+1,0,none⟩) 3 3))):=by
    rw[<- hst];have hne:∀k',k'≠w.heap.size+2->(V.setCell ⟨w.heap.size+1+1,0,none⟩ (.slice (some ⟨w.heap.size+1+1+1,0,none⟩) 3 3)).heap[k']? = V.heap[k']?:=fun k' hk=>cZ _ _ _ _ hk;have dX:=mv.fb.b2;exact⟨aR.set dX _,(hne _ ae).trans mv.fb.b3,Jm mv.msg ⟨fun c hc=>(by rw[dX]at hc;simp at hc),fun c hc=>by rw[dX]at hc;simp at hc⟩ ae hne,mv.tg.same rfl rfl rfl (by simp[World.setCell]) fun i ax=>hne i ae,fun x hx=>(hne x (nO x hx).2.2.1).trans (mv.defs x hx)⟩
   clear mv eG ej Gn XZ fX hst ax Bh hcb;have auG:=ag nO;have Ds:=ag gz;have E3:=ag r_;clear nO gz r_;have HW:Hid (∀W,GL mb base w.heap.size w ds (FIN.cs.map fun n:Nat=>(n:Int)) mb FIN.S W->(rz ds W).cell? (ak (w.heap.size+1+1) 0)=some (aD (w.heap.size+3) 0 3 3)/\ft (rz ds W) (w.heap.size+3) (FIN.cs.map fun n:Nat=>(n:Int)) 3/\dK (rz ds W) mb base FIN.S.1 FIN.S.2/\bG mb base w (rz ds W)):=fun W hX=>by
    have nO:=af auG;have aY:∀x,x ∉ ds->(rz ds W).heap[x]? = W.heap[x]?:=fun x h0=>XV _ W x h0;refine⟨(dh (aY (w.heap.size+2) (fun h=>(nO _ h).2.2.1 rfl))).trans (aR.cell hX.b2),(aY _ (fun h=>(nO _ h).2.1 rfl)).trans hX.b3,?_,?_⟩
    ·obtain⟨cJ,fK,pJ,mG,nN⟩:=hX.msg.msg;refine⟨cJ,fK,pJ.kept (aY mb (fun h=>(nO _ h).1 rfl)),qm mG fun g hg=>?_,qm nN fun g hg=>?_⟩
     ·obtain⟨cur,aZ⟩:=DW mG hg;exact aY g (fun e=>by rw[hX.defs g e]at aZ;cases aZ)
     ·obtain⟨cur,aZ⟩:=DX nN hg;exact aY g (fun e=>by rw[hX.defs g e]at aZ;cases aZ)
    ·obtain⟨k1,k2,k3,k4⟩:=XW ds W;exact hX.tg.same k1 k2 k3 (by rw[k4];exact bH _) fun x hx=>aY x (fun h=>by have:=af E3 x h;omega)
   gi_wp2_with fail;generalize V.setCell ⟨w.heap.size+1+1,0,none⟩ (.slice (some ⟨w.heap.size+1+1+1,0,none⟩) 3 3)=W at *;have hX:=af hX;obtain⟨cr,e1,e2,e3⟩:=af HW W hX;exact XX ds W (af Ds) (fun d hd=>hX.defs d hd) ⟨aD (w.heap.size+3) 0 3 3,by simp[results,results137,go_sem,cr],rfl,e1,e2,e3⟩
end
def X3(v:Value):Prop:=∃a0 a1 a2 a3 a4 a5 a8 a9 a11 a12:Int,∃a6 a7:ah,∃a10:Bool,v=eu a0 a1 a2 a3 a4 a5 a6 a7 a8 a9 a10 a11 a12
theorem agU(a b c d:Int)(W:World):(part 3 #[aj a,aj b,aj c,aj d] 0).run prog W=.ok (aj a) W:=aI
theorem agV(a b c d:Int)(W:World):(part 3 #[aj a,aj b,aj c,aj d] 1).run prog W=.ok (aj b) W:=aI
theorem agW(a b c d:Int)(W:World):(part 3 #[aj a,aj b,aj c,aj d] 2).run prog W=.ok (aj c) W:=aI
theorem agX(a b c d:Int)(W:World):(part 3 #[aj a,aj b,aj c,aj d] 3).run prog W=.ok (aj d) W:=aI
theorem auH(W:World):(sizeOf 3).run prog W=.ok 1 W:=aI
theorem agY(a b c d x y z u:Int)(W:World):(Op.equalIn 10000 131 (.agg #[aj a,aj b,aj c,aj d]) (.agg #[aj x,aj y,aj z,aj u])).run prog W=.ok (a == x && (b == y && (c == z && d == u))) W:=by
 have ht:prog.underlying 131=some (.array 4 3):=aI;have ax:prog.underlying 3=some (.int .i64):=aI;rw[show(10000:Nat)=9998+1+1 from rfl,Op.equalIn];simp only[Sem.run_bind,SA ht,EL,auH];rw[Std.Legacy.Range.forIn_eq_forIn_range'];simp only[Std.Legacy.Range.size,List.range',Nat.reduceAdd,Nat.reduceSub,Nat.reduceDiv,List.forIn_cons,List.forIn_nil,zf,eY,Sem.run_bind,agU,agV,agW,agX,EL,run_equalIn_int W 9998 _ _ _ _ _ ax];have hd:∀p q:Int,(p == q)=decide (p=q):=fun p q=>by by_cases h:p=q <;> simp[h]
 simp only[hd];by_cases h0:a=x <;> by_cases h1:b=y <;> by_cases h2:c=z <;> by_cases h3:d=u <;> simp[h0,h1,h2,h3,agU,agV,agW,agX,run_equalIn_int _ 9998 _ _ _ _ _ ax]
theorem auI(id bits c0 aC c2 c3:Int)(m:ah)(w:World)(hc:¬(c0=1/\aC=0/\c2=0/\(c3=0\/c3=1))) :
  aB 72 #[.agg #[aj id,aj bits,aj c0,aj aC,aj c2,aj c3],ay m] w fun e w' =>
   e=.returned (.tuple #[eu 0 0 0 0 0 0 [] [] 0 0 false 0 0,.bool false])/\au w w':=by
 have agZ:∀W:World,(Op.equalIn 10000 131 (.agg #[aj c0,aj aC,aj c2,aj c3]) (.agg #[aj 1,aj 0,aj 0,aj 0])).run prog W=.ok false W:=fun W=>by{
 have hd:∀p q:Int,(p == q)=decide (p=q):=fun p q=>by by_cases h:p=q <;> simp[h]
 rw[agY,hd,hd,hd,hd];congr 1;by_cases h0:c0=1 <;> by_cases h1:aC=0 <;> by_cases h2:c2=0 <;> by_cases h3:c3=0 <;> simp[h0,h1,h2,h3];exact hc ⟨h0,h1,h2,.inl h3⟩};have aA0:∀W:World,(Op.equalIn 10000 131 (.agg #[aj c0,aj aC,aj c2,aj c3]) (.agg #[aj 1,aj 0,aj 0,aj 1])).run prog W=.ok false W:=fun W=>by{
 have hd:∀p q:Int,(p == q)=decide (p=q):=fun p q=>by by_cases h:p=q <;> simp[h]
 rw[agY,hd,hd,hd,hd];congr 1;by_cases h0:c0=1 <;> by_cases h1:aC=0 <;> by_cases h2:c2=0 <;> by_cases h3:c3=1 <;> simp[h0,h1,h2,h3];exact hc ⟨h0,h1,h2,.inr h3⟩};clear hc;go_enter func72,ntmps72;go_wp2_with fail;refine fB (v:=.tuple #[eu 0 0 0 0 0 0 [] [] 0 0 false 0 0,.bool false]) (by simp[results,results72,go_sem,eu];try rfl) rfl ⟨rfl,?_⟩;have aL:∀(W:World) (o:Nat) (v:Value),au w W->au w (W.setCell ⟨w.heap.size+1,o,none⟩ v):=fun W o v hW=>hW.setCell (p:=⟨w.heap.size+1,o,none⟩) (by show w.heap.size<=w.heap.size+1;omega) v;repeat' apply aL
 exact((aO.alloc aA _).alloc ar _).alloc aP _
end Go.Proofs.YtkkpahmoljiepaaGreatDoor
