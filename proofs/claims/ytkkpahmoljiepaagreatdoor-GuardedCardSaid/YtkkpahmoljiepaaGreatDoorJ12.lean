import Derived.Test.YtkkpahmoljiepaaGreatDoorJ11
set_option maxRecDepth 1000000
set_option maxHeartbeats 12800000
set_option linter.unusedSimpArgs false
set_option linter.unusedVariables false
namespace Go.Proofs.YtkkpahmoljiepaaGreatDoor
open Go.RowKit Go.Proofs.Tryz
structure sN(s mb:Nat)(size:Int)(cs:List Int)(W:World):Prop where
 b0:aM W s (aO mb) 216
 b1:aM W (s+1) (aq size) 3
 b2:aM W (s+2) (bK) 56
 b3:eW W (s+3) cs 3
 b4:aM W (s+4) (aU (s+3) 0 3 3) 56
theorem sN.kept{s mb:Nat}{size:Int}{cs:List Int}{W W':World}(h:sN s mb size cs W)(hk:∀k,s<=k->k<s+5->W'.heap[k]? = W.heap[k]?):sN s mb size cs W' :=
 ⟨(hk _ ae ae).trans h.b0,(hk _ ae ae).trans h.b1,(hk _ ae ae).trans h.b2,(hk _ ae ae).trans h.b3,(hk _ ae ae).trans h.b4⟩
theorem sN.lt{s mb:Nat}{size:Int}{cs:List Int}{W:World}(h:sN s mb size cs W):s+4<W.heap.size:=aM.lt h.b4
theorem sN.set{s mb:Nat}{size:Int}{cs:List Int}{W:World}(h:sN s mb size cs W)(k:Nat)(x:Int):sN s mb size (cs.set k x) (W.setCell ⟨s+3,k,none⟩ (.int .i64 x)) :=
 ⟨(bf _ _ _ _ (by show s≠s+3;omega)).trans h.b0,(bf _ _ _ _ (by show s+1≠s+3;omega)).trans h.b1,(bf _ _ _ _ (by show s+2≠s+3;omega)).trans h.b2,h.b3.set k x,(bf _ _ _ _ (by show s+4≠s+3;omega)).trans h.b4⟩
theorem age(a:Option Addr)(n c:Nat)(w:World) :
  aF 107 #[.slice a n c] w fun e w'=>e=.returned (.func (.func 233) #[] #[aO w.heap.size,aO (w.heap.size+1)])/\w'.heap.size=w.heap.size+2/\aw w w' /\
   aM w' w.heap.size (.slice a n c) 41/\aM w' (w.heap.size+1) (.func (.func 177) #[] #[]) 261:=by refine(TK a n c w).mono ?_;rintro e w' ⟨rfl,rfl⟩;refine⟨rfl,ak,(bj.alloc aB _).alloc ak _,(aM.ke _ _ _).alloc _,?_⟩;have:=aM.ke (w.alloc (.cells #[.slice a n c] 41)) (.func (.func 177) #[] #[]) 261;rwa [dI]at this
def lh(rs:List aj)(i:Nat):List aj:=((bC bJ rs).take i).flatMap (·.2)
theorem agf(rs:List aj):lh rs 0 = []:=rfl
theorem agh{rs:List aj}{i:Nat}{x:Nat×List aj}(h:(bC bJ rs)[i]? = some x):lh rs (i+1)=lh rs i++x.2:=by unfold lh;rw[FO h,zY];simp
theorem Oq(rs:List aj)(i:Nat):(lh rs i).length<=rs.length:=by
 have h:rs=lh rs i++((bC bJ rs).drop i).flatMap (·.2):=by{unfold lh;rw[<- zY,jH];exact(FW bJ _ _ _ aB).symm};conv=>rhs;rw[h,bU]
 omega
theorem Ot{rs:List aj}{x:Nat×List aj}(h:x∈bC bJ rs){r:aj}(hr:r∈x.2):r∈rs:=by rw[(r_ h).2.2]at hr;exact IL (Fa hr)
theorem agi{w w':World}{mb base d:Nat}{l:ai}{ps:cH}(h:ll w mb base d l ps)(hb:aw w w'):ll w' mb base d l ps:=by obtain⟨vb,vp,h1,h2,h3,h4,h5⟩:=h;exact⟨vb,vp,h1.kept (hb.block mb h1.lt),oq h2 hb,oq h3 hb,h4,h5⟩
theorem JY{w:World}{mb base:Nat}{l:ai}{ps:cH}(h:dB w mb base l ps):ll w mb base mb l ps:=by have h0:=h;obtain⟨vb,vp,h1,_⟩:=h0;exact h.away ⟨fun cur hc=>by rw[h1]at hc;simp at hc,fun cur hc=>by rw[h1]at hc;simp at hc⟩
theorem DG{w w':World}{mb base d x:Nat}{l:ai}{ps:cH}(h:ll w mb base d l ps)(hx:(∀cur,w.heap[x]?≠some (.cells cur 5 (0,0)))/\∀cur,w.heap[x]?≠some (.cells cur 343 (0,0)))(hm:mb≠x)(hk:∀k,k≠x->w'.heap[k]? = w.heap[k]?):ll w' mb base d l ps:=by obtain⟨vb,vp,h1,h2,h3,h4,h5⟩:=h;refine⟨vb,vp,h1.kept (hk mb hm),nO h2 fun g hg=>hk g fun e=>?_,nO h3 fun g hg=>hk g fun e=>?_,h4,h5⟩;{obtain⟨cur,bp⟩:=yM h2 hg;rw[e]at bp;exact hx.1 cur bp};{obtain⟨cur,bp⟩:=yN h3 hg;rw[e]at bp;exact hx.2 cur bp}
theorem Bd{mb base k:Nat}{W W':World}{v:Value}{t:TypeId}(h:aM W k v t)(ht:bF mb base W W')(hm:k≠mb)(h8:t≠5)(Ou:t≠343):aM W' k v t:=ht.box h hm h8 Ou
theorem agj{s mb base:Nat}{size:Int}{cs:List Int}{W W':World}(h:sN s mb size cs W)(ht:bF mb base W W')(hm:mb<s):sN s mb size cs W':=by have hl:=h.lt;refine⟨Bd h.b0 ht ae aC aC,Bd h.b1 ht ae aC aC,Bd h.b2 ht ae aC aC,?_,Bd h.b4 ht ae aC aC⟩;have:=h.b3;unfold eW at this ⊢;exact ht.box this ae aC aC
structure lz(mb base s lb:Nat)(size:Int)(vs:Array Value)(w:World)(ds:List Nat)(cs:List Int)(d:Nat)(S:ai×cH)(W:World):Prop where
 fb:sN s mb size cs W
 lists:W.heap[lb]? = some (.cells vs 41)
 msg:ll W mb base d S.1 S.2
 po:gw S.2
 g:bH W
 tg:bF mb base w W
 defs:∀x∈ds,W.heap[x]? = some (.deferred (some []))
section
variable {mb base s lb:Nat} {size:Int} {vs:Array Value} {w:World} {ds:List Nat} {cs:List Int} {d:Nat} {S S':ai×cH} {W B:World}
theorem lz.re(h:lz mb base s lb size vs w ds cs d S W)(d':Nat)(aD:(∀cur,W.heap[d']?≠some (.cells cur 5 (0,0)))/\∀cur,W.heap[d']?≠some (.cells cur 343 (0,0))):lz mb base s lb size vs w ds cs d' S W :=
 ⟨h.fb,h.lists,h.msg.msg.away aD,h.po,h.g,h.tg,h.defs⟩
theorem lz.keeps(h:lz mb base s lb size vs w ds cs d S W)(hk:cF d W B)(h1:s+4<d)(h2:lb<d)(h3:mb<d)(h4:w.heap.size<=d)(h6:∀x∈ds,x≠d):lz mb base s lb size vs w ds cs d S B:=by have hl:=h.fb.lt;obtain⟨g0,Ov,gc⟩:=h.g;exact⟨h.fb.kept fun k k1 k2=>hk.block k ae ae,(hk.block lb (di.1 h.lists).1 ae).trans h.lists,h.msg.keeps hk ae,h.po, ⟨eQ g0 hk.size,Ov,(dC (hk.block 0 g0 ae)).trans gc⟩,h.tg.keeps hk h4,fun x hx=>(hk.block x (di.1 (h.defs x hx)).1 (h6 x hx)).trans (h.defs x hx)⟩
theorem lz.below(h:lz mb base s lb size vs w ds cs d S W)(hb:aw W B):lz mb base s lb size vs w ds cs d S B:=by have hl:=h.fb.lt;exact⟨h.fb.kept fun k k1 k2=>hb.block k ae,(hb.block lb (di.1 h.lists).1).trans h.lists,agi h.msg hb,h.po,h.g.below hb,h.tg.trans (bF.mX hb),fun x hx=>(hb.block x (di.1 (h.defs x hx)).1).trans (h.defs x hx)⟩
theorem lz.fit(h:lz mb base s lb size vs w ds cs d S W)(ht:bF mb base W B)(hm:dB B mb base S'.1 S'.2)(kG:gw S'.2)(h0:mb<s)(h1:lb≠mb)(h2:0<base)(h3:0<mb)(h4:∀x∈ds,x≠mb)(aD:(∀cur,B.heap[d]?≠some (.cells cur 5 (0,0)))/\∀cur,B.heap[d]?≠some (.cells cur 343 (0,0))):lz mb base s lb size vs w ds cs d S' B :=
 ⟨agj h.fb ht h0,ht.box h.lists h1 aC aC,hm.away aD,kG,h.g.tg ht h2 h3,h.tg.trans ht,fun x hx=>(ht.other (h.defs x hx) (h4 x hx) (fun _ _ _ e=>by cases e)).trans (h.defs x hx)⟩
theorem lz.set(h:lz mb base s lb size vs w ds cs d S W)(k:Nat)(x:Int)(h0:mb<s)(h1:lb<s)(h2:w.heap.size<=s)(h3:∀y∈ds,y≠s+3):lz mb base s lb size vs w ds (cs.set k x) d S (W.setCell ⟨s+3,k,none⟩ (.int .i64 x)):=by have kW:=h.fb.b3;unfold eW at kW;have hne:∀k',k'≠s+3->(W.setCell ⟨s+3,k,none⟩ (.int .i64 x)).heap[k']? = W.heap[k']?:=fun k' hk=>bf _ _ _ _ hk;refine⟨h.fb.set k x,(hne lb ae).trans h.lists,DG h.msg ⟨fun c hc=>?_,fun c hc=>?_⟩ ae hne,h.po,?_,h.tg.same rfl rfl rfl (by simp[World.setCell]) fun i au=>hne i ae,fun y hy=>(hne y (h3 y hy)).trans (h.defs y hy)⟩;{rw[kW]at hc;simp at hc};{rw[kW]at hc;simp at hc};{obtain⟨g0,Ov,gc⟩:=h.g;exact⟨by simpa [World.setCell]using g0,Ov,(dC (hne 0 ae)).trans gc⟩}
end
section
attribute [local go_sem] Oper.semAt_some undef
theorem agk(w:World):(Instr.makeSlice 56 (aq 3) (aq 3)).run prog w=.ok (aU w.heap.size 0 3 3) (w.alloc (.cells #[.int .i64 0,.int .i64 0,.int .i64 0] 3)):=aK
end
section
attribute [local go_sem] Oper.semAt_some undef
end
section
attribute [local go_sem] Oper.semAt_some undef
def jo(s:Nat)(n:ai):List (ai×Nat):=(cu n).map fun e=>(e,s+n.length - e.length)
theorem agl(s:Nat)(n:ai){i:Nat}{x:ai}(h:(cu n)[i]? = some x):(jo s n).take (i+1)=(jo s n).take i++[(x,s+n.length - x.length)]:=by
 have:(jo s n)[i]? = some (x,s+n.length - x.length):=by simp[jo,h]
 obtain⟨au,e⟩:=iu.1 this;rw[kQ au,e]
theorem VT:∀(f:Nat) (n:ai),n.length<=f->(cu n).length<=n.length
 | 0,n,h=>by obtain rfl:n = []:=gS ae;simp[oW]
 | f+1,n,h=>by by_cases hn:n = [];{subst hn;simp[oW]};{have h1:=yx n hn;rw[pW n hn,cU];have:=VT f (fW n) ae;omega}
theorem agm{W:World}{base i:Nat}{v:Value}{ps:List (ai×Nat)}(h:jC W base v ps)(au:∀cur,W.heap[i]?≠some (.cells cur 343 (0,0))):some i≠v.ownBlock:=fun e=>by
 obtain⟨_,⟨rfl,_⟩|⟨g,cap,cur,rfl,_,bp,_⟩⟩:=h
 ·simp[Value.ownBlock]at e
 ·simp only[Value.ownBlock,pL]at e;subst e;exact au cur bp
theorem agn{W:World}{base g:Nat}{v:Value}{ps:List (ai×Nat)}(h:jC W base v ps)(hg:v.ownBlock=some g):∃cur,W.heap[g]? = some (.cells cur 343 (0,0)):=by obtain⟨_,⟨rfl,_⟩|⟨g',cap,cur,rfl,_,bp,_⟩⟩:=h;{simp[Value.ownBlock]at hg};{simp only[Value.ownBlock,pL]at hg;subst hg;exact⟨cur,bp⟩}
def yV(W:World)(b:Nat)(h0 h1 h2 h3 h4 h5:Int)(q n:ai)(k c:Int)(op:Bool)(sz bM:Int):Prop:=W.heap[b]? = some (.cells #[.int .i64 h0,.int .i64 h1,.int .i64 h2,.int .i64 h3,.int .i64 h4,.int .i64 h5,.string (ah q),.string (ah n),.int .i64 k,.int .i64 c,.bool op,.int .i64 sz,.int .i64 bM] 137)
theorem yV.cells{W:World}{b:Nat}{h0 h1 h2 h3 h4 h5:Int}{q n:ai}{k c:Int}{op:Bool}{sz bM:Int}(h:yV W b h0 h1 h2 h3 h4 h5 q n k c op sz bM):W.cell? (ar b 6)=some (aA q)/\W.cell? (ar b 7)=some (aA n):=by unfold yV at h;constructor <;> simp[World.cell?,h]
theorem yV.lt{W:World}{b:Nat}{h0 h1 h2 h3 h4 h5:Int}{q n:ai}{k c:Int}{op:Bool}{sz bM:Int}(h:yV W b h0 h1 h2 h3 h4 h5 q n k c op sz bM):b<W.heap.size:=(di.1 h).1
theorem ago(mb base:Nat)(h0 h1 h2 h3 h4 h5:Int)(q n:ai)(k c:Int)(op:Bool)(sz bM:Int)(vb:Value)(l:ai)(w:World)(hm:cG w mb vb (bK))(ho:d_ w base vb l)(hg:bH w)(bL:base<=w.heap.size)(hb0:0<base)(hm0:base<=mb)(hn:n.length<=900)(hl:l.length+q.length<=10000) :
  aF 135 #[aO mb,dK h0 h1 h2 h3 h4 h5 q n k c op sz bM] w fun e w' =>
   e=.returned (.tuple #[])/\(∃cE cC,cG w' mb cE cC/\d_ w' base cE (l++q)/\jC w' base cC (jo l.length n))/\Below base w w':=by
 unfold dK;refine(bR (n:=0)).1 ?_;refine callsIn_of_wp_marks func135 rfl aY ?_;simp only[ntmps135,lK,cU,fV,Nat.reduceAdd,Nat.reduceSub,l_,mf,mh,mg,fF,dX];have bA:=ag hm;have HO:=ag ho;have HG:=ag hg;have hlt:=hm.lt;have hg0:=hg.1;have hmx:prog.follows .mixedOrders=true:=aK;have xh:Hid (∀g,vb.ownBlock=some g->g<w.heap.size):=fun g hg=>(nC ho g hg).2;have afz:=VT _ n aB;clear hm ho hg;gi_wp2_with fail;refine⟨aY,rfl,?_⟩;refine(bR.2 (Jo _ _)).mono ?_;rintro e W2 ⟨rfl,e4,hb2,e2⟩;have e0:aM W2 w.heap.size (aO mb) 216:=((aM.ke _ _ _).alloc _).below hb2 c5;have e1:yV W2 (w.heap.size+1) h0 h1 h2 h3 h4 h5 q n k c op sz bM:=by{refine(hb2.block _ ak).trans ?_;have:=World.alloc_heap_new (w.alloc (.cells #[.pointer (some ⟨mb,0,none⟩)] 216)) (.cells #[.int .i64 h0,.int .i64 h1,.int .i64 h2,.int .i64 h3,.int .i64 h4,.int .i64 h5,.string (ah q),.string (ah n),.int .i64 k,.int .i64 c,.bool op,.int .i64 sz,.int .i64 bM] 137);simpa using this};have e5:aw w W2:=((bj.alloc aB _).alloc ak _).trans (hb2.mono c5);simp only[dI]at e4 e2;have jn:=ag (bA.kept (e5.block mb hlt));have h9:Hid (d_ W2 base vb l):=oq (af HO) e5;have yO:=ag (HG.below e5);gi_wp2_with fail;have hgrow:∀r,aw W2 ((W2.alloc (.deferred (some []))).alloc (.loop r)):=fun r=>(bj.alloc aB _).alloc ak _;have hB2:Below base w W2:=e5.mono bL;have FM:l.length<=10000:=ae;refine N3 (xs:=cu n) (encs:=fun e:ai=>#[aA e]) (St:=fun A B=>aw A B) (Kp:=fun A B=>A.heap.size<=B.heap.size/\B.heap[0]? = A.heap[0]?) (Kx:=fun _ _=>True) (gf:=241) (lb:=#[aO (w.heap.size+1+1)]) rfl (enters_of func241 aK rfl) (fun _=>rfl) ?seq [0] aX (fun A B h=>h) (fun A B h h'=>⟨h',h _ ak⟩) (fun _ _=>aY) (fun i W=>Below base w W/\d_ W base vb l/\aM W w.heap.size (aO mb) 216/\yV W (w.heap.size+1) h0 h1 h2 h3 h4 h5 q n k c op sz bM/\∃cC,cG W mb vb cC/\jC W base cC ((jo l.length n).take i)/\∀g,cC.ownBlock=some g->g≠W2.heap.size+1) (fun _ _=>False) (fun i A B h hA hk=>⟨h.1.trans (hk.below ae ae),nO h.2.1 (fun g hg=>hk.block g (nC h.2.1 g hg).2 (by have:=af xh g hg;omega)),aM.kept h.2.2.1 (hk.block _ (aM.lt h.2.2.1) ae),(hk.block _ h.2.2.2.1.lt ae).trans h.2.2.2.1,by{obtain⟨cC,p1,gB,fD⟩:=h.2.2.2.2;exact⟨cC,p1.kept (hk.block mb p1.lt ae),nO gB (fun g hg=>hk.block g (nC gB g hg).2 (fD g hg)),fD⟩}⟩) (fun c A B h hA hk=>h) ⟨hB2,h9,e0,e1,bK,jn,iI _ _ _ _,fun g hg=>by simp[Value.ownBlock]at hg⟩ ?round ?done ?stop;case seq =>(intro r;have hg:=hgrow r;exact Jp _ n _ ((hg.cell (p:=⟨w.heap.size+1+1,0,none⟩) (by show w.heap.size+1+1<W2.heap.size;omega)).trans e2) (yO.below hg) ae)
 case round =>(
 intro l' i x V0 W hx hI hsz fH nN;obtain⟨sO,kz,pZ,xD,vp,ng,lA,vJ⟩:=hI;have lR:=Jn (qH hx);have N8:i<(cu n).length:=(iu.1 hx).1;obtain⟨ab,nb,cb,rfl⟩:=oy kz;have sP:nb=l.length:=by{obtain⟨_,⟨e,hz⟩|⟨g',cap',cur',e,_⟩⟩:=kz;{cases e;omega};{cases e;rfl}};subst sP;obtain⟨c0,az⟩:=ng.cells;have cx:=pZ.cell;obtain⟨cq,cn⟩:=xD.cells;have C0:(ah x).size=x.length:=dt x;have nU:(ah n).size=n.length:=dt n;have aql:0<mb:=ae;have aD:aw W W.drew:=bj.drew;have yP:=ag (afe mb base x (l.length+n.length - x.length) _ vp _ W.drew (ng.kept rfl) (oq lA aD) (by show base<=W.heap.size;have:=sO.size;omega) (by simp[jo];omega) ae);have heq:((l.length+n.length - x.length:Nat):Int)=(l.length:Int)+(n.length:Int) - (x.length:Int):=ae;have jK:Hid (∀W4,(∃cC,cG W4 mb (.slice ab l.length cb) cC/\jC W4 base cC ((jo l.length n).take i++[(x,l.length+n.length - x.length)])/\(cC.ownBlock=vp.ownBlock\/∃g,cC.ownBlock=some g/\W.drew.heap.size<=g)/\bh (fun i=>i≠mb/\some i≠vp.ownBlock) W.drew W4) -> gq W2.heap.size W W4/\(∀k∈[0],W4.heap[k]? = W.heap[k]?)/\Below base w W4/\d_ W4 base (.slice ab l.length cb) l/\aM W4 w.heap.size (aO mb) 216/\yV W4 (w.heap.size+1) h0 h1 h2 h3 h4 h5 q n k c op sz bM/\∃cC,cG W4 mb (.slice ab l.length cb) cC/\jC W4 base cC ((jo l.length n).take (i+1))/\∀g,cC.ownBlock=some g->g≠W2.heap.size+1):=by{
 rintro W4 ⟨cC,p1,gB,fD,p4⟩;have hk:∀j,j<W.heap.size->j≠mb->(∀cur,W.heap[j]?≠some (.cells cur 343 (0,0)))->W4.heap[j]? = W.heap[j]?:=fun j hj agp agq=>p4.block j hj ⟨agp,agm lA agq⟩;have VU:∀j,j<base->W4.heap[j]? = W.heap[j]?:=fun j hj=>p4.block j (by show j<W.heap.size;have:=sO.size;omega) ⟨ae,fun e=>by{have:=(nC lA j e.symm).1;omega}⟩;have fO:W.heap.size<=W4.heap.size:=p4.size;refine⟨⟨fO,hk _ ae ae (fun cur hc=>by rw[fH]at hc;cases hc),hk _ ae ae (fun cur hc=>by obtain⟨r,hr⟩:=nN;rw[hr]at hc;cases hc)⟩,fun j hj=>?_,?_,?_,?_,?_,cC,p1,?_,?_⟩;{
 obtain rfl:j=0:=by simpa using hj
 exact VU 0 ae};{exact sO.trans ⟨p4.os,p4.tape,p4.output,fO,fun j hj=>VU j ae⟩};{refine nO kz fun g hg=>?_;obtain⟨cur,bp⟩:=yM kz hg;exact hk g (nC kz g hg).2 (fun e=>by subst e;rw[ng]at bp;simp at bp) (fun c hc=>by rw[bp]at hc;simp at hc)};{exact pZ.kept (hk _ pZ.lt ae (fun c hc=>by rw[pZ]at hc;simp at hc))};{exact(hk _ xD.lt ae (fun c hc=>by rw[xD]at hc;simp at hc)).trans xD};{rw[agl _ _ hx];exact gB};{intro g hg;rcases fD with h|⟨g',h,hge⟩;{exact vJ g (by rw[<- h];exact hg)};{rw[hg]at h;cases h;have:W.heap.size<=g:=hge;omega}}};rw[heq]at yP;have y1:IntKind.i64.wrap ((l.length:Int)+(n.length:Int))=(l.length:Int)+(n.length:Int):=by rw[gM];first|omega|(unfold wrap64;omega)
 have y2:IntKind.i64.wrap ((l.length:Int)+(n.length:Int) - (x.length:Int))=(l.length:Int)+(n.length:Int) - (x.length:Int):=by rw[gM];first|omega|(unfold wrap64;omega)
 have HC:=ag (bQ ng (bQ lA (bQ kz (bQ pZ xD))));clear ng lA kz pZ xD vJ sO fH nN hx heq;gi_wp2_with fail;refine⟨aY,?_⟩;gi_wp2_with fail;refine Vg (fun W=>W.cell? (ar w.heap.size 0)=some (aO mb)/\W.cell? (ar (w.heap.size+1) 7)=some (aA n)/\W.cell? (ar mb 0)=some (.slice ab l.length cb)) hmx (wZ aK) ⟨cx,cn,c0⟩ fun hS=>?_;refine kT 0 hS (fun _ _ _ h=>(gP.ki h ak).elim) ?_;refine kT 1 hS (fun _ _ _ h=>(gP.ki h ak).elim) ?_;refine kT 2 hS (fun _ _ _ h=>(gP.ki h ak).elim) ?_;refine kT 3 hS (fun _ _ _ h=>(gP.ki h ak).elim) ?_;refine kT 4 hS (fun _ _ _ h=>(gP.ki h ak).elim) ?_;refine kT 5 hS (fun _ _ _ h=>(gP.ki h ak).elim) ?_;refine kT 6 hS (fun _ _ _ h=>(gP.ki h ak).elim) ?_;refine kT 7 hS (fun _ _ _ h=>(gP.ki h ak).elim) ?_;refine kT 8 hS (fun _ _ _ h=>(gP.ki h ak).elim) ?_;refine kT 9 hS (fun _ _ _ h=>(gP.ki h ak).elim) ?_;refine kT 10 hS (fun _ _ _ h=>(gP.ki h ak).elim) ?_;refine kT 11 hS (fun _ _ _ h=>(gP.ki h ak).elim) ?_;refine kT 12 hS (fun _ _ _ h=>(gP.ki h ak).elim) ?_;refine kT 13 hS (fun _ _ _ h=>(gP.ki h ak).elim) ?_;refine SV (rs:=[14]) aK ak (SR rfl (fun K hK=>?_) SS);go_simp;refine yP.mono ?_;rintro e W4 ⟨rfl,xE⟩;have bu:=ag (jK W4 xE);clear xE;obtain⟨_,_,_,_,VV,Gt,afF,hm4,_⟩:=af bu;refine hK.out _ _ ⟨VV.cell,Gt.cells.2,hm4.cells.1⟩ (fun hS=>?_);clear hK K VV Gt hm4;refine SU aK ?_ _;refine⟨rfl,?_⟩;gi_wp2_with fail;exact⟨bu.1,bu.2.1,bu.2.2⟩)
 case done =>(
 intro W hI cD hsz;obtain⟨sO,kz,pZ,xD,vp,ng,lA,vJ⟩:=hI;rw[show(cu n).length=(jo l.length n).length by simp[jo],jV]at lA;have cx:=pZ.cell;have cq:=xD.cells.1;have mY:=ng.lt;have VW:=sO.size;have hnew:=World.alloc_heap_new W (.cells #[.iface 224 (.string (ah q))] 297);have o_:=ag (F9 mb base W.heap.size 1 [ct q] vb vp l (W.alloc (.cells #[.iface 224 (.string (ah q))] 297)) ((bV _ _ _ mY).trans ng) (kz.alloc _) aX (fun f hf=>by simp at hf;subst hf;exact iO _) ak ae (.inr fun cur h=>by rw[hnew]at h;simp at h) (fun j hj=>by{
 match j,hj with
 | 0,_=>unfold World.cell?; rw[hnew];rfl
 | j+1,hj=>simp at hj}) ak ak (by simp[bY,ct];omega))
 have HC:=ag (bQ sO (bQ ng (bQ lA cD)));have agr:W2.heap.size≠mb:=ae;have E4:=ag e4;clear ng lA kz pZ xD vJ sO cD hnew e4;gi_wp2_with fail;refine⟨aY,rfl,?_⟩;refine(bR.2 (af o_)).mono ?_;rintro e W4 ⟨rfl,⟨Ow,h1,h2⟩,h3⟩;have T4:Hid (jb mb base W W4):=(jb.NT (bj.alloc aB _)).trans h3;have ags:Hid (cG W4 mb Ow vp/\d_ W4 base Ow (l++q)):=⟨h1,by simpa [bY,ct]using h2⟩;clear h1 h2 h3 o_;obtain⟨sO,ng,lA,cD⟩:=af HC;have Dt:W4.heap[W2.heap.size]? = some (.deferred (some [])):=(T4.block _ ae agr (.inr fun c hc=>by rw[cD]at hc;cases hc)).trans cD;have VX:=ag Dt;clear sO ng lA cD Dt;gi_wp2_with fail;refine⟨ak,.inl ⟨_,_,rfl,run_takeDeferred (af VX),?_⟩⟩;have e4:=af E4;obtain⟨sO,ng,lA,cD⟩:=af HC;obtain⟨h1,h2⟩:=af ags;have yt:=cF.put (d:=W2.heap.size) W4 W2.heap.size (.deferred none);have gy:∀g,vp.ownBlock=some g->W4.heap[g]? = W.heap[g]?/\g≠W2.heap.size:=fun g hg=>by{obtain⟨cur,bp⟩:=agn lA hg;refine⟨T4.block g (nC lA g hg).2 (fun e=>?_) (.inr fun c hc=>?_),fun e=>?_⟩;{rw[e,ng]at bp;simp at bp};{rw[bp]at hc;simp at hc};{rw[e,cD]at bp;cases bp}};have Ox:jC W4 base vp (jo l.length n):=nO lA fun g hg=>(gy g hg).1;have iM:Below base w W4:=sO.trans ⟨T4.os,T4.tape,T4.output,T4.size,fun k hk=>T4.block k ae ae (.inl hk)⟩;exact⟨.tuple #[],by simp[results,results135],rfl,⟨Ow,vp,h1.kept (yt.block mb h1.lt ae),nO h2 fun g hg=>yt.block g (nC h2 g hg).2 (fun e=>by{obtain⟨cur,bp⟩:=yM h2 hg;rw[e,af VX]at bp;cases bp}),nO Ox fun g hg=>yt.block g (nC Ox g hg).2 (gy g hg).2⟩,iM.trans (yt.below ae (by have:=iM.size;omega))⟩)
 case stop =>(intro c W hI cD hsz;exact hI.elim)
end
theorem agt{W W':World}{s:Nat}{c0 az c2 c3 bw dm jl c7 t_ c9 ua yG yH d2 d3 d4:Value}(hb:aw W W')
  (h:W.cell? (ar s 0)=some c0/\W.cell? (ar s 1)=some az/\W.cell? (ar s 2)=some c2/\W.cell? (ar s 3)=some c3/\W.cell? (ar s 4)=some bw/\W.cell? (ar s 5)=some dm/\W.cell? (ar s 6)=some jl/\W.cell? (ar s 7)=some c7/\W.cell? (ar s 8)=some t_/\W.cell? (ar s 9)=some c9/\W.cell? (ar s 10)=some ua/\W.cell? (ar s 11)=some yG/\W.cell? (ar s 12)=some yH/\W.cell? (ar (s+1) 2)=some d2/\W.cell? (ar (s+1) 3)=some d3/\W.cell? (ar (s+1) 4)=some d4) :
  W'.cell? (ar s 0)=some c0/\W'.cell? (ar s 1)=some az/\W'.cell? (ar s 2)=some c2/\W'.cell? (ar s 3)=some c3/\W'.cell? (ar s 4)=some bw/\W'.cell? (ar s 5)=some dm/\W'.cell? (ar s 6)=some jl/\W'.cell? (ar s 7)=some c7/\W'.cell? (ar s 8)=some t_/\W'.cell? (ar s 9)=some c9/\W'.cell? (ar s 10)=some ua/\W'.cell? (ar s 11)=some yG/\W'.cell? (ar s 12)=some yH/\W'.cell? (ar (s+1) 2)=some d2/\W'.cell? (ar (s+1) 3)=some d3/\W'.cell? (ar (s+1) 4)=some d4:=by have kp:∀(a:Addr) (v:Value),W.cell? a=some v->W'.cell? a=some v:=fun a v h=>(hb.cell (qD W a h)).trans h;obtain⟨e0,e1,e2,e3,e4,e5,e6,e7,e8,e9,e10,e11,e12,f2,f3,f4⟩:=h;exact⟨kp _ _ e0,kp _ _ e1,kp _ _ e2,kp _ _ e3,kp _ _ e4,kp _ _ e5,kp _ _ e6,kp _ _ e7,kp _ _ e8,kp _ _ e9,kp _ _ e10,kp _ _ e11,kp _ _ e12,kp _ _ f2,kp _ _ f3,kp _ _ f4⟩
theorem agu(n:ai)(hn:n.length<=900):gw (jo 12 n):=by intro p hp;unfold jo at hp;obtain⟨e,_,rfl⟩:=oh.1 hp;show 12+n.length - e.length<16384;omega
theorem agv{W:World}{hb:Nat}{a b c d e f:Int}(h:eW W hb [a,b,c,d,e,f] 133)(x:Int):eW (W.setCell ⟨hb,5,none⟩ (.int .i64 x)) hb [a,b,c,d,e,x] 133:=h.set 5 x
structure Be(s hb:Nat)(h0 h1 h2 h3 h4 h5:Int)(q n:ai)(k kc:Int)(op:Bool)(sz bM:Int)(rc:Int)(bz va vb vc:Value)(hs:List Int)(W:World):Prop where
 qu:eG W s h0 h1 h2 h3 h4 h5 q n k kc op sz bM
 an:dG W (s+1) (aq rc) bz va vb vc
 hd:eW W hb hs 133
 g:bH W
theorem Be.keep{s hb base:Nat}{h0 h1 h2 h3 h4 h5:Int}{q n:ai}{k kc:Int}{op:Bool}{sz bM:Int}{rc:Int}{bz va vb vc:Value}{hs:List Int}{W W':World}(h:Be s hb h0 h1 h2 h3 h4 h5 q n k kc op sz bM rc bz va vb vc hs W)
  (hk:∀i,i<base->W'.heap[i]? = W.heap[i]?) (hz:W.heap.size<=W'.heap.size) (e1:s+1<base) (e2:hb<base):Be s hb h0 h1 h2 h3 h4 h5 q n k kc op sz bM rc bz va vb vc hs W':=by obtain⟨g0,m,gc⟩:=h.g;exact⟨h.qu.kept (hk _ ae),(hk _ ae).trans h.an,(hk _ ae).trans h.hd,⟨eQ g0 hz,m,(dC (hk 0 ae)).trans gc⟩⟩
def rA(x m:Int)(b:Bool):Int:=if b=true then bits .or .i64 x m else x
theorem agw(id b b2 n0 n1 n2 c0 az c2 ca cb cc:Nat)(aa ab ac:Option Addr)(h1 h2 h3 h4 h5 k kc rc:Int)(q n:ai)(sz bM lim:Int)(L:ai)(S2:ai×cH)(w:World)(hg:bH w)(hc0:c0<=3001)(hc1:az<=3001)(hc2:c2<=3001)(op bz:Bool)(c3:Nat)(hc3:c3=cond op (c2+1) c2)
  (pk:id<65536) (rB:b<65536) (hT:rA (rf h1 rc) 1024 bz=(b:Int)) (hn:n.length<=900) (hq:q.length<=300)
  (tc:Bool) (ur:tc=(decide ((c0:Int)<(n0:Int)) || decide ((az:Int)<(n1:Int)))) (pX:rA (b:Int) 512 tc=(b2:Int)) (hb2:b2<65536)
  (VY:∀W mb base lb,aw w W->w.heap.size<=base->base<=W.heap.size->w.heap.size<=mb->dB W mb base (List.replicate 12 0++q) (jo 12 n)->W.heap[lb]? = some (.cells #[.slice aa n0 ca,.slice ab n1 cb,.slice ac n2 cc] 41)->lb≠mb->aF 137 #[aO mb,aq (lim - (L.length:Int)),aU lb 0 3 3] W fun e w' =>
   e=.returned (aU (W.heap.size+3) 0 3 3)/\eW w' (W.heap.size+3) [(c0:Int),az,c2] 3/\dB w' mb base S2.1 S2.2/\bF mb base W w')
  (DI:∀W,bH W->aF 136 #[dK id h1 h2 h3 h4 h5 q n k kc op sz bM,aq rc] W (cS (aA L) W))
  (VZ:∀W,aF 138 #[dK id h1 h2 h3 h4 h5 q n k kc op sz bM] W (cS (aq lim) W))
  (aqm:L.length<=100) (I7:lim<=2000) (aqn:0<=lim) (xF:12<=S2.1.length) (hl2:S2.1.length+L.length<=5000) :
  aF 73 #[dK id h1 h2 h3 h4 h5 q n k kc op sz bM,.agg #[aq rc,.bool bz,.slice aa n0 ca,.slice ab n1 cb,.slice ac n2 cc]] w fun e w' =>
   e=.returned (aA (bY (gG id b2 1 c0 az c3)++(S2.1++L).drop 12))/\aw w w':=by
 have vL:=ag VY;have agx:=ag DI;have agy:=ag VZ;have aqo:(ah L).size=L.length:=dt L;have hwr:IntKind.i64.wrap (lim - (L.length:Int))=lim - (L.length:Int):=by rw[gM];omega
 clear VY DI VZ;obtain⟨JZ,vR⟩:=bP ((w.alloc (.cells #[.int .i64 id,.int .i64 h1,.int .i64 h2,.int .i64 h3,.int .i64 h4,.int .i64 h5,.string (ah q),.string (ah n),.int .i64 k,.int .i64 kc,.bool op,.int .i64 sz,.int .i64 bM] 137)).alloc (.cells #[.int .i64 rc,.bool bz,.slice aa n0 ca,.slice ab n1 cb,.slice ac n2 cc] 43));have hB0:aw w JZ:=by rw[vR];exact(bj.alloc aB _).alloc ak _
 have DJ:eG JZ w.heap.size id h1 h2 h3 h4 h5 q n k kc op sz bM:=by
  rw[vR];exact(bV _ _ _ ak).trans (World.alloc_heap_new w _)
 have yX:dG JZ (w.heap.size+1) (aq rc) (.bool bz) (.slice aa n0 ca) (.slice ab n1 cb) (.slice ac n2 cc):=by
  rw[vR];have:=World.alloc_heap_new (w.alloc (.cells #[.int .i64 id,.int .i64 h1,.int .i64 h2,.int .i64 h3,.int .i64 h4,.int .i64 h5,.string (ah q),.string (ah n),.int .i64 k,.int .i64 kc,.bool op,.int .i64 sz,.int .i64 bM] 137)) (.cells #[.int .i64 rc,.bool bz,.slice aa n0 ca,.slice ab n1 cb,.slice ac n2 cc] 43)
  rwa [dI]at this
 have cN:=ag (bQ hB0 (bQ DJ yX));have Bf:=ag hg;have aqp:w.heap.size+2<=JZ.heap.size:=by rw[vR];simp <;> omega
 clear hg hB0 DJ yX;unfold dK;go_enter func73,ntmps73;go_wp2_with fail;rw[<- vR];have sJ:=ag vR;clear vR;refine(UA _ _ _ _ _ _ _ _).mono ?_;rintro e w1 ⟨rfl,hb1⟩;obtain⟨hB0,DJ,yX⟩:=af cN;have hg:=af Bf;have J3:=DJ.kept (hb1.block _ DJ.lt);have nV:dG w1 (w.heap.size+1) _ _ _ _ _:=(hb1.block _ ae).trans yX;have hB1:aw w w1:=hB0.trans (hb1.mono hB0.size);have hs1:=hb1.size;obtain⟨k0,k1,k2,k3,k4⟩:=dG.cells nV;obtain⟨T,V1⟩:=bP (rf h1 rc);rw[<- V1]at hT ⊢;have f_:=ag (bQ J3 (bQ nV hB1));clear hB0 DJ yX hg J3 nV hB1 V1 hb1 cN k2 k3 k4;have aqq:w.heap.size+1<w1.heap.size:=ae;have V3:=ag ur;have ji:=ag pX;have mU:=ag hc3;clear ur pX hc3
 go_upto_if 15 with fail
 go_cut []from 16 (fun wx=>wx=(w1.alloc (.cells #[.int .i64 id,.int .i64 b,.int .i64 0,.int .i64 0,.int .i64 0,.int .i64 0] 133)))
 case first =>
  cases bz with
  | true =>
   simp only[rA,pM]at hT;go_wp2_with fail;go_meet;rfl
  | false =>
   simp only[rA,zT,Ag]at hT;subst hT;go_wp2_with fail;go_meet;rfl
 case rest =>
 subst hcut;go_wp2_with fail;have fN:Hid ((Be w.heap.size w1.heap.size id h1 h2 h3 h4 h5 q n k kc op sz bM rc (.bool bz) (.slice aa n0 ca) (.slice ab n1 cb) (.slice ac n2 cc) [(id:Int),b,0,0,0,0] (w1.alloc (.cells #[.int .i64 id,.int .i64 b,.int .i64 0,.int .i64 0,.int .i64 0,.int .i64 0] 133)))/\aw w (w1.alloc (.cells #[.int .i64 id,.int .i64 b,.int .i64 0,.int .i64 0,.int .i64 0,.int .i64 0] 133))/\w1.heap.size<(w1.alloc (.cells #[.int .i64 id,.int .i64 b,.int .i64 0,.int .i64 0,.int .i64 0,.int .i64 0] 133)).heap.size):=by
  obtain⟨J3,nV,hB1⟩:=af f_;have hg:=af Bf;have hB2:=hB1.alloc ae (.cells #[.int .i64 id,.int .i64 b,.int .i64 0,.int .i64 0,.int .i64 0,.int .i64 0] 133);exact⟨⟨J3.kept (bV _ _ _ ae),(bV _ _ _ ae).trans nV,World.alloc_heap_new w1 _,hg.below hB2⟩,hB2,ak⟩
 clear f_ k0 k1 hT sJ;generalize (w1.alloc (.cells #[.int .i64 id,.int .i64 b,.int .i64 0,.int .i64 0,.int .i64 0,.int .i64 0] 133))=X1 at *;refine(U7 _).mono ?_;rintro e w2 ⟨rfl,⟨vm,fJ,ho2⟩,hb2⟩;obtain⟨hR1,hB1,hs2⟩:=af fN;have Oy:=hb2.size;have hR2:=hR1.keep (fun i au=>hb2.block i au) hb2.size ae ae;obtain⟨base,hbase⟩:=bP X1.heap.size;obtain⟨mb,eH⟩:=bP (X1.heap.size+1);have hB2:aw w w2:=hB1.trans (hb2.mono ae);rw[<- eH]at fJ ⊢;rw[<- hbase]at ho2 hs2 Oy;have sL:base<mb:=ae;have Oz:=ag (ago mb base id h1 h2 h3 h4 h5 q n k kc op sz bM vm (List.replicate 12 0) w2 fJ ho2 hR2.g Oy ae ae hn aX);unfold dK at Oz;obtain⟨q0,q1,q2,q3,q4,q5,q6,q7,q8,q9,q10,vS,p_⟩:=hR2.qu.cells;have gv:=ag (bQ hR2 hB2);clear hR2 hB2 fJ ho2 hb2 hR1 hB1 fN hbase eH;go_wp2_with fail;refine Oz.mono ?_;rintro e w3 ⟨rfl,⟨N9,Gi,cI,qa,ru⟩,hb3⟩;obtain⟨hR2,hB2⟩:=af gv;have iR:=hR2.keep (fun i au=>hb3.block i au) hb3.size ae ae;have gu:aw w w3:=hB2.trans (hb3.mono ae);have agz:base<=w3.heap.size:=a_ Oy hb3.size;clear q0 q1 q2 q3 q4 q5 q6 q7 q8 q9 q10 vS p_;obtain⟨q0,q1,q2,q3,q4,q5,q6,q7,q8,q9,q10,vS,p_⟩:=iR.qu.cells;obtain⟨g0,g1,g2,g3,g4⟩:=dG.cells iR.an;have OA:=ag (agx w3 iR.g);unfold dK at OA;have eN:Hid (dB w3 mb base (List.replicate 12 0++q) (jo 12 n)):=⟨N9,Gi,cI,qa,ru⟩
 have jM:=ag (bQ iR gu);clear cI qa ru iR gu hR2 hB2 gv Oz hb3;go_wp2_with fail;refine OA.mono ?_;rintro e w4 ⟨rfl,hb4⟩;obtain⟨iR,gu⟩:=af jM;have cI:=af eN;have nh:=iR.keep (base:=base) (fun i au=>hb4.block i ae) hb4.size ae ae;have iM:aw w w4:=gu.trans (hb4.mono ae);have hm4:=cI.below hb4;have aqr:base<=w4.heap.size:=a_ agz hb4.size;clear q0 q1 q2 q3 q4 q5 q6 q7 q8 q9 q10 vS p_ g0 g1 g2 g3 g4;obtain⟨q0,q1,q2,q3,q4,q5,q6,q7,q8,q9,q10,vS,p_⟩:=nh.qu.cells;obtain⟨g0,g1,g2,g3,g4⟩:=dG.cells nh.an;have V4:Hid (∀W,aF 138 #[.agg #[aq id,aq h1,aq h2,aq h3,aq h4,aq h5,aA q,aA n,aq k,aq kc,.bool op,aq sz,aq bM]] W (cS (aq lim) W)):=af agy;have o7:Hid (∀W lb,aw w4 W->W.heap[lb]? = some (.cells #[.slice aa n0 ca,.slice ab n1 cb,.slice ac n2 cc] 41)->w4.heap.size<=lb->aF 137 #[aO mb,aq (lim - (L.length:Int)),aU lb 0 3 3] W fun e w' =>
   ∃nb,e=.returned (aU nb 0 3 3)/\(w'.cell? (ar w.heap.size 0)=some (aq id)/\w'.cell? (ar w.heap.size 1)=some (aq h1)/\w'.cell? (ar w.heap.size 2)=some (aq h2)/\w'.cell? (ar w.heap.size 3)=some (aq h3)/\w'.cell? (ar w.heap.size 4)=some (aq h4)/\w'.cell? (ar w.heap.size 5)=some (aq h5)/\w'.cell? (ar w.heap.size 6)=some (aA q)/\w'.cell? (ar w.heap.size 7)=some (aA n)/\w'.cell? (ar w.heap.size 8)=some (aq k)/\w'.cell? (ar w.heap.size 9)=some (aq kc)/\w'.cell? (ar w.heap.size 10)=some (.bool op)/\w'.cell? (ar w.heap.size 11)=some (aq sz)/\w'.cell? (ar w.heap.size 12)=some (aq bM)/\w'.cell? (ar (w.heap.size+1) 2)=some (.slice aa n0 ca)/\w'.cell? (ar (w.heap.size+1) 3)=some (.slice ab n1 cb)/\w'.cell? (ar (w.heap.size+1) 4)=some (.slice ac n2 cc))/\Hid (w4.heap.size<=nb/\eW w' nb [(c0:Int),az,c2] 3/\Be w.heap.size w1.heap.size id h1 h2 h3 h4 h5 q n k kc op sz bM rc (.bool bz) (.slice aa n0 ca) (.slice ab n1 cb) (.slice ac n2 cc) [(id:Int),b,0,0,0,0] w'/\aw w w'/\base<=w'.heap.size/\dB w' mb base S2.1 S2.2)):=by
  intro W lb hb xm hle;have aqs:=hm4.lt;have hR:=nh.keep (base:=base) (fun i au=>hb.block i ae) hb.size ae ae;have aqt:=hb.size;refine(vL W mb base lb (iM.trans (hb.mono ae)) ae ae ae (hm4.below hb) xm ae).mono ?_;rintro e w' ⟨rfl,kW,m5,t5⟩;have kH:=hR.keep (base:=base) (fun i au=>t5.block i ae ae (.inl au)) t5.size ae ae;have agA:aw w W:=iM.trans (hb.mono ae);have Jc:=t5.size;obtain⟨q0,q1,q2,q3,q4,q5,q6,q7,q8,q9,q10,vS,p_⟩:=kH.qu.cells;obtain⟨_,_,g2,g3,g4⟩:=dG.cells kH.an;refine⟨W.heap.size+3,rfl,⟨q0,q1,q2,q3,q4,q5,q6,q7,q8,q9,q10,vS,p_,g2,g3,g4⟩,ae,kW,kH,agA.trans (show Below w.heap.size W w' from⟨t5.os,t5.tape,t5.output,t5.size,fun i au=>t5.block i ae ae (.inl ae)⟩),ae,m5⟩
 have oU:=ag (bQ nh iM);have hS:w4.drew.cell? (ar w.heap.size 0)=some (aq id)/\w4.drew.cell? (ar w.heap.size 1)=some (aq h1)/\w4.drew.cell? (ar w.heap.size 2)=some (aq h2)/\w4.drew.cell? (ar w.heap.size 3)=some (aq h3)/\w4.drew.cell? (ar w.heap.size 4)=some (aq h4)/\w4.drew.cell? (ar w.heap.size 5)=some (aq h5)/\w4.drew.cell? (ar w.heap.size 6)=some (aA q)/\w4.drew.cell? (ar w.heap.size 7)=some (aA n)/\w4.drew.cell? (ar w.heap.size 8)=some (aq k)/\w4.drew.cell? (ar w.heap.size 9)=some (aq kc)/\w4.drew.cell? (ar w.heap.size 10)=some (.bool op)/\w4.drew.cell? (ar w.heap.size 11)=some (aq sz)/\w4.drew.cell? (ar w.heap.size 12)=some (aq bM)/\w4.drew.cell? (ar (w.heap.size+1) 2)=some (.slice aa n0 ca)/\w4.drew.cell? (ar (w.heap.size+1) 3)=some (.slice ab n1 cb)/\w4.drew.cell? (ar (w.heap.size+1) 4)=some (.slice ac n2 cc):=⟨q0,q1,q2,q3,q4,q5,q6,q7,q8,q9,q10,vS,p_,g2,g3,g4⟩
 clear cI iR gu jM eN nh iM hm4 OA hb4;have agB:=ag (bQ pk (bQ rB (bQ xF (bQ hl2 (bQ hc0 (bQ hc1 hc2))))));clear pk rB xF hl2 hc0 hc1 hc2 hn hq;go_wp2_with fail
 go_region_held (fun w'=>w'.cell? (ar w.heap.size 0)=some (aq id)/\w'.cell? (ar w.heap.size 1)=some (aq h1)/\w'.cell? (ar w.heap.size 2)=some (aq h2)/\w'.cell? (ar w.heap.size 3)=some (aq h3)/\w'.cell? (ar w.heap.size 4)=some (aq h4)/\w'.cell? (ar w.heap.size 5)=some (aq h5)/\w'.cell? (ar w.heap.size 6)=some (aA q)/\w'.cell? (ar w.heap.size 7)=some (aA n)/\w'.cell? (ar w.heap.size 8)=some (aq k)/\w'.cell? (ar w.heap.size 9)=some (aq kc)/\w'.cell? (ar w.heap.size 10)=some (.bool op)/\w'.cell? (ar w.heap.size 11)=some (aq sz)/\w'.cell? (ar w.heap.size 12)=some (aq bM)/\w'.cell? (ar (w.heap.size+1) 2)=some (.slice aa n0 ca)/\w'.cell? (ar (w.heap.size+1) 3)=some (.slice ab n1 cb)/\w'.cell? (ar (w.heap.size+1) 4)=some (.slice ac n2 cc)) (first|assumption|go_keep)
  (first
   | (go_at_call 138;go_loud (refine(V4 _).mono ?_;rintro e w5 ⟨rfl,hb5⟩;have OB:=agt hb5 (by assumption)))
   | (go_at_call 137;refine(o7 _ _ ((bj.drew.trans hb5).alloc hb5.size _) (World.alloc_heap_new _ _) hb5.size).mono ?_;rintro e w6 ⟨nb,rfl,J4,Gu⟩)
   | (go_at_call 137;refine(o7 _ _ ((bj.alloc aB _).drew.trans (hb5.mono ak)) ((hb5.block _ ak).trans (World.alloc_heap_new w4 _)) aB).mono ?_;rintro e w6 ⟨nb,rfl,J4,Gu⟩))
 all_goals
  rename_i hH;obtain⟨pk,rB,xF,hl2,hc0,hc1,hc2⟩:=af agB;clear hH J4 hb5 OB o7 V4 oU hS q0 q1 q2 q3 q4 q5 q6 q7 q8 q9 q10 vS p_ g0 g1 g2 g3 g4;obtain⟨aqu,kW,DK,rC,agC,yQ⟩:=af Gu;have z0:=kW.cell 0 ak;have z1:=kW.cell 1 ak;have z2:=kW.cell 2 ak;simp only[dS,ej]at z0 z1 z2;obtain⟨g0,g1,g2,g3,g4⟩:=dG.cells DK.an;have Bg:=ag (bQ kW (bQ DK (bQ rC yQ)));clear kW DK rC yQ Gu;go_upto_region 8 with fail
  go_cut [57]from 42 (fun v wx=>v=.bool tc/\Hid (∃m,wx=w6.drewN m))
  case first =>
   by_cases hz0:(c0:Int)<(n0:Int)
   ·have ur:=af V3;have nc:decide ((c0:Int)<(n0:Int))=true:=jY hz0;rw[nc,abW]at ur;subst ur;go_quiet (fail);go_wp2_with fail;go_meet;exact⟨rfl,_,rfl⟩
   ·have ur:=af V3;have nc:decide ((c0:Int)<(n0:Int))=false:=hP hz0;rw[nc,Ml]at ur;by_cases hz1:(az:Int)<(n1:Int)
    ·have fH:decide ((az:Int)<(n1:Int))=true:=jY hz1;rw[fH]at ur;subst ur;go_quiet (fail);go_wp2_with fail;go_meet;exact⟨rfl,_,rfl⟩
    ·have fH:decide ((az:Int)<(n1:Int))=false:=hP hz1;rw[fH]at ur;subst ur;go_quiet (fail);go_wp2_with fail;go_meet;exact⟨rfl,_,rfl⟩
  case rest =>
  obtain⟨rfl,V5⟩:=hcut;obtain⟨nq,rfl⟩:=af V5;clear V5;have hD:aw w6 (w6.drewN nq):=vv bj nq;obtain⟨kW,DK,rC,yQ⟩:=af Bg;have jD:=DK.keep (base:=base) (fun i au=>hD.block i ae) hD.size ae ae;have uu:eW (w6.drewN nq) nb [(c0:Int),az,c2] 3:=(hD.block nb kW.lt).trans kW;have yY:=yQ.below hD;have pq:aw w (w6.drewN nq):=rC.trans (hD.mono rC.size);have Gv:base<=(w6.drewN nq).heap.size:=a_ agC hD.size;clear kW DK rC yQ Bg z0 z1 z2 g0 g1 g2 g3 g4 hD;generalize w6.drewN nq=w7 at *;have z0:=uu.cell 0 ak;have z1:=uu.cell 1 ak;have z2:=uu.cell 2 ak;simp only[dS,ej]at z0 z1 z2;have y2:=jD.hd.cell 2 ak;have y3:=jD.hd.cell 3 ak;have y4:=jD.hd.cell 4 ak;have mA:=jD.hd.cell 5 ak;simp only[dS,ej]at y2 y3 y4 mA;have DL:=jD.hd.frozen;have agD:nb≠w1.heap.size:=ae;have y1:=jD.hd.cell 1 ak;simp only[dS,ej]at y1;have pX:=af ji;have Bh:∀i,i≠w1.heap.size->(w7.setCell ⟨w1.heap.size,1,none⟩ (.int .i64 b2)).heap[i]? = w7.heap[i]?:=fun i au=>bf _ _ _ _ au;have V6:(∀cur,w7.heap[w1.heap.size]?≠some (.cells cur 5 (0,0)))/\∀cur,w7.heap[w1.heap.size]?≠some (.cells cur 343 (0,0)):=by
   have:=jD.hd;unfold eW at this;exact⟨fun c hc=>by rw[this]at hc;simp at hc,fun c hc=>by rw[this]at hc;simp at hc⟩
  have J5:(w7.setCell ⟨w1.heap.size,1,none⟩ (.int .i64 b2)).heap.size=w7.heap.size:=by simp[World.setCell]
  have OC:Hid (Be w.heap.size w1.heap.size id h1 h2 h3 h4 h5 q n k kc op sz bM rc (.bool bz) (.slice aa n0 ca) (.slice ab n1 cb) (.slice ac n2 cc) [(id:Int),b2,0,0,0,0] (w7.setCell ⟨w1.heap.size,1,none⟩ (.int .i64 b2))/\dB (w7.setCell ⟨w1.heap.size,1,none⟩ (.int .i64 b2)) mb base S2.1 S2.2/\aw w (w7.setCell ⟨w1.heap.size,1,none⟩ (.int .i64 b2))/\eW (w7.setCell ⟨w1.heap.size,1,none⟩ (.int .i64 b2)) nb [(c0:Int),az,c2] 3/\base<=(w7.setCell ⟨w1.heap.size,1,none⟩ (.int .i64 b2)).heap.size):=by
   obtain⟨g0',agE,gc'⟩:=jD.g;exact⟨⟨jD.qu.kept (Bh _ ae),(Bh _ ae).trans jD.an,jD.hd.set 1 b2,⟨by rw[J5];exact g0',agE,(dC (Bh 0 ae)).trans gc'⟩⟩,(DG (JY yY) V6 ae Bh).msg,pq.trans ⟨rfl,rfl,rfl,by rw[J5];exact aL _,fun i au=>Bh i ae⟩,(Bh nb agD).trans uu,by rw[J5];exact Gv⟩
  have J6:=ag (bQ jD (bQ yY (bQ pq (bQ uu Gv))));clear jD yY pq uu Bh V6 J5 z0 z1 z2 y2 y3 y4 mA Gv
  go_upto_if 57 with fail
  go_cut []from 58 (fun wx=>Hid (Be w.heap.size w1.heap.size id h1 h2 h3 h4 h5 q n k kc op sz bM rc (.bool bz) (.slice aa n0 ca) (.slice ab n1 cb) (.slice ac n2 cc) [(id:Int),b2,0,0,0,0] wx/\dB wx mb base S2.1 S2.2/\aw w wx/\eW wx nb [(c0:Int),az,c2] 3/\base<=wx.heap.size))
  case first =>
   cases tc with
   | true =>
    simp only[rA,pM]at pX;clear J6;go_wp2_with fail;go_meet;exact OC
   | false =>
    simp only[rA,zT,Ag]at pX;rw[pX]at J6;clear OC;go_wp2_with fail;go_meet;exact J6
  case rest =>
  obtain⟨jD,yY,pq,uu,Gv⟩:=af hcut;clear OC J6 y1 DL pX hcut;generalize wc=qc at *;have z0:=uu.cell 0 ak;have z1:=uu.cell 1 ak;have z2:=uu.cell 2 ak;simp only[dS,ej]at z0 z1 z2;have y2:=jD.hd.cell 2 ak;have y3:=jD.hd.cell 3 ak;have y4:=jD.hd.cell 4 ak;have mA:=jD.hd.cell 5 ak;simp only[dS,ej]at y2 y3 y4 mA;have DL:=jD.hd.frozen;have Bi:=ag (bQ jD (bQ yY pq));clear jD yY pq uu;go_wp2_with fail
  go_region
  have V7:Hid (eG ((((qc.setCell ⟨w1.heap.size,2,none⟩ (.int .i64 1)).setCell ⟨w1.heap.size,3,none⟩ (.int .i64 c0)).setCell ⟨w1.heap.size,4,none⟩ (.int .i64 az)).setCell ⟨w1.heap.size,5,none⟩ (.int .i64 c2)).drew w.heap.size id h1 h2 h3 h4 h5 q n k kc op sz bM/\eW ((((qc.setCell ⟨w1.heap.size,2,none⟩ (.int .i64 1)).setCell ⟨w1.heap.size,3,none⟩ (.int .i64 c0)).setCell ⟨w1.heap.size,4,none⟩ (.int .i64 az)).setCell ⟨w1.heap.size,5,none⟩ (.int .i64 c2)).drew w1.heap.size [(id:Int),b2,1,c0,az,c2] 133/\dB ((((qc.setCell ⟨w1.heap.size,2,none⟩ (.int .i64 1)).setCell ⟨w1.heap.size,3,none⟩ (.int .i64 c0)).setCell ⟨w1.heap.size,4,none⟩ (.int .i64 az)).setCell ⟨w1.heap.size,5,none⟩ (.int .i64 c2)).drew mb base S2.1 S2.2/\aw w ((((qc.setCell ⟨w1.heap.size,2,none⟩ (.int .i64 1)).setCell ⟨w1.heap.size,3,none⟩ (.int .i64 c0)).setCell ⟨w1.heap.size,4,none⟩ (.int .i64 az)).setCell ⟨w1.heap.size,5,none⟩ (.int .i64 c2)).drew/\base<=(((((qc.setCell ⟨w1.heap.size,2,none⟩ (.int .i64 1)).setCell ⟨w1.heap.size,3,none⟩ (.int .i64 c0)).setCell ⟨w1.heap.size,4,none⟩ (.int .i64 az)).setCell ⟨w1.heap.size,5,none⟩ (.int .i64 c2)).drew).heap.size):=by
   obtain⟨jD,yY,pq⟩:=af Bi;have hh:=(((jD.hd.set 2 1).set 3 c0).set 4 az).set 5 c2;have hne:∀i,i≠w1.heap.size->(((((qc.setCell ⟨w1.heap.size,2,none⟩ (.int .i64 1)).setCell ⟨w1.heap.size,3,none⟩ (.int .i64 c0)).setCell ⟨w1.heap.size,4,none⟩ (.int .i64 az)).setCell ⟨w1.heap.size,5,none⟩ (.int .i64 c2)).drew).heap[i]? = qc.heap[i]?:=fun i au =>
    (bf _ _ _ _ au).trans ((bf _ _ _ _ au).trans ((bf _ _ _ _ au).trans (bf _ _ _ _ au)))
   have hsz:(((((qc.setCell ⟨w1.heap.size,2,none⟩ (.int .i64 1)).setCell ⟨w1.heap.size,3,none⟩ (.int .i64 c0)).setCell ⟨w1.heap.size,4,none⟩ (.int .i64 az)).setCell ⟨w1.heap.size,5,none⟩ (.int .i64 c2)).drew).heap.size=qc.heap.size:=by simp[World.setCell,World.drew]
   have vF:(∀cur,qc.heap[w1.heap.size]?≠some (.cells cur 5 (0,0)))/\∀cur,qc.heap[w1.heap.size]?≠some (.cells cur 343 (0,0)):=by
    have:=jD.hd;unfold eW at this;exact⟨fun c hc=>by rw[this]at hc;simp at hc,fun c hc=>by rw[this]at hc;simp at hc⟩
   refine⟨jD.qu.kept (hne _ ae),hh,(DG (JY yY) vF ae hne).msg,?_,by rw[hsz];exact Gv⟩
   ·refine pq.trans (show Below w.heap.size qc ((((qc.setCell ⟨w1.heap.size,2,none⟩ (.int .i64 1)).setCell ⟨w1.heap.size,3,none⟩ (.int .i64 c0)).setCell ⟨w1.heap.size,4,none⟩ (.int .i64 az)).setCell ⟨w1.heap.size,5,none⟩ (.int .i64 c2)).drew from⟨rfl,rfl,rfl,by rw[hsz];exact aL _,fun i au=>hne i ae⟩)
  clear z0 z1 z2 y2 y3 y4 mA DL Bi;generalize ((((qc.setCell ⟨w1.heap.size,2,none⟩ (.int .i64 1)).setCell ⟨w1.heap.size,3,none⟩ (.int .i64 c0)).setCell ⟨w1.heap.size,4,none⟩ (.int .i64 az)).setCell ⟨w1.heap.size,5,none⟩ (.int .i64 c2)).drew=w8 at *;obtain⟨yZ,xG,Gw,y5,OD⟩:=af V7;obtain⟨_,_,_,_,_,_,_,_,_,_,q10,_,_⟩:=yZ.cells;have mA:=xG.cell 5 ak;simp only[dS,ej]at mA;have DL:=xG.frozen;have OE:∀i,i≠w1.heap.size->(w8.setCell ⟨w1.heap.size,5,none⟩ (.int .i64 c3)).heap[i]? = w8.heap[i]?:=fun i au=>bf _ _ _ _ au;have Bj:(w8.setCell ⟨w1.heap.size,5,none⟩ (.int .i64 c3)).heap.size=w8.heap.size:=by simp[World.setCell]
  have OG:Hid (eW (w8.setCell ⟨w1.heap.size,5,none⟩ (.int .i64 c3)) w1.heap.size [(id:Int),b2,1,c0,az,c3] 133/\dB (w8.setCell ⟨w1.heap.size,5,none⟩ (.int .i64 c3)) mb base S2.1 S2.2/\aw w (w8.setCell ⟨w1.heap.size,5,none⟩ (.int .i64 c3))/\base<=(w8.setCell ⟨w1.heap.size,5,none⟩ (.int .i64 c3)).heap.size):=by
   have vF:(∀cur,w8.heap[w1.heap.size]?≠some (.cells cur 5 (0,0)))/\∀cur,w8.heap[w1.heap.size]?≠some (.cells cur 343 (0,0)):=by
    have:=xG;unfold eW at this;exact⟨fun c hc=>by rw[this]at hc;simp at hc,fun c hc=>by rw[this]at hc;simp at hc⟩
   refine⟨agv xG c3,(DG (JY Gw) vF ae OE).msg,?_,by rw[Bj];exact OD⟩;exact y5.trans (show Below w.heap.size w8 (w8.setCell ⟨w1.heap.size,5,none⟩ (.int .i64 c3))from⟨rfl,rfl,rfl,by rw[Bj];exact aL _,fun i au=>OE i ae⟩)
  have OH:=ag (bQ xG (bQ Gw (bQ y5 OD)));have hc3:=af mU;clear xG Gw y5 OD V7 yZ OE Bj
  go_upto_if 74 with fail
  go_cut []from 75 (fun wx=>Hid (eW wx w1.heap.size [(id:Int),b2,1,c0,az,c3] 133/\dB wx mb base S2.1 S2.2/\aw w wx/\base<=wx.heap.size))
  case first =>
   cases op with
   | true =>
    have aqv:(c2:Int)+1=(c3:Int):=by simp only[cond]at hc3;omega
    clear hc3 OH;go_wp2_with fail;go_meet;exact OG
   | false =>
    simp only[cond]at hc3;subst hc3;clear OG;go_wp2_with fail;go_meet;exact OH
  case rest =>
  have aqw:c3<=3002:=by cases op <;> simp only[cond]at hc3 <;> omega
  clear hc3 OG OH mA DL;have OI:=hcut;clear hcut;generalize wc=w8 at *;have Bj:w8.heap.size=w8.heap.size:=rfl;obtain⟨xH,DM,rD,aqx⟩:=af OI;have agF:=DM.lt;have hnew:=World.alloc_heap_new w8 (.cells #[.iface 224 (.string (ah L))] 297);rw[Bj]at hnew;have o_:Hid (aF 139 #[aO mb,aU w8.heap.size 0 1 1] (w8.alloc (.cells #[.iface 224 (.string (ah L))] 297)) fun e w'=>e=.returned (.tuple #[])/\dB w' mb base (S2.1++bY [ct L]) S2.2/\bF mb base (w8.alloc (.cells #[.iface 224 (.string (ah L))] 297)) w') :=
   Gc mb base w8.heap.size 1 [ct L] S2.1 S2.2 (w8.alloc (.cells #[.iface 224 (.string (ah L))] 297)) (DM.below (bj.alloc aB _)) aX
   (fun f hf=>by simp at hf;subst hf;exact iO _) (by rw[dI,Bj];omega) (by rw[Bj]at agF;omega) (.inr fun cur h=>by rw[hnew]at h;simp at h)
   (fun j hj=>by
    match j,hj with
    | 0,_=>unfold World.cell?; rw[hnew];rfl
    | j+1,hj=>simp at hj) ak ak (by
     simp only[bY,ct,tG,Sp,jt];omega)
  clear hnew xH DM rD;go_wp2_with fail;refine o_.mono ?_;rintro e w9 ⟨rfl,V8,V9⟩;obtain⟨xG,Gw,y5,agG⟩:=af OI;have y7:bF mb base w8 w9:=(bF.mX (bj.alloc aB _)).trans V9;have xH:eW w9 w1.heap.size [(id:Int),b2,1,c0,az,c3] 133:=(y7.block _ ae ae (.inl ae)).trans xG;have rD:aw w w9:=y5.trans (show Below w.heap.size w8 w9 from⟨y7.os,y7.tape,y7.output,y7.size,fun i au=>y7.block i ae ae (.inl ae)⟩);have agH:base<=w9.heap.size:=a_ agG y7.size;rw[show bY [ct L]=L by simp[bY,ct]]at V8;obtain⟨agI,agJ,DM,V_,_⟩:=V8;have x0:=xH.cell 0 ak;have x1:=xH.cell 1 ak;have x2:=xH.cell 2 ak;have x3:=xH.cell 3 ak;have x4:=xH.cell 4 ak;have x5:=xH.cell 5 ak;simp only[dS,ej]at x0 x1 x2 x3 x4 x5;have HU:Hid (aF 131 #[aO mb,.agg #[aq id,aq b2,aq 1,aq c0,aq az,aq c3]] w9 fun e w'=>e=.returned (aA (bY (gG id b2 1 c0 az c3)++(S2.1++L).drop 12))/\NS mb base w9 w') :=
   VM mb base id b2 1 c0 az c3 agI agJ _ w9 DM V_ agH (by simp only[bU];omega) (by simp only[bU];omega) pk hb2 ae ae ae ae
  have agK:=ag rD;clear xG Gw y5 DM V_ V9 y7 xH rD o_ OI;go_wp2_with fail;refine HU.mono ?_;rintro e w10 ⟨rfl,DN⟩;have rD:=af agK;have agL:Hid (aw w w10):=rD.trans (show Below w.heap.size w9 w10 from⟨DN.os,DN.tape,DN.output,DN.size,fun i au=>DN.block i ae ae (.inl ae)⟩);clear DN rD HU x0 x1 x2 x3 x4 x5;go_wp2;go_ret;exact⟨rfl,agL⟩
theorem fR.Wa{w w':World}{t:TypeId}{sz:Nat}{v v':Value}(h:fR w w' t sz v v'):fR w w' t sz v v:=⟨h.row,fun _ hg=>.inl ⟨hg,aL _⟩⟩
theorem agM(mb base b off cap:Nat)(size:Int)(aI:aj->List dH)(rs:List aj)(ps:cH)(l:ai)(w:World)(hm:dB w mb base l ps)(kG:gw ps)(hg:bH w)(bL:base<=w.heap.size)(hb0:0<base)(hm0:0<mb)
  (hr:dz w b off rs) (kA:b<base) (sL:b≠mb) (fw:rs.length<=cap) (hlen:rs.length<=3001) (bE:∀r∈rs,na r (aI r)) (hl:(cT aI rs l ps).1.length<=50000) (hp:(cT aI rs l ps).2.length<=20000) (hsz:size<((cT aI rs l ps).1.length:Int)) :
  aF 203 #[aO mb,aq size,aU b off rs.length cap] w fun e w' =>
   e=.returned (.bool false)/\dB w' mb base l ps/\bF mb base w w':=by
 have xw:=ag hm;obtain⟨vb,vp,ry,ho,xx⟩:=hm;obtain⟨a1,n1,az,rfl⟩:=oy ho;obtain⟨a2,n2,c2,rfl⟩:=oy xx;obtain⟨m0,m1⟩:=ry.cells;have mY:=ry.lt;have Gm:bF mb base w (w.alloc (.cells #[.slice a1 n1 az,.slice a2 n2 c2] 283)):=bF.mX (bj.alloc aB _);have bA:=ag (show dB (w.alloc (.cells #[.slice a1 n1 az,.slice a2 n2 c2] 283)) mb base l ps from xw.below (bj.alloc aB _));have ja:=ag Gm;have HOLD:=ag (bQ ry (bQ ho xx));have agN:Hid (cG (w.alloc (.cells #[.slice a1 n1 az,.slice a2 n2 c2] 283)) w.heap.size (.slice a1 n1 az) (.slice a2 n2 c2)):=World.alloc_heap_new w _;have agO:w.heap.size≠mb:=ae;have HG:=ag hg;have aT:=ag hr;have ew:=ag bE;have rp:=ag kG;have oY:=hr.1;clear ry ho xx hg hr bE Gm xw kG;go_enter func203,ntmps203;go_wp2_with fail
 go_loopw [15] (fun i wr=>∃(k:Nat),i=aq k/\k<=rs.length/\dB wr mb base (cT aI (rs.take k) l ps).1 (cT aI (rs.take k) l ps).2/\bF mb base w wr/\cG wr w.heap.size (.slice a1 n1 az) (.slice a2 n2 c2)) (fun i _=>rs.length - (intOf i).toNat)
 case atStart=>exact⟨0,rfl,dY _,bA,ja,agN⟩
 case round =>
  obtain⟨k,rfl,hk,nR,nT,Bk⟩:=hrel;have kF:=ag Bk;have agP:=Bk.lt;have Gn:=ag nR;have Oj:=ag nT;have fc:=nT.size;by_cases hlt:k<rs.length
  ·have tQ:(k:Int)<(rs.length:Int):=ae;have mz:=vy (af aT) nT.size (nT.block b oY sL (.inl kA));obtain⟨q0,q1,q2,q3⟩:=mz.four k hlt;have iP:=af ew rs[k] (iV hlt);have xy:=ag (VD aI rs k hlt l ps);have vL:=ag (VJ aI rs (af ew) l ps (k+1));have pj:=ag ((Dz aI (rs.take k) (fun f hf=>af ew f (Fa hf)) l ps).2.2 (af rp));have hgr:=(HG.tg nT hb0 hm0)
   have hW0:aw wr (wr.alloc (.cells #[.string (ah rs[k].owner),.int .i64 rs[k].aV,.int .i64 rs[k].type,.string (ah rs[k].data)] 47)):=bj.alloc aB _;have xz:pg (wr.alloc (.cells #[.string (ah rs[k].owner),.int .i64 rs[k].aV,.int .i64 rs[k].type,.string (ah rs[k].data)] 47)) wr.heap.size rs[k]:=World.alloc_heap_new wr _;obtain⟨r,Ba⟩:=bP (rs[k]);rw[<- Ba]at q0 q1 q2 q3 iP hW0 xz;obtain⟨l1,p1,uo⟩:∃l1 p1,cT aI (rs.take k) l ps=(l1,p1):=⟨_,_,rfl⟩
   have Bb:Hid (cT aI (rs.take (k+1)) l ps=iE r (aI r) l1 p1):=by
    have:=af xy;rw[uo,<- Ba]at this;exact this
   have Ok:Hid (dB wr mb base l1 p1):=by rw[uo]at nR;exact nR
   have Ol:Hid (gw p1):=by have:=af pj;rw[uo]at this;exact this
   clear mz nR nT Ba xy uo Gn pj Bk;have eM:wr.heap.size≠mb:=ae;have HD:Hid (∀W1,aw wr W1->pg W1 wr.heap.size r->aF 254 #[.agg #[aA r.owner,aq r.aV,aq r.type,aA r.data]] W1.drew fun e w'=>∃g cp,e=.returned (aU g 0 (aI r).length cp) /\
     (w'.cell? (ar wr.heap.size 0)=some (aA r.owner)/\w'.cell? (ar wr.heap.size 1)=some (aq r.aV)/\w'.cell? (ar wr.heap.size 2)=some (aq r.type)/\w'.cell? (ar wr.heap.size 3)=some (aA r.data)) /\
     Hid ((aI r).length<=cp/\mZ mb w' g (aI r)/\pg w' wr.heap.size r/\dB w' mb base l1 p1/\bH w'/\(bF mb base w w'/\cG w' w.heap.size (.slice a1 n1 az) (.slice a2 n2 c2)))):=by
    intro W1 hb1 hr1;have xA:aw wr W1.drew:=hb1.drew;refine(iP.data W1.drew (hgr.below xA)).mono ?_;rintro e w' ⟨⟨v,rfl,hv⟩,hb2⟩;obtain⟨g,cp,rfl,ml,p9⟩:=VF (mb:=mb) hv iP.ne (by have:=xA.size;omega);have hr2:pg w' wr.heap.size r:=(hb2.block _ (di.1 hr1).1).trans hr1;have hb3:aw wr w':=xA.trans (hb2.mono xA.size);have sM:bF mb base wr w':=bF.mX hb3;exact⟨g,cp,rfl,hr2.cells,ml,p9,hr2,Ok.below hb3,hgr.below hb3,Oj.trans sM,kF.kept (hb3.block _ agP)⟩
   have Bc:Hid (∀g cp W2,Hid ((aI r).length<=cp/\mZ mb W2 g (aI r)/\pg W2 wr.heap.size r/\dB W2 mb base l1 p1/\bH W2/\(bF mb base w W2/\cG W2 w.heap.size (.slice a1 n1 az) (.slice a2 n2 c2))) ->
     aF 139 #[aO mb,aU W2.heap.size 0 5 5] (W2.alloc (.cells #[.iface 291 (.string (ah r.owner)),.iface 284 (.int .u16 r.type.toNat),.iface 284 (.int .u16 1),.iface 344 (.int .u32 r.aV),.iface 293 (.slice (some ⟨g,0,none⟩) (aI r).length cp)] 297)) fun e w' =>
      e=.returned (.tuple #[])/\(w'.cell? (ar wr.heap.size 0)=some (aA r.owner)/\w'.cell? (ar wr.heap.size 1)=some (aq r.aV)/\w'.cell? (ar wr.heap.size 2)=some (aq r.type)/\w'.cell? (ar wr.heap.size 3)=some (aA r.data)) /\
      Hid (dB w' mb base (cT aI (rs.take (k+1)) l ps).1 (cT aI (rs.take (k+1)) l ps).2/\bF mb base w w'/\cG w' w.heap.size (.slice a1 n1 az) (.slice a2 n2 c2))):=by
    intro g cp W2 hB;obtain⟨ml,p9,hr2,fJ,Gp,cL,hb2⟩:=af hB;have hL:=af vL;rw[af Bb]at hL;refine(VK mb base g cp r (aI r) iP hb0 hm0 l1 p1 W2 Gp p9 ml fJ (af Ol) (a_ bL cL.size) ae ae).mono ?_;rintro e w' ⟨rfl,h2,h3⟩;refine⟨rfl,(VL hr2 h3 eM).cells,?_,cL.trans h3,h3.box hb2 agO aC aC⟩;rw[af Bb];exact h2
   have x1:IntKind.u16.wrap r.type=(r.type.toNat:Int):=by
    have h1:=iP.typ.1;have h2:=iP.typ.2;rw[jZ];omega
   have x2:IntKind.u32.wrap (r.aV:Int)=(r.aV:Int):=by
    have h1:=iP.aV;rw[Ai];omega
   clear iP vL hgr Bb;obtain⟨tn,htn⟩:=bP r.type.toNat;rw[<- htn]at x1 Bc;clear htn;go_wp2_with fail;have o9:=ag (HD _ hW0 xz);have hS1:=xz.cells;clear hW0 xz HD q0 q1 q2 q3;generalize (wr.alloc (.cells #[.string (ah r.owner),.int .i64 r.aV,.int .i64 r.type,.string (ah r.data)] 47))=W1 at *;have hS:(W1.drew.cell? (ar wr.heap.size 0)=some (aA r.owner)/\W1.drew.cell? (ar wr.heap.size 1)=some (aq r.aV)/\W1.drew.cell? (ar wr.heap.size 2)=some (aq r.type)/\W1.drew.cell? (ar wr.heap.size 3)=some (aA r.data)):=hS1;clear hS1
   go_region_held (fun w'=>w'.cell? (ar wr.heap.size 0)=some (aA r.owner)/\w'.cell? (ar wr.heap.size 1)=some (aq r.aV)/\w'.cell? (ar wr.heap.size 2)=some (aq r.type)/\w'.cell? (ar wr.heap.size 3)=some (aA r.data)) (first|assumption|go_keep)
    (first
     | (go_at_call 254;go_loud (refine o9.mono ?_;rintro e w2 ⟨g,cp,rfl,eU,eu⟩))
     | (go_at_call 139;go_loud (refine(Bc _ _ _ eu).mono ?_;rintro e w3 ⟨rfl,iF,jI⟩)))
   rename_i hH;clear hH hS eU iF eu o9 Bc;go_wp2_with fail;obtain⟨h1,h3,h4⟩:=af jI;exact⟨⟨k+1,dD,ae,h1,h3,h4⟩,gN⟩
  ·have eJ:k=rs.length:=ae;subst eJ;rw[jV]at nR;have bg:=ag nT;obtain⟨vb1,afY,hm1,ho1,_⟩:=nR;obtain⟨ab,cb,rfl⟩:=VC ho1;obtain⟨c0,c1'⟩:=hm1.cells;obtain⟨f0,f1⟩:=Bk.cells;have FY:size<(((cT aI rs l ps).1).length:Int):=hsz;have hfz:=hm1.frozen;have aqy:∀u,(wr.setCell ⟨mb,0,none⟩ u).frozen? (ar mb 1)=false:=fun u=>(hm1.set0 u).frozen 1;have c4:=ag hm1;clear hm1 ho1 nT Gn hsz Bk;generalize (cT aI rs l ps).1.length=N at *;go_wp2;go_ret;obtain⟨ry,ho,xx⟩:=af HOLD;have hk:=bg.kp _ _ ry;obtain⟨cE,cC,my,s1,s2⟩:=hk;have n1':some mb≠(Value.slice a1 n1 az).ownBlock:=F8 ry ho;have Gx:some mb≠(Value.slice a2 n2 c2).ownBlock:=N1 ry xx;have Bl:=(c4.set0 (.slice a1 n1 az)).set1 (.slice a2 n2 c2);have hB:=(yI (af c4) (t:=5) aC 0 (.slice a1 n1 az) (.slice a1 n1 az) 1).trans (yI (c4.set0 (.slice a1 n1 az)) aC 1 (.slice a2 n2 c2) _ 1) (by simp[World.setCell]);have bZ:=(yI (af c4) (t:=343) aC 0 (.slice a1 n1 az) (.slice a2 n2 c2) 2).trans (yI (c4.set0 (.slice a1 n1 az)) aC 1 (.slice a2 n2 c2) _ 2) (by simp[World.setCell]);have hT:=af bg;refine⟨rfl,⟨_,_,Bl,jm (jm (s1.UB ho) n1' _ _) n1' _ _,jm (jm (s2.UB xx) Gx _ _) Gx _ _⟩,hT.os,hT.tape,hT.output,by simpa [World.setCell]using hT.size,fun i au hm hp=>((bf _ _ _ _ hm).trans (bf _ _ _ _ hm)).trans (hT.block i au hm hp),iC.of ry Bl (s1.Wa.trans hB hT.size) (s2.Wa.trans bZ hT.size)⟩
section
attribute [local go_sem] Oper.semAt_some undef
structure Bo(mb base s:Nat)(w:World)(ds:List Nat)(cs:List Int)(d:Nat)(S:ai×cH)(W:World):Prop where
 b2:aM W (s+2) (aU (s+3) 0 3 3) 56
 b3:eW W (s+3) cs 3
 msg:ll W mb base d S.1 S.2
 tg:bF mb base w W
 defs:∀x∈ds,W.heap[x]? = some (.deferred (some []))
theorem Bo.keeps{mb base s:Nat}{w:World}{ds:List Nat}{cs:List Int}{d:Nat}{S:ai×cH}{W B:World}(h:Bo mb base s w ds cs d S W)(hk:cF d W B)(h1:s+4<d)(h2:mb<d)(h3:w.heap.size<=d)(h4:∀x∈ds,x≠d):Bo mb base s w ds cs d S B :=
 ⟨aM.kept h.b2 (hk.block _ (aM.lt h.b2) ae),(hk.block _ (di.1 h.b3).1 ae).trans h.b3,h.msg.keeps hk ae,h.tg.keeps hk h3,fun x hx=>(hk.block x (di.1 (h.defs x hx)).1 (h4 x hx)).trans (h.defs x hx)⟩
end
end Go.Proofs.YtkkpahmoljiepaaGreatDoor
