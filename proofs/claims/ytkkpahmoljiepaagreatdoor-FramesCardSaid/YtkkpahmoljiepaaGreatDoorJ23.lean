import Derived.Test.YtkkpahmoljiepaaGreatDoorJ22
set_option maxRecDepth 1000000
set_option maxHeartbeats 12800000
set_option linter.unusedSimpArgs false
set_option linter.unusedVariables false
namespace Go.Proofs.YtkkpahmoljiepaaGreatDoor
open Go.RowKit Go.Proofs.Tryz
def ja(a:Value×List ah×Nat):List Value:=[a.1,ak a.2.2]
def fJ(w:World)(base wb:Nat)(v:Value)(es:ey):Prop :=
 ∃a:List (Value×List ah×Nat),a.map (·.2)=es/\w.ownsRow base 301 2 v a.length (a.flatMap ja) /\
  ∀c∈a,ek w (fun b=>b=wb\/some b=v.ownBlock) c.1 c.2.1
structure eQ(wb:Nat)(w:World)(v:Value)(w':World)(v':Value):Prop where
 fr:bG (fun k=>k≠wb/\some k≠v.ownBlock) w w'
 ob:∀k,v'.ownBlock=some k->v.ownBlock=some k\/w.heap.size<=k
theorem eQ.refl(wb:Nat)(w:World)(v:Value):eQ wb w v w v:=⟨bG.refl _ _,fun _ h=>.inl h⟩
theorem eQ.yS{wb:Nat}{w w':World}{v:Value}(h:ax w w'):eQ wb w v w' v:=⟨bG.wI h,fun _ h=>.inl h⟩
section
variable {wb:Nat} {w w' w2:World} {v v' v2:Value}
theorem eQ.trans(h:eQ wb w v w' v')(k:eQ wb w' v' w2 v2):eQ wb w v w2 v2 where
 fr:=⟨k.fr.os.trans h.fr.os,k.fr.tape.trans h.fr.tape,k.fr.output.trans h.fr.output,aZ h.fr.size k.fr.size,fun b ao c=>(k.fr.block b (cp ao h.fr.size) ⟨c.1,fun a=>(h.ob b a.symm).elim (fun a=>c.2 a.symm) (fun a=>ae)⟩).trans (h.fr.block b ao c)⟩
 ob:=fun b ao=>(k.ob b ao).elim (h.ob b) (fun a=>.inr (aZ h.fr.size a))
theorem eQ.nm(h:eQ wb w v w' v'){i:Value}{g:List ah}(o:ek w (fun b=>b=wb\/some b=v.ownBlock) i g):ek w' (fun b=>b=wb\/some b=v'.ownBlock) i g:=by obtain⟨d,p,j,k,l,e,c⟩:=o;refine⟨d,p,j,k,l,e.fr h.fr ⟨fun a=>c (.inl a),fun a=>c (.inr a)⟩,fun n=>n.elim (fun a=>c (.inl a)) (fun a=>(h.ob d a.symm).elim (fun a=>c (.inr a.symm)) (fun a=>?_))⟩;have:=e.1;omega
end
theorem fJ.nil(w:World)(base wb:Nat):fJ w base wb (aJ) []:=⟨[],rfl,e8 w base _ 2,fun b a=>by cases a⟩
theorem CS:∀(a:List (Value×List ah×Nat)),(a.flatMap ja).length=a.length*2
 | []=>rfl
 | b::a=>by rw[eT,a6,CS a,bi];show 2+_=_;omega
section
variable {w:World} {base wb:Nat} {v:Value} {es:ey} (h:fJ w base wb v es)
include h
theorem fJ.slice:∃a b,v=.slice a es.length b:=by obtain⟨c,rfl,h1,_⟩:=h;rw[bD];exact BW
theorem fJ.lt:∀k,v.ownBlock=some k->base<=k/\k<w.heap.size:=by obtain⟨b,_,a,_⟩:=h;exact e9 a
theorem fJ.ne{s:ah}{g:Value}(e:eI w wb s g):some wb≠v.ownBlock:=fun b=>by
 obtain⟨k,_,d,_⟩:=h;rcases d.2 with⟨rfl,_⟩|⟨c,i,j,rfl,_,a,_⟩
 ·cases b
 ·have:wb=c:=by simpa [Value.ownBlock]using b
  subst this;rw[e]at a;simp at a
theorem fJ.below{w':World}(a:ax w w'):fJ w' base wb v es:=by obtain⟨g,b,c,d⟩:=h;exact⟨g,b,eg c a,fun i e=>(d i e).fr (p:=fun _=>True) (bG.wI a) (fun _ _=>aL)⟩
theorem fJ.set(t:some wb≠v.ownBlock)(i:Nat)(b:Value):fJ (w.setCell ⟨wb,i,none⟩ b) base wb v es:=by obtain⟨x,n,e,o⟩:=h;have g:bG (fun j=>j≠wb) w (w.setCell ⟨wb,i,none⟩ b):=bG.kA b (fun _ h=>h);refine⟨x,n,⟨e.1,?_⟩,fun y u=>(o y u).fr g (fun j q a=>q (.inl a))⟩;rcases e.2 with r|⟨d,k,l,rfl,p,c,rest⟩;{exact .inl r};{exact .inr ⟨d,k,l,rfl,p,(g.block d (bn.1 c).1 (fun a=>t (by rw[a];rfl))).trans c,rest⟩}
theorem fJ.ajA{s:ah}{d:Value}(c:eI w wb s d)(a:Nat)(b:Value):fJ (w.setCell ⟨wb,a,none⟩ b) base wb v es:=h.set (h.ne c) a b
theorem fJ.ends:t5 w v es:=by
 obtain⟨e,rfl,p,q⟩:=h;rcases p.2 with⟨i,t⟩|⟨j,l,z,i,A,bu,n,_,B,x⟩;{refine .inl ⟨i,?_⟩;rw[df t];rfl};{
 refine .inr ⟨j,l,by rw[bD];exact i,by rw[bD];exact n,(bn.1 bu).1,fun d g=>?_⟩;rw[bD]at g;have o:∀(c:List (Value×List ah×Nat)) (b a:Nat) (hk:b<c.length),a<2->(c.flatMap ja)[b*2+a]? = (ja c[b])[a]?:=by{
 intro c;induction c with
 | nil=>intro b a hk;simp at hk
 | cons y c u =>{
 intro b a hk ao;have r:(ja y).length=2:=rfl;cases b with
 | zero=>rw[eT,i4,cT,pv ae];rfl
 | succ b =>{rw[eT,lT ae,r,show(b+1)*2+a-2=b*2+a by omega];exact u b a qt ao}}};have k:∀a,a<2->w.cell? (aq j (2*d+a))=(ja e[d])[a]?:=by{intro a ao;rw[mV,<- o e d a g ao,<- x,kS ae];exact ym};rw[kT];exact⟨e[d].1,k 0 ae,(q e[d] (bM g)).nm,k 1 ae⟩}
end
theorem Ks:prog.underlying 227=some (.slice 301):=aB
theorem Kt:(prog.info? 301).map (fun a=>(a.zero,a.size,a.bytes))=some (some (.agg #[aJ,ak 0]),2,32):=aB
theorem Vs(b:World)(h:Nat)(k:h=b.heap.size)(e g:Value)(i:TypeId):∀(d:Nat) (j:Value),[e,g][d]? = some j->(b.alloc (.cells #[e,g] i)).cell? (((aq h 0):Addr).add d)=some j:=fun d j a=>by
 subst k;have c:=World.alloc_heap_new b (.cells #[e,g] i);generalize b.alloc (.cells #[e,g] i)=l at c ⊢;generalize b.heap.size=h at c ⊢
 match d,a with
 | 0,a=>simp at a;subst a;simp[Addr.add,World.cell?,c]
 | 1,a=>simp at a;subst a;simp[Addr.add,World.cell?,c]
 | n+2,a=>simp at a
def cO(a:List ah):List ah:=a.map (List.map fM)
theorem ke(a:List ah):(cO a).length=a.length:=by simp[cO]
theorem Vt(b:List ah)(a:Nat):cO (b.drop a)=(cO b).drop a:=by simp[cO,tf]
def bd:List ah->ah->ey->ah×ey
 | [],b,es=>(b++[0],es)
 | c::d,b,es=>match e7 (cO (c::d)) es with
  | some a=>(b++[ao (49152+a),aV (49152+a)],es)
  | none=>bd d (b++(UInt8.ofNat c.length::c)) (es++[(cO (c::d),b.length)])
theorem oD{d:ah}{c:List ah}{b:ah}{es:ey}{a:Nat}(h:e7 (cO (d::c)) es=some a):bd (d::c) b es=(b++[ao (49152+a),aV (49152+a)],es):=by rw[bd,h]
theorem lx{a:ah}{b:List ah}{c:ah}{es:ey}(h:e7 (cO (a::b)) es=none):bd (a::b) c es=bd b (c++(UInt8.ofNat a.length::a)) (es++[(cO (a::b),c.length)]):=by rw[bd,h]
theorem eI.frozen{w:World}{wb:Nat}{s:ah}{v:Value}(h:eI w wb s v)(i:Nat):w.frozen? (aq wb i)=false:=by unfold eI at h;exact jW
theorem eI.set0{w:World}{wb:Nat}{s:ah}{v:Value}(h:eI w wb s v)(x:ah):eI (w.setCell ⟨wb,0,none⟩ (.string (ai x))) wb x v:=by unfold eI at *;exact yC
theorem eI.set1{w:World}{wb:Nat}{s:ah}{v:Value}(h:eI w wb s v)(a:Value):eI (w.setCell ⟨wb,1,none⟩ a) wb s a:=by unfold eI at *;exact yC
theorem CT(wb:Nat)(w:World)(v:Value)(b:Nat)(a:Value):eQ wb w v (w.setCell ⟨wb,b,none⟩ a) v:=⟨bG.kA a (fun _ h=>h.1),fun _ h=>.inl h⟩
theorem ly{w w2 d:World}{base wb:Nat}{s:ah}{v a:Value}{e:ey}(g:eI w2 wb s a)(h:fJ w2 base wb a e)(i:eQ wb w v w2 a)(c:ax w2 d)(b:ah):eI (d.setCell ⟨wb,0,none⟩ (.string (ai b))) wb b a/\fJ (d.setCell ⟨wb,0,none⟩ (.string (ai b))) base wb a e/\eQ wb w v (d.setCell ⟨wb,0,none⟩ (.string (ai b))) a :=
 ⟨(g.below c).set0 b,(h.below c).ajA (g.below c) 0 _,(i.trans (eQ.yS c)).trans (CT _ _ _ _ _)⟩
theorem In{w i:World}{base wb a:Nat}{v h g:Value}{e:List ah}{c:List (Value×List ah×Nat)}(k:∀d∈c,ek w (fun b=>b=wb\/some b=v.ownBlock) d.1 d.2.1)(n:ek w (fun b=>b=wb\/some b=v.ownBlock) g e)(j:eQ wb w v i h)(l:i.ownsRow base 301 2 h (c.length+1) (c.flatMap ja++[g,ak a])):fJ i base wb h (c.map (·.2)++[(e,a)]):=by
 refine⟨c++[(g,e,a)],by rw[d0];rfl,by rw[a6,jt];exact l,fun d hy=>?_⟩;rcases dv.1 hy with hy|hy;{exact j.nm (k d hy)};{
 obtain rfl:d=_:=sC
 exact j.nm n}
theorem Ku{c:List ah}{a:Nat}: ∀ {es:ey},e7 c es=some a->a<16384
 | d::es,h=>by unfold e7 at h;split at h;{rename_i b;simp at h;subst h;exact b.2};{exact Ku h}
theorem CU(wb base:Nat)(F:ah)(v:Value)(es:ey)(j x bG:Nat)(b:List ah)(w:World)(a3:eI w wb F v)(he:fJ w base wb v es)(hu:gJ w j x b)(c_:b.length<=bG)(bg:j≠wb)(bL:some j≠v.ownBlock)(cS:base<=w.heap.size)(cq:b≠[])(c1:b.length<=300)(bB:∀i∈b,i.length<=255)(cV:F.length<=900000) (bz:∀e∈es,e.1.length<=1000/\e.2<=1000000) (cZ:es.length<=900000):az 144 #[aO wb,aF j x b.length bG] w fun e w'=>e=.returned (.tuple #[])/\∃v',eI w' wb (bd b F es).1 v'/\fJ w' base wb v' (bd b F es).2/\eQ wb w v w' v':=by
 obtain⟨cx,cA,cu,cv,cw⟩:=fO qU;obtain⟨b1,b2,cG,cs,ct⟩:=fO Kt;obtain⟨I,aX⟩:=a2 (bd b F es);rw[<- aX];have cf:=af aX;have bf:=af a3;have aS:=af he;have aD:=af hu;have be:=af bB;have bY:=af bz;have c3:=a3.lt;have bH:=hu.1;clear aX a3 he hu bB bz;go_enter func144,ntmps144;go_wp2_with fail;go_loopw [4,5] (fun cz H wr=>∃k:Nat,H=ak k/\k<=b.length/\nM wr w.heap.size cz ((cO b).take k)/\ax w wr) (fun _ H _=>b.length-(intOf H).toNat);case atStart=>exact⟨0,rfl,b6 _,⟨e8 _ _ _ _,am⟩,bk _ _⟩
 case round =>(
 obtain⟨k,rfl,hk,J,aY⟩:=hrel;have aR:=af aY;have aC:=af J;have cy:=aY.size;clear aY J;by_cases hlk:k<b.length;{
 have ap:wr.cell? (aq j (x+k))=some (.string (ai b[k])):=(aR.cell (p:=⟨j,x+k,none⟩) bH).trans (aD.2 k hlk);have a4:=ag be b[k] (bM hlk);have ch:Hid ((cO b).take (k+1)=(cO b).take k++[b[k].map fM]):=F0;have eJ:Hid (((cO b).take k).length=k):=by rw[Hid,de,ke,kb hk]
 generalize b[k]=i at *;have bJ:=af (G2 i wr ae);have aG:(k:Int)<(b.length:Int):=ae;generalize b3:(cO b).take k=bV at *;clear b3 a4;go_wp2_with fail;refine bJ.mono ?_;rintro e w2 ⟨rfl,l⟩;have bQ:=af l;have cr:=l.size;have gY:=af (eg aC.1 l);have cJ:=ag eJ;clear l bJ ap;go_wp2_with (at_builtin;go_loud (refine oe _ rfl (.tmp 14) (.tmp 20) 113 rfl w.heap.size 9 cx (.string ⟨#[]⟩) 1 16 rH cA cu cv cw rfl ba _ bV.length _ rfl (gY.alloc _) (aq w2.heap.size 0) 1 1 [au (i.map fM)] rfl rfl (vW _ _ _) (fun g hu=>qw) gW ae aA ?_));intro v' n hown' hgrow zC _;have bu:Hid (nM n w.heap.size v' ((cO b).take (k+1))/\ax w n):=by{rw[Hid,ag ch];exact DT};clear hown' hgrow zC;go_wp2;exact⟨⟨k+1,bq,ae,bu.1,bu.2⟩,ci⟩};{
 obtain rfl:k=b.length:=ae;have J:=ag aC;rw[ie (by rw[ke];exact bb _)]at J;have bc:=af J;clear J aC hlk hk;have aG:¬(b.length:Int)<(b.length:Int):=ae;obtain⟨C,ac,bA,cn,cY,aU⟩:=l6 (ag bc) (fun h=>cq (by simpa [cO]using h));rw[ke]at bA cn;subst bA;have bl:some C≠v.ownBlock:=fun e=>by have:=(aS.lt C e.symm).2;omega
 have aa:=af (aQ bL bl);have bP:C≠wb:=ae;have W:Hid (eI wr wb F v/\fJ wr base wb v es/\eQ wb w v wr v):=⟨bf.below aR,aS.below aR,eQ.yS (ag aR)⟩;have bU:=af (aD.below aR);have bT:=af aU;have cN:=aU.1;clear bc bf aS aD aU bL bl;generalize wr=cD at *;go_wp2_with fail;go_loopw [6] (fun H wr=>∃(k:Nat) (c:ah) (al:Value) (d:ey),H=ak k/\k<=b.length/\Hid (bd (b.drop k) c d=I/\eI wr wb c al/\fJ wr base wb al d/\eQ wb cD v wr al)/\c.length<=900000+k*256/\d.length<=900000+k/\Hid (∀e∈d,e.1.length<=1000/\e.2<=1000000)) (fun H _=>b.length-(intOf H).toNat);case atStart=>exact⟨0,F,v,es,rfl,b6 _,⟨cf.symm,W.1,W.2.1,eQ.refl _ _ _⟩,ae,ae,bY⟩
 case round =>(
 obtain⟨k,c,al,d,rfl,hk,aB,b9,cK,bm⟩:=hrel;obtain⟨ab,y,z,o⟩:=ag aB;obtain⟨a8,a9,rfl⟩:=z.slice;obtain⟨cg,ap⟩:=y.cells;have c2:=o.fr.size;by_cases hlk:k<b.length;{
 have bv:=bU.fr o.fr ⟨bg,aa.1⟩;have aW:=bT.fr o.fr ⟨bP,aa.2⟩;have bs:=bv.2 k hlk;have a4:=ag be b[k] (bM hlk);have aI:=fQ hlk;have bn:gJ wr C k ((cO b).drop k):=⟨aW.1,fun a5 a0=>by{have:=aW.2 (k+a5) (by rw[c8]at a0;omega);rw[cT]at this;rw[o_];exact this}⟩;have aJ:ek wr (fun bK=>bK=wb\/some bK=(Value.slice a8 d.length a9).ownBlock) (aF C k (b.length-k) (ac-k)) ((cO b).drop k):=⟨C,k,ac-k,by rw[c8,ke],by rw[c8,ke];omega,bn,fun cm=>cm.elim bP (fun e=>(o.ob C e.symm).elim (fun e=>aa.2 e.symm) (fun e=>ae))⟩;have U:=Vr wb c _ _ d ((cO b).drop k) wr y z.ends aJ.nm (by rw[c8,ke];omega) (ag bm) ae;have aj:Hid (bd (b[k]::b.drop (k+1)) c d=I):=by rw[Hid,<- aI];exact ab
 have M:Hid (cO (b[k]::b.drop (k+1))=(cO b).drop k):=by rw[Hid,<- aI,Vt]
 generalize b[k]=i at *;obtain⟨R,D⟩:∃R,e7 ((cO b).drop k) d=R:=⟨_,rfl⟩;rw[D]at U;obtain⟨X,E⟩:∃X,pV R=X:=⟨_,rfl⟩;rw[E]at U;have T:=af E;have P:=af D;have bN:=af U;have bE:=af aJ;have bo:=af (aQ y (aQ z o));have aG:(k:Int)<(b.length:Int):=ae;clear E D U aJ bn aI bv aW y z ab aB o;go_wp2_with fail;refine bN.mono ?_;rintro e w2 ⟨rfl,l⟩;obtain⟨y,z,o⟩:=ag bo;have L:=y.below l;have cr:=l.size;have aw:=L.lt;obtain⟨cU,bt⟩:=L.cells;have aT:=L.frozen;have aK:w2.cell? (aq j (x+k))=some (au i):=(l.cell (p:=⟨j,x+k,none⟩) (by show j<wr.heap.size;omega)).trans bs;have t:=af (aQ L (aQ (z.below l) (o.trans (eQ.yS l))));have aL:=af ((eQ.yS (wb:=wb) l).nm (ag bE));obtain⟨r,S⟩:=a2 c.length;have bW:(ai c).size=r:=by rw[a7,S]
 rw[<- S]at b9;have aM:=af S;clear y z o L l bN bo bE bs cg ap S;cases R with
 | some a =>{
 have cW:=Ku (ag P);have E:X=(a:Int):=T.symm;subst E;have Q:Hid (I=(c++[ao (49152+a),aV (49152+a)],d)):=by rw[Hid,<- ag aj];exact oD (by rw[ag M];exact P)
 obtain⟨p,Z⟩:=a2 (49152+a);rw[<- Z]at Q;have cB:p<65536:=ae;have da:IntKind.i64.wrap (49152+(a:Int))=(p:Int):=cX
 have cH:(0:Int)<=(a:Int):=ae;have bZ:=af (iC p w2.drew cB);have db:(ai [ao p,aV p]).size=2:=rfl;have c5:ai c++ai [ao p,aV p]=ai (c++[ao p,aV p]):=j9 _ _;have b_:w2.drew.cell? (aq wb 0)=some (au c):=cU;clear Z P aj M aL T aK bt;go_wp2_with fail;go_region_with (go_at_call 83;refine bZ.mono ?_;rintro e n ⟨rfl,Y⟩;have cj:n.cell? (aq wb 0)=some (au c):=(Y.cell (p:=⟨wb,0,none⟩) aw).trans b_;have ck:=fun u=>(lZ (Y.block wb aw)).trans (aT u));all_goals(
 have G:=af (ly t.1 t.2.1 (W.2.2.trans t.2.2) (aE.drew.trans Y) (c++[ao p,aV p]));clear Y cj ck;go_wp2_with fail;try simp only[Exit.inBlock,Exit.then]
 refine cc (sN rfl _ _ _) rfl ?_;rw[ag Q];exact⟨rfl,_,G⟩)}
 | none =>{
 have E:X = -1:=T.symm;subst E;have Q:Hid (bd (b.drop (k+1)) (c++(UInt8.ofNat i.length::i)) (d++[((cO b).drop k,c.length)])=I):=by rw[Hid,<- ag aj,lx (by rw[ag M];exact P),ag M]
 obtain⟨bO,aH,a1,bj⟩:=t.2.1;have ar:bO.length=d.length:=by rw[<- aH,bD]
 have aN:=af (aQ aH bj);rw[ar]at a1;have bh:=af a1;have cL:¬ac=k:=ae;have bp:=t.2.1.ne t.1;clear aH a1 bj P aj M T;go_wp2_with fail;go_region_law (first|(refine step_append_lies _ rfl (.tmp 50) (.tmp 60) 227 rfl base 301 b1 _ 2 32 Ks b2 cG cs ct rfl ba _ (List.length d) (bO.flatMap ja) rfl (eg (ag bh) (aE.alloc av _).drew) _ 1 1 [aF C k (b.length-k) (ac-k),ak r] rfl rfl (fun a5 g a0=>Vs w2 w2.heap.size rfl _ _ _ a5 g a0) (fun g hu=>by simp at hu;rcases hu with rfl|rfl<;>rfl) ba gW ae aA (w2.heap.size+1) am ?_;intro A B n bC hgrow bw c0;have N:eI n wb c (.slice a8 (List.length d) a9):=((hgrow.block wb aA bp).trans (bx _ _ _ aw)).trans t.1;have cl:=N.frozen;have cC:=N.cells.2));all_goals(
 have an:eQ wb w2 (.slice a8 (List.length d) a9) n (aF A 0 (List.length d+1) B):=⟨⟨hgrow.os,hgrow.tape,hgrow.output,aZ am hgrow.size,fun u ao Z=>(hgrow.block u aA Z.2).trans (bx _ _ _ ao)⟩,fun u ao=>by{
 obtain rfl:A=u:=by simpa [Value.ownBlock]using ao
 exact bw.imp id (fun e=>ae)}⟩
 have a_:=In aN.2 (ag aL) an (by rw[ar];exact bC);rw[aN.1]at a_;have O:=N.set1 (aF A 0 (List.length d+1) B);have bF:=a_.ajA N 1 (aF A 0 (List.length d+1) B);have aP:=(t.2.2.trans an).trans (CT wb n _ 1 (aF A 0 (List.length d+1) B));have ca:j<(n.setCell ⟨wb,1,none⟩ (.slice (some ⟨A,0,none⟩) (List.length d+1) B)).heap.size:=cp bH (aZ cy aP.fr.size);have cb:(n.setCell ⟨wb,1,none⟩ (.slice (some ⟨A,0,none⟩) (List.length d+1) B)).cell? (aq j (x+k))=some (au i):=(b7 (a:=⟨j,x+k,none⟩) ((an.trans (CT wb n _ 1 (aF A 0 (List.length d+1) B))).fr.block j ae ⟨bg,fun e=>t.2.2.ob j e.symm |>.elim (fun e=>aa.1 e.symm) (fun e=>ae)⟩)).trans aK;generalize n.setCell ⟨wb,1,none⟩ (.slice (some ⟨A,0,none⟩) (List.length d+1) B)=q at *;obtain⟨bR,cF⟩:=O.cells;have bI:=O.frozen;have br:=O.lt;have V:=af (aQ O (aQ bF aP));obtain⟨K,ay⟩:=a2 (List.length i);obtain⟨g,hu⟩:∃g:UInt8,g=UInt8.ofNat K:=⟨_,rfl⟩;have b0:(ai i).size=K:=by rw[a7,ay]
 have c4:IntKind.u8.wrap (K:Int)=(g.toNat:Int):=uA
 have cd:Hid (bd (b.drop (k+1)) (c++g::i) (d++[((cO b).drop k,r)])=I):=by rw[Hid,hu,ay,ag aM];exact Q
 have cP:K<=255:=ae;have b4:(q.alloc (.cells #[.int .u8 g.toNat] 5)).drew.cell? (aq wb 0)=some (au c):=(b7 (a:=⟨wb,0,none⟩) (bx q _ wb br)).trans bR;have b5:(q.alloc (.cells #[.int .u8 g.toNat] 5)).drew.cell? (aq j (x+k))=some (au i):=(b7 (a:=⟨j,x+k,none⟩) (bx q _ j ca)).trans cb;have b8:∀u,(q.alloc (.cells #[.int .u8 g.toNat] 5)).drew.frozen? (aq wb u)=false:=fun u=>(lZ (a:=⟨wb,u,none⟩) (bx q _ wb br)).trans (bI u);have c7:¬9223372036854775807<r+1:=ae;have c9:¬9223372036854775807<r+1+K:=ae;have bX:(convert 58 9 (aF q.heap.size 0 1 1)).run prog (q.alloc (.cells #[.int .u8 g.toNat] 5)).drew=.ok (au [g]) (q.alloc (.cells #[.int .u8 g.toNat] 5)).drew:=pf q.drew [g] 1 rfl mv;have cI:(ai [g]).size=1:=rfl;have cQ:ai c++ai [g]=ai (c++[g]):=j9 _ _;have c6:ai (c++[g])++ai i=ai (c++[g]++i):=j9 _ _;have dc:(ai (c++[g])).size=r+1:=by rw[a7,a6,<- ag aM];rfl
 clear an a_ N O bF aP bC hgrow bw cl cC hu ay Q aK cU bt aT aN aL bh t bp a4 ar;go_wp2_with fail;go_region;all_goals(
 have D:=ly V.1 V.2.1 V.2.2 aE (c++g::i);have ad:=((bk _ (q.setCell ⟨wb,0,none⟩ (.string (ai (c++g::i))))).alloc av (.cells #[.int .u8 g.toNat] 5)).drew;have G:=af (aQ (D.1.below ad) (aQ (D.2.1.below ad) (D.2.2.trans (eQ.yS ad))));have co:(c++g::i).length=r+1+K:=by rw[a6,<- ag aM,bi,<- a7 i,b0];omega
 have bS:(d++[((cO b).drop k,r)]).length=d.length+1:=am;have ce:Hid (∀e∈d++[((cO b).drop k,r)],e.1.length<=1000/\e.2<=1000000):=fun e he=>by{
 rcases dv.1 he with he|he;{exact bm e he};{
 obtain rfl:e=_:=sJ
 exact⟨by show((cO b).drop k).length<=1000;rw[c8,ke];omega,by show r<=1000000;omega⟩}};clear D ad;clear V b4 b5 b8 bX bR cF bI;go_wp2;exact⟨⟨k+1,_,_,_,bq,ae,⟨cd,G.1,G.2.1,G.2.2⟩,by rw[co];omega,by rw[bS];omega,ce⟩,ci⟩))}};{
 obtain rfl:k=b.length:=ae;have cE:Hid (I=(c++[0],d)):=by{rw[Hid,<- ab,kN];rfl};have aG:¬(b.length:Int)<(b.length:Int):=ae;have aT:=y.frozen;have G:=af (ly y z (W.2.2.trans o) aE (c++[0]));have cR:ai c++⟨#[0]⟩=ai (c++[0]):=j9 c [0];have bW:(ai c).size<=1000000:=gB
 have cM:ByteArray.size ⟨#[0]⟩=1:=rfl;clear y z o ab aB hlk;go_wp2_with fail;refine iI (v:=.tuple #[]) (by simp[results,results144]) rfl ?_;rw[ag cE];exact⟨rfl,_,G⟩})})
end Go.Proofs.YtkkpahmoljiepaaGreatDoor
