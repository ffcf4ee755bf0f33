import Derived.Test.YtkkpahmoljiepabGreatDoorJ09
import Derived.Test.YtkkpahmoljiepabGreatDoorJ12
import Derived.Test.YtkkpahmoljiepabGreatDoorJ11
set_option maxRecDepth 1000000
set_option maxHeartbeats 12800000
set_option linter.all false
open Array renaming size->J
open Bool renaming false->ak,true->aD
open Eq renaming symm->b5,trans->cQ
open Go renaming Addr->gU,Calls->a_,TypeId->dP,Value->bk,World->aQ,callsIn_of_wp_marks->sm,maxLen->fk,results->c_,run_takeDeferred->lf,undef->e8
open Go.Calls renaming mono->eb
open Go.CallsIn renaming inRound->ij
open Go.Ending renaming returned->bh
open Go.IntKind renaming i64->ai,u16->eO,u8->ch,wrap->yw
open Go.Obj renaming cells->aZ,deferred->df,loop->dq
open Go.Proofs.Tryz renaming prog->aL
open Go.RowKit renaming Below->cv,Hid->ao
open Go.RowKit.Below renaming alloc->cf,mono->bN,setCell->fc,trans->bC
open Go.Value renaming agg->ce,bool->aG,func->ez,iface->cP,int->ag,ownBlock->bA,pointer->cz,slice->aE,string->am,tuple->bZ
open Go.World renaming alloc->aN,alloc_heap_new->cW,cell?->aA,drew->bx,drewN->dS,frozen?->gd,putObj->ep,putObj_heap_other->jB,setCell->a7
open Int renaming toNat->cM
open List renaming drop->bi,filter->dT,flatMap->ex,length->E,map->b9,take->be,toArray->c7
open Option renaming none->af,some->ae
open Or renaming inl->bJ,inr->bE
open UInt8 renaming toNat->bg
namespace Go.Proofs.YtkkpahmoljiepabGreatDoor
variable{φ:Prop}
open Go.RowKit Go.Proofs.Tryz
variable{a c g n v L:Nat}{b f m:World}{e k r:Value}{i p x:List aK}{j q y:Int}{t H:Bool}{F:List ap}{z:TypeId}{Q:List UInt8}
def tE(b:List<|ap×Nat):List bk:=b.flatMap λa=>[aS a.1,M (a.2:Int)]
def le(c:aQ)(b:Nat)(v:bk)(a:List<|ap×Nat):Prop:=c.ownsRow b 315 2 v (E a)<|tE a
def Y4:(aL.info? 315).map (λa=>(a.8,a.3,a.4))=ae (ae<|ce #[am ⟨#[]⟩,M 0],2,24):=b6
def Y5:aL.underlying 256=ae (.slice 315):=b6
def Y6{b a}:tE (b++[a])=tE b++[aS a.1,M (a.2:Int)]:=by simp[tE]
def R2:∀(b:List<|ap×Nat) (a:Nat) (e:a<E b),(tE b)[a*2]? = ae (am<|D b[a].1)/\(tE b)[a*2+1]? = ae (M (b[a].2:Int))
 |[],a,e=>by grind
 |c::d,0,e=>by simp[tE]
 |c::d,a+1,e=>by have:=R2 d a (by grind);have g:tE (c::d)=aS c.1::M (c.2:Int)::tE d:=dl;grind
def JG{i}(g:ew b a e k)(h:le b c r i):ae a≠bA r:=λv=>by
 obtain⟨_,⟨rfl,_⟩|⟨o,l,n,rfl,_,d,_⟩⟩:=h
 ·simp[bA]at v
 ·simp only[bA,rG]at v;subst v;rw[g]at d
  grind
def R3:a_ aL 100 #[] b λh a=>h=bh (bv<|J b.1+1)/\(∃e,ew a (J b.1+1) e (bX)/\gO a (J b.1) e (List.replicate 12 0))/\a6 b a:=by
 have:∀b:aQ,(Instr.makeSlice 53 (M 12)<|M 12).run aL b=.ok (bL (J b.1) 0 12 12) (aN b<|aZ (Array.replicate 12<|ag ch 0) 5):=λ_=>by kernel_rfl
 generalize g:(Array.replicate 12<|ag ch 0)=c at*;go_wp2;go_ret;have d:=cW (aN b<|aZ c 5)<|aZ #[aE (ae ⟨J b.1,0,af⟩) 12 12,aE af 0 0] 258;simp only[eE]at d;refine⟨U,⟨_,d,ax,bE ⟨J b.1,12,c,U,cO _,(dv _ _ _ ax).trans<|cW b _,ax,lN,by grind,by rw[<-g];rfl⟩⟩,(cf cc bo _).alloc ax _⟩
def R4{I n}(A:ew b c I e)(R:le b a e n)(ac:a<=J b.1)(al:E n<=30000)(an:g<16384):a_ aL 168 #[bv c,aS Q,M (g:Int)] b λu t=>u=bh (bZ #[])/\∃o,ew t c I o/\le t a o (n++[(Q,g)])/\(bA o=bA e\/∃h,bA o=ae h/\J b.1<=h)/\jS c b t/\co (λi=>i≠c/\ae i≠bA e) b t:=by
 let⟨ap,aO,V,W,X⟩:=im Y4;let:=A.cells.2;let x:=O A;let w:=O R;let j:=A.lt;let:(g:Int)<16384:=G;go_in;go_wp2_with (at_builtin;go_loud (refine PE _ U (.tmp 12) (.tmp 16) U a Y5 aO V W X U bW (E n) U (w.alloc _) (N (J b.1) 0) 1 [aS Q,M (g:Int)] bW U U ?bG ?c2 ?c3 ?cB ?fe ?_))
 case bG=>
  intro Y aa hj
  match Y,hj with
  |0,hj=>exact Cz
  |1,hj=>exact Cz
  |g+2,hj=>grind
 case c2=>intro aa hu;exact Ht
 case c3=>unfold fk;omega
 case cB=>omega
 case fe=>simp;omega
 intro aq D S l K P;obtain⟨p,r,q,rfl⟩:=oj S;let F:ao (le D a (aE p r q)<|n++[(Q,g)]):=by
  rw[ao,le,dj,Y6];omega
 let z:=λi aO B=>
  (l.5 i ct B).trans (dv _ _ _ aO)
 let B:=JG x w;let d:=O<|x.kept<|z c j B;let C:ao (co (λi=>i≠c/\ae i≠bA e) b D):=
  ⟨l.1,l.2,l.3,cJ ax l.4,λi aO T=>z i aO T.2⟩
 let L:ao (bA (aE p r q)=bA e\/∃h,bA (aE p r q)=ae h/\J b.1<=h):=by
  rcases P with k|k
  ·exact bJ k
  ·exact bE ⟨_,k,ax⟩
 let Z:ao (jS c b<|a7 D ⟨c,1,af⟩<|aE p r q):=by
  refine jS.of x (d.set1 _) (iL.trans (iL.same _ _ λi ah H=>z i (dK.1 H).1 λu=>?_) (uC d bW _ _ _ _) C.4)<|((PF b _ _ _ _).trans K ax).trans (uC d bW _ _ _ _) C.4;obtain⟨_,⟨y,_⟩|⟨h,ad,aj,y,_,ab,_⟩⟩:=w
  ·rw[y]at u;simp[bA]at u
  ·rw[y]at u;simp only[bA,rG]at u
   grind
 let:=d.frozen;let H:=d.cells.2;go_wp2;exact kh (v:=bZ #[]) (by simp[c_,results168]) U ⟨U,_,d.set1 _,qp F (JG d F) _ _,L,Z,C.trans<|co.j9 _ λi k=>k.1⟩
def Y7(n)(g:Nat){h}(d)(r:ew d c e k)(u:le d a k h)(o:a<=J d.1)(q:E h<=30000)(t:g<16384):a_ aL 168 #[bv c,aS n,M (g:Int)] d λp i=>p=bh (bZ #[])/\∃b,ew i c e b/\le i a b (h++[(n,g)])/\(bA b=bA k\/∃j,bA b=ae j/\J d.1<=j)/\co (λl=>l≠c/\ae l≠bA k) d i:=by refine(R4 r u o q t).mono ?_;grind
def R5{v}(g:le b a e v)(p:v≠[]):∃c d,e=bL c 0 (E v) d/\c<J b.1/\E v<=d/\∀k (i:k<E v),aA b (N c<|k*2)=ae (am<|D v[k].1)/\aA b (N c<|k*2+1)=ae (M (v[k].2:Int)):=by let h:=g;obtain⟨_,⟨rfl,q⟩|⟨c,d,n,rfl,o,j,l,_⟩⟩:=g;{grind};{refine⟨c,d,U,(dK.1 j).1,l,λk i=>?_⟩;let:=R2 v k i;let:=lG h (k*2) G;let:=lG h (k*2+1) G;grind}
def Y8{w q}(K:ew b a e r)(L:le b g r q)(W:c<E q)(H:q[c].1=w)(C:∀n (V:n<c),(q[n].1==w)=ak)(Y:E q<=30000):a_ aL 316 #[bv a,aS w] b λB R=>B=bh (bZ #[M (q[c].2:Int),aG aD])/\a6 b R:=by
 obtain⟨j,S,rfl,k,T,F⟩:=R5 L (by grind);have:=K.cells.2;have t:=O F;have u:=O C;have x:=O H;go_wp2;go_loopw [13] (λi wr=>∃d:Nat,i=M d/\d<=c/\a6 b wr) λi _=>E q-cM (intOf i);·exact⟨0,U,dJ _,cU _ _⟩
 ·(
 obtain⟨d,rfl,X,h⟩:=hrel;have A:d<E q:=G;have:(d:Int)<E q:=G;let⟨y,bG⟩:=t d A;have cS:=(h.cell (p:=⟨j,d*2,af⟩) k).trans y;have z:=(h.cell (p:=⟨j,d*2+1,af⟩) k).trans bG;have N:((D q[d].1).toList==(D w).toList)=(q[d].1==w):=uV;have o:=O h;have l:=h.4;by_cases I:d=c;{subst I;rw[x]at cS;let⟨P,Q⟩:=bm<|q[d].2;rw[<-Q]at z;replace Q:=O Q;go_wp2;go_ret2;refine⟨?_,cf o l _⟩;rw[<-Q];rfl};{
 rw[u d G]at N;generalize q[d].2=P,D q[d].1=Z at*;go_wp2;go_roundw;·exact⟨d+1,dd,G,cf o l _⟩
 ·exact qD})
def Y_(g:Nat)(d:aQ)(a:Nat)(c:List mC):Prop:=a<J d.1/\a≠g/\(∀e,d.1[a]?≠ae (aZ e 5 (0,0)))/\∀b (h:b<E c),aA d (N a b)=ae (cP c[b].1 c[b].2)
def JH{c}(h:gO b a e c)(n:c≠[]):∃v d g,e=bL v 0 (E c) d/\a<=v/\b.1[v]? = ae (aZ g 5 (0,0))/\E c<=d/\d<=fk:=by obtain⟨_,⟨rfl,o⟩|⟨v,d,g,rfl,j,i,k,l,_⟩⟩:=h;{grind};grind
def R6{h}(l:gO b c (bL a 0 g n) h)(d i)(aO:d<E h):gO (a7 b ⟨a,d,af⟩<|ag ch<|bg i) c (bL a 0 g n) (h.set d i):=by obtain⟨t,⟨e,y⟩|⟨r,q,k,e,j,p,u,o,w,x⟩⟩:=l;{cases e};{cases e;refine bd ax<|bE ⟨a,n,k.setIfInBounds d<|ag ch<|bg i,ax,j,?_,by grind,o,by grind,?_⟩;{simp only[a7];grind};{rw[Array.toList_setIfInBounds,List.take_set];simp_all}}
theorem YR (b d c a):(method 509 271 (aE b d c) "beacon/wire.writeTo").run aL a = .ok (319,aE b d c) a:=by kernel_rfl
def YS(b a):(callFunc 319 b).run aL a=.ok (.enter 319 b) a:=b6
section
variable {P:Program}{α:Type}
def cx.kept(g:cx b a e z)(d:f.1[a]? = b.1[a]?):cx f a e z:=cQ d g
end
section
attribute [local go_sem] Oper.semAt_some undef
def nQ{j}(o:b.ownsRow a z g e c j)(r:∀v,bA e=ae v->f.1[v]? = b.1[v]?):f.ownsRow a z g e c j:=by let⟨p,d⟩:=o;refine bd p ?_;rcases d with d|⟨v,l,n,rfl,q,k,t⟩;{grind};{exact bE ⟨v,l,n,U,q,(r v U).trans k,t⟩}
def MG(h:φ:=by obtain⟨_,⟨rfl,_⟩|⟨g',cap,cur,rfl,_,bP,_⟩⟩:=h;{simp[bA]at hg};{simp only[bA,rG]at hg;grind}):φ:=h
def vE{d}(h:gO b c e d)(hg:bA e=ae a):∃cur,b.1[a]? = ae (aZ cur 5 (0,0)):=by exact MG
def YT(c:a<16384):bits .or ai 49152 (a:Int)=((49152+a:Nat):Int):=by
 let:=A0 49152 a G G;let:=Nat.two_pow_add_eq_or_of_lt (i:=14) (b:=a) G 3
 grind
theorem YU (s a):(method 509 269 (am s) "beacon/wire.writeTo").run aL a = .ok (315,am s) a:=by kernel_rfl
def YV(b a):(callFunc 315 b).run aL a=.ok (.enter 315 b) a:=b6
def EA(a:Nat):ap:=[aO<|49152+a,cL<|49152+a]
end
structure dw(mb base:Nat)(w w':World):Prop where
 os:w'.os=w.os
 tape:w'.tape=w.tape
 output:w'.output=w.output
 size:w.heap.size<=w'.heap.size
 block:∀i,i<w.heap.size->i≠mb->(i<base\/((∀cur,w.heap[i]?≠some (.cells cur 5 (0,0)))/\∀cur,w.heap[i]?≠some (.cells cur 315 (0,0))))->w'.heap[i]? = w.heap[i]?
 kp:jS mb w w'
section
variable {mb base:Nat}{A B C:World}
def dw.refl(mb base a):dw mb base a a:=⟨U,U,U,cO _,λ_ _ _ _=>U,jS.refl _ _⟩
def dw.same(a:dw mb base b A)(e:B.4=A.4)(g:B.2=A.2)(h:B.5=A.5)(i:J A.1<=J B.1)(d:∀c,c<J b.1->B.1[c]? = A.1[c]?):dw mb base b B:=
 ⟨cQ e a.1,cQ g a.2,cQ h a.3,cJ a.4 i,λc aO j k=>(d c aO).trans<|a.5 c aO j k,a.6.same d⟩
def dw.trans(a:dw mb base A B)(b:dw mb base B C):dw mb base A C:=
 ⟨cQ b.1 a.1,cQ b.2 a.2,cQ b.3 a.3,cJ a.4 b.4,λd aO c g=>by
  have e:=a.5 d aO c g;refine(b.5 d (eA aO a.4) c ?_).trans e
  grind,a.6.trans b.6 a.4⟩
def dw.vz(a:a6 A B):dw mb base A B:=⟨a.1,a.2,a.3,a.4,λb aO _ _=>a.5 b aO,jS.below a⟩
def dw.apl(a:lc mb base A B):dw mb base A B:=⟨a.1,a.2,a.3,a.4,λd aO b c=>a.5 d aO b<|c.imp id And.left,a.6⟩
def dw.keeps(d:dw mb base b A)(a:ey c A B)(g:J b.1<=c):dw mb base b B:=
 d.same a.1 a.2 a.3 a.4 λe aO=>a.5 e (eA aO d.4) G
def dx.tg(e:dx b)(d:dw mb base b f)(g:0<base)(i:0<mb):dx f:=by let⟨a,m,h⟩:=e;exact⟨eA a d.4,m,(dR<|d.5 0 a G<|bJ g).trans h⟩
def dw.apm(n:dw mb base b f){t}(d:ew b mb e k)(u:ew f mb r t)(p:bA r=ae a)(q:yM e<=c)(w:base<=a){cur}(o:f.1[a]? = ae (aZ cur 5 (0,0)))(l):dw mb base b (a7 f ⟨a,c,af⟩ l):=
 ⟨n.1,n.2,n.3,by simpa [a7]using n.4,λj aO d i=>by
  by_cases h:j=a
  ·subst h;have:=n.5 j aO d i
   grind
  ·exact(dr _ _ _ _ h).trans<|n.5 j aO d i,n.6.azN d u p q o l⟩
def dw.box(k:dw mb base b f){c}(d:b.1[a]? = ae (aZ c z))(j:a≠mb)(l:z≠5)(n:z≠315):f.1[a]? = ae (aZ c z):=
 (k.5 a (dK.1 d).1 j<|bE ⟨λh i=>by grind,λh i=>by grind⟩).trans d
end
def BQ{d}(j:b.1[a]? = ae d)(k:∀g i f,d≠aZ g i f):(∀c,b.1[a]?≠ae (aZ c 5 (0,0)))/\∀c,b.1[a]?≠ae (aZ c 315 (0,0)):=
 ⟨λe h=>by grind,λe h=>by grind⟩
def dw.other(l:dw c g b f){e}(h:b.1[a]? = ae e)(j:a≠c)(k:∀i n d,e≠aZ i n d):f.1[a]? = b.1[a]? :=
 l.5 a (dK.1 h).1 j (bE<|BQ h k)
abbrev gs:=List<|ap×Nat
def mi(d:aQ)(i e g:Nat)(h:ap)(j:gs):Prop:=∃b c,ew d i b c/\gO d e b h/\le d e c j/\(∀a,bA b=ae a->a≠g)/\∀a,bA c=ae a->a≠g
def fq(a:aQ)(g b:Nat)(e:ap)(h:gs):Prop:=∃c d,ew a g c d/\gO a b c e/\le a b d h
def vF{d}(h:le b c e d)(hg:bA e=ae a):∃cur,b.1[a]? = ae (aZ cur 315 (0,0)):=by exact MG
section
variable {w w':World} {mb base d:Nat} {l:ap}{ps:gs}
def mi.msg(a:mi w mb base d l ps):fq w mb base l ps:=by let⟨g,h,b,c,e,_⟩:=a;exact⟨g,h,b,c,e⟩
def fq.lt(a:fq w mb base l ps):mb<J w.1:=by let⟨c,d,b,_⟩:=a;exact b.lt
def fq.away(i:fq w mb base l ps)(o:(∀a,w.1[d]?≠ae (aZ a 5 (0,0)))/\∀a,w.1[d]?≠ae (aZ a 315 (0,0))):mi w mb base d l ps:=by let⟨k,n,j,c,e⟩:=i;refine⟨k,n,j,c,e,λh b g=>?_,λh b g=>?_⟩;{let a:=vE c b;grind};{let a:=vF e b;grind}
def fq.aE7(b:fq w mb base l ps)(e:J w.1<=d):mi w mb base d l ps:=b.away ⟨λa c=>by grind,λa c=>by grind⟩
def fq.below(c:fq w mb base l ps)(a:a6 w w'):fq w' mb base l ps:=by let⟨g,h,b,d,e⟩:=c;exact⟨g,h,b.kept<|a.5 mb b.lt,g6 d a,g6 e a⟩
def mi.keeps(k:mi w mb base d l ps)(c:ey d w w')(n:mb≠d):mi w' mb base d l ps:=by let⟨o,p,e,g,h,i,j⟩:=k;exact⟨o,p,e.kept<|c.5 mb e.lt n,nQ g λa b=>c.5 a (fS g a b).2<|i a b,nQ h λa b=>c.5 a (fS h a b).2<|j a b,i,j⟩
def mi.put(a:mi w mb base d l ps)(o)(b:mb≠d):fq (ep w d o) mb base l ps:=(a.keeps (ey.put (d:=d) w d o) b).msg
end
def R7{i}(p:le b a k i)(n:ew b c e k)(o:lc c a b f):le f a k i:=
 nQ p λh g=>by
  obtain⟨r,j⟩:=vF p g;refine o.5 h (fS p h g).2 (λl=>?_)<|bE λq t=>?_
  ·rw[l,n]at j;grind
  grind
def BR(e i d){h n}(b)(B:fq b a c h n)(q:c<=J b.1)(p:∀f∈d,f.Ok)(A:e<J b.1)(I:e≠a)(o:e<c\/∀r,b.1[e]?≠ae (aZ r 5 (0,0)))(G:∀g (K:g<E d),aA b (N e g)=ae (cP d[g].1 d[g].2))(C:E d<=i)(y:E d<=1000000)(z:E h+E (d_ d)<=1000000):a_ aL 109 #[bv a,bL e 0 (E d) i] b λu j=>u=bh (bZ #[])/\fq j a c (h++d_ d) n/\dw a c b j:=by let⟨L,H,k,w,x⟩:=B;exact(Bw c e i d h b k w q p A I o G C y z).m λj ⟨⟨t,D,F⟩,l⟩=>⟨U,⟨t,H,D,F,R7 x k l⟩,dw.apl l⟩
def oq(b:gs)(c:ap)(a:Nat):gs:=if a<16384 then b++[(c,a)]else b
def R8(a c b):E (oq a c b)<=E a+1:=by grind[oq]
def YW(a c b):E a<=E (oq a c b):=by grind[oq]
def YX(h:¬a<16384)(i:a<=1000000):a_ aL 168 #[bv c,aS Q,M (a:Int)] b λg e=>g=bh (bZ #[])/\e=b:=by let:¬(a:Int)<16384:=G;go_wp2;refine kh (v:=bZ #[]) (by simp[c_,results168]) U ?_;simp
def jJ:gs->ap->Option Nat
 |[],_=>af
 |a::c,b=>if a.1==b then ae a.2 else jJ c b
def R9:∀(e:gs) (d:ap),jJ e d=af->∀a (b:a<E e),(e[a].1==d)=ak
 |[],_,_,a,b=>by grind
 |i::g,d,c,a,b=>by
  unfold jJ at c;split at c;{cases c};{
  rename_i h;match a,b with
  |0,_=>grind
  |a+1,b=>exact R9 g d c a<|by grind}
def JI:∀(c:gs) (d:ap) (g:Nat),jJ c d=ae g->∃a,∃j:a<E c,c[a].2=g/\c[a].1=d/\∀e (aO:e<a),(c[e].1==d)=ak
 |[],_,_,b=>by cases b
 |p::i,d,g,b=>by unfold jJ at b;split at b;{rename_i h;exact⟨0,ax,by grind,by grind,λe aO=>G⟩};{rename_i h;obtain⟨a,o,k,l,n⟩:=JI i d g b;refine⟨a+1,by grind,by assumption,by assumption,λe aO=>?_⟩;grind}
def Za{K t}(n:ew b a e k)(h:le b c k t)(A:∀q (S:q<E t),(t[q].1==K)=ak)(V:E t<=30000):a_ aL 316 #[bv a,aS K] b λg L=>g=bh (bZ #[M 0,aG ak])/\a6 b L:=by
 by_cases o:t=[];{subst o;obtain⟨N,I,P,rfl⟩:=oj h;obtain rfl:I=0:=by{obtain⟨_,⟨g,hz⟩|⟨g',cap',cur',g,_⟩⟩:=h;{grind};grind};have B:=n.cells.2;go_wp2;refine OX 1 ?_;rw[rounds_succ];go_wp2;go_ret2;exact bd U<|cU _ _};obtain⟨y,Q,rfl,l,R,C⟩:=R5 h o;have B:=n.cells.2;have w:=O C;have x:=O A;go_wp2;go_loopw [13] (λi wr=>∃u:Nat,i=M u/\u<=E t/\a6 b wr) λi _=>E t-cM (intOf i);·exact⟨0,U,dJ _,cU _ _⟩
 ·(
 obtain⟨u,rfl,T,d⟩:=hrel;have r:=O d;have F:=d.4;by_cases j:u<E t;{
 have:(u:Int)<E t:=G;let⟨z,bG⟩:=w u j;have:=(d.cell (p:=⟨y,u*2,af⟩) l).trans z;have:=(d.cell (p:=⟨y,u*2+1,af⟩) l).trans bG;have H:((D t[u].1).toList==(D K).toList)=(t[u].1==K):=uV;rw[x u j]at H;generalize t[u].2=pn,D t[u].1=W at*;go_wp2;go_roundw;·exact⟨u+1,dd,G,cf r F _⟩
 ·exact qD};{obtain rfl:u=E t:=G;go_wp2;go_ret2;exact bd U r})
def ZT(i){r j}(q:fq b a c r j)(h:E j<=30000):a_ aL 316 #[bv a,aS i] b λk u=>k=bh (bZ #[M ((jJ j i).getD 0:Nat),aG (jJ j i).isSome])/\a6 b u:=by
 let⟨y,z,d,w,e⟩:=q;cases g:jJ j i with
 |none=>exact Za d e (R9 j i g) h
 |some t=>{let⟨x,p,l,n,o⟩:=JI j i t g;have:=Y8 d e p n o h;rw[l]at this;exact this}
section
attribute [local go_sem] Oper.semAt_some undef
def te(a:ap):ap:=(Lib.cut a [46]).1
def JJ{a:ap}(b:ap)(c:(46:UInt8)∉a):te (a++46::b)=a:=by rw[te,Lib.cut,Lib.index_one,Dt 46 a b c,b8 G];simp
def JK{a:ap}(b:(46:UInt8)∉a):te a=a:=by rw[te,Lib.cut,Lib.index_one,Dr 46 a b,bV bW]
def ZW(a:ap):E (te a)+E (iH a)<=E a:=by by_cases b:(46:UInt8)∈a;{obtain⟨e,c,rfl,d⟩:=A9 b;rw[uX c d,JJ c d];simp};{rw[xk b,JK b];simp}
def JL:∀(f:Nat) (a:ap),E a<=f->E (dU a)<=E a
 |0,a,c=>by obtain rfl:a=[]:=hq G;simp[o2]
 |f+1,a,c=>by by_cases b:a=[];{subst b;simp[o2]};{have d:=wt b;rw[oB b,dW];have:=JL f (iH a) G;omega}
def nR(a:ap):ap:=UInt8.ofNat (E<|te a)::te a
def i8(b:gs):Prop:=∀a∈b,a.2<16384
def hZ:List ap->ap->gs->ap×gs
 |[],a,b=>(a++[0],b)
 |c::d,a,b=>match jJ b c with
  |some e=>(a++EA e,b)
  |none=>hZ d (a++nR c)<|oq b c<|E a
def BS{b:ap}{c:ap}{d:gs}(g:jJ d b=ae a):hZ (b::F) c d=(c++EA a,d):=by rw[hZ,g]
def BT{a:ap}{b:ap}{c:gs}(e:jJ c a=af):hZ (a::F) b c=hZ F (b++nR a) (oq c a<|E b):=by rw[hZ,e]
def Sb{d:gs}(b:i8 d)(h:ap)(g:Nat):i8 (oq d h g):=by intro c a;unfold oq at a;split at a;{rename_i e;rw[i_]at a;rcases a with a|a;{exact b c a};{simp at a;subst a;exact e}};{exact b c a}
def ZX{b:gs}(e:i8 b){c:ap}(g:jJ b c=ae a):a<16384:=by let⟨i,h,d,_⟩:=JI b c a g;rw[<-d];exact e _<|ei h
def ZY(B:ap)(r:Nat){A:ap}{t:gs}(d:aQ)(p:ew d a e k)(j:gO d c e A)(g:le d c k t)(D:c<=J d.1)(F:E t<=30000)(G:r<=1000000):a_ aL 168 #[bv a,aS B,M (r:Int)] d λu b=>u=bh (bZ #[])/\∃i,ew b a e i/\gO b c e A/\le b c i (oq t B r)/\dw a c d b:=by unfold oq;split;{rename_i q;refine(R4 p g D F q).m λb ⟨i,H,I,_,K,n⟩=>⟨U,i,H,nQ j λx y=>?_,I,n.1,n.2,n.3,n.4,λz aO C l=>?_,K⟩;{let⟨L,o⟩:=vE j y;refine n.5 x (fS j x y).2 ⟨λu=>?_,λu=>?_⟩;{rw[u,p]at o;simp at o};{let⟨w,h⟩:=vF g<|b5 u;rw[o]at h;simp at h}};{refine n.5 z aO<|bd C<|λu=>?_;rcases l with l|l;{let:=(fS g z<|b5 u).1;omega};{let⟨w,h⟩:=vF g<|b5 u;exact l.2 w h}}};{rename_i q;refine(YX q G).m ?_;rintro b rfl;exact⟨U,k,p,j,g,dw.refl _ _ _⟩}
def Cu(h:φ:=by rw[hnew]at h;simp at h):φ:=h
def ZZ{q:ap}{V:ap}{F:gs}(b3:fq b a c V F)(aF:dx b)(dc:c<=J b.1)(bl:0<c)(b4:0<a)(c0:E q<=3000)(cC:i8 F)(de:E F+E q<=30000)(dd:E V<=60000):a_ aL 315 #[aS q,bv a] b λB aK=>B=bh (bZ #[])/\fq aK a c (hZ (dU q) V F).1 (hZ (dU q) V F).2/\dw a c b aK:=by
 refine(ec (n:=0)).1 ?_;refine sm func315 U cy ?_;simp only[ntmps315,mA,dW,gG,Nat.reduceAdd,Nat.reduceSub,mx,mP,mR,mQ,iF,fN];have cF:=O b3;have cn:=O aF;have cE:=O cC;have:=b3.lt;have:=aF.1;have cY:aL.follows .mixedOrders=aD:=b6;have:=JL _ q bo;let⟨L,aV⟩:=bm<|hZ (dU q) V F;rw[<-aV];replace aV:=O aV;gi_wp2_with fail;refine⟨cy,U,?_⟩;refine(ec.2<|Db _ _).m ?_;rintro e ⟨bV,bn,bU⟩;have cL:=(cx.qf _ _ _).below bn ax;have aT:=(cf cc bo _).trans<|bN bn ax;simp only[eE]at bV bU;have:J b.1+2<=J e.1:=G;have cO:=O<|cF.below aT;have c1:ao (dw a c b e):=dw.vz aT;have bF:=O<|cn.below aT;clear bV aT bn;gi_wp2_with fail;have cX:∀aj,a6 e (aN (aN e<|df<|ae [])<|dq aj):=λaj=>(cf cc bo _).alloc ax _;refine GJ (xs:=dU q) (encs:=λB:ap=>#[aS B]) (St:=λI K=>a6 I K) (Kp:=λI K=>J I.1<=J K.1/\K.1[0]? = I.1[0]?) (Kx:=λ_ _=>True) (gf:=212) (lb:=#[bv<|J b.1+1]) U (enters_of func212 b6 U) (λ_=>U) ?seq [0] ct (λI K h=>h) (λI K h cR=>bd cR<|h _ ax) (λ_ _=>cy) (λA i=>(∃o g j,bi A (dU q)=dU o/\L=hZ (dU o) g j/\E g+E o<=E V+E q+A/\E j<=E F+A/\i8 j/\mi i a c (J e.1+1) g j)/\dw a c b i/\cx i (J b.1) (bv a) 196/\dx i) (λbf i=>bf=.ret/\mi i a c (J e.1+1) L.1 L.2/\dw a c b i) (λA I K h cS hk=>by{let⟨⟨o,g,j,u,r,aY,bs,a0,W⟩,S,R,cT⟩:=h;refine⟨⟨o,g,j,u,r,aY,bs,a0,W.keeps hk G⟩,S.keeps hk G,cx.kept R<|hk.5 _ (cx.lt R) G,?_⟩;let⟨bX,m,cU⟩:=cT;exact⟨eA bX hk.4,m,(dR<|hk.5 0 bX G).trans cU⟩}) (λbf I K h cS hk=>⟨h.1,h.2.1.keeps hk G,h.2.2.keeps hk G⟩) ⟨⟨q,V,F,U,aV,G,G,cE,cO.aE7 G⟩,c1,cL,bF⟩ ?round ?done ?stop;case seq=>(intro aj;have aF:=cX aj;exact Dc ((aF.cell (p:=⟨J b.1+1,0,af⟩) (by show J b.1+1<J e.1;omega)).trans bU) (bF.below aF) c0)
 ·(
 intro aJ A k c8 i hy az b8 cN c5;let⟨⟨o,g,j,u,r,aY,bs,a0,W⟩,S,R,a8⟩:=az;have:=(iW.1 hy).1;have:=GS<|pE hy;have aP:o≠[]:=by{intro h;subst h;rw[o2]at u;have:=eQ List.length u;exact At};have cr:k=o/\bi (A+1) (dU q)=dU (iH o):=by{
 rw[oB aP]at u;have b0:(bi A<|dU q)[0]? = ae k:=EY
 rw[u]at b0;refine⟨by simpa using b5 b0,?_⟩;rw[<-my,u];rfl};obtain⟨rfl,c4⟩:=cr;rw[oB aP]at r;have cs:=ZW k;have ac:=ZT k W.msg G;have aR:=O S;have aq:=O R;have bO:=O a8;have bM:=O W;have:=W.msg.lt;have bS:=cx.cell R;have cp:=O c4;have ck:=O a0;have cb:=O cN;have b_:=O c5;have cu:=S.4;cases l:jJ j k with
 |some ab=>{
 have cl:=ZX ck l;rw[l]at ac;have aM:ao (a_ aL 316 #[bv a,aS k] i<|cI (bZ #[M (ab:Int),aG aD]) i):=ac;rw[BS l]at r;have aI:=O r;clear r l ac;gi_wp2_with fail;refine bd cy ?_;gi_wp2_with fail;refine⟨cy,U,?_⟩;refine(ij aJ<|ec.2 aM).m ?_;intro y w;have aa:=bM.msg.below w;have bY:=cx.below aq w<|cx.lt aq;have b7:=w.4;have au:=cx.cell bY;have cw:=YT cl;have cZ:=od ((49152+ab:Nat):Int)
 have hnew:=cW y<|aZ #[cP 259<|ag eO ((49152+ab:Nat):Int)] 275;have H:=O (BR (J y.1) 1 [fB<|49152+ab] (aN y<|aZ #[cP 259<|ag eO ((49152+ab:Nat):Int)] 275) (aa.below<|cf cc bo _) ct (λf l=>by simp at l;subst l;exact l3 _ G) ax (cd aa.lt) (bE λbT h=>Cu) (λT x=>by{
 match T,x with
 |0,_=>exact lL
 |T+1,x=>simp at x}) ax ax (by simp[d_,fB];omega))
 let⟨c3,bp⟩:=bm<|49152+ab;rw[<-bp]at H cZ cw;have cK:=O bp;have cJ:=O w;clear bp hnew aa bY w aM bS;gi_wp2_with fail;refine⟨cy,U,?_⟩;refine(ij aJ<|ec.2 H).m ?_;rintro t ⟨aH,al⟩;have an:=(dw.vz cJ).trans<|(dw.vz<|cf cc bo _).trans al;have av:=cb;let⟨aj,Y⟩:=b_;have ay:t.1[J e.1]? = i.1[J e.1]?:=an.other av G (λ_ _ _ h=>by cases h);have Z:t.1[J e.1+1]? = i.1[J e.1+1]?:=an.other Y G (λ_ _ _ h=>by cases h);have ad:ao (io (J e.1) i t/\mi t a c (J e.1+1) L.1 L.2/\dw a c b t):=by{refine⟨⟨an.4,ay,Z⟩,?_,aR.trans an⟩;rw[aI,show EA ab=d_ [fB c3] by rw[cK];rfl];exact aH.away<|BQ (cQ Z Y) λ_ _ _ h=>by cases h};clear aH al an av Y ay Z H;gi_wp2_with fail;exact⟨ad.1,U,ad.2⟩}
 |none=>{
 rw[l]at ac;have aM:ao (a_ aL 316 #[bv a,aS k] i<|cI (bZ #[M 0,aG ak]) i):=ac;rw[BT l]at r;have aI:=O r;clear r l ac;gi_wp2_with fail;refine bd cy ?_;gi_wp2_with fail;refine⟨cy,U,?_⟩;refine(ij aJ<|ec.2 aM).m ?_;intro y w;let⟨db,c6,aX,ar,fy⟩:=bM.msg.below w;have a9:=cx.below aq w<|cx.lt aq;have b7:=w.4;have au:=cx.cell a9;obtain⟨cD,c2,cH,rfl⟩:=oj ar;obtain rfl:c2=E g:=by{obtain⟨_,⟨B,hz⟩|⟨g',cap',cur',B,_⟩⟩:=ar;{cases B;omega};{cases B;rfl}};have bP:=aX.cells.1;have aO:a6 y (bx y):=cc.drew;have bQ:cx (bx y) (J b.1) (bv a) 196:=a9;have bw:=O<|ZY k (E g) (bx y) (aX.kept U) (g6 ar aO) (g6 fy aO) (by show c<=J y.1;omega) G G;have bG:dw a c i (bx y):=dw.vz<|bC w<|bN aO b7;have cg:=O bG;have:=O<|cj aX<|cj ar fy;clear aX ar fy w aO bG aM bS;gi_wp2_with fail;refine Sa (λi=>aA i (N (J b.1) 0)=ae (bv a)/\aA i (N a 0)=ae (aE cD (E g) cH)) cY (tQ b6) (bd au bP) λC=>?_;refine l_ 0 C (λ_ _ _ h=>(jo.qC h ax).elim) ?_;refine l_ 1 C (λ_ _ _ h=>(jo.qC h ax).elim) ?_;refine l_ 2 C (λ_ _ _ h=>(jo.qC h ax).elim) ?_;refine l_ 3 C (λ_ _ _ h=>(jo.qC h ax).elim) ?_;refine l_ 4 C (λ_ _ _ h=>(jo.qC h ax).elim) ?_;refine l_ 5 C (λ_ _ _ h=>(jo.qC h ax).elim) ?_;refine l_ 6 C (λ_ _ _ h=>(jo.qC h ax).elim) ?_;refine lw (rs:=[7]) b6 ax (jv U (λco b2=>?_) kU);go_simp;refine bw.m ?_;rintro t ⟨c9,br,bR,ca,aU⟩;have a1:=aU.box bQ G bW bW;refine b2.out _ _ ⟨cx.cell a1,br.cells.1⟩ λC=>?_;clear b2 co C;refine su b6 ?_ _;refine bd U ?_;have bI:=(bO.tg (cg.trans aU) bl b4);have X:=cg.trans aU;have:=X.4;have bD:=O<|ag6 k bI G;have ci:ao (fq t a c g<|oq j k<|E g):=⟨_,_,br,bR,ca⟩;have ba:=O a1;have cq:=O X;have cB:=cx.cell a1;clear br bR ca aU a1 X bI bw au bP a9 bQ;gi_wp2_with fail;refine⟨cy,U,?_⟩;refine(ij aJ<|ec.2 bD).m ?_;intro a5 aC;have bz:ao ((Lib.cut k [46]).1=te k):=U;rw[bz];have bu:=ci.below aC;have bb:=cx.below ba aC<|cx.lt ba;have:=cx.cell bb;have:=aC.4;have:=R8 j k<|E g;let⟨z,bq⟩:=bm<|te k;have a2:ao (nR k=UInt8.ofNat (E z)::z):=by rw[bq];rfl
 rw[<-bq]at cs⊢;let⟨ah,bt⟩:=bm<|UInt8.ofNat<|E z;have da:ch.wrap (E z:Int)=(bg ah:Int):=by rw[ur,bt,pB];omega
 rw[<-bt]at a2;have:=cV z;have hnew:=cW a5<|aZ #[cP 270<|ag ch<|bg ah,cP 204<|am<|D z] 275;have H:=O (BR (J a5.1) 2 [l2 ah,ev z] (aN a5<|aZ #[cP 270<|ag ch<|bg ah,cP 204<|am<|D z] 275) (bu.below<|cf cc bo _) ct (λf l=>by{simp at l;rcases l with rfl|rfl;{exact sC _};{exact ka _}}) ax (cd bu.lt) (.inr λbT h=>Cu) (λT x=>by{
 match T,x with
 |0,_=>exact lL
 |1,_=>exact lL
 |T+2,x=>simp at x;omega}) ax ax (by simp[d_,l2,ev];omega))
 have bH:=cq.trans<|dw.vz aC;have cA:=O bH;have:=O bb;clear bq bt hnew bu bb aC bH bD ci ba cB bz;gi_wp2_with fail;refine⟨cy,U,?_⟩;refine(ij aJ<|ec.2 H).m ?_;rintro Q ⟨bB,bK⟩;have P:=cA.trans<|(dw.vz<|cf cc bo _).trans bK;have av:=cb;let⟨aj,Y⟩:=b_;have ay:Q.1[J e.1]? = i.1[J e.1]?:=P.other av G (λ_ _ _ h=>by cases h);have Z:Q.1[J e.1+1]? = i.1[J e.1+1]?:=P.other Y G (λ_ _ _ h=>by cases h);have ad:ao (io (J e.1) i Q/\(∀aW∈[0],Q.1[aW]? = i.1[aW]?)/\(∃o g j,bi (A+1) (dU q)=dU o/\L=hZ (dU o) g j/\E g+E o<=E V+E q+(A+1)/\E j<=E F+(A+1)/\i8 j/\mi Q a c (J e.1+1) g j)/\dw a c b Q/\cx Q (J b.1) (bv a) 196/\dx Q):=by{
 refine⟨⟨P.4,ay,Z⟩,λaW hk=>?_,⟨iH k,g++nR k,_,cp,aI,?_,G,Sb ck _ _,?_⟩,aR.trans P,P.box aq G bW bW,bO.tg P bl b4⟩;{
 obtain rfl:aW=0:=Cx
 exact P.5 0 G G<|bJ bl};{rw[a2,dj,dW];omega};{
 rw[a2];have:g++d_ [l2 ah,ev z]=g++ah::z:=by simp[d_,l2,ev]
 rw[<-this];exact bB.away<|BQ (cQ Z Y) λ_ _ _ h=>by cases h}};clear bB bK P av Y ay Z H;gi_wp2_with fail;exact⟨ad.1,ad.2.1,ad.2.2⟩})
 case done=>(
 intro i az aw b8;let⟨⟨o,g,j,u,r,aY,bs,a0,W⟩,S,R,a8⟩:=az;have aP:o=[]:=by{rw[tl]at u;by_cases h:o=[];{exact h};{rw[oB h]at u;cases u}};subst aP;rw[o2]at r;have au:=cx.cell R;have aa:=W.msg;have cu:=S.4;have hnew:=cW i<|aZ #[cP 270<|ag ch<|bg (0:UInt8)] 275;have H:ao (a_ aL 109 #[bv a,bL (J i.1) 0 1 1] (aN i<|aZ #[cP 270<|ag ch 0] 275) λB aK=>B=bh (bZ #[])/\fq aK a c (g++[0]) j/\dw a c (aN i<|aZ #[cP 270<|ag ch 0] 275) aK):=BR (J i.1) 1 [l2 0] (aN i<|aZ #[cP 270<|ag ch<|bg (0:UInt8)] 275) (aa.below<|cf cc bo _) ct (λf l=>by simp at l;subst l;exact sC _) ax (cd aa.lt) (bE λbT h=>Cu) (λT x=>by{
 match T,x with
 |0,_=>exact lL
 |T+1,x=>simp at x}) ax ax (by simp[d_,l2];simp at aY;omega)
 have aI:=O r;have aR:=O S;have a3:=O aw;clear u r S R a8 W aa hnew aw;gi_wp2_with fail;refine⟨cy,U,?_⟩;refine(ec.2 H).m ?_;rintro t ⟨aH,al⟩;have X:=(dw.vz<|cf cc bo _).trans al;have a4:=(X.other a3 G λ_ _ _ h=>by cases h).trans a3;have aB:=aH.away (d:=J e.1) (BQ a4 λ_ _ _ h=>by cases h);have bc:ao (mi t a c (J e.1) L.1 L.2/\dw a c b t/\t.1[J e.1]? = ae (df<|ae [])):=⟨by rw[aI];exact aB,aR.trans X,a4⟩;clear aH al X a4 aB H a3 au;gi_wp2_with fail;refine bd ax<|bJ ⟨_,_,U,lf bc.2.2,?_⟩;exact⟨bZ #[],by simp[c_,results315],U,bc.1.put _ G,bc.2.1.keeps (ey.put (d:=J e.1) t (J e.1) (df af)) G⟩)
 case stop=>(intro bf i az aw b8;obtain⟨rfl,bj,b1⟩:=az;have cm:=O<|cj bj b1;have aB:=bj.msg.away (d:=J e.1) (BQ aw λ_ _ _ h=>by cases h);have cG:=O aB;clear bj b1 aB;gi_wp2_with fail;refine bd ax<|bJ ⟨_,_,U,lf aw,?_⟩;exact⟨bZ #[],by simp[c_,results315],U,cG.put _ G,cm.2.keeps (ey.put (d:=J e.1) i (J e.1) (df af)) G⟩)
end
def Sc(e d:Nat)(i:aQ->Prop)(k:FuncId)(l:bk)(g:ap->gs->ap×gs):Prop:=∀(b:ap) (a:gs) (c:aQ),i c->fq c e d b a->d<=J c.1->i8 a->E (g b a).1<=50000->E (g b a).2<=20000 ->
 a_ aL k #[l,bv e] c λj h=>j=bh (bZ #[])/\fq h e d (g b a).1 (g b a).2/\dw e d c h
structure iM where
 t:TypeId
 x:Value
 fn:FuncId
 Gt:ap->gs->ap×gs
structure iM.Ok(f:iM)(mb base:Nat)(I:World->Prop):Prop where
 meth:∀W:World,(method 509 f.t f.x "beacon/wire.writeTo").run prog W = .ok (f.fn,f.x) W
 call:∀(args:Array Value) (W:World),(callFunc f.fn args).run prog W=.ok (.enter f.fn args) W
 wr:Sc mb base I f.fn f.x f.Gt
 ZV:∀l ps,l.length<=(f.Gt l ps).1.length/\ps.length<=(f.Gt l ps).2.length/\(i8 ps->i8 (f.Gt l ps).2)
def ge(a:List iM)(b:ap)(c:gs):ap×gs:=a.foldl (λs f=>f.4 s.1 s.2) (b,c)
def zr(e d:Nat)(a:aQ->Prop):Prop:=∀b c,a b->dw e d b c->a c
def og(h:Nat)(e:aQ)(c:Nat)(b:List iM):Prop:=c≠h/\(∃g d,e.1[c]? = ae (aZ g d)/\d≠5/\d≠315)/\∀a (i:a<E b),aA e (N c a)=ae (cP b[a].1 b[a].2)
def og.tg{base k}(n:og a b c k)(q:dw a base b f):og a f c k:=by let⟨e,⟨l,t,g,h,i⟩,o⟩:=n;let j:=q.box g e h i;exact⟨e,⟨l,t,j,h,i⟩,λr p=>(dR<|cQ j<|b5 g).trans<|o r p⟩
def Sd{a b}:ge [] a b=(a,b):=rfl
def EC{f c a b}:ge (f::c) a b=ge c (f.4 a b).1 (f.4 a b).2:=rfl
def Se{a d b c}:ge (a++d) b c=ge d (ge a b c).1 (ge a b c).2:=by simp[ge]
def RF{b:List iM}(e:a<E b)(c d):ge (be (a+1) b) c d=b[a].4 (ge (be a b) c d).1 (ge (be a b) c d).2:=by rw[g8 e,Se];rfl
def zt{e}:∀(c:List iM),(∀f∈c,f.Ok a g e)->∀b i,E b<=E (ge c b i).1/\E i<=E (ge c b i).2/\(i8 i->i8 (ge c b i).2)
 |[],_,b,i=>⟨cO _,cO _,id⟩
 |f::c,d,b,i=>by have j:=(d f ax).4 b i;have k:=zt c (λh l=>d h<|by grind) (f.4 b i).1 (f.4 b i).2;rw[EC];grind
def Z0{e}{h}(g:∀f∈h,f.Ok a c e)(b j d):E (ge (be d h) b j).1<=E (ge h b j).1/\E (ge (be d h) b j).2<=E (ge h b j).2:=by
 let:ge h b j=ge (bi d h) (ge (be d h) b j).1 (ge (be d h) b j).2:=by rw[<-Se,ku]
 let:=zt (bi d h) (λf i=>g f<|OR i) (ge (be d h) b j).1 (ge (be d h) b j).2;grind
def JM(u){o q}(d h)(Q:o b)(T:zr a c o)(S:fq b a c d h)(Y:c<=J b.1)(W:i8 h)(F:∀f∈q,f.Ok a c o)(y:og a b g q)(ah:E q<=u)(ab:E q<=1000000)(ad:E (ge q d h).1<=50000)(aj:E (ge q d h).2<=20000):a_ aL 109 #[bv a,bL g 0 (E q) u] b λN z=>N=bh (bZ #[])/\fq z a c (ge q d h).1 (ge q d h).2/\dw a c b z:=by
 have I:=O S;have p:=O F;have B:=O y;have K:=O Q;have C:=O T;have X:=O W;have al:g<J b.1:=by let⟨_,⟨Z,an,aa,_⟩,_⟩:=y;grind
 go_wp2;go_loopw [8] (λr wr=>∃(e:Nat),r=M e/\e<=E q/\fq wr a c (ge (be e q) d h).1 (ge (be e q) d h).2/\dw a c b wr) λr _=>E q-cM (intOf r);·exact⟨0,U,dJ _,I,dw.refl _ _ _⟩
 ·(obtain⟨e,rfl,ac,A,x⟩:=hrel;have w:=O A;have l:=O x;have:=x.4;by_cases k:e<E q;{have:=(B.tg l).2.2 e k;have n:=p q[e]<|ei k;have H:=O<|RF k d h;have j:=Z0 p d h<|e+1;rw[RF k d h]at j;have V:=(zt (be e q) (λf R=>p f<|vL R) d h).2.2 X;generalize q[e]=f at*;let:=n.1;let:=n.2;let D:=O<|n.3 _ _ wr (C b wr K l) w G V G G;go_wp21;refine D.m λap ⟨j,P⟩=>?_;rw[<-H]at j;let t:=O<|cj j<|l.trans P;go_wp2;exact bd (⟨e+1,dd,G,t.1,t.2⟩) dz};{have L:e=E q:=G;subst L;have i:=w;rw[jc]at i;replace i:=O i;go_wp2;exact kh (v:=bZ #[]) (by simp[c_,results109]) U ⟨U,i,l⟩})
def jV(f:mC):iM:=⟨f.1,f.2,f.3,λa b=>(a++f.4,b)⟩
def ou{f:mC}(b:f.Ok){i:aQ->Prop}:(jV f).Ok g a i where
 meth:=b.1
 call:=b.2.1
 wr:=λe t w _ p j _ o _=>by
  obtain⟨u,h,c,l,n⟩:=p;simp only[jV,dj]at o;refine(b.2.2 g a u h e w c l j G).mono ?_;rintro x y ⟨rfl,⟨k,q,r⟩,d⟩;exact⟨U,⟨k,h,q,r,R7 n c d⟩,dw.apl d⟩
 ZV:=λe t=>⟨by simp[jV],cO _,id⟩
def rl(a:ap):iM:=⟨269,aS a,315,λb c=>hZ (dU a) b c⟩
def ED:∀(c:List ap) (b:ap) (a:gs),E b<=E (hZ c b a).1/\E a<=E (hZ c b a).2/\(i8 a->i8 (hZ c b a).2)
 |[],b,a=>⟨by simp[hZ],cO _,id⟩
 |d::c,b,a=>by
  cases g:jJ a d with
  |some j=>rw[BS g];simp
  |none=>{rw[BT g];have e:=ED c (b++nR d)<|oq a d<|E b;have i:=YW a d<|E b;rw[dj]at e;exact⟨G,G,λh=>e.2.2<|Sb h _ _⟩}
def zu{h:ap}(t:E h<=300){e:aQ->Prop}(i:∀d,e d->dx d)(l:0<g)(p:0<a):(rl h).Ok a g e where
 meth:=YU _
 call:=YV
 wr:=λb c d k o j r n q=>by
  have:=ED (dU h) b c;exact ZZ o (i d k) j l p G r (by have:E (hZ (dU h) b c).2<=20000:=q;omega) (by have:E (hZ (dU h) b c).1<=50000:=n;omega)
 ZV:=λb c=>ED (dU h) b c
def uc(c:ap)(b:Nat)(a:Nat):ap:=(c.set b<|aO a).set (b+1)<|cL a
def JN{b}:E (uc b c a)=E b:=by simp[uc]
def ud(b:List iM)(a:ap)(c:gs):ap×gs:=
 (uc (ge b (a++[0,0]) c).1 (E a)<|E (ge b (a++[0,0]) c).1-(E a+2),(ge b (a++[0,0]) c).2)
def EF(c b:Nat)(a:List iM):iM:=⟨271,bL c 0 (E a) b,319,ud a⟩
def Z1{D p h}(a5:zr a c p)(aY:∀e,p e->og a e g h)(S:∀f∈h,f.Ok a c p)(a3:E h<=D)(a0:E h<=1000000):Sc a c p 319 (bL g 0 (E h) D) (ud h):=by
 intro Z o e aK aj bp a9 w x;have A:=zt h S (Z++[0,0]) o;rw[dj]at A;simp only[dW,gG]at A;simp only[ud,JN]at w x;have Y:=O aj;have V:=O aK;have B:=O a5;have aT:=O aY;have aP:=O S;have ba:=O a9;have:=aj.lt;go_in;go_wp2_with fail;have hnew:=cW e<|aZ #[cP 259<|ag eO 0] 275;refine(BR (J e.1) 1 [fB 0] _ (Y.below<|cf cc bo _) (by grind) ?_ ax G (bE ?_) ?_ ax ax ?_).mono ?_;{intro f ad;simp at ad;subst ad;exact l3 _ G};{grind};{
 intro ap ah;match ap,ah with
 |0,_=>exact lL
 |ap+1,ah=>grind};{simp[d_,fB];omega};rintro t Q ⟨rfl,H,I⟩;have q:=O<|(dw.vz<|cf cc bo _).trans I;have aa:ao (fq Q a c (Z++[0,0]) o):=H;have av:ao (∃z P,ew e a z P/\yM z=E Z):=by{let⟨z,P,y,L,_⟩:=Y;exact⟨z,P,y,(by obtain⟨bb,⟨rfl,aX⟩|⟨bF,bD,bG,rfl,bb⟩⟩:=L;{exact b5 aX};{rfl})⟩};let⟨bf,bc,a6,a8,fa⟩:=aa;obtain⟨bs,bq,bd,rfl,bu,bj,bv,_⟩:=JH a8 ax;have X:=a6.cells.1;have:=q.4;rw[dj]at X;simp only[dW,gG]at X;have aR:=O<|JM D (Z++[0,0]) o (B e Q V q) B aa G ba aP (aT _<|B e Q V q) a3 a0 w x;go_wp21;refine aR.m λd ⟨H,I⟩=>?_;have aB:=O<|q.trans I;let⟨bl,aI,K,l,fy⟩:=H;let⟨aH,T⟩:=bm<|ge h (Z++[0,0]) o;have C:ao (ud h Z o=(uc aH.1 (E Z)<|E aH.1-(E Z+2),aH.2)):=by rw[ao,T];rfl
 rw[<-T]at A w x l fy;let⟨j,aq⟩:=aH;simp only at A w x l fy C;have a4:j≠[]:=by grind
 obtain⟨i,br,aJ,rfl,ac,r,a1,bt⟩:=JH l a4;have aS:=K.cells.1;have ar:a≠i:=λt=>by{rw[ew,t,r]at K;grind};have:gd d (N i<|E Z)=ak:=by simp[World.frozen?,r]
 have bw:∀n,gd (a7 d ⟨i,E Z,af⟩ n) (N i<|E Z+1)=ak:=λn=>by{simp[World.frozen?,a7,ru,r]};have al:∃n,aA d (N i<|E Z)=ae (ag ch n):=⟨_,by{rw[lG l (E Z) G,sG,fs G];rfl}⟩;have an:∃n,aA d (N i<|E Z+1)=ae (ag ch n):=⟨_,by{rw[lG l (E Z+1) G,sG,fs G];rfl}⟩;let⟨u0,al⟩:=al;let⟨u1,an⟩:=an;obtain⟨b,ab⟩:∃b,E j=E Z+2+b:=⟨E j-(E Z+2),G⟩;have aF:E j-(E Z+2)=b:=G;rw[aF]at C;have M:=O r;have aU:=O l;have F:=O K;have au:=O fy;have:=O ab;have a2:E Z<E j:=G;have:E Z+1<E j:=G;rw[ab]at aS a1;have:(E Z:Int)+2+b-(E Z+2)=b:=G;go_wp2;go_region;have aV:(b:Int)/256=(bg (aO b):Int):=by rw[aO,pB];omega
 have aW:(b:Int)%256=(bg (cL b):Int):=dl;rw[aV,aW];have aw:=R6 (R6 aU (E Z) (aO b) a2) (E Z+1) (cL b) (by grind);have R:∀k,k≠i->(a7 (a7 d ⟨i,E Z,af⟩<|ag ch<|bg<|aO b) ⟨i,E Z+1,af⟩<|ag ch<|bg<|cL b).1[k]? = d.1[k]?:=λk u=>(dr _ _ _ _ u).trans<|dr _ _ _ _ u;have ay:=F.kept (w':=(a7 (a7 d ⟨i,E Z,af⟩<|ag ch<|bg<|aO b) ⟨i,E Z+1,af⟩<|ag ch<|bg<|cL b)) (R a ar);have az:le (a7 (a7 d ⟨i,E Z,af⟩<|ag ch<|bg<|aO b) ⟨i,E Z+1,af⟩<|ag ch<|bg<|cL b) c aI aq:=nQ au λk u=>R k λt=>by{let⟨cur,aM⟩:=vF au u;rw[t,M]at aM;grind};have aC:dw a c e (a7 (a7 d ⟨i,E Z,af⟩<|ag ch<|bg<|aO b) ⟨i,E Z+1,af⟩<|ag ch<|bg<|cL b):=by{let⟨bz,bn,y,L⟩:=av;exact(aB.apm y F U (Nat.le_of_eq L) ac M _).apm y (F.kept<|dr _ _ _ _ ar) U G ac (cur:=aJ.setIfInBounds (E Z)<|ag ch<|bg<|aO b) (by simp only[a7];rw[ru,b8 U,M];rfl) _};have W:ao (fq (a7 (a7 d ⟨i,E Z,af⟩<|ag ch<|bg<|aO b) ⟨i,E Z+1,af⟩<|ag ch<|bg<|cL b) a c (uc j (E Z) b) aq/\dw a c e (a7 (a7 d ⟨i,E Z,af⟩<|ag ch<|bg<|aO b) ⟨i,E Z+1,af⟩<|ag ch<|bg<|cL b)):=⟨⟨_,_,ay,aw,az⟩,aC⟩;generalize (a7 (a7 d ⟨i,E Z,af⟩<|ag ch<|bg<|aO b) ⟨i,E Z+1,af⟩<|ag ch<|bg<|cL b)=bB at*;go_wp2;refine kh (v:=bZ #[]) (by simp[c_,results319]) U ⟨U,?_,W.2.trans<|dw.vz cc.drew⟩;rw[C];exact W.1.below cc.drew
def RG{b:aQ->Prop}{h:List iM}(p:zr c a b)(l:∀k,b k->og c k n h)(e:∀f∈h,f.Ok c a b)(o:E h<=g)(d:E h<=1000000):(EF n g h).Ok c a b where
 meth:=YR _ _ _
 call:=YS
 wr:=Z1 p l e o d
 ZV:=λj q=>by
  have i:=zt h e (j++[0,0]) q;rw[dj]at i;refine⟨?_,i.2⟩;show E j<=E (uc _ _ _);rw[JN];omega
def rz(c:aQ)(b:Nat)(v:bk)(a:List mC):Prop:=c.ownsRow b 275 1 v (E a)<|a.map λf=>cP f.1 f.2
def RH:(aL.info? 275).map (λa=>(a.8,a.3,a.4))=ae (ae .nilIface,1,16):=b6
def Z2:aL.underlying 271=ae (.slice 275):=b6
def Ep(s)(b)(k:s.size<=3000)(e:Lib.parseUintB 64 s.1.1=.ok a):a_ aL 245 #[am s] b λd h=>d=bh (ag .u64 (a:Int))/\cv (J b.1) b h:=by let c:=O<|Tryz.strconv_ParseUint_10_at64_ok s G a e b;go_in;go_wp21;refine c.m λi g=>?_;let j:cv (J b.1) b i:=by{rcases g with rfl|rfl;{exact cU _ _};{exact (Go.Joins.below_bytesWorld _ _ _ _<|cO _)}};go_wp2;go_ret;simp_all
def BJ(a:ap)(b:List Nat):Prop:=b9 (Lib.parseUintB 64) (I 46 a)=b9 .ok b
def mw(b:List Nat):List mC:=b.map λa=>l2<|UInt8.ofNat a
def Z3{c d}(ac:dx b)(aP:E c<=3000)(B:BJ c d):a_ aL 246 #[am<|D c] b λX I=>(∃v,X=bh v/\rz I (J b.1) v (mw d))/\cv (J b.1) b I:=by
 let⟨au,aO,ap,aq,ar⟩:=im RH;have Z:=Bo b<|h9 46<|D c;have L:=sT (D c) 46 ac lv;have z:cv (J b.1) b (aN b<|aZ (c7<|(h9 46<|D c).map am) 9):=(cU _ _).alloc (cO _) _;have ax:ao (∀i∈h9 46 (D c),i.size<=3000):=λi an=>by{have:=Bn 46 (D c) i an;rw[cV]at this;omega};have y:ao (b9 (λi=>Lib.parseUintB 64 i.1.1) (h9 46<|D c)=b9 .ok d):=by{have:=q4 46<|D c;rw[o8]at this;rw[BJ,<-this,lV]at B;exact B};have A:E (h9 46<|D c)=E d:=by{have:=eQ List.length y;grind};have aS:E d<=3001:=by{have:=nM 46 (D c).1.1;rw[<-q4,ff,o8]at this;omega};generalize h9 46 (D c)=h at*;generalize aN b (aZ (c7<|h.map am) 9)=e at*;have u:=O L;have P:=O z;have N:=z.4;rw[A]at u;let⟨al,aa⟩:=Z;have S:=O aa;have M:=O A;go_in;go_wp2_with (go_at_call 73;refine u.m ?_;rintro e rfl);go_loopw [9,3] (λt v wr=>∃(a:Nat) (l:Option gU) (k n:Nat),t=ag ai a/\v=aE l k n/\a<=E d/\rz wr (J e.1) (aE l k n) (mw<|be a d)/\cv (J e.1) e wr) λt _ _=>E d-cM (intOf t);·exact⟨0,af,0,0,U,U,dJ _,ih _ _ _ _,cU _ _⟩
 ·(
 obtain⟨a,l,k,n,rfl,rfl,aR,q,o⟩:=hrel;have H:=O o;have az:=o.4;replace q:=O q;by_cases ah:a<E d;{
 have x:a<E h:=by rw[M];omega
 have ab:=(o.cell (p:=⟨J b.1,0+a,af⟩) al).trans (S a x);rw[fM]at ab;have:(a:Int)<E d:=G;have F:Lib.parseUintB 64 h[a].1.1=.ok d[a]:=by{have:=eQ (λaC:List _=>aC[a]?) y;grind};have R:=O<|Ep h[a] wr (ax h[a]<|ei x) F;have T:ao (mw (be (a+1) d)=mw (be a d)++[l2<|UInt8.ofNat d[a]]):=by{rw[ao,mw,g8 ah,jg];rfl};have C:(d[a]:Int)%256=(bg (UInt8.ofNat d[a]):Int):=by{rfl};have:=O C;have av:E (mw<|be a d)=a:=by simp[mw];omega
 clear F o C;generalize h[a]=i,d[a]=aF at*;go_wp2_with (fail);refine R.m λK r=>?_;have g:ao (rz K (J e.1) (aE l k n)<|mw<|be a d):=g6 q r;have:=r.4;let Q:=O<|bC H<|bN r az;go_wp2_with (at_builtin;go_loud (refine Dm _ U (.tmp 13) (.tmp 18) 271 U (J e.1) 275 au .nilIface 1 16 Z2 aO ap aq ar U bW _ (E<|mw<|be a d) _ U (g.alloc _) ⟨J K.1,0,af⟩ 1 1 [cP 270<|ag ch<|(aF:Int)%256] U U ?bG ?c2 ?c3 ?cB ?fe ?_));case bG=>(
 intro aw aH j;match aw,j with
 |0,j=>simp at j;subst j;simp[Addr.add]
 |k+1,j=>grind)
 case c2=>intro aH w;simp at w;subst w;rfl
 case c3=>unfold fk;omega
 case cB=>omega
 case fe=>simp;omega
 intro aT aM aj ad _;obtain⟨aI,aK,aJ,rfl⟩:=oj aj;let Y:ao (rz aM (J e.1) (aE aI aK aJ)<|mw<|be (a+1) d):=by{rw[ao,rz,T,dj,jg,av];assumption};let V:=O<|(cf Q G _).grown ad ct λaB ay=>(g.lt aB ay).1;go_wp2;exact bd (⟨a+1,_,_,_,dd,U,G,Y,V⟩) dz};{have W:a=E d:=G;subst W;have g:=q;rw[jc]at g;replace g:=O g;go_wp2;go_ret;exact⟨⟨_,U,wT g G⟩,bC P<|bN H N⟩})
def Z4{a:aK}{k}(i:dx b)(r:a.type=1)(o:E a.data<=3000)(t:BJ a.data k):a_ aL 214 #[ce #[am<|D a.owner,ag ai a.aP,ag ai a.type,am<|D a.data]] b λg l=>(∃v,g=bh v/\rz l (J b.1) v (mw k))/\cv (J b.1) b l:=by have d:cv (J b.1) b (aN b<|aZ #[am<|D a.owner,ag ai a.aP,ag ai a.type,am<|D a.data] 83):=(cU _ _).alloc (cO _) _;have:=d.4;have n:=O<|sT (D a.data) 32 (i.below d) lv;have h:cv (J b.1) b (aN (aN b<|aZ #[am<|D a.owner,ag ai a.aP,ag ai a.type,am<|D a.data] 83)<|aZ (c7<|(h9 32<|D a.data).map am) 9):=cf d ax _;have p:=O<|Z3 (i.below h) o t;rw[r]at*;generalize h9 32 (D a.data)=u at*;let e:=O h;go_in;go_wp21;refine n.m ?_;rintro z rfl;go_wp21;refine eb p ?_;rintro g A ⟨⟨v,rfl,c⟩,q⟩;obtain⟨w,y,x,rfl⟩:=oj c;replace c:=O c;let j:=e.4;go_wp2;go_ret;exact⟨⟨_,U,wT c j⟩,bC e<|bN q j⟩
def ux(c:aQ)(b:Nat)(v:bk)(a:List iM):Prop:=c.ownsRow b 275 1 v (E a)<|a.map λf=>cP f.1 f.2
def Er{c:Array bk}(e:List iM)(h:c.1=e.map λf=>cP f.1 f.2)(i:a<=J b.1)(k:E e<=fk)(d:Nat)(l:d=E e)(j:g=J b.1):ux (aN b<|aZ c 275) a (bL g 0 d d) e:=by
 subst l j;let n:J c=E e:=by rw[<-p6,h,ff]
 exact⟨ax,bE ⟨J b.1,E e,c,U,i,cW b _,cO _,k,by rw[n,r5],by rw[h,r5];exact mS ax⟩⟩
def lr(a:aK):bk:=ce #[am<|D a.owner,M a.aP,M a.type,am<|D a.data]
def vG(a:ap):List iM:=[jV<|l2<|UInt8.ofNat<|E a,jV<|ev a]
def Z5{a:aK}(j:dx b)(k:a.type=16)(n:E a.data<=3000):a_ aL 214 #[lr a] b λi h=>(∃v,i=bh v/\ux h (J b.1) v (vG a.data))/\a6 b h:=by
 let⟨d,c⟩:=bm<|UInt8.ofNat<|E a.data;have o:ch.wrap (E a.data:Int)=(bg d:Int):=by rw[ur,c,pB];omega
 replace c:=O c;have g:a6 b (aN b<|aZ #[am<|D a.owner,ag ai a.aP,ag ai a.type,am<|D a.data] 83):=cf cc bo _;have e:=O<|sT (D a.data) 32 (j.below g) lv;have:(D a.data).size=E a.data:=cV _;unfold lr;rw[k]at e g⊢;generalize h9 32 (D a.data)=l at*;go_in;go_wp21;refine e.m ?_;rintro p rfl;go_wp2;go_ret;refine⟨⟨bL (J b.1+1+1) 0 2 2,U,?_⟩,((cf cc bo _).alloc ax _).alloc gB _⟩;rw[show vG a.data=[jV<|l2 d,jV<|ev a.data] by rw[c];rfl];refine Er [jV<|l2 d,jV<|ev a.data] ?_ ?_ ?_ 2 U ?_;{rfl};{first|omega|(simp only[eE];omega)|(simp;omega)};{simp[fk]};{simp only[eE]}
def RI{a:aK}(i:dx b)(c:a.type=j)(q:(j==6)=ak)(p:(j==1)=ak)(k:(j==16)=ak)(l:(j==15)=ak)(o:E a.data<=3000):a_ aL 214 #[lr a] b λh g=>(∃v,h=bh v/\ux g (J b.1) v [rl a.data])/\a6 b g:=by have e:a6 b (aN b<|aZ #[am<|D a.owner,ag ai a.aP,ag ai a.type,am<|D a.data] 83):=cf cc bo _;have d:=O<|sT (D a.data) 32 (i.below e) lv;have:(D a.data).size=E a.data:=cV _;unfold lr;rw[c]at d e⊢;generalize h9 32 (D a.data)=n at*;go_in;go_wp21;refine d.m ?_;rintro r rfl;go_wp2;go_ret;refine⟨⟨bL (J b.1+1+1) 0 1 1,U,Er [rl a.data] ?_ ?_ ?_ 1 U ?_⟩,?_⟩;{rfl};{first|omega|(simp only[eE];omega)|(simp;omega)};{simp[fk]};{simp only[eE]};exact((cf cc bo _).alloc ax _).alloc gB _
def uf(c d:ap)(a b:Nat):List iM:=[rl c,rl d,jV<|se<|a%4294967296,jV<|se 3600,jV<|se 600,jV<|se 86400,jV<|se<|b%4294967296]
def ug(a:Nat)(b:ap):List iM:=[jV<|fB<|a%65536,rl b]
def G0(h:φ:=by intro w' hb';exact⟨U,Ds W w' hb' h,bC hb<|bN hb' hb.4⟩):φ:=h
def Z6{e:aK}(y:dx b)(A:e.type=15)(K:E e.data<=3000){c d:ap}(B:h9 32 (D e.data)=[D c,D d])(F:Lib.parseUintB 64 c=.ok a)(z:E c<=3000):a_ aL 214 #[lr e] b λj w'=>(∃v,j=bh v/\ux w' (J b.1) v (ug a d))/\a6 b w':=by
 have o:a6 b (aN b<|aZ #[am<|D e.owner,ag ai e.aP,ag ai e.type,am<|D e.data] 83):=cf cc bo _;have l:=O<|sT (D e.data) 32 (y.below o) lv;have:(D e.data).size=E e.data:=cV _;unfold lr;rw[A]at l o⊢;rw[B]at l;go_in;go_wp21;refine l.m ?_;rintro H rfl;simp only[lU,sv,dW,gG];have Ds:∀W g:aQ,a6 W g->(bY W (J b.1+1) 0 (am<|D c)/\bY W (J b.1+1) 1 (am<|D d))->(bY g (J b.1+1) 0 (am<|D c)/\bY g (J b.1+1) 1 (am<|D d)):=λW g hb h=>by
  have q:∀(i:gU) (v:bk),aA W i=ae v->aA g i=ae v:=λi v h=>(hb.cell<|g_ W i h).trans h;let⟨w,x⟩:=h;exact⟨q _ _ w,q _ _ x⟩
 have t:ao (∀(W:aQ) (k:Obj),(bY W (J b.1+1) 0 (am<|D c)/\bY W (J b.1+1) 1 (am<|D d))/\a6 b W->((bY (aN W k) (J b.1+1) 0 (am<|D c)/\bY (aN W k) (J b.1+1) 1 (am<|D d))/\a6 b (aN W k))):=λW k h=>⟨Ds W _ (cf cc bo _) h.1,cf h.2 h.2.4 _⟩
 have C:ao (∀W,(bY W (J b.1+1) 0 (am<|D c)/\bY W (J b.1+1) 1 (am<|D d))->a6 b W->a_ aL 245 #[am<|D c] W λj w'=>j=bh (ag .u64 (a:Int))/\(bY w' (J b.1+1) 0 (am<|D c)/\bY w' (J b.1+1) 1 (am<|D d))/\a6 b w'):=λW h hb=>by
  refine(Ep (D c) W (by rw[cV];exact z) F).m ?_;exact G0
 have P:eO.wrap (a:Int)=((a%65536:Nat):Int):=by rw[AN];omega
 have M:bY (bx<|aN (aN b<|aZ #[am<|D e.owner,ag ai e.aP,ag ai 15,am<|D e.data] 83)<|aZ #[am<|D c,am<|D d] 9) (J b.1+1) 0 (am<|D c)/\bY (bx<|aN (aN b<|aZ #[am<|D e.owner,ag ai e.aP,ag ai 15,am<|D e.data] 83)<|aZ #[am<|D c,am<|D d] 9) (J b.1+1) 1 (am<|D d):=by
  have p:=cW (aN b<|aZ #[am<|D e.owner,ag ai e.aP,ag ai 15,am<|D e.data] 83)<|aZ #[am<|D c,am<|D d] 9;rw[eE]at p;refine⟨?_,?_⟩<;>(show(aA _ _)=_;unfold aA;simp only[World.drew];rw[p];rfl)
 have:a6 b (bx<|aN (aN b<|aZ #[am<|D e.owner,ag ai e.aP,ag ai 15,am<|D e.data] 83)<|aZ #[am<|D c,am<|D d] 9):=((cf cc bo _).alloc ax _).drew;go_wp2;generalize (aN (aN b<|aZ #[am<|D e.owner,ag ai e.aP,ag ai 15,am<|D e.data] 83)<|aZ #[am<|D c,am<|D d] 9)=H at*
 go_region_held (λw'=>(aA w' (N (J b.1+1) 0)=ae (am<|D c)/\aA w' (N (J b.1+1) 1)=ae (am<|D d))/\a6 b w') (first|exact⟨fi,fi⟩|(exact t _ _ ⟨fi,fi⟩)|go_keep)
  (first
   |(go_at_call_of 245 (am<|D c);go_loud (refine(C _ ?_ ?_).mono ?_;assumption;assumption;rintro j w' ⟨rfl,L,r⟩)))
 let I:(a:Int)%65536=((a%65536:Nat):Int):=G;rw[I];let n:=r.4;let u:=O r;go_wp2;go_ret;refine⟨⟨bL (J w'.1) 0 2 2,U,Er (ug a d) ?_ ?_ ?_ 2 U U⟩,?_⟩
 ·rfl
 ·exact n
 ·simp[fk,ug]
 ·exact cf u n _
def Zz{j:aK}(H:dx b)(M:j.type=6)(Y:E j.data<=3000){e g i d:ap}(P:h9 32 (D j.data)=[D e,D g,D i,D d])(x:Lib.parseUintB 64 i=.ok a)(Q:Lib.parseUintB 64 d=.ok c)(I:E i<=3000)(K:E d<=3000):a_ aL 214 #[lr j] b λl w'=>(∃v,l=bh v/\ux w' (J b.1) v (uf e g a c))/\a6 b w':=by
 have u:a6 b (aN b<|aZ #[am<|D j.owner,ag ai j.aP,ag ai j.type,am<|D j.data] 83):=cf cc bo _;have q:=O<|sT (D j.data) 32 (H.below u) lv;have:(D j.data).size=E j.data:=cV _;unfold lr;rw[M]at q u⊢;rw[P]at q;go_in;go_wp21;refine q.m ?_;rintro S rfl;simp only[lU,sv,dW,gG];have Ds:∀W k:aQ,a6 W k->(bY W (J b.1+1) 0 (am<|D e)/\bY W (J b.1+1) 1 (am<|D g)/\bY W (J b.1+1) 2 (am<|D i)/\bY W (J b.1+1) 3 (am<|D d))->(bY k (J b.1+1) 0 (am<|D e)/\bY k (J b.1+1) 1 (am<|D g)/\bY k (J b.1+1) 2 (am<|D i)/\bY k (J b.1+1) 3 (am<|D d)):=λW k hb h=>by
  have p:∀(o:gU) (v:bk),aA W o=ae v->aA k o=ae v:=λo v h=>(hb.cell<|g_ W o h).trans h;let⟨A,B,C,F⟩:=h;exact⟨p _ _ A,p _ _ B,p _ _ C,p _ _ F⟩
 have y:ao (∀(W:aQ) (n:Obj),(bY W (J b.1+1) 0 (am<|D e)/\bY W (J b.1+1) 1 (am<|D g)/\bY W (J b.1+1) 2 (am<|D i)/\bY W (J b.1+1) 3 (am<|D d))/\a6 b W->((bY (aN W n) (J b.1+1) 0 (am<|D e)/\bY (aN W n) (J b.1+1) 1 (am<|D g)/\bY (aN W n) (J b.1+1) 2 (am<|D i)/\bY (aN W n) (J b.1+1) 3 (am<|D d))/\a6 b (aN W n))):=λW n h=>⟨Ds W _ (cf cc bo _) h.1,cf h.2 h.2.4 _⟩
 have R:ao (∀W,(bY W (J b.1+1) 0 (am<|D e)/\bY W (J b.1+1) 1 (am<|D g)/\bY W (J b.1+1) 2 (am<|D i)/\bY W (J b.1+1) 3 (am<|D d))->a6 b W->a_ aL 245 #[am<|D i] W λl w'=>l=bh (ag .u64 (a:Int))/\(bY w' (J b.1+1) 0 (am<|D e)/\bY w' (J b.1+1) 1 (am<|D g)/\bY w' (J b.1+1) 2 (am<|D i)/\bY w' (J b.1+1) 3 (am<|D d))/\a6 b w'):=λW h hb=>by
  refine(Ep (D i) W (by rw[cV];exact I) x).m ?_;exact G0
 have aa:yw IntKind.u32 (a:Int)=((a%4294967296:Nat):Int):=by rw[yJ];omega
 have X:ao (∀W,(bY W (J b.1+1) 0 (am<|D e)/\bY W (J b.1+1) 1 (am<|D g)/\bY W (J b.1+1) 2 (am<|D i)/\bY W (J b.1+1) 3 (am<|D d))->a6 b W->a_ aL 245 #[am<|D d] W λl w'=>l=bh (ag .u64 (c:Int))/\(bY w' (J b.1+1) 0 (am<|D e)/\bY w' (J b.1+1) 1 (am<|D g)/\bY w' (J b.1+1) 2 (am<|D i)/\bY w' (J b.1+1) 3 (am<|D d))/\a6 b w'):=λW h hb=>by
  refine(Ep (D d) W (by rw[cV];exact K) Q).m ?_;exact G0
 have ab:yw IntKind.u32 (c:Int)=((c%4294967296:Nat):Int):=by rw[yJ];omega
 have Z:bY (bx<|aN (aN b<|aZ #[am<|D j.owner,ag ai j.aP,ag ai 6,am<|D j.data] 83)<|aZ #[am<|D e,am<|D g,am<|D i,am<|D d] 9) (J b.1+1) 0 (am<|D e)/\bY (bx<|aN (aN b<|aZ #[am<|D j.owner,ag ai j.aP,ag ai 6,am<|D j.data] 83)<|aZ #[am<|D e,am<|D g,am<|D i,am<|D d] 9) (J b.1+1) 1 (am<|D g)/\bY (bx<|aN (aN b<|aZ #[am<|D j.owner,ag ai j.aP,ag ai 6,am<|D j.data] 83)<|aZ #[am<|D e,am<|D g,am<|D i,am<|D d] 9) (J b.1+1) 2 (am<|D i)/\bY (bx<|aN (aN b<|aZ #[am<|D j.owner,ag ai j.aP,ag ai 6,am<|D j.data] 83)<|aZ #[am<|D e,am<|D g,am<|D i,am<|D d] 9) (J b.1+1) 3 (am<|D d):=by
  have w:=cW (aN b<|aZ #[am<|D j.owner,ag ai j.aP,ag ai 6,am<|D j.data] 83)<|aZ #[am<|D e,am<|D g,am<|D i,am<|D d] 9;rw[eE]at w;refine⟨?_,?_,?_,?_⟩<;>(show(aA _ _)=_;unfold aA;simp only[World.drew];rw[w];rfl)
 have:a6 b (bx<|aN (aN b<|aZ #[am<|D j.owner,ag ai j.aP,ag ai 6,am<|D j.data] 83)<|aZ #[am<|D e,am<|D g,am<|D i,am<|D d] 9):=((cf cc bo _).alloc ax _).drew;go_wp2;generalize (aN (aN b<|aZ #[am<|D j.owner,ag ai j.aP,ag ai 6,am<|D j.data] 83)<|aZ #[am<|D e,am<|D g,am<|D i,am<|D d] 9)=S at*
 go_region_held (λw'=>(aA w' (N (J b.1+1) 0)=ae (am<|D e)/\aA w' (N (J b.1+1) 1)=ae (am<|D g)/\aA w' (N (J b.1+1) 2)=ae (am<|D i)/\aA w' (N (J b.1+1) 3)=ae (am<|D d))/\a6 b w') (first|exact⟨fi,fi⟩|(exact y _ _ ⟨fi,fi⟩)|go_keep)
  (first
   |(go_at_call_of 245 (am<|D i);go_loud (refine(R _ ?_ ?_).mono ?_;assumption;assumption;rintro l w' ⟨rfl,L,r⟩))
   |(go_at_call_of 245 (am<|D d);go_loud (refine(X _ ?_ ?_).mono ?_;assumption;assumption;rintro l w' ⟨rfl,L,r⟩)))
 let T:(a:Int)%4294967296=((a%4294967296:Nat):Int):=G;let V:(c:Int)%4294967296=((c%4294967296:Nat):Int):=G;rw[T,V];let t:=r.4;let z:=O r;go_wp2;go_ret;refine⟨⟨bL (J w'.1) 0 7 7,U,Er (uf e g a c) ?_ ?_ ?_ 7 U U⟩,?_⟩
 ·rfl
 ·exact t
 ·simp[fk,uf]
 ·exact cf z t _
def ZA(a:aK):bk:=ce #[aS a.owner,M a.aP,M a.type,aS a.data]
def ZB{mb:Nat}{v:List mC}(g:rz b a e v)(n:v≠[])(u:mb<a):∃c i,e=bL c 0 (E v) i/\E v<=i/\Y_ mb b c v:=by let j:=g;obtain⟨_,⟨rfl,o⟩|⟨c,i,r,rfl,t,d,k,_⟩⟩:=g;{exact absurd (hq o) n};{refine⟨c,i,U,k,(dK.1 d).1,G,λq h=>?_,λp l=>?_⟩;{rw[d]at h;simp at h};{let:=lG j p G;rw[this];simp[l]}}
def oY(b:aQ)(c:Nat)(a:aK):Prop:=b.1[c]? = ae (aZ #[am<|D a.owner,ag ai a.aP,ag ai a.type,am<|D a.data] 83)
def oY.cells{c:aK}(d:oY b a c):aA b (N a 0)=ae (aS c.owner)/\aA b (N a 1)=ae (M c.aP)/\aA b (N a 2)=ae (M c.type)/\aA b (N a 3)=ae (aS c.data):=by unfold oY at d;refine⟨?_,?_,?_,?_⟩<;>simp[aA,d]
def RJ{h:aQ}{a:ap}(v:gO h c e a):∃b d,e=aE b (E a) d:=by obtain⟨_,⟨rfl,g⟩|⟨k,i,j,rfl,_⟩⟩:=v;{exact⟨af,0,by rw[g]⟩};{exact wa}
structure nI(r:aK)(aV:List iM):Prop where
 own:r.owner.length<=300
 typ:r.type=(r.type.toNat:Int)/\r.type.toNat<65536
 aP:r.aP<4294967296
 data:∀W,dx W->Calls Tryz.prog 214 #[ZA r] W λe w'=>(∃v,e=.returned v/\ux w' W.heap.size v aV)/\a6 W w'
 ok:∀(mb base:Nat) (I:World->Prop),(∀w,I w->dx w)->0<base->0<mb->∀f∈aV,f.Ok mb base I
 ne:aV≠[]
 few:aV.length<=1000
def ww(a:aK)(d c:Nat)(b:List iM):List iM:=[rl a.owner,jV<|fB<|cM a.type,jV<|fB 1,jV<|se a.aP,EF d c b]
def iX(d:aK)(a:List iM)(b:ap)(c:gs):ap×gs:=ge (ww d 0 0 a) b c
def ef(b:aK->List iM)(e:List aK)(c:ap)(d:gs):ap×gs:=e.foldl (λs a=>iX a (b a) s.1 s.2) (c,d)
def RK(c)(g:a<E i)(d e):ef c (be (a+1) i) d e=iX i[a] (c i[a]) (ef c (be a i) d e).1 (ef c (be a i) d e).2:=by rw[g8 g,ef,wE];rfl
def RL{a b c}:ef a (i++p) b c=ef a p (ef a i b c).1 (ef a i b c).2:=by rw[ef,wE];rfl
def RM{mb v}(d:ux b a e v)(q:v≠[])(p:mb<a):∃c g,e=bL c 0 (E v) g/\E v<=g/\og mb b c v:=by have i:=d;obtain⟨_,⟨rfl,r⟩|⟨c,g,l,rfl,n,h,j,_⟩⟩:=d;{grind};{refine⟨c,g,U,j,G,⟨_,_,h,bW,bW⟩,λk o=>?_⟩;let:=lG i k G;grind}
def RO{mb base g aV}(d:0<base)(e:0<mb):zr mb base (λa=>dx a/\og mb a g aV):=λa h b c=>⟨b.1.tg c d e,b.2.tg c⟩
def RP{l c}(b:nI l c)(g h j)(d:0<h)(e:0<g)(o:E c<=a):∀f∈ww l j a c,f.Ok g h (λn=>dx n/\og g n j c):=by intro f k;simp only[ww,fw,rF,n_]at k;rcases k with rfl|rfl|rfl|rfl|rfl;{exact zu b.own (λ_ i=>i.1) d e};{exact ou<|l3 _ b.2.2};{exact ou<|l3 _ G};{exact ou<|y1 b.3};{exact RG (RO d e) (λ_ i=>i.2) (b.5 _ _ _ (λ_ i=>i.1) d e) o<|cd b.7}
def RQ{d a}(e:nI d a)(c b):E c<=E (iX d a c b).1/\E b<=E (iX d a c b).2/\(i8 b->i8 (iX d a c b).2):=
 zt (ww d 0 (E a) a) (RP e 1 1 0 G G bo) c b
def zv(d):∀(e:List aK),(∀c∈e,nI c<|d c)->∀b a,E b<=E (ef d e b a).1/\E a<=E (ef d e b a).2/\(i8 a->i8 (ef d e b a).2)
 |[],_,b,a=>⟨cO _,cO _,id⟩
 |c::e,g,b,a=>by have h:=RQ (g c ax) b a;have i:=zv d e (λj k=>g j<|by grind) (iX c (d c) b a).1 (iX c (d c) b a).2;exact⟨cJ h.1 i.1,cJ h.2.1 i.2.1,λg=>i.2.2<|h.2.2 g⟩
def RR{a}(h:∀g∈i,nI g<|a g)(c d e):E (ef a (be e i) c d).1<=E (ef a i c d).1/\E (ef a (be e i) c d).2<=E (ef a i c d).2:=by
 let:ef a i c d=ef a (bi e i) (ef a (be e i) c d).1 (ef a (be e i) c d).2:=by rw[<-RL,ku]
 let:=zv a (bi e i) (λf b=>h f<|OR b) (ef a (be e i) c d).1 (ef a (be e i) c d).2;grind
def RS{e aV}(B:nI e aV)(l:0<c)(o:0<a){d base}(y:dx b)(x:og a b g aV)(t:E aV<=n)(mb:fq b a c d base)(C:i8 base)(F:c<=J b.1)(z:E (iX e aV d base).1<=50000)(A:E (iX e aV d base).2<=20000):a_ aL 109 #[bv a,bL (J b.1) 0 5 5] (aN b<|aZ #[cP 269<|am<|D e.owner,cP 259<|ag eO<|cM e.type,cP 259<|ag eO 1,cP 317<|ag .u32 e.aP,cP 271<|aE (ae ⟨g,0,af⟩) (E aV) n] 275) λj r=>j=bh (bZ #[])/\fq r a c (iX e aV d base).1 (iX e aV d base).2/\dw a c b r:=by
 have hnew:=cW b<|aZ #[cP 269<|am<|D e.owner,cP 259<|ag eO<|cM e.type,cP 259<|ag eO 1,cP 317<|ag .u32 e.aP,cP 271<|aE (ae ⟨g,0,af⟩) (E aV) n] 275;have k:a6 b (aN b<|aZ #[cP 269<|am<|D e.owner,cP 259<|ag eO<|cM e.type,cP 259<|ag eO 1,cP 317<|ag .u32 e.aP,cP 271<|aE (ae ⟨g,0,af⟩) (E aV) n] 275):=cf cc bo _;have i:dw a c b _:=dw.vz k;have:=mb.lt;have p:=RO (mb:=a) (base:=c) (g:=g) (aV:=aV) l o;refine(JM 5 d base (p _ _ ⟨y,x⟩ i) p (mb.below k) (by grind) C (RP B a c g l o t) ⟨G,⟨_,_,hnew,bW,bW⟩,?_⟩ (by simp[ww]) (by simp[ww]) z A).mono ?_;{
 intro q h;match q,h with
 |0,_=>exact lL
 |1,_=>exact lL
 |2,_=>exact lL
 |3,_=>exact lL
 |4,_=>exact lL
 |q+5,h=>simp[ww]at h;omega};rintro j H ⟨rfl,u,w⟩;exact⟨U,u,i.trans w⟩
def RT{e}(h:oY b a e)(j:dw c g b f)(i:a≠c):oY f a e:=j.box h i bW bW
def Mv(h:φ:=by
 have h1:=mq.2.1;have h2:=mq.2.2;rw[AN];omega):φ:=h
def ZC{h ay}(size){e w mb}(aq:fq b a h mb w)(aB:i8 w)(ap:dx b)(a2:h<=J b.1)(al:0<h)(ar:0<a)(L:fA b c ay i)(bn:c<h)(aI:c≠a)(bQ:E i<=g)(bW:E i<=3001)(ab:∀j∈i,nI j<|e j)(bV:E (ef e i mb w).1<=50000)(bX:E (ef e i mb w).2<=20000)(bY:(E (ef e i mb w).1:Int)<=size):a_ aL 169 #[bv a,M size,bL c ay (E i) g] b λp ah=>p=bh (aG aD)/\fq ah a h (ef e i mb w).1 (ef e i mb w).2/\dw a h b ah:=by
 have aH:=O aq;let⟨b4,b7,A,au,Y⟩:=aq;obtain⟨Z,ax,bG,rfl⟩:=oj au;obtain⟨aa,az,ad,rfl⟩:=oj Y;have b1:=A.cells;have bD:=A.lt;have W:dw a h b (aN b<|aZ #[aE Z ax bG,aE aa az ad] 258):=dw.vz<|cf cc bo _;have a1:=O (show fq (aN b<|aZ #[aE Z ax bG,aE aa az ad] 258) a h mb w from aH.below<|cf cc bo _);have bp:=O W;have aK:=O ap;have aV:=O L;have F:=O ab;have bB:=O aB;have aM:=L.1;clear A au Y ap L ab W aH aB;go_wp2
 go_loopw [15] (λP wr=>∃(d:Nat),P=M d/\d<=E i/\fq wr a h (ef e (be d i) mb w).1 (ef e (be d i) mb w).2/\dw a h b wr) λP _=>E i-cM (intOf P)
 ·exact⟨0,U,dJ _,a1,bp⟩
 ·obtain⟨d,rfl,bU,u,r⟩:=hrel;have aU:=O u;have aY:=O r;have b0:=r.4;by_cases K:d<E i
  ·have b2:(d:Int)<E i:=G;have aF:=sW aV r.4<|r.5 c aM aI<|bJ bn;let⟨bq,br,bs,bt⟩:=aF.four d K;have mq:=F i[d]<|ei K;have aO:=O<|RK e K mb w;have T:=O<|RR F mb w<|d+1;have aR:=O<|(zv e (be d i) (λf bd=>F f<|vL bd) mb w).2.2 bB;have I:=(aK.tg r al ar)
   have aj:a6 wr (aN wr<|aZ #[am<|D i[d].owner,ag ai i[d].aP,ag ai i[d].type,am<|D i[d].data] 83):=cf cc bo _;have B:oY (aN wr<|aZ #[am<|D i[d].owner,ag ai i[d].aP,ag ai i[d].type,am<|D i[d].data] 83) (J wr.1) i[d]:=cW wr _;let⟨j,X⟩:=bm<|i[d];rw[<-X]at bq br bs bt mq aj B;obtain⟨t,q,aT⟩:∃t q,ef e (be d i) mb w=(t,q):=⟨_,_,U⟩
   have C:ao (ef e (be (d+1) i) mb w=iX j (e j) t q):=by
    grind
   have aW:ao (fq wr a h t q):=by grind
   have aX:ao (i8 q):=by grind
   clear aF u r X aO aT aU aR;have a8:J wr.1≠a:=G;have aJ:ao (∀k,a6 wr k->oY k (J wr.1) j->a_ aL 214 #[ce #[aS j.owner,M j.aP,M j.type,aS j.data]] (bx k) λp ah=>∃n l,p=bh (bL n 0 (E<|e j) l) /\
     (aA ah (N (J wr.1) 0)=ae (aS j.owner)/\aA ah (N (J wr.1) 1)=ae (M j.aP)/\aA ah (N (J wr.1) 2)=ae (M j.type)/\aA ah (N (J wr.1) 3)=ae (aS j.data)) /\
     ao (E (e j)<=l/\og a ah n (e j)/\oY ah (J wr.1) j/\fq ah a h t q/\dx ah/\dw a h b ah)):=by
    intro k bc av;have x:=bc.drew;refine(mq.4 (bx k)<|I.below x).mono ?_;rintro p ah ⟨⟨v,rfl,bl⟩,an⟩;obtain⟨n,l,rfl,Q,R⟩:=RM (mb:=a) bl mq.6 (cd x.4);have z:oY ah (J wr.1) j:=(an.5 _ (dK.1 av).1).trans av;have H:=bC x<|bN an x.4;have bw:dw a h wr ah:=dw.vz H;exact⟨n,l,U,z.cells,Q,R,z,aW.below H,I.below H,aY.trans bw⟩
   have aC:ao (∀n l o,ao (E (e j)<=l/\og a o n (e j)/\oY o (J wr.1) j/\fq o a h t q/\dx o/\dw a h b o) ->
     a_ aL 109 #[bv a,bL (J o.1) 0 5 5] (aN o<|aZ #[cP 269<|am<|D j.owner,cP 259<|ag eO<|cM j.type,cP 259<|ag eO 1,cP 317<|ag .u32 j.aP,cP 271<|aE (ae ⟨n,0,af⟩) (E<|e j) l] 275) λp ah=>
      p=bh (bZ #[])/\(aA ah (N (J wr.1) 0)=ae (aS j.owner)/\aA ah (N (J wr.1) 1)=ae (M j.aP)/\aA ah (N (J wr.1) 2)=ae (M j.type)/\aA ah (N (J wr.1) 3)=ae (aS j.data)) /\
      ao (fq ah a h (ef e (be (d+1) i) mb w).1 (ef e (be (d+1) i) mb w).2/\dw a h b ah)):=by
    intro n l o a9;let⟨Q,R,z,a4,aP,S⟩:=a9;have ba:=V T;rw[V C]at ba;refine(RS mq al ar aP R Q a4 (V aX) (cJ a2 S.4) G G).m λah ⟨h2,y⟩=>⟨U,(RT z y a8).cells,?_,S.trans y⟩;rw[C];exact h2
   have bz:eO.wrap j.type=(cM j.type:Int):=Mv
   have ca:yw IntKind.u32 (j.aP:Int)=(j.aP:Int):=by
    have h1:=mq.3;rw[yJ];omega
   clear mq T I C;let⟨b3,aw⟩:=bm<|cM j.type;rw[<-aw]at bz aC;clear aw;go_wp2;have bu:=O<|aJ _ aj B;have bb:=B.cells;generalize (aN wr<|aZ #[am<|D j.owner,ag ai j.aP,ag ai j.type,am<|D j.data] 83)=k at*;have bT:(aA (bx k) (N (J wr.1) 0)=ae (aS j.owner)/\aA (bx k) (N (J wr.1) 1)=ae (M j.aP)/\aA (bx k) (N (J wr.1) 2)=ae (M j.type)/\aA (bx k) (N (J wr.1) 3)=ae (aS j.data)):=bb
   go_region_held (λah=>aA ah (N (J wr.1) 0)=ae (aS j.owner)/\aA ah (N (J wr.1) 1)=ae (M j.aP)/\aA ah (N (J wr.1) 2)=ae (M j.type)/\aA ah (N (J wr.1) 3)=ae (aS j.data)) (first|assumption|go_keep)
    (first
     |(go_at_call 214;go_loud (refine eb bu ?_;rintro p b8 ⟨n,l,rfl,bO,a0⟩))
     |(go_at_call 109;go_loud (refine(aC _ _ _ a0).m λb_ ⟨bR,a3⟩=>?_)))
   rename_i bS;go_wp2;let⟨h1,y⟩:=a3;exact⟨⟨d+1,dd,G,h1,y⟩,dz⟩
  ·have a5:d=E i:=G;subst a5;rw[jc]at u;have ac:=O<|cj u r;let⟨b6,bI,bf,bj,_⟩:=u;obtain⟨bK,bP,rfl⟩:=RJ bj;have bM:=bf.cells.1;have bF:¬size<(E ((ef e i mb w).1):Int):=G;generalize E (ef e i mb w).1=bH at*;go_wp2;go_ret;exact⟨U,ac.1,ac.2⟩
structure sx(s mb:Nat)(size:Int)(cs:List Int)(W:World):Prop where
 b0:cx W s (bv mb) 196
 b1:cx W (s+1) (M size) 3
 b2:cx W (s+2) (bX) 61
 b3:gS W (s+3) cs 3
 b4:cx W (s+4) (bL (s+3) 0 3 3) 61
def sx.kept{cs}(e:sx a g j cs b)(d:∀c,a<=c->c<a+5->f.1[c]? = b.1[c]?):sx a g j cs f:=
 ⟨(d _ G G).trans e.1,(d _ G G).trans e.2,(d _ G G).trans e.3,(d _ G G).trans e.4,(d _ G G).trans e.5⟩
def sx.lt{cs}(b:sx a c j cs f):a+4<J f.1:=cx.lt b.5
def sx.set{cs d}(a:sx c g j cs d)(b size):sx c g j (cs.set b size) (a7 d ⟨c+3,b,af⟩<|ag ai size):=
 ⟨(dr _ _ _ _ ax).trans a.1,(dr _ _ _ _ ax).trans a.2,(dr _ _ _ _ ax).trans a.3,a.4.set b size,(dr _ _ _ _ ax).trans a.5⟩
def Zt(c e d a):a_ aL 83 #[aE c e d] a λg b=>g=bh (ez (.func 203) #[] #[bv<|J a.1,bv<|J a.1+1])/\J b.1=J a.1+2/\a6 a b/\cx b (J a.1) (aE c e d) 77/\cx b (J a.1+1) (ez (.func 151) #[] #[]) 246:=by refine(PQ).m ?_;rintro b rfl;refine⟨U,ax,(cf cc bo _).alloc ax _,(cx.qf _ _ _).alloc _,?_⟩;have:=cx.qf (aN a<|aZ #[aE c e d] 77) (ez (.func 151) #[] #[]) 246;simp_all
def mt(b:List aK)(a:Nat):List aK:=ex (·.2)<|be a<|dg c8 b
def Zu:mt i 0=[]:=rfl
def Zw{c}(d:(dg c8 i)[a]? = ae c):mt i (a+1)=mt i a++c.2:=by unfold mt;rw[A6 d,o3];simp
def Kb(a b):E (mt a b)<=E a:=by let c:a=mt a b++ex (·.2) (bi b<|dg c8 a):=by{rw[mt,<-o3,ku];exact(AY c8 _ _ _ bo).symm};grind
def Kc{c}(d:c∈dg c8 i){a}(e:a∈c.2):a∈i:=by rw[(qP d).2.2]at e;grind
def Zx{j h}(k:mi b a c g j h)(d:a6 b f):mi f a c g j h:=by let⟨q,r,e,l,n,o,p⟩:=k;exact⟨q,r,e.kept<|d.5 a e.lt,g6 l d,g6 n d,o,p⟩
def FV{g h}(d:fq b a c g h):mi b a c a g h:=by have k:=d;let⟨l,n,e,_⟩:=k;exact d.away ⟨λj i=>by rw[e]at i;grind,λj i=>by rw[e]at i;grind⟩
def zw{o p}(t:mi b a c g o p)(B:(∀d,b.1[n]?≠ae (aZ d 5 (0,0)))/\∀d,b.1[n]?≠ae (aZ d 315 (0,0)))(y:a≠n)(h:∀i,i≠n->f.1[i]? = b.1[i]?):mi f a c g o p:=by let⟨z,A,u,l,j,w,x⟩:=t;refine⟨z,A,u.kept<|h a y,nQ l λe k=>h e λr=>?_,nQ j λe k=>h e λr=>?_,w,x⟩;{let d:=vE l k;grind};{let d:=vF j k;grind}
def xQ(i:cx b g e z)(l:dw a c b f)(k:g≠a)(j:z≠5)(v:z≠315):cx f g e z:=l.box i k j v
structure mj(mb base s lb:Nat)(size:Int)(vs:Array Value)(w:World)(ds:List Nat)(cs:List Int)(d:Nat)(S:ap×gs)(W:World):Prop where
 fb:sx s mb size cs W
 lists:W.heap[lb]? = some (.cells vs 77)
 msg:mi W mb base d S.1 S.2
 po:i8 S.2
 g:dx W
 tg:dw mb base w W
 defs:∀x∈ds,W.heap[x]? = some (.deferred (some []))
section
variable {mb base s lb:Nat} {size:Int} {vs:Array Value} {w:World} {ds:List Nat} {cs:List Int} {d:Nat} {S S':ap×gs}{W B:World}
def mj.re(a:mj mb base s lb size vs w ds cs d S W)(c)(e:(∀b,W.1[c]?≠ae (aZ b 5 (0,0)))/\∀b,W.1[c]?≠ae (aZ b 315 (0,0))):mj mb base s lb size vs w ds cs c S W:=
 ⟨a.1,a.2,a.3.msg.away e,a.4,a.5,a.6,a.7⟩
def mj.keeps(a:mj mb base s lb size vs w ds cs d S W)(b:ey d W B)(n:s+4<d)(o:lb<d)(p:mb<d)(j:J w.1<=d)(k:∀c∈ds,c≠d):mj mb base s lb size vs w ds cs d S B:=by let:=a.1.lt;let⟨g,h,i⟩:=a.5;exact⟨a.1.kept λl q r=>b.5 l G G,(b.5 lb (dK.1 a.2).1 G).trans a.2,a.3.keeps b G,a.4,⟨eA g b.4,h,(dR<|b.5 0 g G).trans i⟩,a.6.keeps b j,λc e=>(b.5 c (dK.1<|a.7 c e).1<|k c e).trans<|a.7 c e⟩
def mj.below(a:mj mb base s lb size vs w ds cs d S W)(b:a6 W B):mj mb base s lb size vs w ds cs d S B:=by let:=a.1.lt;exact⟨a.1.kept λg h i=>b.5 g G,(b.5 lb (dK.1 a.2).1).trans a.2,Zx a.3 b,a.4,a.5.below b,a.6.trans<|dw.vz b,λc e=>(b.5 c (dK.1<|a.7 c e).1).trans<|a.7 c e⟩
def mj.fit(a:mj mb base s lb size vs w ds cs d S W)(b:dw mb base W B)(o:fq B mb base S'.1 S'.2)(p:i8 S'.2)(q:mb<s)(j:lb≠mb)(k:0<base)(l:0<mb)(n:∀c∈ds,c≠mb)(h:(∀e,B.1[d]?≠ae (aZ e 5 (0,0)))/\∀e,B.1[d]?≠ae (aZ e 315 (0,0))):mj mb base s lb size vs w ds cs d S' B:=
 ⟨(by refine⟨xQ a.1.1 b G bW bW,xQ a.1.2 b G bW bW,xQ a.1.3 b G bW bW,?_,xQ a.1.5 b G bW bW⟩;let:=a.1.4;exact b.box this G bW bW),b.box a.2 j bW bW,o.away h,p,a.5.tg b k l,a.6.trans b,λc g=>(b.other (a.7 c g) (n c g) λ_ _ _ i=>by cases i).trans<|a.7 c g⟩
def mj.set(a:mj mb base s lb size vs w ds cs d S W)(e h)(u:mb<s)(x:lb<s)(y:J w.1<=s)(n:∀c∈ds,c≠s+3):mj mb base s lb size vs w ds (cs.set e h) d S (a7 W ⟨s+3,e,af⟩<|ag ai h):=by have r:=a.1.4;unfold gS at r;let b:∀g,g≠s+3->(a7 W ⟨s+3,e,af⟩<|ag ai h).1[g]? = W.1[g]?:=λg p=>dr _ _ _ _ p;refine⟨a.1.set e h,(b lb G).trans a.2,zw a.3 ⟨λk o=>?_,λk o=>?_⟩ G b,a.4,?_,a.6.same U U U ax λq aO=>b q G,λc i=>(b c<|n c i).trans<|a.7 c i⟩;{grind};{grind};{let⟨t,j,l⟩:=a.5;exact⟨by simp_all,j,(dR<|b 0 G).trans l⟩}
end
def iS(e a b bG c d:Nat):List mC:=[fB e,fB a,fB b,fB bG,fB c,fB d]
def Es{bG}:E (d_<|iS g a n bG c v)=12:=rfl
def ZD:aL.underlying 260=ae (.slice 275):=b6
def ZF:(aL.info? 5).map (·.size)=ae 1:=b6
def ZG{d h a v c q p}(hg:a.6=af)(j o)(g i:dP)(u:a.2=Op.call {callee:=Callee.builtin Builtin.copy,args:=#[j,o],argTypes:=#[g,i]})(n:v.eval j=e)(y:v.eval o=k)(w:(Builtin.copy_ #[g,i] a.3 #[e,k]).run d b=.ok r f)(t:c (v.put a.1 r) f):if Region.wanted a (yielded h v.1)=aD then Oper.wp d a v b c q else p:=by
 let x:Region.wanted a (yielded h v.1)=aD:=GW
 rw[b8 x];simp[Oper.wp,execOp,u,resolve,invoke,builtin,n,y,w,Result.andThen];exact t
def ZI{e h}(u:gO b a (bL c 0 (E e) g) e)(B:E h<=E e):∃i,b.1[c]? = ae (aZ i 5 (0,0))/\E h<=J i/\∀d:aQ,d.1[c]? = ae (aZ i 5 (0,0))->gO (d.setRow c<|c7<|be 0 i.1++Lib.byteCells (D h).1.1++bi (0+(D h).size) i.1) a (bL c 0 (E e) g) (h++bi (E h) e):=by
 obtain⟨z,⟨l,F⟩|⟨y,x,i,l,q,n,A,t,C,k⟩⟩:=u;{cases l};{
 cases l;refine⟨i,n,G,λd w=>?_⟩;have r:E (h++bi (E h) e)=E e:=by grind
 have j:=cV h;refine bd ax<|bE ⟨c,g,_,by grind,q,setRow_heap d c i _ 5 (0,0) w,G,t,?_,?_⟩;{
 have:E ((D h).1.1)=E h:=by simp[D]
 simp[Lib.byteCells,j,D]at*;omega};{
 rw[r,r5];rw[r5]at k;let o:(D h).1.1=h:=by simp[D]
 let p:bi (E h) i.1=bi (E h) (be (E e) i.1)++bi (E e) i.1:=by{
 conv=>lhs;rw[<-ku (E e) i.1]
 grind};simp only[qW,iF,o,j,fM];rw[p,k,<-iz,List.take_left' (by simp[Lib.byteCells];omega)];simp[Lib.byteCells]}}
def RU(d bG c2 c3:Nat){mb}(z:ew b a e k)(ac:gO b g e mb)(bR:g<=J b.1)(b1:12<=E mb)(b2:E mb<=60000)(aV:c<65536)(aW:n<65536)(aX:d<65536)(aY:bG<65536)(a0:c2<65536)(a1:c3<65536):a_ aL 101 #[bv a,ce #[M c,M n,M d,M bG,M c2,M c3]] b λo L=>o=bh (aS<|d_ (iS c n d bG c2 c3)++bi 12 mb)/\IG a g b L:=by
 let⟨bc,aO,a9,ba,bb⟩:=im RH;obtain⟨an,q,bS,rfl,b0,W,bU,_⟩:=JH ac (by grind);have a4:=z.cells.1;have aq:=z.lt;have aj:=(dK.1 W).1;have bB:a≠an:=λo=>by
  rw[ew,o,W]at z
  grind
 have P:=O ac;have bH:=od (c:Int)
 have bI:=od (n:Int)
 have az:=od (d:Int)
 have aB:=od (bG:Int)
 have aC:=od (c2:Int)
 have aF:=od (c3:Int)
 have au:ao (c<65536/\n<65536/\d<65536/\bG<65536/\c2<65536/\c3<65536):=⟨aV,aW,aX,aY,a0,a1⟩
 have aJ:ao (∀bz:Nat,bz<4->∃r:Nat,be (2+(bz+1)) (iS c n d bG c2 c3)=be (2+bz) (iS c n d bG c2 c3)++[fB r]/\eO.wrap (r:Int)=(r:Int)/\∀T:aQ,(Instr.index 108 (ce #[M d,M bG,M c2,M c3])<|M bz).run aL T=.ok (M r) T):=by
  intro bz y
  match bz,y with
  |0,_=>exact⟨d,U,az,λ_=>dl⟩
  |1,_=>exact⟨bG,U,aB,λ_=>dl⟩
  |2,_=>exact⟨c2,U,aC,λ_=>dl⟩
  |3,_=>exact⟨c3,U,aF,λ_=>dl⟩
  |bz+4,h=>omega
 go_wp2;have aI:ao (rz (aN (aN b<|aZ #[ag ai c,ag ai n,ag ai d,ag ai bG,ag ai c2,ag ai c3] 110)<|aZ #[cP 259<|ag eO c,cP 259<|ag eO n] 275) (J b.1+1) (bL (J b.1+1) 0 2 2)<|be (2+0)<|iS c n d bG c2 c3):=by
  have ab:=cW (aN b<|aZ #[ag ai c,ag ai n,ag ai d,ag ai bG,ag ai c2,ag ai c3] 110)<|aZ #[cP 259<|ag eO c,cP 259<|ag eO n] 275;rw[eE]at ab;exact bd U<|bE ⟨J b.1+1,2,_,U,cO _,ab,cO _,G,U,U⟩
 have aT:ao (a6 b<|aN (aN b<|aZ #[ag ai c,ag ai n,ag ai d,ag ai bG,ag ai c2,ag ai c3] 110)<|aZ #[cP 259<|ag eO c,cP 259<|ag eO n] 275):=(cf cc bo _).alloc ax _
 go_loopw [19,5] (λI v wr=>∃(bz:Nat) (F:Option gU) (A H:Nat),I=M bz/\v=aE F A H/\bz<=4/\rz wr (J b.1+1) (aE F A H) (be (2+bz)<|iS c n d bG c2 c3)/\a6 b wr/\J b.1+1<J wr.1) λI _ _=>4-cM (intOf I)
 ·exact⟨0,_,_,_,U,U,G,aI,aT,ax⟩
 ·obtain⟨bz,F,A,H,rfl,rfl,y,bq,t,bT⟩:=hrel;have B:=O bq;have bp:=O t;have bl:=t.4;by_cases a3:bz<4
  ·let⟨r,a5,b4,bK⟩:=aJ bz a3;have aP:=O a5;have b6:(bz:Int)<4:=G;have bf:E (be (2+bz)<|iS c n d bG c2 c3)=2+bz:=by simp[iS];omega
   go_wp2_with (at_builtin;go_loud (refine Dm _ U (.tmp 22) (.tmp 26) 260 U (J b.1+1) 275 bc .nilIface 1 16 ZD aO a9 ba bb U bW _ (E<|be (2+bz)<|iS c n d bG c2 c3) _ U (B.alloc _) (N (J wr.1) 0) 1 1 [cP 259<|ag eO r] U U ?bG ?c2 ?c3 ?cB ?fe ?_))
   case bG=>
    intro K bs hj
    match K,hj with
    |0,hj=>exact Cz
    |A+1,hj=>grind
   case c2=>intro bs R;simp at R;subst R;rfl
   case c3=>omega
   case cB=>omega
   case fe=>simp;omega
   intro ci C ad Z _;obtain⟨bt,bw,bu,rfl⟩:=oj ad;have aU:ao (rz C (J b.1+1) (aE bt bw bu)<|be (2+(bz+1))<|iS c n d bG c2 c3):=by
    rw[ao,rz,aP,dj,jg,bf,Ii];exact ad
   have X:ao (a6 b C/\J b.1+1<J C.1):=⟨(cf bp G _).grown Z ct λbn bj=>cd<|(B.lt bn bj).1,by have:=Z.4;exact At⟩
   go_wp2;exact bd (⟨bz+1,_,_,_,dd,U,G,aU,X.1,X.2⟩) dz
  ·have aR:bz=4:=G;subst aR;have aK:be (2+4) (iS c n d bG c2 c3)=iS c n d bG c2 c3:=U;rw[aK]at B;let⟨bV,bO,a8,aH,ap⟩:=ZB (mb:=a) B (by simp[iS]) G;cases a8;have Q:=O (IK (bx wr) (λf Y=>by
    let⟨b7,b8,b_,ca,cb,cg⟩:=au;simp only[iS,fw,rF,n_]at Y;rcases Y with rfl|rfl|rfl|rfl|rfl|rfl<;>exact l3 _ fi) ap.1 (λK hj=>ap.2.2.2 K hj) aH (by grind) (by rw[Es];omega))
   have aa:=t.5 a aq;have V:bY (bx wr) a 0 (bL an 0 (E mb) q):=(dR aa).trans a4;have bM:bY wr a 0 (bL an 0 (E mb) q):=V;let⟨w,S,av,ah⟩:=ZI P (h:=d_<|iS c n d bG c2 c3) fi;let⟨i,x⟩:=bm<|d_<|iS c n d bG c2 c3
   have bF:E i=12:=by rw[x];rfl
   rw[<-x]at Q ah av;have aw:ao (∀j,cv (J (bx wr).1) (bx wr) j->(Builtin.copy_ #[53,9] 3 #[bL an 0 (E mb) q,aS i]).run aL j=.ok (goInt (D i).size) (j.setRow an<|c7<|be 0 w.1++Lib.byteCells (D i).1.1++bi (0+(D i).size) w.1)):=λj l=>by
    have o:=((l.5 an<|show an<J wr.1 by omega).trans<|t.5 an aj).trans S;exact Lib.run_copy_row_string j _ _ _ _ an 0 (E mb) q (D i) w 5 xp ZF o lv lv
   have ay:ao (∀j,cv (J (bx wr).1) (bx wr) j->gO (j.setRow an<|c7<|be 0 w.1++Lib.byteCells (D i).1.1++bi (0+(D i).size) w.1) g (bL an 0 (E mb) q) (i++bi (E i) mb)):=λj l=>
    ah j (((l.5 an<|show an<J wr.1 by omega).trans<|t.5 an aj).trans S)
   generalize c7 (be 0 w.1++Lib.byteCells (D i).1.1++bi (0+(D i).size) w.1)=al at*;have bD:=O x;clear x aa;go_wp2
   go_region_held_law (λL=>aA L (N a 0)=ae (bL an 0 (E mb) q)) (first|assumption|exact(cell_setRow_other _ _ _ _ bB).trans G)
    (first
     |(refine ZG U (.tmp 32) (.tmp 34) 53 9 U U U (aw _ l) ?_)
     |(go_at_call 164;go_loud (refine Q.m λj l=>?_;have bQ:=(l.cell (p:=⟨a,0,af⟩) (show a<J wr.1 by omega)).trans V)))
   rename_i bX;have ar:=ay j l;have a2:=uD ar;have u:=bC t<|(bC cc.drew l).mono bl;have bP:=vE P U;have br:ao (IG a g b<|j.setRow an al):=⟨u.1,u.2,u.3,by rw[setRow_size];exact u.4,λbz y z b3=>by
    by_cases o:bz=an
    ·grind
    ·exact(setRow_other _ _ _ _ o).trans<|u.5 bz y⟩
   have aM:ao (i++List.drop (List.length i) mb=d_ (iS c n d bG c2 c3)++bi 12 mb):=by simp_all
   rw[aM]at a2;generalize j.setRow an al=C at*;go_wp2;go_ret;exact bd U br
section
attribute [local go_sem] Oper.semAt_some undef
def Zy(a:aQ):(Instr.makeSlice 61 (M 3)<|M 3).run aL a=.ok (bL (J a.1) 0 3 3) (aN a<|aZ #[ag ai 0,ag ai 0,ag ai 0] 3):=b6
end
section
attribute [local go_sem] Oper.semAt_some undef
end
section
attribute [local go_sem] Oper.semAt_some undef
def jj(s:Nat)(b:ap):List (ap×Nat):=(dU b).map λa=>(a,s+E b-E a)
def ZS(s:Nat){a:ap}{b:ap}(e:(dU a)[c]? = ae b):be (c+1) (jj s a)=be c (jj s a)++[(b,s+E a-E b)]:=by
 let:(jj s a)[c]? = ae (b,s+E a-E b):=by simp[jj,e]
 let⟨aO,d⟩:=iW.1 this;rw[g8 aO,d]
def RE:∀(f:Nat) (a:ap),E a<=f->E (dU a)<=E a
 |0,a,c=>by obtain rfl:a=[]:=hq G;simp[o2]
 |f+1,a,c=>by by_cases b:a=[];{subst b;simp[o2]};{have d:=wt b;rw[oB b,dW];have:=RE f (iH a) G;omega}
def aaE{i:List<|ap×Nat}(h:le b g e i)(aO:∀d,b.1[a]?≠ae (aZ d 315 (0,0))):ae a≠bA e:=λv=>by
 obtain⟨_,⟨rfl,_⟩|⟨k,j,d,rfl,_,c,_⟩⟩:=h
 ·simp[bA]at v
 ·simp only[bA,rG]at v;subst v;exact aO d c
def aaF{i:List<|ap×Nat}(h:le b g e i)(v:bA e=ae a):∃d,b.1[a]? = ae (aZ d 315 (0,0)):=by obtain⟨_,⟨rfl,_⟩|⟨k,j,d,rfl,_,c,_⟩⟩:=h;{simp[bA]at v};{simp only[bA,rG]at v;subst v;exact⟨d,c⟩}
def vI(a:aQ)(b:Nat)(e g h i j k:Int)(p n:ap)(l c:Int)(o:Bool)(q d:Int):Prop:=a.1[b]? = ae (aZ #[ag ai e,ag ai g,ag ai h,ag ai i,ag ai j,ag ai k,am<|D p,am<|D n,ag ai l,ag ai c,aG o,ag ai q,ag ai d] 115)
def vI.cells{l n o:Int}{e d:ap}{p g:Int}{r h:Int}(c:vI b a q j y l n o e d p g t r h):aA b (N a 6)=ae (aS e)/\aA b (N a 7)=ae (aS d):=by unfold vI at c;constructor<;>simp[aA,c]
def vI.lt{b:Nat}{i k l:Int}{p o:ap}{n c:Int}{r d:Int}(e:vI f b q y i j k l p o n c t r d):b<J f.1:=(dK.1 e).1
def aaG(ab C A S ac ad:Int)(F:ap){n:ap}(H z:Int)(aj:Bool)(an aa:Int){l:ap}{w:aQ}(aM:ew w a e<|bX)(aO:gO w c e l)(b:dx w)(bF:c<=J w.1)(ca:0<c)(cg:c<=a)(ci:E n<=900)(cb:E l+E F<=10000):a_ aL 105 #[bv a,hD ab C A S ac ad F n H z aj an aa] w λq aF=>q=bh (bZ #[])/\(∃aY o,ew aF a aY o/\gO aF c aY (l++F)/\le aF c o (jj (E l) n))/\cv c w aF:=by
 unfold hD;refine(ec (n:=0)).1 (sm func105 U cy ?_);simp only[ntmps105,mA,dW,gG,Nat.reduceAdd,Nat.reduceSub,mx,mP,mR,mQ,iF,fN];have bD:=O aM;have bp:=O aO;have bn:=O b;have bV:=aM.lt;have:=b.1;have bW:aL.follows .mixedOrders=aD:=b6;have b3:=O λaq b=>(fS aO aq b).2;have:=RE _ n bo;clear aM aO b;gi_wp2_with fail;refine⟨cy,U,?_⟩;refine(ec.2<|Db _ _).m ?_;rintro W2 ⟨ay,aK,a1⟩;have bK:=((cx.qf _ _ _).alloc _).below aK gB;have bL:vI W2 (J w.1+1) ab C A S ac ad F n H z aj an aa:=by{refine(aK.5 _ ax).trans ?_;have:=cW (aN w<|aZ #[cz<|ae ⟨a,0,af⟩] 196)<|aZ #[ag ai ab,ag ai C,ag ai A,ag ai S,ag ai ac,ag ai ad,am<|D F,am<|D n,ag ai H,ag ai z,aG aj,ag ai an,ag ai aa] 115;simpa using this};have az:=((cf cc bo _).alloc ax _).trans<|bN aK gB;simp only[eE]at ay a1;have bP:=O<|bD.kept<|az.5 a bV;have bM:ao (gO W2 c e l):=g6 bp az;have br:=O<|bn.below az;gi_wp2_with fail;have bU:∀al,a6 W2 (aN (aN W2<|df<|ae [])<|dq al):=λal=>(cf cc bo _).alloc ax _;have bS:=bN az bF;have:E l<=10000:=G;refine GJ (xs:=dU n) (encs:=λq:ap=>#[aS q]) (St:=λQ R=>a6 Q R) (Kp:=λQ R=>J Q.1<=J R.1/\R.1[0]? = Q.1[0]?) (Kx:=λ_ _=>True) (gf:=212) (lb:=#[bv<|J w.1+1+1]) U (enters_of func212 b6 U) (λ_=>U) ?seq [0] ct (λQ R h=>h) (λQ R h bQ=>⟨bQ,h _ ax⟩) (λ_ _=>cy) (λT j=>cv c w j/\gO j c e l/\cx j (J w.1) (bv a) 196/\vI j (J w.1+1) ab C A S ac ad F n H z aj an aa/\∃o,ew j a e o/\le j c o (be T<|jj (E l) n)/\∀aq,bA o=ae aq->aq≠J W2.1+1) (λ_ _=>False) (λT Q R h bR t=>⟨bC h.1<|t.below G G,nQ h.2.1 λaq b=>t.5 aq (fS h.2.1 aq b).2<|cd<|V b3 aq b,cx.kept h.2.2.1<|t.5 _ (cx.lt h.2.2.1) G,(t.5 _ h.2.2.2.1.lt G).trans h.2.2.2.1,by{let⟨o,aC,fa,fy⟩:=h.2.2.2.2;exact⟨o,aC.kept<|t.5 a aC.lt G,nQ fa λaq b=>t.5 aq (fS fa aq b).2<|fy aq b,fy⟩}⟩) (λz Q R h bR t=>h) ⟨bS,bM,bK,bL,bX,bP,ih _ _ _ _,λaq b=>by simp[bA]at b⟩ ?round ?done ?stop;case seq=>(intro al;have b:=bU al;exact Dc ((b.cell (p:=⟨J w.1+1+1,0,af⟩) Hy).trans a1) (br.below b) G)
 ·(
 intro cl T M b4 j aB ah a9 a2 bd;let⟨B,I,P,K,Y,x,u,ar⟩:=ah;have:=GS<|pE aB;have:=(iW.1 aB).1;obtain⟨au,b0,aw,rfl⟩:=oj I;have b1:b0=E l:=by{obtain⟨_,⟨q,ck⟩|⟨bO,b8,b_,q,_⟩⟩:=I;{cases q;omega};{cases q;rfl}};subst b1;let⟨bB,bG⟩:=x.cells;have aX:=P.cell;let⟨bI,bH⟩:=K.cells;have:=cV M;have:=cV n;have:0<a:=G;have bz:a6 j (bx j):=cc.drew;have aP:=O<|Y7 M (E l+E n-E M) (bx j) (x.kept U) (g6 u bz) (by show c<=J j.1;have:=B.4;omega) (by simp[jj];omega) G;have a4:((E l+E n-E M:Nat):Int)=(E l:Int)+(E n:Int)-(E M:Int):=G;have b2:ao (∀g,(∃o,ew g a (aE au (E l) aw) o/\le g c o (be T (jj (E l) n)++[(M,E l+E n-E M)])/\(bA o=bA Y\/∃aq,bA o=ae aq/\J (bx j).1<=aq)/\co (λT=>T≠a/\ae T≠bA Y) (bx j) g)->io (J W2.1) j g/\(∀H∈[0],g.1[H]? = j.1[H]?)/\cv c w g/\gO g c (aE au (E l) aw) l/\cx g (J w.1) (bv a) 196/\vI g (J w.1+1) ab C A S ac ad F n H z aj an aa/\∃o,ew g a (aE au (E l) aw) o/\le g c o (be (T+1)<|jj (E l) n)/\∀aq,bA o=ae aq->aq≠J W2.1+1):=by{
 rintro g ⟨o,aC,fa,fy,Z⟩;have t:∀i,i<J j.1->i≠a->(∀X,j.1[i]?≠ae (aZ X 315 (0,0)))->g.1[i]? = j.1[i]?:=λi hj bt bu=>Z.5 i hj ⟨bt,aaE u bu⟩;have bc:∀i,i<c->g.1[i]? = j.1[i]?:=λi hj=>Z.5 i (by show i<J j.1;have:=B.4;omega) ⟨G,λq=>by{have:=(fS u i<|b5 q).1;omega}⟩;have bb:J j.1<=J g.1:=Z.4;refine⟨⟨bb,t _ G G (λX k=>by rw[a2]at k;cases k),t _ G G (λX k=>by let⟨al,bY⟩:=bd;rw[bY]at k;cases k)⟩,λi hj=>?_,?_,?_,?_,?_,o,aC,?_,?_⟩;{
 obtain rfl:i=0:=AA
 exact bc 0 G};{exact bC B ⟨Z.1,Z.2,Z.3,bb,λi hj=>bc i G⟩};{refine nQ I λaq b=>?_;let⟨X,y⟩:=vE I b;exact t aq (fS I aq b).2 (λq=>by subst q;rw[x]at y;simp at y) (λz k=>by rw[y]at k;simp at k)};{exact P.kept<|t _ P.lt G (λz k=>by rw[P]at k;simp at k)};{exact(t _ K.lt G (λz k=>by rw[K]at k;simp at k)).trans K};{rw[ZS _ aB];exact fa};{intro aq b;rcases fy with h|⟨bO,h,bT⟩;{exact ar aq<|h▸b};{rw[b]at h;cases h;have:J j.1<=aq:=bT;omega}}};rw[a4]at aP;have cm:ai.wrap ((E l:Int)+E n)=(E l:Int)+(E n:Int):=by rw[tv];first|omega|(omega)
 have cn:ai.wrap ((E l:Int)+E n-E M)=(E l:Int)+(E n:Int)-(E M:Int):=by rw[tv];first|omega|(omega)
 have aI:=O<|cj x<|cj u<|cj I<|cj P K;clear x u I P K ar B a2 bd aB a4;gi_wp2_with fail;refine⟨cy,?_⟩;gi_wp2_with fail;refine Sa (λj=>aA j (N (J w.1) 0)=ae (bv a)/\aA j (N (J w.1+1) 7)=ae (aS n)/\aA j (N a 0)=ae (aE au (E l) aw)) bW (tQ b6) ⟨aX,bH,bB⟩ λr=>?_;refine l_ 0 r (λ_ _ _ h=>(jo.qC h ax).elim) ?_;refine l_ 1 r (λ_ _ _ h=>(jo.qC h ax).elim) ?_;refine l_ 2 r (λ_ _ _ h=>(jo.qC h ax).elim) ?_;refine l_ 3 r (λ_ _ _ h=>(jo.qC h ax).elim) ?_;refine l_ 4 r (λ_ _ _ h=>(jo.qC h ax).elim) ?_;refine l_ 5 r (λ_ _ _ h=>(jo.qC h ax).elim) ?_;refine l_ 6 r (λ_ _ _ h=>(jo.qC h ax).elim) ?_;refine l_ 7 r (λ_ _ _ h=>(jo.qC h ax).elim) ?_;refine l_ 8 r (λ_ _ _ h=>(jo.qC h ax).elim) ?_;refine l_ 9 r (λ_ _ _ h=>(jo.qC h ax).elim) ?_;refine l_ 10 r (λ_ _ _ h=>(jo.qC h ax).elim) ?_;refine l_ 11 r (λ_ _ _ h=>(jo.qC h ax).elim) ?_;refine l_ 12 r (λ_ _ _ h=>(jo.qC h ax).elim) ?_;refine l_ 13 r (λ_ _ _ h=>(jo.qC h ax).elim) ?_;refine lw (rs:=[14]) b6 ax (jv U (λbq a3=>?_) kU);go_simp;refine aP.m λg aT=>?_;have av:=O<|b2 g aT;clear aT;let⟨_,_,_,_,aW,aR,b7,a8,_⟩:=av;refine a3.out _ _ ⟨aW.cell,aR.cells.2,a8.cells.1⟩ λr=>?_;clear a3 bq aW aR a8;refine su b6 ⟨U,?_⟩ _;gi_wp2_with fail;exact⟨av.1,av.2.1,av.2.2⟩)
 case done=>(
 intro j ah L a9;let⟨B,I,P,K,Y,x,u,ar⟩:=ah;rw[show(dU n).length=E (jj (E l) n) by simp[jj],jc]at u;have aX:=P.cell;have bI:=K.cells.1;have bl:=x.lt;have:=B.4;have hnew:=cW j<|aZ #[cP 204<|am<|D F] 275;have bj:=O (Bw c (J j.1) 1 [ev F] l (aN j<|aZ #[cP 204<|am<|D F] 275) ((dv _ _ _ bl).trans x) (I.alloc _) ct (λf a5=>by simp at a5;subst a5;exact ka _) ax G (bE λX h=>Cu) (λi hj=>by{
 match i,hj with
 |0,_=>exact lL
 |i+1,hj=>simp at hj}) ax ax (by simp[d_,ev];omega))
 have aI:=O<|cj B<|cj x<|cj u L;have bs:J W2.1≠a:=G;have bm:=O ay;clear x u I P K ar B L hnew ay;gi_wp2_with fail;refine⟨cy,U,(ec.2 bj).m λg ⟨⟨aJ,C,A⟩,S⟩=>?_⟩;have W:=O<|(lc.adJ<|cf cc bo _).trans S;have bw:ao (ew g a aJ Y/\gO g c aJ (l++F)):=⟨C,by simpa [d_,ev]using A⟩;clear C A S bj;let⟨B,x,u,L⟩:=aI;have aV:=(W.5 _ G bs (bE λz k=>by rw[L]at k;cases k)).trans L;have aU:=O aV;clear B x u L aV;gi_wp2_with fail;refine⟨ax,bJ ⟨_,_,U,lf<|V aU,?_⟩⟩;have ay:=V bm;have⟨B,x,u,L⟩:=V aI;have⟨C,A⟩:=V bw;have aH:=ey.put (d:=J W2.1) g (J W2.1) (df af);have ba:∀aq,bA Y=ae aq->g.1[aq]? = j.1[aq]?/\aq≠J W2.1:=λaq b=>by{have⟨X,y⟩:=aaF u b;refine⟨W.5 aq (fS u aq b).2 (λq=>?_)<|bE λz k=>?_,λq=>?_⟩;{rw[q,x]at y;simp at y};{rw[y]at k;simp at k};{rw[q,L]at y;cases y}};have bf:le g c Y (jj (E l) n):=nQ u λaq b=>(ba aq b).1;have a0:=bC B ⟨W.1,W.2,W.3,W.4,λH t=>W.5 H G G<|bJ t⟩;exact⟨bZ #[],by simp[c_,results105],U,⟨aJ,Y,C.kept<|aH.5 a C.lt G,nQ A λaq b=>aH.5 aq (fS A aq b).2 (λq=>by{have⟨X,y⟩:=vE A b;rw[q,V aU]at y;cases y}),nQ bf λaq b=>aH.5 aq (fS bf aq b).2 (ba aq b).2⟩,bC a0<|aH.below G<|cd a0.4⟩)
 case stop=>(intro z j ah L a9;exact ah.elim)
end
def aaH{bG i cB fe fJ j mO tB yE yF l hN n:bk}(H:a6 f b)(h:aA f (N a 0)=ae e/\aA f (N a 1)=ae bG/\aA f (N a 2)=ae r/\aA f (N a 3)=ae i/\aA f (N a 4)=ae cB/\aA f (N a 5)=ae fe/\aA f (N a 6)=ae fJ/\aA f (N a 7)=ae j/\aA f (N a 8)=ae mO/\aA f (N a 9)=ae k/\aA f (N a 10)=ae tB/\aA f (N a 11)=ae yE/\aA f (N a 12)=ae yF/\aA f (N (a+1) 2)=ae l/\aA f (N (a+1) 3)=ae hN/\aA f (N (a+1) 4)=ae n):aA b (N a 0)=ae e/\aA b (N a 1)=ae bG/\aA b (N a 2)=ae r/\aA b (N a 3)=ae i/\aA b (N a 4)=ae cB/\aA b (N a 5)=ae fe/\aA b (N a 6)=ae fJ/\aA b (N a 7)=ae j/\aA b (N a 8)=ae mO/\aA b (N a 9)=ae k/\aA b (N a 10)=ae tB/\aA b (N a 11)=ae yE/\aA b (N a 12)=ae yF/\aA b (N (a+1) 2)=ae l/\aA b (N (a+1) 3)=ae hN/\aA b (N (a+1) 4)=ae n:=by let c:∀(d:gU) (v:bk),aA f d=ae v->aA b d=ae v:=λd v h=>(H.cell<|g_ f d h).trans h;let⟨o,p,u,w,x,y,z,A,B,C,q,g,t,D,F,G⟩:=h;exact⟨c _ _ o,c _ _ p,c _ _ u,c _ _ w,c _ _ x,c _ _ y,c _ _ z,c _ _ A,c _ _ B,c _ _ C,c _ _ q,c _ _ g,c _ _ t,c _ _ D,c _ _ F,c _ _ G⟩
def aaI{h i f:Int}(e:gS b a [j,q,y,h,i,f] 110)(g:Int):gS (a7 b ⟨a,5,af⟩<|ag ai g) a [j,q,y,h,i,g] 110:=e.set 5 g
structure xR(s hb:Nat)(h0 h1 h2 h3 h4 h5:Int)(q n:ap)(k kc:Int)(op:Bool)(sz cK:Int)(rc:Int)(bR va vb vc:Value)(hs:List Int)(W:World):Prop where
 qu:g9 W s h0 h1 h2 h3 h4 h5 q n k kc op sz cK
 an:fd W (s+1) (M rc) bR va vb vc
 hd:gS W hb hs 110
 g:dx W
def xR.keep{base:Nat}{l n o p:Int}{x u:ap}{h A:Int}{z i:Int}{C:bk}{B:List Int}(d:xR a c j q l n o p x u h A t z i y e k r C B b)(w:∀g,g<base->f.1[g]? = b.1[g]?)(H:J b.1<=J f.1)(I:a+1<base)(K:c<base):xR a c j q l n o p x u h A t z i y e k r C B f:=by let⟨D,m,F⟩:=d.4;exact⟨d.1.kept<|w _ G,(w _ G).trans d.2,(w _ G).trans d.3,⟨eA D H,m,(dR<|w 0 G).trans F⟩⟩
def qe(a m:Int)(b:Bool):Int:=if b=aD then bits .or ai a m else a
def EQ(h:φ:=by rw[this]at hc;simp at hc):φ:=h
def Nj(h:φ:=by unfold gS at this;exact⟨λc hc=>EQ,λc hc=>EQ⟩):φ:=h
def aaJ{P p bG ab X Y Z:Nat}{S T W:Option gU}{F aj I K an:Int}{r aa:ap}{B A br:Int}{z:ap}{au:ap×gs}(bM:dx b)(cB:p<=3001)(cC:bG<=3001)(cD:ab<=3001){u:Nat}(ay:u=cond t (ab+1) ab)(ck:g<65536)(cU:a<65536)(bX:qe (qo j an) 1024 H=(a:Int))(dp:E aa<=900)(ej:E r<=300)(cl:Bool)(ad:cl=(decide ((p:Int)<(P:Int))||decide ((bG:Int)<(v:Int))))(bs:qe (a:Int) 512 cl=(n:Int))(bp:n<65536)(c9:∀x l base az,a6 b x->J b.1<=base->base<=J x.1->J b.1<=l->fq x l base (List.replicate 12 0++r) (jj 12 aa)->x.1[az]? = ae (aZ #[aE S P X,aE T v Y,aE W L Z] 77)->az≠l->a_ aL 107 #[bv l,M<|br-(E z:Int),bL az 0 3 3] x λw Q=>
   w=bh (bL (J x.1+3) 0 3 3)/\gS Q (J x.1+3) [(p:Int),bG,ab] 3/\fq Q l base au.1 au.2/\dw l base x Q)(cX:∀x,dx x->a_ aL 106 #[hD g j q y F aj r aa I K t B A,M an] x (cI (aS z) x))(da:∀x,a_ aL 108 #[hD g j q y F aj r aa I K t B A] x<|cI (M br) x)(eU:E z<=100)(eD:br<=2000)(eI:0<=br)(cR:12<=E au.1)(cF:E au.1+E z<=5000):a_ aL 47 #[hD g j q y F aj r aa I K t B A,ce #[M an,aG H,aE S P X,aE T v Y,aE W L Z]] b λw Q=>w=bh (aS<|d_ (iS g n 1 p bG u)++bi 12 (au.1++z))/\a6 b Q:=by
 have dW:=O c9;have d0:=O cX;have d1:=O da;have eJ:=cV z;have eX:=iV<|br-(E z:Int)
 clear c9 cX da;have⟨ci,bt⟩:=bm<|aN (aN b<|aZ #[ag ai g,ag ai j,ag ai q,ag ai y,ag ai F,ag ai aj,am<|D r,am<|D aa,ag ai I,ag ai K,aG t,ag ai B,ag ai A] 115)<|aZ #[ag ai an,aG H,aE S P X,aE T v Y,aE W L Z] 79;have bH:a6 b ci:=by rw[bt];exact(cf cc bo _).alloc ax _
 have bw:g9 ci (J b.1) g j q y F aj r aa I K t B A:=by
  rw[bt];exact(dv _ _ _ ax).trans<|cW b _
 have bR:fd ci (J b.1+1) (M an) (aG H) (aE S P X) (aE T v Y) (aE W L Z):=by
  rw[bt];have:=cW (aN b<|aZ #[ag ai g,ag ai j,ag ai q,ag ai y,ag ai F,ag ai aj,am<|D r,am<|D aa,ag ai I,ag ai K,aG t,ag ai B,ag ai A] 115) (aZ #[ag ai an,aG H,aE S P X,aE T v Y,aE W L Z] 79)
  rwa [eE]at this
 have di:=O<|cj bH<|cj bw bR;have c1:=O bM;have eK:J b.1+2<=J ci.1:=by rw[bt];simp<;>omega
 clear bM bH bw bR;unfold hD;go_in;go_wp2_with fail;rw[<-bt];have dX:=O bt;clear bt;refine(PC _ _ _ _ _ _ _ _).mono ?_;rintro w d ⟨rfl,bY⟩;obtain⟨bH,bw,bR⟩:=V di;have bM:=V c1;have ca:=bw.kept<|bY.5 _ bw.lt;have b4:fd d (J b.1+1) _ _ _ _ _:=(bY.5 _ G).trans bR;have bj:=bC bH<|bN bY bH.4;have eW:=bY.4;obtain⟨el,em,en,eo,eq⟩:=fd.cells b4;obtain⟨eC,c4⟩:=bm<|qo j an;rw[<-c4]at bX⊢;have dy:=O<|cj ca<|cj b4 bj;clear bH bw bR bM ca b4 bj c4 bY di en eo eq;have eL:J b.1+1<J d.1:=G;have db:=O ad;have er:=O bs;have et:=O ay;clear ad bs ay
 go_upto_if 15 with fail
 go_cut []from 16 λR=>R=(aN d<|aZ #[ag ai g,ag ai a,ag ai 0,ag ai 0,ag ai 0,ag ai 0] 110)
 ·cases H with
  |true=>
   simp only[qe,mM]at bX;go_wp2;go_meet;rfl
  |false=>
   simp only[qe,DE,if_false]at bX;subst bX;go_wp2;go_meet;rfl
 case rest=>
 subst hcut;go_wp2_with fail;have dB:ao ((xR (J b.1) (J d.1) g j q y F aj r aa I K t B A an (aG H) (aE S P X) (aE T v Y) (aE W L Z) [(g:Int),a,0,0,0,0]<|aN d<|aZ #[ag ai g,ag ai a,ag ai 0,ag ai 0,ag ai 0,ag ai 0] 110)/\a6 b (aN d<|aZ #[ag ai g,ag ai a,ag ai 0,ag ai 0,ag ai 0,ag ai 0] 110)/\J d.1<J (aN d<|aZ #[ag ai g,ag ai a,ag ai 0,ag ai 0,ag ai 0,ag ai 0] 110).1):=by
  obtain⟨ca,b4,bj⟩:=V dy;have bM:=V c1;have aJ:=cf bj G<|aZ #[ag ai g,ag ai a,ag ai 0,ag ai 0,ag ai 0,ag ai 0] 110;exact⟨⟨ca.kept<|dv _ _ _ G,(dv _ _ _ G).trans b4,cW d _,bM.below aJ⟩,aJ,ax⟩
 clear dy el em bX dX;generalize (aN d<|aZ #[ag ai g,ag ai a,ag ai 0,ag ai 0,ag ai 0,ag ai 0] 110)=c6 at*;refine(R3).mono ?_;rintro w eZ ⟨rfl,⟨eY,cx,cK⟩,bp⟩;obtain⟨dl,bj,ek⟩:=V dB;have cm:=bp.4;have bn:=dl.keep (λe aO=>bp.5 e aO) bp.4 G G;obtain⟨base,dm⟩:=bm<|J c6.1;obtain⟨l,dD⟩:=bm<|J c6.1+1;have aJ:=bC bj<|bN bp G;rw[<-dD]at cx⊢;rw[<-dm]at cK ek cm;have ey:base<l:=G;have cn:=O<|aaG g j q y F aj r I K t B A cx cK bn.4 cm G G dp ct;unfold hD at cn;obtain⟨aM,aP,aR,aT,aU,aV,aW,aX,aY,a0,aB,px,l5⟩:=bn.1.cells;have dA:=O<|cj bn aJ;clear bn aJ cx cK bp dl bj dB dm dD;go_wp2_with fail;refine eb cn ?_;rintro w dG ⟨rfl,⟨d9,dY,bW,dF,dE⟩,b0⟩;obtain⟨bn,aJ⟩:=V dA;have aK:=bn.keep (λe aO=>b0.5 e aO) b0.4 G G;have bV:=bC aJ<|bN b0 G;have d2:=cJ cm b0.4;clear aM aP aR aT aU aV aW aX aY a0 aB px l5;obtain⟨aM,aP,aR,aT,aU,aV,aW,aX,aY,a0,aB,px,l5⟩:=aK.1.cells;obtain⟨bT,bU,aF,aH,aI⟩:=fd.cells aK.2;have co:=O<|d0 dG aK.4;unfold hD at co;have dk:ao (fq dG l base (List.replicate 12 0++r)<|jj 12 aa):=⟨d9,dY,bW,dF,dE⟩
 have dC:=O<|cj aK bV;clear bW dF dE aK bV bn aJ dA cn b0;go_wp2_with fail;refine co.m ?_;intro o bK;have⟨aK,bV⟩:=V dC;have bW:=V dk;have b6:=aK.keep (base:=base) (λe aO=>bK.5 e G) bK.4 G G;have cg:=bC bV<|bN bK G;have cG:=bW.below bK;have eM:=cJ d2 bK.4;clear aM aP aR aT aU aV aW aX aY a0 aB px l5 bT bU aF aH aI;obtain⟨aM,aP,aR,aT,aU,aV,aW,aX,aY,a0,aB,px,l5⟩:=b6.1.cells;obtain⟨bT,bU,aF,aH,aI⟩:=fd.cells b6.2;have dc:ao (∀x,a_ aL 108 #[ce #[M g,M j,M q,M y,M F,M aj,aS r,aS aa,M I,M K,aG t,M B,M A]] x<|cI (M br) x):=V d1;have cN:ao (∀x az,a6 o x->x.1[az]? = ae (aZ #[aE S P X,aE T v Y,aE W L Z] 77)->J o.1<=az->a_ aL 107 #[bv l,M<|br-(E z:Int),bL az 0 3 3] x λw Q=>
   ∃al,w=bh (bL al 0 3 3)/\(aA Q (N (J b.1) 0)=ae (M g)/\aA Q (N (J b.1) 1)=ae (M j)/\aA Q (N (J b.1) 2)=ae (M q)/\aA Q (N (J b.1) 3)=ae (M y)/\aA Q (N (J b.1) 4)=ae (M F)/\aA Q (N (J b.1) 5)=ae (M aj)/\aA Q (N (J b.1) 6)=ae (aS r)/\aA Q (N (J b.1) 7)=ae (aS aa)/\aA Q (N (J b.1) 8)=ae (M I)/\aA Q (N (J b.1) 9)=ae (M K)/\aA Q (N (J b.1) 10)=ae (aG t)/\aA Q (N (J b.1) 11)=ae (M B)/\aA Q (N (J b.1) 12)=ae (M A)/\aA Q (N (J b.1+1) 2)=ae (aE S P X)/\aA Q (N (J b.1+1) 3)=ae (aE T v Y)/\aA Q (N (J b.1+1) 4)=ae (aE W L Z))/\ao (J o.1<=al/\gS Q al [(p:Int),bG,ab] 3/\xR (J b.1) (J d.1) g j q y F aj r aa I K t B A an (aG H) (aE S P X) (aE T v Y) (aE W L Z) [(g:Int),a,0,0,0,0] Q/\a6 b Q/\base<=J Q.1/\fq Q l base au.1 au.2)):=by
  intro x az bI ew eV;have eN:=cG.lt;have eg:=b6.keep (base:=base) (λe aO=>bI.5 e G) bI.4 G G;have eP:=bI.4;refine(dW x l base az (bC cg<|bN bI G) G G G (cG.below bI) ew G).mono ?_;rintro w Q ⟨rfl,ar,es,a2⟩;have cT:=eg.keep (base:=base) (λe aO=>a2.5 e G G<|bJ aO) a2.4 G G;have dQ:=bC cg<|bN bI G;have eA:=a2.4;obtain⟨aM,aP,aR,aT,aU,aV,aW,aX,aY,a0,aB,px,l5⟩:=cT.1.cells;obtain⟨_,_,aF,aH,aI⟩:=fd.cells cT.2;refine⟨J x.1+3,U,⟨aM,aP,aR,aT,aU,aV,aW,aX,aY,a0,aB,px,l5,aF,aH,aI⟩,G,ar,cT,bC dQ<|show cv (J b.1) x Q from⟨a2.1,a2.2,a2.3,a2.4,λe aO=>a2.5 e G G<|bJ G⟩,G,es⟩
 have dV:=O<|cj b6 cg;have eh:aA (bx o) (N (J b.1) 0)=ae (M g)/\aA (bx o) (N (J b.1) 1)=ae (M j)/\aA (bx o) (N (J b.1) 2)=ae (M q)/\aA (bx o) (N (J b.1) 3)=ae (M y)/\aA (bx o) (N (J b.1) 4)=ae (M F)/\aA (bx o) (N (J b.1) 5)=ae (M aj)/\aA (bx o) (N (J b.1) 6)=ae (aS r)/\aA (bx o) (N (J b.1) 7)=ae (aS aa)/\aA (bx o) (N (J b.1) 8)=ae (M I)/\aA (bx o) (N (J b.1) 9)=ae (M K)/\aA (bx o) (N (J b.1) 10)=ae (aG t)/\aA (bx o) (N (J b.1) 11)=ae (M B)/\aA (bx o) (N (J b.1) 12)=ae (M A)/\aA (bx o) (N (J b.1+1) 2)=ae (aE S P X)/\aA (bx o) (N (J b.1+1) 3)=ae (aE T v Y)/\aA (bx o) (N (J b.1+1) 4)=ae (aE W L Z):=⟨aM,aP,aR,aT,aU,aV,aW,aX,aY,a0,aB,px,l5,aF,aH,aI⟩
 clear bW aK bV dC dk b6 cg cG co bK;have ec:=O<|cj ck<|cj cU<|cj cR<|cj cF<|cj cB<|cj cC cD;clear ck cU cR cF cB cC cD dp ej;go_wp2_with fail
 go_region_held (λQ=>aA Q (N (J b.1) 0)=ae (M g)/\aA Q (N (J b.1) 1)=ae (M j)/\aA Q (N (J b.1) 2)=ae (M q)/\aA Q (N (J b.1) 3)=ae (M y)/\aA Q (N (J b.1) 4)=ae (M F)/\aA Q (N (J b.1) 5)=ae (M aj)/\aA Q (N (J b.1) 6)=ae (aS r)/\aA Q (N (J b.1) 7)=ae (aS aa)/\aA Q (N (J b.1) 8)=ae (M I)/\aA Q (N (J b.1) 9)=ae (M K)/\aA Q (N (J b.1) 10)=ae (aG t)/\aA Q (N (J b.1) 11)=ae (M B)/\aA Q (N (J b.1) 12)=ae (M A)/\aA Q (N (J b.1+1) 2)=ae (aE S P X)/\aA Q (N (J b.1+1) 3)=ae (aE T v Y)/\aA Q (N (J b.1+1) 4)=ae (aE W L Z)) (first|assumption|go_keep)
  (first
   |(go_at_call 108;go_loud (refine(dc _).mono ?_;rintro w e0 ⟨rfl,bq⟩;have dU:=aaH bq fi))
   |(go_at_call 107;refine(cN _ _ ((bC cc.drew bq).alloc bq.4 _) (cW _ _) bq.4).mono ?_;rintro w bP ⟨al,rfl,c2,cA⟩)
   |(go_at_call 107;refine(cN _ _ ((cf cc bo _).drew.trans<|bN bq ax) ((bq.5 _ ax).trans<|cW o _) bo).mono ?_;rintro w bP ⟨al,rfl,c2,cA⟩))
 all_goals
  rename_i ef;obtain⟨ck,cU,cR,cF,cB,cC,cD⟩:=V ec;clear ef c2 bq dU cN dc dV eh aM aP aR aT aU aV aW aX aY a0 aB px l5 bT bU aF aH aI;obtain⟨eQ,ar,bD,bO,d3,bQ⟩:=V cA;have a5:=ar.cell 0 ax;have a8:=ar.cell 1 ax;have a9:=ar.cell 2 ax;simp only[eB,eG]at a5 a8 a9;obtain⟨bT,bU,aF,aH,aI⟩:=fd.cells bD.2;have c3:=O<|cj ar<|cj bD<|cj bO bQ;clear ar bD bO bQ cA;go_upto_region 8 with fail
  go_cut [57]from 42 λC R=>C=aG cl/\ao (∃m,R=dS bP m)
  case first=>
   by_cases dt:(p:Int)<(P:Int)
   ·have ad:=V db;have cS:=lx dt;rw[cS,Iz]at ad;subst ad;go_quiet (fail);go_wp2_with fail;go_meet;exact⟨U,_,U⟩
   ·have ad:=V db;have cS:=fI dt;rw[cS,wy]at ad;by_cases du:(bG:Int)<(v:Int)
    ·have cy:=lx du;rw[cy]at ad;subst ad;go_quiet (fail);go_wp2_with fail;go_meet;exact⟨U,_,U⟩
    ·have cy:=fI du;rw[cy]at ad;subst ad;go_quiet (fail);go_wp2_with fail;go_meet;exact⟨U,_,U⟩
  case rest=>
  obtain⟨rfl,dd⟩:=hcut;obtain⟨nq,rfl⟩:=V dd;clear dd;have bl:a6 bP (dS bP nq):=jn cc nq;obtain⟨ar,bD,bO,bQ⟩:=V c3;have k:=bD.keep (base:=base) (λe aO=>bl.5 e G) bl.4 G G;have ah:gS (dS bP nq) al [(p:Int),bG,ab] 3:=(bl.5 al ar.lt).trans ar;have a4:=bQ.below bl;have a3:=bC bO<|bN bl bO.4;have bS:=cJ d3 bl.4;clear ar bD bO bQ c3 a5 a8 a9 bT bU aF aH aI bl;generalize dS bP nq=aq at*;have a5:=ah.cell 0 ax;have a8:=ah.cell 1 ax;have a9:=ah.cell 2 ax;simp only[eB,eG]at a5 a8 a9;have b7:=k.3.cell 2 ax;have b8:=k.3.cell 3 ax;have b_:=k.3.cell 4 ax;have a1:=k.3.cell 5 ax;simp only[eB,eG]at b7 b8 b_ a1;have b1:=k.3.frozen;have d4:al≠J d.1:=G;have dN:=k.3.cell 1 ax;simp only[eB,eG]at dN;have bs:=V er;have bb:∀e,e≠J d.1->(a7 aq ⟨J d.1,1,af⟩<|ag ai n).1[e]? = aq.1[e]?:=λe aO=>dr _ _ _ _ aO;have de:(∀ac,aq.1[J d.1]?≠ae (aZ ac 5 (0,0)))/\∀ac,aq.1[J d.1]?≠ae (aZ ac 315 (0,0)):=by
   have:=k.3;unfold gS at this;exact⟨λc hc=>EQ,λc hc=>EQ⟩
  have cb:J (a7 aq ⟨J d.1,1,af⟩<|ag ai n).1=J aq.1:=mo
  have cp:ao (xR (J b.1) (J d.1) g j q y F aj r aa I K t B A an (aG H) (aE S P X) (aE T v Y) (aE W L Z) [(g:Int),n,0,0,0,0] (a7 aq ⟨J d.1,1,af⟩<|ag ai n)/\fq (a7 aq ⟨J d.1,1,af⟩<|ag ai n) l base au.1 au.2/\a6 b (a7 aq ⟨J d.1,1,af⟩<|ag ai n)/\gS (a7 aq ⟨J d.1,1,af⟩<|ag ai n) al [(p:Int),bG,ab] 3/\base<=J (a7 aq ⟨J d.1,1,af⟩<|ag ai n).1):=by
   obtain⟨ed,d5,ee⟩:=k.4;exact⟨⟨k.1.kept<|bb _ G,(bb _ G).trans k.2,k.3.set 1 n,⟨by rw[cb];exact ed,d5,(dR<|bb 0 G).trans ee⟩⟩,(zw (FV a4) de G bb).msg,bC a3 ⟨U,U,U,by rw[cb];exact cO _,λe aO=>bb e G⟩,(bb al d4).trans ah,by rw[cb];exact bS⟩
  have cd:=O<|cj k<|cj a4<|cj a3<|cj ah bS;clear k a4 a3 ah bb de cb a5 a8 a9 b7 b8 b_ a1 bS
  go_upto_if 57 with fail
  go_cut []from 58 λR=>ao<|xR (J b.1) (J d.1) g j q y F aj r aa I K t B A an (aG H) (aE S P X) (aE T v Y) (aE W L Z) [(g:Int),n,0,0,0,0] R/\fq R l base au.1 au.2/\a6 b R/\gS R al [(p:Int),bG,ab] 3/\base<=J R.1
  case first=>
   cases cl with
   |true=>
    simp only[qe,mM]at bs;clear cd;go_wp2_with fail;go_meet;exact cp
   |false=>
    simp only[qe,DE,if_false]at bs;rw[bs]at cd;clear cp;go_wp2_with fail;go_meet;exact cd
  case rest=>
  obtain⟨k,a4,a3,ah,bS⟩:=V hcut;clear cp cd dN b1 bs hcut;generalize wc=bu at*;have a5:=ah.cell 0 ax;have a8:=ah.cell 1 ax;have a9:=ah.cell 2 ax;simp only[eB,eG]at a5 a8 a9;have b7:=k.3.cell 2 ax;have b8:=k.3.cell 3 ax;have b_:=k.3.cell 4 ax;have a1:=k.3.cell 5 ax;simp only[eB,eG]at b7 b8 b_ a1;have b1:=k.3.frozen;have cZ:=O<|cj k<|cj a4 a3;clear k a4 a3 ah;go_wp2_with fail
  go_region
  generalize bf:bx (a7 (a7 (a7 (a7 bu ⟨J d.1,2,af⟩<|ag ai 1) ⟨J d.1,3,af⟩<|ag ai p) ⟨J d.1,4,af⟩<|ag ai bG) ⟨J d.1,5,af⟩<|ag ai ab)=i;have cY:ao (g9 i (J b.1) g j q y F aj r aa I K t B A/\gS i (J d.1) [(g:Int),n,1,p,bG,ab] 110/\fq i l base au.1 au.2/\a6 b i/\base<=J i.1):=by
   obtain⟨k,a4,a3⟩:=V cZ;have ei:=(((k.3.set 2 1).set 3 p).set 4 bG).set 5 ab;have cH:∀e,e≠J d.1->i.1[e]? = bu.1[e]?:=λe aO=>by{
    rw[<-bf];exact(dr _ _ _ _ aO).trans<|(dr _ _ _ _ aO).trans<|(dr _ _ _ _ aO).trans<|dr _ _ _ _ aO}
   have ds:J i.1=J bu.1:=by rw[<-bf];simp[a7,World.drew]
   have cL:(∀ac,bu.1[J d.1]?≠ae (aZ ac 5 (0,0)))/\∀ac,bu.1[J d.1]?≠ae (aZ ac 315 (0,0)):=by
    have:=k.3;exact Nj
   refine⟨k.1.kept<|cH _ G,bf▸ei,(zw (FV a4) cL G cH).msg,?_,by rw[ds];exact bS⟩
   ·refine bC a3 (show cv (J b.1) bu i from⟨bf▸U,bf▸U,bf▸U,by rw[ds];exact cO _,λe aO=>cH e G⟩)
  clear a5 a8 a9 b7 b8 b_ a1 b1 cZ;clear bf;obtain⟨c5,av,b2,bz,cq⟩:=V cY;obtain⟨_,_,_,_,_,_,_,_,_,_,aB,_,_⟩:=c5.cells;have a1:=av.cell 5 ax;simp only[eB,eG]at a1;have b1:=av.frozen;have cr:∀e,e≠J d.1->(a7 i ⟨J d.1,5,af⟩<|ag ai u).1[e]? = i.1[e]?:=λe aO=>dr _ _ _ _ aO;have bc:J (a7 i ⟨J d.1,5,af⟩<|ag ai u).1=J i.1:=mo
  have cs:ao (gS (a7 i ⟨J d.1,5,af⟩<|ag ai u) (J d.1) [(g:Int),n,1,p,bG,u] 110/\fq (a7 i ⟨J d.1,5,af⟩<|ag ai u) l base au.1 au.2/\a6 b (a7 i ⟨J d.1,5,af⟩<|ag ai u)/\base<=J (a7 i ⟨J d.1,5,af⟩<|ag ai u).1):=by
   have cL:(∀ac,i.1[J d.1]?≠ae (aZ ac 5 (0,0)))/\∀ac,i.1[J d.1]?≠ae (aZ ac 315 (0,0)):=by
    have:=av;exact Nj
   refine⟨aaI av u,(zw (FV b2) cL G cr).msg,?_,by rw[bc];exact cq⟩;exact bC bz (show cv (J b.1) i (a7 i ⟨J d.1,5,af⟩<|ag ai u)from⟨U,U,U,by rw[bc];exact cO _,λe aO=>cr e G⟩)
  have cu:=O<|cj av<|cj b2<|cj bz cq;have ay:=V et;clear av b2 bz cq cY c5 cr bc
  go_upto_if 74 with fail
  go_cut []from 75 λR=>ao<|gS R (J d.1) [(g:Int),n,1,p,bG,u] 110/\fq R l base au.1 au.2/\a6 b R/\base<=J R.1
  case first=>
   cases t with
   |true=>
    have eR:(ab:Int)+1=(u:Int):=by simp only[cond]at ay;omega
    clear ay cu;go_wp2_with fail;go_meet;exact cs
   |false=>
    simp only[cond]at ay;subst ay;clear cs;go_wp2_with fail;go_meet;exact cu
  case rest=>
  have eS:u<=3002:=by cases t<;>simp only[cond]at ay<;>omega
  clear ay cs cu a1 b1;have cw:=hcut;clear hcut;generalize wc=i at*;have bc:J i.1=J i.1:=U;obtain⟨aw,bF,ba,eT⟩:=V cw;have d6:=bF.lt;have hnew:=cW i<|aZ #[cP 204<|am<|D z] 275;rw[bc]at hnew;have dO:ao (a_ aL 109 #[bv l,bL (J i.1) 0 1 1] (aN i<|aZ #[cP 204<|am<|D z] 275) λw Q=>w=bh (bZ #[])/\fq Q l base (au.1++d_ [ev z]) au.2/\dw l base (aN i<|aZ #[cP 204<|am<|D z] 275) Q):=
   BR (J i.1) 1 [ev z] (aN i<|aZ #[cP 204<|am<|D z] 275) (bF.below<|cf cc bo _) ct
   (λf dn=>by simp at dn;subst dn;exact ka _) (by rw[eE,bc];omega) (by rw[bc]at d6;omega) (bE λac h=>Cu)
   (λdz cE=>by
    match dz,cE with
    |0,_=>unfold aA;rw[hnew];rfl
    |dz+1,cE=>simp at cE) ax ax (by
     simp only[d_,ev,kj,A_,kW];omega)
  clear hnew aw bF ba;go_wp2_with fail;refine eb dO ?_;rintro w b3 ⟨rfl,c8,dg⟩;obtain⟨av,b2,bz,d7⟩:=V cw;have aC:=(dw.vz<|cf cc bo _).trans dg;have aw:gS b3 (J d.1) [(g:Int),n,1,p,bG,u] 110:=(aC.5 _ G G<|bJ G).trans av;have ba:=bC bz (show cv (J b.1) i b3 from⟨aC.1,aC.2,aC.3,aC.4,λe aO=>aC.5 e G G<|bJ G⟩);have d8:=cJ d7 aC.4;rw[show d_ [ev z]=z by simp[d_,ev]]at c8;obtain⟨eF,eH,bF,dh,_⟩:=c8;have dH:=aw.cell 0 ax;have dI:=aw.cell 1 ax;have dJ:=aw.cell 2 ax;have dK:=aw.cell 3 ax;have dL:=aw.cell 4 ax;have dM:=aw.cell 5 ax;simp only[eB,eG]at dH dI dJ dK dL dM;have c0:ao (a_ aL 101 #[bv l,ce #[M g,M n,M 1,M p,M bG,M u]] b3 λw Q=>w=bh (aS<|d_ (iS g n 1 p bG u)++bi 12 (au.1++z))/\IG l base b3 Q):=
   RU 1 p bG u bF dh d8 (by simp only[dj];omega) (by simp only[dj];omega) ck bp G G G G
  have dZ:=O ba;clear av b2 bz bF dh dg aC aw ba dO cw;go_wp2_with fail;refine eb c0 ?_;rintro w eu ⟨rfl,bB⟩;have ba:=V dZ;have ea:=bC ba (show cv (J b.1) b3 eu from⟨bB.1,bB.2,bB.3,bB.4,λe aO=>bB.5 e G G<|bJ G⟩);clear bB ba c0 dH dI dJ dK dL dM;go_wp2;go_ret;exact bd U ea
def iL.aqe(h:iL b f z a e k):iL b f z a e e:=⟨h.1,λ_ g=>bJ ⟨g,cO _⟩⟩
def aaK{h ay}(size){g mb j}(F:fq b a h j mb)(a3:i8 mb)(aT:dx b)(bP:h<=J b.1)(aR:0<h)(aV:0<a)(an:fA b L ay i)(b6:L<h)(bl:L≠a)(cs:E i<=c)(cy:E i<=3001)(aH:∀e∈i,nI e<|g e)(cx:E (ef g i j mb).1<=50000)(aX:E (ef g i j mb).2<=20000)(a0:size<(E (ef g i j mb).1:Int)):a_ aL 169 #[bv a,M size,bL L ay (E i) c] b λz aM=>z=bh (aG ak)/\fq aM a h j mb/\dw a h b aM:=by
 have bj:=O F;obtain⟨cE,cG,r,H,B⟩:=F;obtain⟨k,l,bG,rfl⟩:=oj H;obtain⟨n,p,o,rfl⟩:=oj B;have cB:=r.cells;have cg:=r.lt;have aw:dw a h b (aN b<|aZ #[aE k l bG,aE n p o] 258):=dw.vz<|cf cc bo _;have bK:=O (show fq (aN b<|aZ #[aE k l bG,aE n p o] 258) a h j mb from bj.below<|cf cc bo _);have b7:=O aw;have bp:=O<|cj r<|cj H B;have bt:ao (ew (aN b<|aZ #[aE k l bG,aE n p o] 258) (J b.1) (aE k l bG)<|aE n p o):=cW b _;have bz:J b.1≠a:=G;have bn:=O aT;have bD:=O an;have ac:=O aH;have cb:=O a3;have bq:=an.1;clear r H B aT an aH aw bj a3;go_wp2
 go_loopw [15] (λS wr=>∃(d:Nat),S=M d/\d<=E i/\fq wr a h (ef g (be d i) j mb).1 (ef g (be d i) j mb).2/\dw a h b wr/\ew wr (J b.1) (aE k l bG) (aE n p o)) λS _=>E i-cM (intOf S)
 ·exact⟨0,U,dJ _,bK,b7,bt⟩
 ·obtain⟨d,rfl,aU,T,y,K⟩:=hrel;have b4:=O K;have bB:=K.lt;have aF:=O T;have bI:=O y;have cA:=y.4;by_cases al:d<E i
  ·have cC:(d:Int)<E i:=G;have bf:=sW (V bD) y.4<|y.5 L bq bl<|bJ b6;have⟨a4,a5,a8,a9⟩:=bf.four d al;have mq:=V ac i[d]<|ei al;have br:=O<|RK g al j mb;have av:=O<|RR (V ac) j mb<|d+1;have bu:=O<|(zv g (be d i) (λf b2=>V ac f<|vL b2) j mb).2.2<|V cb;have aj:=(bn.tg y aR aV)
   have ah:a6 wr (aN wr<|aZ #[am<|D i[d].owner,ag ai i[d].aP,ag ai i[d].type,am<|D i[d].data] 83):=cf cc bo _;have W:oY (aN wr<|aZ #[am<|D i[d].owner,ag ai i[d].aP,ag ai i[d].type,am<|D i[d].data] 83) (J wr.1) i[d]:=cW wr _;have⟨e,az⟩:=bm<|i[d];rw[<-az]at a4 a5 a8 a9 mq ah W;obtain⟨I,A,bw⟩:∃I A,ef g (be d i) j mb=(I,A):=⟨_,_,U⟩
   have ab:ao (ef g (be (d+1) i) j mb=iX e (g e) I A):=by
    grind
   have bF:ao (fq wr a h I A):=by grind
   have bH:ao (i8 A):=by grind
   clear bf T y az br bw aF bu K;have bT:J wr.1≠a:=G;have aB:ao (∀q,a6 wr q->oY q (J wr.1) e->a_ aL 214 #[ce #[aS e.owner,M e.aP,M e.type,aS e.data]] (bx q) λz aM=>∃x w,z=bh (bL x 0 (E<|g e) w) /\
     (aA aM (N (J wr.1) 0)=ae (aS e.owner)/\aA aM (N (J wr.1) 1)=ae (M e.aP)/\aA aM (N (J wr.1) 2)=ae (M e.type)/\aA aM (N (J wr.1) 3)=ae (aS e.data)) /\
     ao (E (g e)<=w/\og a aM x (g e)/\oY aM (J wr.1) e/\fq aM a h I A/\dx aM/\(dw a h b aM/\ew aM (J b.1) (aE k l bG) (aE n p o)))):=by
    intro q b1 aY;have X:=b1.drew;refine(mq.4 (bx q)<|aj.below X).mono ?_;rintro z aM ⟨⟨v,rfl,b3⟩,Y⟩;obtain⟨x,w,rfl,ap,ar⟩:=RM (mb:=a) b3 mq.6 (cd X.4);have aa:oY aM (J wr.1) e:=(Y.5 _ (dK.1 aY).1).trans aY;have Z:=bC X<|bN Y X.4;have b8:dw a h wr aM:=dw.vz Z;exact⟨x,w,U,aa.cells,ap,ar,aa,bF.below Z,aj.below Z,bI.trans b8,b4.kept<|Z.5 _ bB⟩
   have aq:ao (∀x w u,ao (E (g e)<=w/\og a u x (g e)/\oY u (J wr.1) e/\fq u a h I A/\dx u/\(dw a h b u/\ew u (J b.1) (aE k l bG) (aE n p o))) ->
     a_ aL 109 #[bv a,bL (J u.1) 0 5 5] (aN u<|aZ #[cP 269<|am<|D e.owner,cP 259<|ag eO<|cM e.type,cP 259<|ag eO 1,cP 317<|ag .u32 e.aP,cP 271<|aE (ae ⟨x,0,af⟩) (E<|g e) w] 275) λz aM=>
      z=bh (bZ #[])/\(aA aM (N (J wr.1) 0)=ae (aS e.owner)/\aA aM (N (J wr.1) 1)=ae (M e.aP)/\aA aM (N (J wr.1) 2)=ae (M e.type)/\aA aM (N (J wr.1) 3)=ae (aS e.data)) /\
      ao (fq aM a h (ef g (be (d+1) i) j mb).1 (ef g (be (d+1) i) j mb).2/\dw a h b aM/\ew aM (J b.1) (aE k l bG) (aE n p o))):=by
    intro x w u ad;have⟨ap,ar,aa,bR,bs,au,Y⟩:=V ad;have bY:=V av;rw[V ab]at bY;refine(RS mq aR aV bs ar ap bR (V bH) (cJ bP au.4) G G).m ?_;rintro aM ⟨h2,Q⟩;refine⟨U,(RT aa Q bT).cells,?_,au.trans Q,Q.box Y bz bW bW⟩;rw[V ab];exact h2
   have ca:eO.wrap e.type=(cM e.type:Int):=Mv
   have cK:yw IntKind.u32 (e.aP:Int)=(e.aP:Int):=by
    have h1:=mq.3;rw[yJ];omega
   clear mq av aj ab;have⟨cD,a1⟩:=bm<|cM e.type;rw[<-a1]at ca aq;clear a1;go_wp2;have ba:=O<|aB _ ah W;have aP:=W.cells;clear ah W aB a4 a5 a8 a9;generalize (aN wr<|aZ #[am<|D e.owner,ag ai e.aP,ag ai e.type,am<|D e.data] 83)=q at*;have b0:(aA (bx q) (N (J wr.1) 0)=ae (aS e.owner)/\aA (bx q) (N (J wr.1) 1)=ae (M e.aP)/\aA (bx q) (N (J wr.1) 2)=ae (M e.type)/\aA (bx q) (N (J wr.1) 3)=ae (aS e.data)):=aP;clear aP
   go_region_held (λaM=>aA aM (N (J wr.1) 0)=ae (aS e.owner)/\aA aM (N (J wr.1) 1)=ae (M e.aP)/\aA aM (N (J wr.1) 2)=ae (M e.type)/\aA aM (N (J wr.1) 3)=ae (aS e.data)) (first|assumption|go_keep)
    (first
     |(go_at_call 214;go_loud (refine eb ba ?_;rintro z cH ⟨x,w,rfl,bM,aJ⟩))
     |(go_at_call 109;go_loud (refine(aq _ _ _ aJ).m ?_;rintro cI ⟨bU,bQ⟩)))
   rename_i bX;clear bX b0 bM bU aJ ba aq;go_wp2;have⟨h1,Q,bV⟩:=V bQ;exact bd (⟨d+1,dd,G,h1,Q,bV⟩) dz
  ·have bS:d=E i:=G;subst bS;rw[jc]at T;have aK:=O y;obtain⟨cF,cm,R,aW,_⟩:=T;obtain⟨co,cq,rfl⟩:=RJ aW;have cp:=R.cells;have ct:=K.cells;have ck:=a0;have cw:=R.frozen;have cn:=λb_=>(R.set0 b_).frozen 1;have P:=O R;clear R aW y aF a0 K;generalize E (ef g i j mb).1=cl at*;go_wp2;go_ret;have⟨r,H,B⟩:=V bp;have aU:=aK.6 _ _ r;obtain⟨cr,cu,ci,bb,bc⟩:=aU;have a2:=Bv r H;have aI:=JG r B;have aC:=(P.set0<|aE k l bG).set1<|aE n p o;have ad:=(uC (V P) (t:=5) bW 0 (aE k l bG) (aE k l bG) 1).trans (uC (P.set0<|aE k l bG) bW 1 (aE n p o) _ 1) ax;have bO:=(uC (V P) (t:=315) bW 0 (aE k l bG) (aE n p o) 2).trans (uC (P.set0<|aE k l bG) bW 1 (aE n p o) _ 2) ax;have C:=V aK;refine⟨U,⟨_,_,aC,qp (qp (bb.alV H) a2 _ _) a2 _ _,qp (qp (bc.alV B) aI _ _) aI _ _⟩,C.1,C.2,C.3,by simp_all,λS aO F aX=>((dr _ _ _ _ F).trans<|dr _ _ _ _ F).trans<|C.5 S aO F aX,jS.of r aC (bb.aqe.trans ad C.4)<|bc.aqe.trans bO C.4⟩
section
attribute [local go_sem] Oper.semAt_some undef
structure xC(mb base s:Nat)(w:World)(ds:List Nat)(cs:List Int)(d:Nat)(S:ap×gs)(W:World):Prop where
 b2:cx W (s+2) (bL (s+3) 0 3 3) 61
 b3:gS W (s+3) cs 3
 msg:mi W mb base d S.1 S.2
 tg:dw mb base w W
 defs:∀x∈ds,W.heap[x]? = some (.deferred (some []))
def xC.keeps{e:List Nat}{cs:List Int}{k:ap×gs}(j:xC a n c b e cs g k f)(d:ey g f m)(q:c+4<g)(r:a<g)(o:J b.1<=g)(p:∀l∈e,l≠g):xC a n c b e cs g k m:=
 ⟨cx.kept j.1<|d.5 _ (cx.lt j.1) G,(d.5 _ (dK.1 j.2).1 G).trans j.2,j.3.keeps d G,j.4.keeps d o,λl i=>(d.5 l (dK.1<|j.5 l i).1<|p l i).trans<|j.5 l i⟩
end
section
attribute [local go_sem] Oper.semAt_some
structure lj where
 S:ap×gs
 cs:List Nat
 full:Bool
def iU(size:Int)(a:aK->List iM)(c:Nat):List (List aK)->lj->lj
 |[],aH=>aH
 |b::d,aH=>if aH.3=aD then aH else if size<(E (ef a b aH.1.1 aH.1.2).1:Int)then {aH with full:=aD}
  else iU size a c d {aH with S:=ef a b aH.1.1 aH.1.2,cs:=aH.2.set c (aH.2.getD c 0+E b)}
def lE(size:Int)(a:aK->List iM):Nat->List (List aK)->lj->lj
 |_,[],aH=>aH
 |b,c::d,aH=>lE size a (b+1) d (iU size a b (b9 (·.2)<|dg c8 c) aH)
def Gs{b:aK->List iM}{d:List<|List aK}{aH:lj}(c:aH.3=aD):iU j b a d aH=aH:=by
 cases d with
 |nil=>rfl
 |cons e d=>unfold iU;rw[b8 c]
def Un{d:aK->List iM}:∀{b:Nat} {c:List<|List aK} {aH:lj},aH.3=aD->lE j d b c aH=aH
 |_,[],_,_=>U
 |b,e::c,aH,a=>by unfold lE;rw[Gs a];exact Un a
def KH{a:aK->List iM}{c:List<|List aK}{aH:lj}(d:aH.3=ak)(e:j<(E (ef a i aH.1.1 aH.1.2).1:Int)):iU j a g (i::c) aH = {aH with full:=aD}:=by unfold iU;rw[bV (by rw[d];simp),b8 e]
def KI{a:aK->List iM}{d:List<|List aK}{aH:lj}(e:aH.3=ak)(g:¬j<(E (ef a i aH.1.1 aH.1.2).1:Int)):iU j a c (i::d) aH=iU j a c d {aH with S:=ef a i aH.1.1 aH.1.2,cs:=aH.2.set c (aH.2.getD c 0+E i)}:=by
 conv=>lhs;unfold iU
 rw[bV (by rw[e];simp),bV g]
def oE(c:List Nat)(a:aQ):aQ:=c.foldl (λa b=>ep a b<|df af) a
def KK:∀(b:List Nat) (c:aQ) (a:Nat),a∉b->(oE b c).1[a]? = c.1[a]?
 |[],_,_,_=>U
 |e::b,c,a,d=>by simp only[fw,not_or]at d;show(oE b<|ep c e<|df af).1[a]? = _;rw[KK b _ a d.2,jB d.1]
def KL:∀(b:List Nat) (a:aQ),(oE b a).4=a.4/\(oE b a).2=a.2/\(oE b a).5=a.5/\J (oE b a).1=J a.1
 |[],_=>⟨U,U,U,U⟩
 |d::b,a=>by have c:=KL b<|ep a d<|df af;exact⟨c.1,c.2.1,c.2.2.1,cQ c.2.2.2<|by simp[World.putObj_size]⟩
def Uo(a:Nat):Deferred:={target:=.collected a,args:=#[]}
def KM{l:Fence}{h:Func}{k:Array bk}{e:Ending->aQ->Prop}:∀(p:List Nat) (b:aQ),p.Nodup->(∀c∈p,b.1[c]? = ae (df<|ae []))->(∃v,(c_ h k).run aL (oE p b)=.ok v (oE p b)/\e (bh v) (oE p b))->LeavesInM l a aL h k e (b9 Uo p) .returning b
 |[],_,_,_,d=>d
 |c::p,b,o,g,d=>by have i:=Ik.1 o;refine⟨ax,bJ ⟨c,ep b c<|df af,U,lf<|g c ax,?_⟩⟩;exact KM p _ i.2 (λq j=>(jB λn=>i.1 (by rw[<-n];exact j)).trans<|g q<|by simp[j]) d
def jl(d:aK->List iM)(a:Nat)(c:List aK)(aH:lj)(b:Nat):lj:=⟨ef d (mt c b) aH.1.1 aH.1.2,aH.2.set a<|aH.2.getD a 0+E (mt c b),ak⟩
def KN(c:aK->List iM)(a:Nat)(e:List aK){aH:lj}(aO:a<E aH.2)(b:aH.3=ak):jl c a e aH 0=aH:=by unfold jl;rw[Zu];have d:aH.2.set a (aH.2.getD a 0+E ([]:List aK))=aH.2:=by{rw[iA,fs aO];simp};rw[d];cases aH;simp only at b;subst b;rfl
def ac_(d:aK->List iM)(b:Nat)(aH:lj){e:Nat×List aK}(h:(dg c8 i)[a]? = ae e)(aO:b<E aH.2):jl d b i aH (a+1) = {jl d b i aH a with S:=ef d e.2 (jl d b i aH a).1.1 (jl d b i aH a).1.2,cs:=(jl d b i aH a).2.set b ((jl d b i aH a).2.getD b 0+E e.2)}:=by unfold jl;rw[Zw h,RL,dj];let g:(aH.2.set b<|aH.2.getD b 0+E (mt i a)).getD b 0=aH.2.getD b 0+E (mt i a):=by{rw[iA,Ih<|by exact aO];rfl};simp only[g,List.set_set,pL]
def ada{d:Nat×List aK}(c:(dg c8 i)[a]? = ae d):bi a (b9 (·.2)<|dg c8 i)=d.2::bi (a+1) (b9 (·.2)<|dg c8 i):=by let g:=(iW.1 c).1;let e:=(iW.1 c).2;rw[jM (by rw[ff];exact g),pH,e]
def NJ(h:φ:=by
 rcases fw.1 aR with rfl|aR
 ·exact dN
 ·exact hX.5 d aR):φ:=h
def E8(h:φ:=by rw[Oq]at hc;cases hc):φ:=h
def Ff(h:φ:=by rw[gj]at hc;simp at hc):φ:=h
def MH(h:φ:=by
 have aR:=qN.7 x hx;refine⟨λe=>?_,λe=>?_,λe=>?_,(dK.1 aR).1⟩
 ·let⟨vb,vp,h1,_⟩:=qN.3.msg;unfold ew at h1;rw[e,h1]at aR;cases aR
 ·have h3:=qN.1.4;unfold gS at h3;rw[e,h3]at aR;cases aR
 ·have h2:=qN.1.3;unfold cx at h2;rw[e,h2]at aR;cases aR):φ:=h
def adb(size:Int)(j:aK->List iM){al:bk}(ab ac ad:List aK)(I:ap×gs)(cD:fq b c a I.1 I.2)(dZ:i8 I.2)(B:dx b)(cA:a<=J b.1)(bw:0<a)(bB:0<c)(cU:b.1[g]? = ae (aZ #[k,r,al] 77))(cT:g≠c)(dX:∀lb,lb<3->∃aI n z h K az,[k,r,al][lb]? = ae (aE aI n z)/\[ab,ac,ad].drop lb=h::[ab,ac,ad].drop (lb+1)/\zg (aE aI n z) K az h/\fA b K az h/\K<a/\K≠c/\E h<=3001/\(∀x∈h,nI x<|j x)/\n=E h /\
   ∀x∈dg c8 h,∀(aU:ap) (aV:gs),i8 aV->E aU<=1300->E aV<=E aU+300->E (ef j x.2 aU aV).1<=50000/\E (ef j x.2 aU aV).2<=20000/\E (ef j x.2 aU aV).2<=E (ef j x.2 aU aV).1+300)(d4:size<=1300)(dE:E I.1<=1300)(ds:E I.2<=E I.1+300):a_ aL 107 #[bv c,M size,bL g 0 3 3] b λe Z=>e=bh (bL (J b.1+3) 0 3 3)/\gS Z (J b.1+3) ((lE size j 0 [ab,ac,ad] ⟨I,[0,0,0],ak⟩).2.map λn:Nat=>(n:Int)) 3/\fq Z c a (lE size j 0 [ab,ac,ad] ⟨I,[0,0,0],ak⟩).1.1 (lE size j 0 [ab,ac,ad] ⟨I,[0,0,0],ak⟩).1.2/\dw c a b Z:=by
 have:=cD.lt;have dc:=(dK.1 cU).1;have:=B.1;have c2:=O dX;have db:ao (∀l,a6 b l->sx (J b.1) c size [0,0,0] l->mj c a (J b.1) g size #[k,r,al] b [] [0,0,0] c I l):=λl bt t=>by
  have dF:dw c a b l:=dw.vz bt;exact⟨t,(bt.5 g dc).trans cU,FV<|cD.below bt,dZ,B.below bt,dF,λx hx=>by cases hx⟩
 let⟨C,cg⟩:=du<|lE size j 0 [ab,ac,ad] ⟨I,[0,0,0],ak⟩
 rw[cg];have dt:=O cg;refine(ec (n:=0)).1 ?_;refine sm func107 U cy ?_;simp only[ntmps107,mA,dW,gG,Nat.reduceAdd,Nat.reduceSub,mx,mP,mR,mQ,iF,fN];have:=Zy;gi_wp2_with fail;let⟨da,cR⟩:=bm<|aN (aN (aN (aN (aN b<|aZ #[cz<|ae ⟨c,0,af⟩] 196)<|aZ #[ag ai size] 3)<|aZ #[aE af 0 0] 61)<|aZ #[ag ai 0,ag ai 0,ag ai 0] 3)<|aZ #[aE (ae ⟨J b.1+1+1+1,0,af⟩) 3 3] 61
 have dj:ao (mj c a (J b.1) g size #[k,r,al] b [] [0,0,0] c I da):=by
  rw[cR];refine db _ ((((cf cc bo _).alloc ax _).alloc ct _).alloc ct _ |>.alloc ct _) ?_;have dY:=cW b<|aZ #[cz<|ae ⟨c,0,af⟩] 196;have cG:=cW (aN b<|aZ #[cz<|ae ⟨c,0,af⟩] 196)<|aZ #[ag ai size] 3;have cH:=cW (aN (aN b<|aZ #[cz<|ae ⟨c,0,af⟩] 196)<|aZ #[ag ai size] 3)<|aZ #[aE af 0 0] 61;have cI:=cW (aN (aN (aN b<|aZ #[cz<|ae ⟨c,0,af⟩] 196)<|aZ #[ag ai size] 3)<|aZ #[aE af 0 0] 61)<|aZ #[ag ai 0,ag ai 0,ag ai 0] 3;have cK:=cW (aN (aN (aN (aN b<|aZ #[cz<|ae ⟨c,0,af⟩] 196)<|aZ #[ag ai size] 3)<|aZ #[aE af 0 0] 61)<|aZ #[ag ai 0,ag ai 0,ag ai 0] 3)<|aZ #[aE (ae ⟨J b.1+1+1+1,0,af⟩) 3 3] 61;simp only[eE]at cG cH cI cK;refine⟨?_,?_,?_,?_,cK⟩
  ·exact(dv _ _ _ gB).trans<|(dv _ _ _ gB).trans<|(dv _ _ _ gB).trans<|(dv _ _ _ gB).trans dY
  ·exact(dv _ _ _ gB).trans<|(dv _ _ _ gB).trans<|(dv _ _ _ gB).trans cG
  ·exact(dv _ _ _ gB).trans<|(dv _ _ _ gB).trans cH
  ·exact(dv _ _ _ gB).trans cI
 rw[<-cR];refine wpIn_loop (λaI aj=>∃(lb:Nat) (o:List Nat) (aH:lj) (u8 u9 ck cl cm u20 u21 u22 u38:bk),aI=⟨#[bv c,M size,bL g 0 3 3,bv<|J b.1,bv<|J b.1+1,e8,bv<|J b.1+1+1,bv<|J b.1+1+1+1+1,u8,u9,e8,bL g 0 3 3,M 3,bL (J b.1+1+1+1) 0 3 3,bL g 0 3 3,M 3,M lb,ck,cl,cm,u20,u21,u22,e8,e8,e8,e8,e8,e8,e8,e8,e8,e8,e8,e8,e8,e8,e8,u38,e8],b9 Uo o⟩/\lb<=3/\(o.Nodup/\∀x∈o,J b.1<=x)/\E aH.2=3/\aH.3=ak/\(∀z∈aH.2,z<=3001*lb)/\E aH.1.1<=1300/\E aH.1.2<=E aH.1.1+300/\ao (mj c a (J b.1) g size #[k,r,al] b o (aH.2.map λn:Nat=>(n:Int)) c aH.1 aj)/\ao (lE size j lb ([ab,ac,ad].drop lb) aH=C)) (λaI _=>3-cM (intOf<|aI.1.getD 16 e8)) ?_ ?_
 ·exact⟨0,[],⟨I,[0,0,0],ak⟩,e8,e8,e8,e8,e8,e8,e8,e8,e8,U,G,⟨List.nodup_nil,λx hx=>by cases hx⟩,U,U,(λz hc=>by simp at hc;omega),dE,ds,dj,dt⟩
 ·rintro _ l ⟨lb,o,aH,u8,u9,ck,cl,cm,u20,u21,u22,u38,rfl,aO,⟨a9,bj⟩,dG,a0,a4,b0,b1,bQ,cw⟩;by_cases cb:lb<3
  ·have:(lb:Int)<3:=G;obtain⟨b3,d5,b4,h,K,az,Y,bS,dk,cC,bF,bl,bY,d0,rfl,dM⟩:=c2 lb cb;have:aA l (N g lb)=ae (aE b3 (E h) b4):=by
    have:=bQ.2;unfold aA;rw[this]
    match lb,cb,Y with
    |0,_,Y=>simpa using Y
    |1,_,Y=>simpa using Y
    |2,_,Y=>simpa using Y
   have qN:=bQ;have y:∀x∈o,x≠c/\x≠J b.1+3/\x≠J b.1+2/\x<J l.1:=λx hx=>MH
   have:=qN.1.lt;have:=qN.3.msg.lt;have:=qN.6.4;gi_wp2_with fail;refine⟨cy,U,?_⟩;refine(ec.2<|Zt _ _ _ _).m ?_;rintro q ⟨dA,cL,cu,cn⟩;have dp:cx q (J l.1) (M lb) 3:=(cx.qf _ _ _).below cL ax;have dl:a6 l q:=(cf cc bo _).trans<|bN cL ax;simp only[eE]at dA cu cn;have:J l.1+3<=J q.1:=G;have ca:=O<|KN j lb h G a0;have bn:ao (mj c a (J b.1) g size #[k,r,al] b o ((jl j lb h aH 0).2.map λn:Nat=>(n:Int)) (J q.1+1) (jl j lb h aH 0).1 q):=by
    rw[ao,ca];exact(qN.below dl).re _ ⟨λR hc=>cd<|(dK.1 hc).1,λR hc=>cd<|(dK.1 hc).1⟩
   have an:=O<|cj dp<|cj cu cn;let⟨aF,ci⟩:=du (iU size j lb (b9 (·.2)<|dg c8 h) aH)
   have cS:ao (lE size j (lb+1) ([ab,ac,ad].drop<|lb+1) aF=C):=by
    have:=cw;rw[bS,lE,ci]at this;exact this
   have dB:ao (iU size j lb (bi 0 (b9 (·.2)<|dg c8 h)) (jl j lb h aH 0)=aF):=by rw[ao,ca,pW];exact ci
   have dU:=O d0;have c1:=O dM;have c0:=O cC;have dd:=O dk;have c9:=cC.1;gi_wp2_with fail;have bV:∀aW,a6 q (aN (aN q<|df<|ae [])<|dq aW):=λaW=>(cf cc bo _).alloc ax _;have bp:∀aj,dw c a b aj->fA aj K az h:=λaj cE=>sW c0 cE.4<|cE.5 K c9 bl<|bJ bF;refine GJ (xs:=dg c8 h) (encs:=λx:Nat×List aK=>#[bL K (az+x.1*4) (E x.2)<|E x.2]) (St:=λaX aY=>a6 aX aY) (Kp:=kC (J l.1+1) (J l.1+1+1) K) (Kx:=λ_ _=>True)
    (gf:=203) (lb:=#[bv<|J l.1+1,bv<|J l.1+1+1]) U (enters_of func203 b6 U) (λ_=>U) ?aLC
    [J l.1+1,J l.1+1+1,K] ct (λaX aY i=>i) (λaX aY i dC=>⟨dC,i _ ax,i _ ax,i _ ax⟩) (λ_ _=>cy)
    (λu aj=>mj c a (J b.1) g size #[k,r,al] b o ((jl j lb h aH u).2.map λn:Nat=>(n:Int)) (J q.1+1) (jl j lb h aH u).1 aj/\cx aj (J l.1) (M lb) 3/\cx aj (J l.1+1) (aE b3 (E h) b4) 77/\cx aj (J l.1+1+1) (ez (.func 151) #[] #[]) 246 /\
     ao (iU size j lb (bi u (b9 (·.2)<|dg c8 h)) (jl j lb h aH u)=aF)/\E (jl j lb h aH u).1.1<=1300/\E (jl j lb h aH u).1.2<=E (jl j lb h aH u).1.1+300)
    (λz aj=>z=.ret/\xC c a (J b.1) b o (C.2.map λn:Nat=>(n:Int)) (J q.1+1) C.1 aj)
    (λu aX aY i dD F=>⟨i.1.keeps F G G G G λx hx=>cd<|(y x hx).2.2.2,cx.kept i.2.1<|F.5 _ (cx.lt i.2.1) G,cx.kept i.2.2.1<|F.5 _ (cx.lt i.2.2.1) G,cx.kept i.2.2.2.1<|F.5 _ (cx.lt i.2.2.2.1) G,i.2.2.2.2⟩)
    (λz aX aY i dD F=>⟨i.1,i.2.keeps F G G G λx hx=>cd<|(y x hx).2.2.2⟩)
    ⟨bn,an.1,an.2.1,an.2.2,dB,by rw[KN j lb h G a0];exact b0,by rw[KN j lb h G a0];exact b1⟩
    ?round0 ?aLD ?aLE
   case aLC=>
    intro aW;have B:=bV aW;exact I3 dd ((B.cell (p:=⟨J l.1+1,0,af⟩) (by show J l.1+1<J q.1;omega)).trans (cx.cell an.2.1)) ((B.cell (p:=⟨J l.1+1+1,0,af⟩) (by show J l.1+1+1<J q.1;omega)).trans (cx.cell an.2.2)) ((bp q bn.6).below B) (cd B.4) (cd B.4) bY
   case aLE=>
    intro z aj a2 dN co;obtain⟨rfl,hX⟩:=a2;have:=cx.lt hX.1;have:=hX.3.msg.lt;have dm:J q.1∉o:=λi=>cd<|(y _ i).2.2.2
    have D:∀x,x∉J q.1::o->(oE (J q.1::o) aj).1[x]? = aj.1[x]?:=λx bU=>KK _ aj x bU;have aB:∀x,x<J q.1->(∀aa∈o,x≠aa)->x∉J q.1::o:=λx h1 h2 i=>by
     rcases fw.1 i with i|i
     ·omega
     ·exact h2 x i U
    have bP:aA (oE (J q.1::o) aj) (N (J b.1+1+1) 0)=ae (bL (J b.1+3) 0 3 3):=(dR<|D (J b.1+2)<|aB _ G λaa aw e=>(y aa aw).2.2.1<|b5 e).trans<|cx.cell hX.1;have dn:=O hX;have de:=O dm;have dh:=O aB;have d1:=O D;gi_wp2_with fail;have hX:=dn;have D:=d1;have aB:=dh;refine KM (J q.1::o) aj (Ik.2 ⟨de,a9⟩) (λd aR=>?_) ⟨bL (J b.1+3) 0 3 3,by simp[c_,results107,go_sem,bP],U,?_,?_,?_⟩
    ·exact NJ
    ·exact(D _<|aB _ G λaa aw e=>(y aa aw).2.1<|b5 e).trans hX.2
    ·let⟨bR,bT,b8,bb,bc⟩:=hX.3.msg;have cp:∀d∈J q.1::o,aj.1[d]? = ae (df<|ae []):=λd aR=>by
      exact NJ
     refine⟨bR,bT,b8.kept<|D c<|aB c G λaa aw e=>(y aa aw).1<|b5 e,nQ bb λS B=>?_,nQ bc λS B=>?_⟩
     ·let⟨R,P⟩:=vE bb B;exact D S (λe=>by rw[cp S e]at P;cases P)
     ·let⟨R,P⟩:=vF bc B;exact D S (λe=>by rw[cp S e]at P;cases P)
    ·let⟨aP,aS,aT,bD⟩:=KL (J q.1::o) aj;exact hX.4.same aP aS aT (by rw[bD];exact cO _) λx hx=>D x<|aB x G λaa aw e=>cd<|bj aa aw
   case round0=>
    intro cF u x d3 aj hx a2 co av d2;let⟨t,bK,bd,bf,aC,a1,a8⟩:=a2;have aM:=pE hx;have dQ:=uW aM;have bs:=xh (bp aj t.6) aM;have bu:=c1 x aM _ _ t.4 a1 a8;have aq:=ac_ j lb aH hx G;have bz:=ada hx;have cN:=cJ (Kb h u) bY;have a3:lb<E (jl j lb h aH u).2:=by unfold jl;simp;omega
    have cq:(jl j lb h aH u).2.getD lb 0<=3001*lb+3001:=by
     have h1:(jl j lb h aH u).2.getD lb 0=aH.2.getD lb 0+E (mt h u):=by
      unfold jl;rw[iA,Ih G];rfl
     have h2:aH.2.getD lb 0<=3001*lb:=by
      rw[iA,fs G];exact a4 _<|ei _
     omega
    have bq:(jl j lb h aH u).3=ak:=U;have ba:=λaW dI=>dU aW<|Kc aM dI;have br:=(zv j x.2 ba (jl j lb h aH u).1.1 (jl j lb h aH u).1.2).2.2 t.4;generalize jl j lb h aH (u+1)=X at*;generalize jl j lb h aH u=W at*;let⟨ar,L⟩:=du<|ef j x.2 W.1.1 W.1.2
    rw[L]at bu aq br;let⟨Q,a5⟩:=bm<|W.2.getD lb 0;rw[<-a5]at aq cq;have:=cx.cell t.1.1;have:=cx.cell t.1.2;let⟨dV,au⟩:=d2;have bG:∀ah,dw c a aj ah->ah.1[J q.1+1]? = ae (dq dV)/\ah.1[J q.1]? = ae (df<|ae []):=λah A=>
     ⟨(A.5 (J q.1+1) G G<|bE ⟨λz hc=>(by rw[au]at hc;cases hc),λz hc=>by rw[au]at hc;cases hc⟩).trans au,(A.5 (J q.1) G G<|bE ⟨λz hc=>(by rw[av]at hc;cases hc),λz hc=>by rw[av]at hc;cases hc⟩).trans av⟩
    by_cases bH:size<(E ar.1:Int)
    ·have bM:ao (a_ aL 169 #[bv c,M size,bL K (az+x.1*4) (E x.2)<|E x.2] aj λe Z=>
       e=bh (aG ak)/\fq Z c a W.1.1 W.1.2/\dw c a aj Z):=
      aaK size t.3.msg t.4 t.5 (cJ cA t.6.4) bw bB bs bF bl bo G ba (by rw[L];omega) (by rw[L];omega) (by rw[L];exact bH)
     have c3:ao (C = {W with full:=aD}):=by
      have h1:=aC;rw[bz,KH bq (by rw[L];exact bH)]at h1;have h2:=cS;rw[<-h1,Un U]at h2;exact b5 h2
     have b7:ao (∀ah,fq ah c a W.1.1 W.1.2->dw c a aj ah ->
       aA ah (N (J b.1+1+1+1+1) 0)=ae (bL (J b.1+1+1+1) 0 3 3)/\aA ah (N (J b.1+1+1) 0)=ae (bX)/\gd ah (N (J b.1+1+1) 0)=ak /\
       ao (io (J q.1) aj (a7 ah ⟨J b.1+1+1,0,af⟩<|aE (ae ⟨J b.1+1+1+1,0,af⟩) 3 3)/\xC c a (J b.1) b o (C.2.map λn:Nat=>(n:Int)) (J q.1+1) C.1 (a7 ah ⟨J b.1+1+1,0,af⟩<|aE (ae ⟨J b.1+1+1+1,0,af⟩) 3 3))):=by
      intro ah ay A;let⟨Oq,bO⟩:=bG ah A;have T:=t.fit A ay t.4 G cT bw bB (λx hx=>(y x hx).1) ⟨λR hc=>E8,λR hc=>E8⟩;have w:∀H,H≠J b.1+2->(a7 ah ⟨J b.1+1+1,0,af⟩<|aE (ae ⟨J b.1+1+1+1,0,af⟩) 3 3).1[H]? = ah.1[H]?:=λH F=>dr _ _ _ _ F;have gj:=T.1.3;rw[c3];refine⟨cx.cell T.1.5,cx.cell gj,cx.frozen gj,⟨cJ A.4 mo,(w _ G).trans<|cQ bO<|b5 av,(w _ G).trans<|cQ Oq<|b5 au⟩,cx.set gj _,(w _ G).trans T.1.4,zw T.3 ⟨λz hc=>Ff,λz hc=>Ff⟩ G w,T.6.same U U U mo λlb aO=>w lb G,λx hx=>(w x (y x hx).2.2.1).trans<|T.7 x hx⟩
     clear t bK bd bf aM bs av au hx bn an bV bp bu aq bz br bG aC L a5 bq cN a3 cq ba dQ a1 a8 a4 b0 b1 a0 a9 bj y;gi_wp2_with fail;refine⟨cy,?_⟩;gi_wp2_with fail;refine⟨cy,U,?_⟩;refine(ij cF<|ec.2 bM).m ?_;rintro ah ⟨ay,A⟩;let⟨aP,aS,aT,aJ⟩:=b7 ah ay A;gi_wp2_with fail;exact⟨aJ.1,U,aJ.2⟩
    ·have cr:(E ar.1:Int)<=size:=G;have bM:ao (a_ aL 169 #[bv c,M size,bL K (az+x.1*4) (E x.2)<|E x.2] aj λe Z=>
       e=bh (aG aD)/\fq Z c a ar.1 ar.2/\dw c a aj Z):=by
      have:=ZC size t.3.msg t.4 t.5 (cJ cA t.6.4) bw bB bs bF bl bo G ba (by rw[L];omega) (by rw[L];omega) (by rw[L];exact cr);rw[L]at this;exact this
     have cB:ao (iU size j lb (bi (u+1) (b9 (·.2)<|dg c8 h)) X=aF):=by
      have h1:=aC;rw[bz,KI bq (by rw[L];exact bH),L,<-a5]at h1;rw[ao,aq];exact h1
     have bI:X.1=ar:=by rw[aq]
     have cV:(X.2.map λn:Nat=>(n:Int))=(W.2.map λn:Nat=>(n:Int)).set lb (Q+E x.2:Int):=by rw[aq,DK];simp
     have b_:(W.2.map λn:Nat=>(n:Int))[lb]? = ae (Q:Int):=by rw[sG,fs a3,a5,iA,fs a3];rfl
     have b7:ao (∀ah,fq ah c a ar.1 ar.2->dw c a aj ah ->
       aA ah (N (J b.1+1+1+1+1) 0)=ae (bL (J b.1+1+1+1) 0 3 3)/\aA ah (N (J l.1) 0)=ae (M lb)/\aA ah (N (J b.1+1+1+1) lb)=ae (M Q)/\gd ah (N (J b.1+1+1+1) lb)=ak /\
       ao (io (J q.1) aj (a7 ah ⟨J b.1+1+1+1,lb,af⟩<|ag ai (Q+E x.2:Int))/\(∀b2∈[J l.1+1,J l.1+1+1,K],(a7 ah ⟨J b.1+1+1+1,lb,af⟩<|ag ai (Q+E x.2:Int)).1[b2]? = aj.1[b2]?) /\
        (mj c a (J b.1) g size #[k,r,al] b o (X.2.map λn:Nat=>(n:Int)) (J q.1+1) X.1 (a7 ah ⟨J b.1+1+1+1,lb,af⟩<|ag ai (Q+E x.2:Int))/\cx (a7 ah ⟨J b.1+1+1+1,lb,af⟩<|ag ai (Q+E x.2:Int)) (J l.1) (M lb) 3/\cx (a7 ah ⟨J b.1+1+1+1,lb,af⟩<|ag ai (Q+E x.2:Int)) (J l.1+1) (aE b3 (E h) b4) 77/\cx (a7 ah ⟨J b.1+1+1+1,lb,af⟩<|ag ai (Q+E x.2:Int)) (J l.1+1+1) (ez (.func 151) #[] #[]) 246 /\
         ao (iU size j lb (bi (u+1) (b9 (·.2)<|dg c8 h)) X=aF)/\E X.1.1<=1300/\E X.1.2<=E X.1.1+300))):=by
      intro ah ay A;let⟨Oq,bO⟩:=bG ah A;have T:=t.fit A ay br G cT bw bB (λx hx=>(y x hx).1) ⟨λR hc=>E8,λR hc=>E8⟩;have cX:=xQ bK A G bW bW;have cY:=xQ bd A G bW bW;have cZ:=xQ bf A G bW bW;have dO:=T.set lb (Q+E x.2:Int) G G bo λx hx=>(y x hx).2.1;have w:∀H,H≠J b.1+3->(a7 ah ⟨J b.1+1+1+1,lb,af⟩<|ag ai (Q+E x.2:Int)).1[H]? = ah.1[H]?:=λH F=>dr _ _ _ _ F;refine⟨cx.cell T.1.5,cx.cell cX,(T.1.4.cell lb (by rw[ff];exact a3)).trans<|by rw[(iW.1 b_).2],T.1.4.frozen lb,⟨cJ A.4 mo,(w _ G).trans<|cQ bO<|b5 av,(w _ G).trans<|cQ Oq<|b5 au⟩,λb2 F=>?_,?_,cx.kept cX<|w _ G,cx.kept cY<|w _ G,cx.kept cZ<|w _ G,cB,by rw[bI];omega,by rw[bI];exact bu.2.2⟩
      ·simp only[fw,rF,n_]at F;rcases F with rfl|rfl|rfl
       ·exact(w _ G).trans<|cQ cY<|b5 bd
       ·exact(w _ G).trans<|cQ cZ<|b5 bf
       ·exact(w _ G).trans<|A.5 _ (cd t.6.4) bl<|bJ bF
      ·rw[bI,cV];exact dO
     clear t bK bd bf aM bs av au hx bn an bV bp bu aq bz br bG aC L a5 bq cN a3 ba a1 a8 a4 b0 b1 a0 a9 bj y bI cV b_ cB bH cr;gi_wp2_with fail;refine⟨cy,?_⟩;gi_wp2_with fail;refine⟨cy,U,?_⟩;refine(ij cF<|ec.2 bM).m ?_;rintro ah ⟨ay,A⟩;let⟨aP,aS,aT,bD,aJ⟩:=b7 ah ay A;gi_wp2_with fail;exact⟨aJ.1,aJ.2.1,aJ.2.2⟩
   case aLD=>
    intro aj a2 dN co;let⟨t,bK,bd,bf,aC,a1,a8⟩:=a2;have dH:jl j lb h aH (E<|dg c8 h)=aF:=by
     have:=aC;rw[A8 (by rw[ff];exact cO _)]at this;exact this
    have cs:=O t;have dL:=O dH;gi_wp2_with fail;refine⟨⟨lb+1,J q.1::o,jl j lb h aH<|E<|dg c8 h,_,_,_,_,_,_,_,_,_,U,G,⟨Ik.2 ⟨λi=>cd<|(y _ i).2.2.2,a9⟩,λx hx=>?_⟩,?_,U,λz hc=>?_,a1,a8,?_,?_⟩,dz⟩
    ·rcases fw.1 hx with rfl|hx
     ·omega
     ·exact bj x hx
    ·unfold jl;simp;exact dG
    ·unfold jl at hc;rcases Ij hc with hc|hc
     ·have:=a4 z hc;omega
     ·have h2:aH.2.getD lb 0<=3001*lb:=by
       rw[iA,fs G];exact a4 _<|ei _
      have:=cJ (Kb h<|E<|dg c8 h) bY;omega
    ·have i:=cs.re c (by
      let⟨vb,vp,h1,_⟩:=cs.3.msg;unfold ew at h1;exact⟨λR hc=>(by rw[h1]at hc;simp at hc),λR hc=>by rw[h1]at hc;simp at hc⟩)
     exact⟨i.1,i.2,i.3,i.4,i.5,i.6,λx hx=>by
      rcases fw.1 hx with rfl|hx
      ·exact dN
      ·exact i.7 x hx⟩
    ·rw[ao,dL];exact cS
  ·obtain rfl:lb=3:=G;have qN:=bQ;have y:∀x∈o,x≠c/\x≠J b.1+3/\x≠J b.1+2/\x<J l.1:=λx hx=>MH
   have dJ:aH=C:=cw;have aP:=cx.cell qN.1.5;have aS:=cx.cell qN.1.3;have aT:=cx.frozen qN.1.3;have hX:ao (xC c a (J b.1) b o (C.2.map λn:Nat=>(n:Int)) c C.1<|a7 l ⟨J b.1+1+1,0,af⟩<|aE (ae ⟨J b.1+1+1+1,0,af⟩) 3 3):=by
    rw[<-dJ];have w:∀H,H≠J b.1+2->(a7 l ⟨J b.1+1+1,0,af⟩<|aE (ae ⟨J b.1+1+1+1,0,af⟩) 3 3).1[H]? = l.1[H]?:=λH F=>dr _ _ _ _ F;have gj:=qN.1.3;exact⟨cx.set gj _,(w _ G).trans qN.1.4,zw qN.3 ⟨λz hc=>Ff,λz hc=>Ff⟩ G w,qN.6.same U U U mo λlb aO=>w lb G,λx hx=>(w x (y x hx).2.2.1).trans<|qN.7 x hx⟩
   have di:=O y;have c5:=O a9;have c6:=O bj;have c4:ao (∀aj,xC c a (J b.1) b o (C.2.map λn:Nat=>(n:Int)) c C.1 aj->aA (oE o aj) (N (J b.1+1+1) 0)=ae (bL (J b.1+3) 0 3 3)/\gS (oE o aj) (J b.1+3) (C.2.map λn:Nat=>(n:Int)) 3/\fq (oE o aj) c a C.1.1 C.1.2/\dw c a b (oE o aj)):=λaj hX=>by
    have y:=di;have D:∀x,x∉o->(oE o aj).1[x]? = aj.1[x]?:=λx bU=>KK _ aj x bU;refine⟨(dR<|D (J b.1+2) λi=>(y _ i).2.2.1 U).trans<|cx.cell hX.1,(D _ λi=>(y _ i).2.1 U).trans hX.2,?_,?_⟩
    ·let⟨bR,bT,b8,bb,bc⟩:=hX.3.msg;refine⟨bR,bT,b8.kept<|D c λi=>(y _ i).1 U,nQ bb λS B=>?_,nQ bc λS B=>?_⟩
     ·let⟨R,P⟩:=vE bb B;exact D S (λe=>by rw[hX.5 S e]at P;cases P)
     ·let⟨R,P⟩:=vF bc B;exact D S (λe=>by rw[hX.5 S e]at P;cases P)
    ·let⟨aP,aS,aT,bD⟩:=KL o aj;exact hX.4.same aP aS aT (by rw[bD];exact cO _) λx hx=>D x λi=>cd<|V c6 x i
   gi_wp2_with fail;generalize a7 l ⟨J b.1+1+1,0,af⟩ (aE (ae ⟨J b.1+1+1+1,0,af⟩) 3 3)=aj at*;let hX:=hX;let⟨bP,Y,bS,dy⟩:=c4 aj hX;exact KM o aj c5 (λd aR=>hX.5 d aR) ⟨bL (J b.1+3) 0 3 3,by simp[c_,results107,go_sem,bP],U,Y,bS,dy⟩
end
def HB(h:φ:=by subst hr';clear hr h0 h1;go_wp2;go_ret;simp):φ:=h
def ZJ(a d):a_ aL 110 #[M a] d λe h=>e=bh (aG<|sB a)/\h=d:=by
 let⟨b,hr⟩:=bm<|sB a;rw[<-hr];unfold sB at hr;by_cases h0:a=0;{subst h0;have hr':b=ak:=hr;subst hr';clear hr;go_wp2;go_ret;simp};{
 have c:(a != 0)=aD:=by grind
 by_cases h1:a=41;{subst h1;have hr':b=ak:=hr;subst hr';clear hr h0 c;go_wp2;go_ret;simp};{
 have g:(a != 41)=aD:=by grind
 rw[c,g]at hr;by_cases i:a<249;{
 have hr':b=aD:=by grind
 exact HB};{
 by_cases j:254<a;{
 have hr':b=aD:=by grind
 exact HB};{
 have hr':b=ak:=by grind
 exact HB}}}}
def BK(a:aQ)(d c:Nat):Prop:=d<=c/\∃e b,d<=b/\b<=J a.1/\ew a c e (bX)/\gO a b e (List.replicate 12 0)
def BK.below{n}(h:BK b n a)(d:a6 b f):BK f n a:=by let⟨i,o,g,j,k,e,l⟩:=h;exact⟨i,o,g,j,cJ k d.4,(d.5 a (dK.1 e).1).trans e,g6 l d⟩
def ZK(e)(j:e<=J b.1):a_ aL 100 #[] b λg a=>∃d,g=bh (bv d)/\BK a e d/\a6 b a:=by exact(R3).m λa ⟨⟨k,h,i⟩,c⟩=>⟨_,U,⟨G,k,J b.1,j,c.4,h,i⟩,c⟩
def RV(j:BK b a g)(w:a<=J b.1)(aO:c<65536)(o:n<65536):a_ aL 101 #[bv g,ce #[M c,M n,M 0,M 0,M 0,M 0]] b λi h=>i=bh (aS<|d_<|iS c n 0 0 0 0)/\cv a b h:=by let⟨r,x,q,t,k,l,d⟩:=j;exact(RU 0 0 0 0 l d k ax ax aO o G G G G).m λh e=>⟨ax,e.1,e.2,e.3,e.4,λp u=>e.5 p G G<|bJ G⟩
def RW(w:Nat)(h bG i j x)(aO:a<65536)(D:g<65536)(F:qo c w=(g:Int)):a_ aL 45 #[ce #[M a,M c,M h,M bG,M i,M j],M w] x (cI (aS<|d_<|iS a g 0 0 0 0) x):=by
 let⟨e,o⟩:=bm<|aN x<|aZ #[ag ai a,ag ai c,ag ai h,ag ai bG,ag ai i,ag ai j] 110;have r:gS e (J x.1) [(a:Int),(c:Int),h,bG,i,j] 110:=o▸cW x _
 have p:a6 x e:=o▸cf cc bo _
 have q:∀b,a6 e b->bY b (J x.1) 0 (M a)/\bY b (J x.1) 1 (M c)/\bY b (J x.1) 2 (M h)/\bY b (J x.1) 3 (M bG)/\bY b (J x.1) 4 (M i)/\bY b (J x.1) 5 (M j):=λb K=>by
  have d:gS b (J x.1) [(a:Int),(c:Int),h,bG,i,j] 110:=(K.5 _ r.lt).trans r;exact⟨d.cell 0 ax,d.cell 1 ax,d.cell 2 ax,d.cell 3 ax,d.cell 4 ax,d.cell 5 ax⟩
 have A:=O q;have H:=O p;have L:=p.4;have G:=λb=>by
  have:=PC a c h bG i j w b
  rwa [F]at this
 have P:=q (bx e) cc.drew;have n:a6 e (bx e):=cc.drew;clear r p q F;go_wp2;rw[<-o];clear o;have:=P;go_region_with
  (first
   |(go_at_call 100;(refine(ZK (J e.1) ax).mono ?_;rintro T R ⟨V,rfl,B,C⟩;let k:=(by first|exact l.trans (C.mono l.size)|exact bC n<|bN C n.4);let Q:=A R k))
   |(go_at_call 102;(refine(G _).m λS t=>?_;let l:=(by first|exact bC k (bN t k.4)|exact n.trans<|t.mono n.size);let Q:=A S l;try let N:=B.below t))
   |(go_at_call 101;(first|(refine(RV N l.size aO D).m λy u=>?_;let z:a6 e y:=bC l u)|(refine(RV B k.size aO D).m λy u=>?_;let z:a6 e y:=k.trans u))))
 all_goals
  let I:=O<|bC H<|bN z L;go_wp2;go_ret;exact bd U I
def fg(c:ap)(d:List aK)(a:ap)(b g:Int)(h:Bool)(e:Int):(Int×Bool×List aK×List aK)×List aK:=
 if h=aD/\e≠0 then((16,ak,[],[]),[])else if g≠1\/sB b=ak\/a=[]then((5,ak,[],[]),[])else(gn c d b a,kN c d b a)
def ZL{a}(c:eL a=aD):fx [] a=ak:=by let d:=(hC c).1;have e:a≠[]:=λb=>by{subst b;exact absurd U<|d []<|by simp[tM]};rw[fx,AU];refine⟨by grind,?_⟩;simp[Lib.hasSuffix]
def Et(c b a):As c b (ce #[M a,aG ak,bX,bX,bX]) (a,ak,[],[]) []:=
 ⟨_,_,_,U,ih _ _ _ _,ih _ _ _ _,ih _ _ _ _,rq _,rq _,rq _⟩
def ZM{ay}(h){d}(g:hW d i)(j:gJ b a d c ay n<|ck i)(q:dx b)(t:Q=[]\/gD Q)(r:E Q<=260):a_ aL 71 #[bv a,aS Q,M h] b λo l=>(∃v,o=bh v/\As l (J b.1) v (if Q=[]then(5,ak,[],[])else gn d i h Q) (if Q=[]then []else kN d i h Q))/\a6 b l:=by by_cases e:Q=[];{subst e;let:=(hC g.1).2;exact(R1 j ax G<|ZL g.1).m λl p=>bd (⟨_,U,Et _ _ _⟩) p};{rw[bV e,bV e];exact N1 g j q (t.resolve_left e) r}
def Hd(h:φ:=by simp[c_,results48,go_sem]):φ:=h
def ZN{ay W al X Y Z aa ab an e h}(av:hW W h)(aS:gJ b a W c ay g<|ck h)(aJ:dx b)(aO:Q=[]\/gD Q)(aM:E Q<=260):a_ aL 48 #[hD y X Y Z aa ab al Q q j t an e,bv a] b λT ap=>(∃v,T=bh v/\As ap (J b.1) v (fg W h Q q j t e).1 (fg W h Q q j t e).2)/\a6 b ap:=by
 have aC:=O λl (ac:a6 b l)=>ZM q av (aS.below ac) (aJ.below ac) aO aM;have I:=O<|ZJ q;let⟨r,a0⟩:=bm (aZ #[ag ai y,ag ai X,ag ai Y,ag ai Z,ag ai aa,ag ai ab,am<|D al,am<|D Q,ag ai q,ag ai j,aG t,ag ai an,ag ai e] 115:Obj);let⟨k,aj⟩:=bm (aZ #[ag ai 0,aG ak,aE af 0 0,aE af 0 0,aE af 0 0] 79:Obj);unfold hD;by_cases aH:t=aD/\e≠0;{
 have n:fg W h Q q j t e=((16,ak,[],[]),[]):=by grind[fg]
 rw[n];have w:(e != 0)=aD:=by grind
 have aP:=aH.1;subst aP;go_wp2;refine dQ (v:=ce #[ag ai 16,aG ak,aE af 0 0,aE af 0 0,aE af 0 0]) Hd U ⟨⟨_,U,Et _ _ _⟩,(cf cc bo _).alloc ax _⟩};by_cases aI:j≠1;{
 have n:fg W h Q q j t e=((5,ak,[],[]),[]):=by unfold fg;grind
 rw[n];have:(j != 1)=aD:=by grind
 have aq:t=ak\/(t=aD/\(e != 0)=ak):=by{grind};rcases aq with rfl|⟨rfl,w⟩;all_goals(go_wp2;refine dQ (v:=ce #[ag ai 5,aG ak,aE af 0 0,aE af 0 0,aE af 0 0]) Hd U ⟨⟨_,U,Et _ _ _⟩,(cf cc bo _).alloc ax _⟩)};obtain rfl:j=1:=yO aI;have aq:t=ak\/(t=aD/\(e != 0)=ak):=by{grind};cases ad:sB q with
 |false=>{
 have n:fg W h Q q 1 t e=((5,ak,[],[]),[]):=by unfold fg;grind
 rw[n];have u:=λl=>by have:=I l;rw[ad]at this;exact this
 rcases aq with rfl|⟨rfl,w⟩;all_goals(go_in;go_wp2_with fail;refine(u _).m ?_;rintro a2 rfl;go_wp2;refine dQ (v:=ce #[ag ai 5,aG ak,aE af 0 0,aE af 0 0,aE af 0 0]) Hd U ⟨⟨_,U,Et _ _ _⟩,(cf cc bo _).alloc ax _⟩)}
 |true=>{
 have n:fg W h Q q 1 t e=(if Q=[]then(5,ak,[],[])else gn W h q Q,if Q=[]then []else kN W h q Q):=by{grind[fg]};rw[n];have u:=λl=>by have:=I l;rw[ad]at this;exact this
 generalize (if Q=[]then(5,ak,[],[])else gn W h q Q)=aw,(if Q=[]then []else kN W h q Q)=H at*;rcases aq with rfl|⟨rfl,w⟩;all_goals(let x:Hid (a6 b<|(b.alloc r).alloc k):=(cf cc bo _).alloc ax _;let aY:ao (fd (aN (aN b r) k) (J b.1+1) (M 0) (aG ak) (bX) (bX)<|bX):=by{have:=cW (aN b r) k;rw[eE]at this;rw[fd,ao,this,aj]};go_in;go_wp2_with fail;refine(u _).m ?_;rintro a2 rfl;go_wp2_with fail;rw[<-a0,<-aj];refine(aC _ x).mono ?_;rintro T a3 ⟨⟨v,rfl,a4,a5,a8,rfl,o,fa,fy,aB,z,A⟩,V⟩;let aR:J (aN (aN b r) k).1=J b.1+2:=ax;let B:fd a3 (J b.1+1) (M 0) (aG ak) (bX) (bX) (bX):=(V.5 (J b.1+1) G).trans aY;let F:=bC x<|bN V x.4;obtain⟨K,P,rfl⟩:=o.slice;obtain⟨L,R,rfl⟩:=fa.slice;obtain⟨N,S,rfl⟩:=fy.slice;rw[aR]at o fa fy;let az:=O<|cj o<|cj fa<|cj fy<|cj aB<|cj z A;have:=fd.cells B;have:=fd.frozen B;let au:=O B;let a1:=O F;go_wp2;let ar:=((((au.set0<|M aw.1).set1<|aG aw.2.1).set2<|aE K (E aw.2.2.1) P).lM<|aE L (E aw.2.2.2) R).o6<|aE N (E H) S;let⟨aT,aU,aV,aW,aX⟩:=ar.cells;let⟨o,fa,fy,aB,z,A⟩:=az;let F:=a1;let d:∀{v:bk} {ah:List aK} {l:aQ} (i:Nat) (C:bk),dH l (J b.1+2) v ah->dH (a7 l ⟨J b.1+1,i,af⟩ C) (J b.1+2) v ah:=λi C aF=>aF.ri (k:=J b.1+1) (i:=i) G C;refine dQ (v:=ce #[ag ai aw.1,aG aw.2.1,aE K (E aw.2.2.1) P,aE L (E aw.2.2.2) R,aE N (E H) S]) ?_ U ⟨⟨_,U,_,_,_,U,?_,?_,?_,aB,z,A⟩,?_⟩;{simp[c_,results48,go_sem,aT,aU,aV,aW,aX]};{exact(d 4 _<|d 3 _<|d 2 _<|d 1 _<|d 0 _ o).base G};{exact(d 4 _<|d 3 _<|d 2 _<|d 1 _<|d 0 _ fa).base G};{exact(d 4 _<|d 3 _<|d 2 _<|d 1 _<|d 0 _ fy).base G};{exact((((fc F (p:=⟨J b.1+1,0,af⟩) ax _).setCell (p:=⟨J b.1+1,1,af⟩) ax _).setCell (p:=⟨J b.1+1,2,af⟩) ax _).setCell (p:=⟨J b.1+1,3,af⟩) ax _).setCell (p:=⟨J b.1+1,4,af⟩) ax _})}
def abP{a:aK}{b:List Nat}(l:E a.owner<=300)(n:a.type=1)(k:a.aP<4294967296)(c:E a.data<=3000)(o:BJ a.data b)(x:mw b≠[])(t:E (mw b)<=1000)(d:∀f∈mw b,f.Ok):nI a (b9 jV<|mw b) where
 own:=l
 typ:=G
 aP:=k
 data:=λr g=>by
  refine(Z4 g n c o).mono ?_;rintro w z ⟨⟨v,rfl,p⟩,h⟩;exact⟨⟨v,U,(by rw[ux,ff,lV];exact p)⟩,h⟩
 ok:=λy u q _ _ _ f i=>by
  obtain⟨e,j,rfl⟩:=kE.1 i;exact ou (d e j)
 ne:=by simp_all
 few:=by grind
def abQ{l:aK}(x:E l.owner<=300)(y:l.type=6)(r:l.aP<4294967296)(o:E l.data<=3000){b k d e:ap}(z:h9 32 (D l.data)=[D b,D k,D d,D e])(n:Lib.parseUintB 64 d=.ok a)(A:Lib.parseUintB 64 e=.ok c)(t:E b<=300)(p:E k<=300)(u:E d<=3000)(w:E e<=3000):nI l (uf b k a c) where
 own:=x
 typ:=G
 aP:=r
 data:=λC q=>Zz q y o z n A u w
 ok:=λH F B g h j f i=>by
  simp only[uf,fw,rF,n_]at i;rcases i with rfl|rfl|rfl|rfl|rfl|rfl|rfl
  ·exact zu t g h j
  ·exact zu p g h j
  ·exact ou<|y1<|qY _ G
  ·exact ou<|y1 G
  ·exact ou<|y1 G
  ·exact ou<|y1 G
  ·exact ou (y1<|qY _ G)
 ne:=by simp[uf]
 few:=by simp[uf]
def abR{a:aK}(g:E a.owner<=300)(h:a.type=16)(e:a.aP<4294967296)(c:E a.data<=3000):nI a (vG a.data) where
 own:=g
 typ:=G
 aP:=e
 data:=λj d=>Z5 d h c
 ok:=λp k i l n o f b=>by
  simp only[vG,fw,rF,n_]at b;rcases b with rfl|rfl
  ·exact ou<|sC _
  ·exact ou (ka _)
 ne:=by simp[vG]
 few:=by simp[vG]
def abS{e:aK}(p:E e.owner<=300)(q:e.type=15)(l:e.aP<4294967296)(g:E e.data<=3000){b c:ap}(r:h9 32 (D e.data)=[D b,D c])(t:Lib.parseUintB 64 b=.ok a)(n:E b<=3000)(h:E c<=300):nI e (ug a c) where
 own:=p
 typ:=G
 aP:=l
 data:=λw i=>Z6 i q g r t n
 ok:=λy x u j k o f d=>by
  simp only[ug,fw,rF,n_]at d;rcases d with rfl|rfl
  ·exact ou<|l3 _<|qY _ G
  ·exact zu h j k o
 ne:=by simp[ug]
 few:=by simp[ug]
def S6{a:aK}(k:E a.owner<=300)(b:a.type=2\/a.type=5)(i:a.aP<4294967296)(e:E a.data<=300):nI a [rl a.data] where
 own:=k
 typ:=G
 aP:=i
 data:=λn c=>by
  rcases b with b|b
  ·exact RI c b bW bW bW bW G
  ·exact RI c b bW bW bW bW G
 ok:=λp o l g h j f d=>by
  simp only[fw,rF,n_]at d;subst d;exact zu e g h j
 ne:=ax
 few:=ax
structure kI(h1 h2:ap)(S:ap)(es:gH)(l:ap)(ps:gs):Prop where
 same:∃t,S=h1++t/\l=h2++t
 pl:es.filter (λe=>decide (e.2<16384))=ps.map (λp=>(cE p.1,p.2))
def KU{x}:∀{e:gH} {a:gs},dT (λd=>decide (d.2<16384)) e=b9 (λc=>(cE c.1,c.2)) a->jA (cE x) e=jJ a x
 |[],a,b=>by
  have:a=[]:=by simp_all
  rw[this];rfl
 |d::e,a,b=>by
  by_cases j:d.2<16384;{
  rw[wD<|by grind]at b;cases a with
  |nil=>grind
  |cons c a=>{rw[lU]at b;obtain⟨h,i⟩:=A7 b;have l:=KU (x:=x) i;unfold jA jJ;rw[h,l];by_cases k:c.1=x;{grind};{rw[bV λg=>k<|zF g.1,bV<|by grind]}}};{rw[yP<|by grind]at b;unfold jA;rw[bV λg=>j g.2];exact KU b}
section
variable {h1 h2 S:ap} {es:gH} {l:ap}{ps:gs} (h:kI h1 h2 S es l ps)
include h
theorem kI.app(a):kI h1 h2 (S++a) es (l++a) ps:=by obtain⟨b,rfl,rfl⟩:=h.1;exact⟨⟨b++a,ax,ax⟩,h.2⟩
theorem kI.len(a:E h1=E h2):E S=E l:=by obtain⟨b,rfl,rfl⟩:=h.1;grind
theorem kI.find(a):jA (cE a) es=jJ ps a:=KU h.2
theorem kI.auV(b:E h1=E h2)(a):kI h1 h2 S (es++[(cE a,E S)]) l (oq ps a<|E l):=by refine⟨h.1,?_⟩;rw[oq,qV,h.2,h.len b];grind
theorem kI.hit(g:Q≠[])(e:er F=cE Q)(d:jJ ps Q=ae a):kI h1 h2 (de F S es).1 (de F S es).2 (hZ (dU Q) l ps).1 (hZ (dU Q) l ps).2:=by
 cases F with
 |nil=>exact absurd (b5 e)<|Fl Q
 |cons k j=>{have c:=h.find Q;rw[d,<-e]at c;rw[vH c,oB g,BS d];exact h.app _}
end
structure qv(x:ap):Prop where
 ne:gD x
 p:(80:UInt8)∉x
 low:∀c∈x,gq c=c
def acO{a:ap}(c:∀b∈a,gq b=b):b9 gq a=a:=by let:b9 gq a=b9 id a:=nj c;simp_all
def Uh{a}(c:∀b∈a,gq b=b):er (I 46 a)=I 46 a:=by unfold er;let:b9 (List.map gq) (I 46 a)=b9 id (I 46 a):=nj λg e=>acO λb d=>c b<|(EJ _ a bo g e).2 b d;simp_all
def qv.aiV{a}(b:qv a):er (I 46 a)=cE a:=by rw[Uh b.3,rn b.2]
def yW{o p}(q:E o=E p):∀(f:Nat) (a:ap) (g:ap) (i:gH) (k:ap) (e:gs),E a<=f->qv a->kI o p g i k e->kI o p (de (I 46 a) g i).1 (de (I 46 a) g i).2 (hZ (dU a) k e).1 (hZ (dU a) k e).2
 |0,a,g,i,k,e,D,b,j=>by have:a=[]:=hq G;subst this;exact absurd U (b.1 []<|by simp[tM])
 |f+1,a,g,i,k,e,D,b,j=>by
  have w:a≠[]:=λl=>by{subst l;exact absurd U<|b.1 []<|by simp[tM]};have n:=j.find a;cases r:jJ e a with
  |some M=>exact j.hit w b.aiV r
  |none=>{
  rw[r]at n;rw[oB w,BT r];rcases m7 46 a with⟨u,F⟩|⟨t,h,x,y,l⟩;case inr=>(
  have K:qv h:=⟨λH L=>b.1 H<|by grind,λC=>b.2<|by grind,λz C=>b.3 z<|by grind⟩;have c:=b.aiV;rw[l]at c;rw[l,rL<|by grind,c];have d:=(j.auV q a).app<|nR a;have A:nR a=UInt8.ofNat (E t)::t:=by unfold nR;rw[x,JJ h y]
  have B:iH a=h:=by rw[x];exact uX h y
  rw[B];rw[A]at d⊢;exact yW q f h _ _ _ _ (by grind) K d)
  case inl=>(have c:=b.aiV;rw[F]at c⊢;rw[<-c]at n;rw[rL n,xk u,o2,c];have d:=((j.auV q a).app<|nR a).app [0];unfold nR at d⊢;rw[JK u]at d⊢;exact d)}
def Ui{star d}(b:(hO star d).isSome=aD):∀a∈d,gq a=a:=by
 intro j k;unfold hO at b;split at b;{
 rename_i q;let t:∀(c:List ap) (h:Nat),k9 star h c=aD->∀i∈c,∀a∈i,gq a=a:=by{
 intro c;induction c with
 |nil=>simp
 |cons n c r=>{
 intro h b i g;rw[k9,e9]at b;rcases fw.1 g with rfl|g;{
 intro a e;have:=b.1;rw[qR,sZ]at this;rcases this with this|this;{rw[kr,e9,rX]at this;have l:=this.2 a e;unfold ry Dq at l;unfold gq;grind};{
 simp only[e9,iE]at this;rw[this.1.2]at e;obtain rfl:a=42:=by grind
 rfl}};grind}};rcases Je _ d j bo k with b|⟨c,o,p⟩;{rw[b];rfl};grind};grind
def Ae{b:ap}(a:eL b=aD):qv b where
 ne:=(hC a).1
 p:=CN a
 low:=Ui (star:=ak) (by rw[rp];exact a)
def acP{b:ap}(a:jh b=aD):qv b where
 ne:=(ul a).1
 p:=CP a
 low:=Ui (star:=aD) (by rw[Bx];exact a)
def eI(a:aK):List iM:=
 if a.type=1 then(mw<|b9 iZ<|I 46 a.data).map jV
 else if a.type=16 then vG a.data
 else if a.type=15 then ug (iZ<|gI a 0) (gI a 1)
 else if a.type=6 then uf (gI a 0) (gI a 1) (iZ<|gI a 2) (iZ<|gI a 3)
 else [rl a.data]
def Uj(g:a<=4294967295):∀(c:ap) (b v:Nat),b<=a->mB a b c=ae v->Lib.parseUintM (2^64-1) b c=.ok v
 |[],b,v,_,m=>by simp[mB]at m;rw[m];rfl
 |i::h,b,v,j,m=>by unfold mB at m;split at m;{rename_i d;split at m;{rename_i e;simp only[pF,e9,pZ]at d;unfold Lib.parseUintM;rw[b8 G,bV G,bV G,wI b 10];exact Uj g h _ v e m};grind};grind
def Gd{m}(e:m<=4294967295){b}(c:ft m b=aD):Lib.parseUintB 64 b=.ok (iZ b):=by
 let d:=(vM e c).1;let⟨v,a⟩:=Option.isSome_iff_exists.1 d;let g:iZ b=v:=by grind[iZ,jF]
 rw[g];unfold pM at a;cases b with
 |nil=>cases a
 |cons h i=>{simp only at a;split at a;{cases a};{rw[Lib.parseUintB,bV ax];exact Uj G _ 0 v G a}}
structure Af(r:aK):Prop where
 own:r.owner.length<=300
 aP:r.aP<4294967296
 dat:et r.type (I 32 r.data)=true
 len:r.data.length<=3000
def Uk{a:aK}:h9 32 (D a.data)=b9 D (I 32 a.data):=by
 have c:=q4 32<|D a.data;let d:(D a.data).1.1=a.data:=by simp[D]
 rw[d]at c;rw[<-c,lV];let:∀b∈h9 32 (D a.data),(D ∘ λb=>b.1.1) b=id b:=λb _=>by simp[D]
 rw[nj this,wF]
def rt(h:φ:=by grind[gI]):φ:=h
def Cj{c}(a:Af c):nI c (eI c):=by
 have b:=uB a.3;have g:=a.3;rcases b with b|b|b|b|b|b;all_goals rw[b]at g
 all_goals unfold eI
 {rw[b8 b];let⟨e,d,B,H⟩:=KT g;let q:=rJ d;refine abP a.1 b a.2 a.4 ?_ ?_ ?_ ?_;{rw[BJ,q,lV];exact nj λi h=>Gd (m:=255) G (rX.1 B i h)};{rw[mw,q];intro w;simp_all};{grind[mw]};{intro f D;obtain⟨I,_,rfl⟩:=kE.1 D;exact sC _}};{rw[bV G,bV G,bV G,bV G];let⟨e,d,o⟩:=t_ (t:=2) (bJ U) g;let:=(hC o).2;exact S6 a.1 (bJ b) a.2 (by rw[rJ d];omega)};{rw[bV G,bV G,bV G,bV G];let⟨e,d,o⟩:=t_ (t:=5) (bE U) g;let:=(hC o).2;exact S6 a.1 (bE b) a.2 (by rw[rJ d];omega)};{
 rw[bV G,bV G,bV G,b8 b];let⟨e,k,r,u,d,x,p,w,C⟩:=BW g;let l:gI c 0=e:=rt
 let n:gI c 1=k:=rt
 let y:gI c 2=r:=rt
 let z:gI c 3=u:=rt
 let j:=λi h=>cJ (n6 32 _ c.data bo i h) a.4;let:=(hC x).2;let F:=(hC p).2;rw[l,n,y,z];exact abQ a.1 b a.2 a.4 (by rw[Uk,d];rfl) (Gd (m:=4294967295) G w) (Gd (m:=86400) G C) G G (j r<|by grind) (j u<|by grind)};{
 rw[bV G,bV G,b8 b];let⟨e,k,d,A,p⟩:=BX g;let l:gI c 0=e:=rt
 let n:gI c 1=k:=rt
 let j:=λi h=>cJ (n6 32 _ c.data bo i h) a.4;let F:=(hC p).2;rw[l,n];exact abS a.1 b a.2 a.4 (by rw[Uk,d];rfl) (Gd (m:=65535) G A) (j e<|by grind) G};{rw[bV G,b8 b];exact abR a.1 b a.2 a.4}
def T9:∀(a:List mC) (b:ap) (c:gs),ge (b9 jV a) b c=(b++ex (·.out) a,c)
 |[],b,c=>by simp[ge]
 |f::a,b,c=>by rw[lU,EC];show ge (b9 jV a) (b++f.4) c=_;rw[T9 a,kj,iz]
def T_:∀(a:List Nat),ex (·.out) (mw a)=b9 UInt8.ofNat a
 |[]=>U
 |b::a=>by show _::ex (·.out) (mw a)=_;rw[T_ a];rfl
def NA(h:φ:=by rw[h0];exact yW hl _ r.data S es l ps bo (Ae<|(rJ dM)▸hp) e):φ:=h
def Ua{h1 h2 S es l ps}(hl:E h1=E h2){r}(q:Af r)(e:kI h1 h2 S es l ps):kI h1 h2 (eZ (fu r) S es).1 (eZ (fu r) S es).2 (ge (eI r) l ps).1 (ge (eI r) l ps).2:=by
 have a:=uB q.3;have c:=q.3;rcases a with a|a|a|a|a|a;all_goals rw[a]at c
 all_goals unfold eI fu
 {rw[b8 a,b8 a,T9,T_,lV];exact e.app _};{
 rw[bV G,bV G,bV G,bV G,bV G,bV G,bV G,bV G];let⟨b,dM,hp⟩:=t_ (t:=2) (bJ U) c;let h0:gI r 0=r.data:=by rw[gI,dM,rJ dM];rfl
 exact NA};{
 rw[bV G,bV G,bV G,bV G,bV G,bV G,bV G,bV G];let⟨b,dM,hp⟩:=t_ (t:=5) (bE U) c;let h0:gI r 0=r.data:=by rw[gI,dM,rJ dM];rfl
 exact NA};{
 rw[bV G,bV G,bV G,b8 a,bV G,bV G,bV G,b8 a];let⟨b,d,n,o,dM,u,k,z,A⟩:=BW c;let i:gI r 0=b:=rt
 let j:gI r 1=d:=rt
 let w:gI r 2=n:=rt
 let x:gI r 3=o:=rt
 rw[i,j,w,x];let:=(vM (m:=4294967295) G z).2;let:=(vM (m:=86400) G A).2;let g:=yW hl _ b S es l ps bo (Ae u) e;let h:=yW hl _ d _ _ _ _ bo (Ae k) g;have p:=h.app<|gr (iZ n)++gr 3600++gr 600++gr 86400++gr (iZ o);rw[uf,Bi G,Bi G];simp only[EC,Sd,jV,rl,se];simp only[iz]at p⊢;exact p};{
 rw[bV G,bV G,b8 a,bV G,bV G,b8 a];let⟨b,d,dM,y,k⟩:=BX c;let i:gI r 0=b:=rt
 let j:gI r 1=d:=rt
 rw[i,j];let:=(vM (m:=65535) G y).2;let g:=e.app [aO<|iZ b,cL<|iZ b];let h:=yW hl _ d _ _ _ _ bo (Ae k) g;rw[ug,Bi G];exact h};{rw[bV G,b8 a,bV G,b8 a];let g:=e.app (UInt8.ofNat (E r.data)::r.data);simp only[vG,EC,Sd,jV,l2,ev,iz];exact g}
def acQ(b a c)(k:a+2<=E b):uc b a c=be a b++[aO c,cL c]++bi (a+2) b:=by
 have h:=b5<|ku a b;let g:E (be a b)=a:=by grind
 obtain⟨d,i⟩:∃d,bi a b=d::bi (a+1) b:=⟨b[a],jM G⟩;obtain⟨e,j⟩:∃e,bi (a+1) b=e::bi (a+2) b:=⟨b[a+1],jM G⟩;rw[i,j]at h;unfold uc;conv=>lhs;rw[h]
 rw[sK _ _ G,g,pX,iR,sK _ _ G,g,DT,iy,iR,iz];rfl
def kI.put{b d c h e j}(i:kI b d c h e j)(l:E b=E d)(a)(n:E b<=a)(g):kI b d (be a c++g++bi (a+2) c) h (be a e++g++bi (a+2) e) j:=by obtain⟨k,rfl,rfl⟩:=i.1;refine⟨⟨be (a-E b) k++g++bi (a+2-E b) k,?_,?_⟩,i.2⟩;{rw[List.take_append,mS n,List.drop_append,A8 G];simp};{rw[List.take_append,mS G,List.drop_append,A8 G,l];simp}
def Ub:∀(g:List ap) (a:ap) (b:gH),E a<=E (de g a b).1
 |[],a,b=>by simp[de]
 |c::d,a,b=>by
  cases e:jA (er (c::d)) b with
  |some h=>rw[vH e];simp
  |none=>{rw[rL e];have:=Ub d (a++(UInt8.ofNat (E c)::c))<|b++[(er (c::d),E a)];grind}
def KV:∀(e:s2) (a:ap) (b:gH),E a<=E (eZ e a b).1
 |[],a,b=>cO _
 |.inl d::c,a,b=>by have:=KV c (a++d) b;rw[dj]at this;show E a<=E (eZ c (a++d) b).1;omega
 |.inr g::c,a,b=>cJ (Ub _ a b)<|KV c _ _
def acU{j n b c e d}(k:E j=E n){a}(A:Af a){ls}(L:(∃w,jJ d a.owner=ae w/\a.owner≠[]/\er ls=cE a.owner)\/(qv a.owner/\ls=I 46 a.owner))(t:kI j n b c e d):kI j n (lZ a ls b c).1 (lZ a ls b c).2 (iX a (eI a) e d).1 (iX a (eI a) e d).2:=by have o:kI j n (de ls b c).1 (de ls b c).2 (hZ (dU a.owner) e d).1 (hZ (dU a.owner) e d).2:=by{rcases L with⟨w,C,H,p⟩|⟨p,rfl⟩;{exact t.hit H p C};{exact yW k _ a.owner b c e d bo p t}};let M:(lZ a ls b c).1=be (E (jU a (de ls b c).1)-2) (eZ (fu a) (jU a (de ls b c).1) (de ls b c).2).1++[aO<|E (eZ (fu a) (jU a (de ls b c).1) (de ls b c).2).1-E (jU a (de ls b c).1),cL<|E (eZ (fu a) (jU a (de ls b c).1) (de ls b c).2).1-E (jU a (de ls b c).1)]++bi (E<|jU a (de ls b c).1) (eZ (fu a) (jU a (de ls b c).1) (de ls b c).2).1:=U;let N:(lZ a ls b c).2=(eZ (fu a) (jU a (de ls b c).1) (de ls b c).2).2:=U;rw[M,N];generalize de ls b c=h at o⊢;let K:iX a (eI a) e d=ud (eI a) ((hZ (dU a.owner) e d).1++[aO<|cM a.type,cL<|cM a.type]++[aO 1,cL 1]++gr a.aP) (hZ (dU a.owner) e d).2:=U;rw[K];generalize hZ (dU a.owner) e d=q at o⊢;have i:=((o.app [aO<|cM a.type,cL<|cM a.type]).app [aO 1,cL 1]).app<|gr a.aP;let F:jU a h.1=(h.1++[aO<|cM a.type,cL<|cM a.type]++[aO 1,cL 1]++gr a.aP)++[0,0]:=U;rw[F];unfold ud;generalize h.1++[aO<|cM a.type,cL<|cM a.type]++[aO 1,cL 1]++gr a.aP=g at i⊢;generalize q.1++[aO<|cM a.type,cL<|cM a.type]++[aO 1,cL 1]++gr a.aP=r at i⊢;have l:=Ua k A<|i.app [0,0];have u:=KV (fu a) (g++[0,0]) h.2;generalize eZ (fu a) (g++[0,0]) h.2=O at l u⊢;generalize ge (eI a) (r++[0,0]) q.2=x at l⊢;let B:E (g++[0,0])=E g+2:=ax;let y:=i.len k;let z:=l.len k;let D:E j<=E g:=by{obtain⟨P,rfl,_⟩:=i.1;simp};rw[B]at u⊢;rw[acQ x.1 (E r) _ G,DS,z,<-y];exact l.put k (E g) D _
def aeC(e:Nat){d:aQ->Prop}(i:List iM)(q:∀k,a6 b k->d k)(x:zr (J b.1) (J b.1+1) d)(n:∀f∈i,f.Ok (J b.1) (J b.1+1) d)(z:og (J b.1) b a i)(u:E i<=e)(r:E i<=1000000)(t:E (ge i [] []).1<=50000)(g:E (ge i [] []).2<=20000):a_ aL 164 #[bL a 0 (E i) e] b (cI (aS (ge i [] []).1) b):=by let w:=cW b<|aZ #[aE af 0 0,aE af 0 0] 258;let h:a6 b (aN b<|aZ #[aE af 0 0,aE af 0 0] 258):=cf cc bo _;let o:=O<|JM e [] [] (q _ h) x ⟨_,_,w,ih _ _ _ _,ih _ _ _ _⟩ ax (λC g=>by cases g) n (z.tg (base:=J b.1+1) (dw.vz h)) u r t g;go_in;go_wp21;refine eb o ?_;rintro A L ⟨rfl,⟨F,K,p,j,_⟩,c⟩;let:=p.cells.1;let:=uD j;let l:=O<|(cf cc bo _).trans ⟨c.1,c.2,c.3,c.4,λy B=>c.5 y ct G<|bJ G⟩;obtain⟨D,I,H,rfl⟩:=oj j;go_wp2;go_ret;exact bd U l
def x7(a:Nat)(b:UInt8):List iM:=[rl [],jV<|fB 41,jV<|fB 1232,jV<|l2 b,jV<|ev [0,0,0],EF a 0 []]
def us(a:UInt8):ap:=[0,0,41,4,208,a,0,0,0,0,0]
def Lp{a:UInt8}:ge (x7 c a) [] []=(us a,[]):=by
 let b:dU ([]:ap)=[]:=by first|rfl|simp[dU]|decide
 simp[ge,x7,rl,b,hZ,jV,fB,l2,ev,EF,ud,uc,aO,cL,us]
def Az(h:φ:=by unfold aA;rw[h1];rfl):φ:=h
def VM(i c:Nat)(h:UInt8)(p:dx b)(l:0<J b.1)(h1:b.1[i]? = ae (aZ #[cP 269<|am ⟨#[]⟩,cP 259<|ag eO 41,cP 259<|ag eO 1232,cP 270<|ag ch<|bg h,cP 204<|am ⟨#[0,0,0]⟩,cP 271<|aE (ae ⟨c,0,af⟩) 0 0] 275))(j:b.1[c]? = ae (aZ #[] 275)):a_ aL 164 #[bL i 0 6 6] b (cI (aS<|us h) b):=by
 have:=(dK.1 h1).1;let q:=(dK.1 j).1;let n:zr (J b.1) (J b.1+1) (λd=>dx d/\og (J b.1) d c []):=λd r a o=>bd (a.1.tg o G l)<|a.2.tg o;have:=aeC 6 (x7 c h) (λd k=>⟨p.below k,G,⟨_,_,(k.5 c q).trans j,bW,bW⟩,λg hj=>AF⟩) n (λf e=>?_) ⟨G,⟨_,_,h1,bW,bW⟩,λg hj=>?_⟩ (by simp[x7]) (by simp[x7]) (by rw[Lp];simp[us]) (by rw[Lp];simp);{rw[Lp]at this;exact this};{simp only[x7,fw,rF,n_]at e;rcases e with rfl|rfl|rfl|rfl|rfl|rfl;{exact zu ax (λ_ a=>a.1) G l};{exact ou<|l3 _ G};{exact ou<|l3 _ G};{exact ou<|sC _};{exact ou<|ka _};{exact RG n (λ_ a=>a.2) (λf e=>by cases e) ax ax}};{
 match g,hj with
 |0,_=>exact Az
 |1,_=>exact Az
 |2,_=>exact Az
 |3,_=>exact Az
 |4,_=>exact Az
 |5,_=>exact Az
 |g+6,hj=>simp[x7]at hj;omega}
def aeD{p r t:Int}{B A:ap}{z k C l n:Int}{e:UInt8}(u:dx b)(D:n=0\/n=2\/n=3\/n=5\/n=16)(o:ao<|e=UInt8.ofNat (cM n/16)):a_ aL 106 #[hD j y p q r t B A z k aD C l,M n] b (cI (aS<|us e) b):=by let g:∀h,a6 b (aN b h):=λh=>cf cc bo _;let i:ao (∀c,a6 b c->dx c):=λc w=>u.below w;unfold hD;rcases D with rfl|rfl|rfl|rfl|rfl<;>(go_in;go_wp2_with fail;refine(VM (b.heap.size+1+1) (b.heap.size+1) e (i _<|((g _).alloc ax _).alloc gB _) ax ?_ ?_).mono ?_;{obtain rfl:=o;have:=λd=>cW<|aN (aN b d)<|aZ #[] 275;simp only[eE]at this;exact this _ _};{have:=λd=>cW (aN b d)<|aZ #[] 275;simp only[eE]at this;exact(dv _ _ _ ax).trans<|this _};rintro F G ⟨rfl,x⟩;let a:=O<|(((g _).alloc ax _).alloc gB _).trans<|bN x gB;go_wp2;go_ret;exact bd U a)
def Gy{b}:∀(a:List<|List aK) (aH:lj),E (iU j b c a aH).2=E aH.2
 |[],_=>U
 |d::a,aH=>by unfold iU;split;{rfl};{split;{rfl};{rw[Gy a];simp}}
def Vh{h}:∀(d:List<|List aK) (aH:lj) (c:Nat),(∀a∈aH.2,a<=c)->∀a∈(iU j h g d aH).2,a<=c+(b9 (·.length) d).sum
 |[],_,_,e=>λa b=>cJ (e a b)<|Bh _ _
 |i::d,aH,c,e=>by unfold iU;split;{grind};{split;{grind};{intro a b;have:=Vh d _ (c+E i) (λa b=>by{rcases Ij b with b|b;{grind};{rw[b,iA];by_cases aO:g<E aH.2;{simp_all};grind}}) a b;grind}}
def Vi{size:Int}{aV i}:∀(c:List<|List aK) (aH:lj) (b:Nat),(∀a∈c,∀g∈a,nI g<|aV g)->size<=b->E aH.1.1<=b->E aH.1.1<=E (iU size aV i c aH).1.1/\E (iU size aV i c aH).1.1<=b
 |[],_,_,_,_,d=>⟨cO _,d⟩
 |a::c,aH,b,e,h,d=>by unfold iU;split;{omega};{split;{grind};{rename_i k l;have n:=(zv aV a (e a ax) aH.1.1 aH.1.2).1;have:=Vi (size:=size) (aV:=aV) (i:=i) c {aH with S:=ef aV a aH.1.1 aH.1.2,cs:=aH.2.set i (aH.2.getD i 0+E a)} b (λj o=>e j<|by grind) h (by grind);grind}}
def aeG(a):(b9 (·.length) (b9 (·.2)<|dg c8 a)).sum<=E a:=by have b:=Kb a<|E<|dg c8 a;unfold mt at b;grind
def Vj{c}:∀(a:Nat) (b:List<|List aK) (aH:lj),E (lE j c a b aH).2=E aH.2
 |_,[],_=>U
 |a,d::b,aH=>by unfold lE;rw[Vj (a+1) b,Gy]
def Vk{h}:∀(g:Nat) (c:List<|List aK) (aH:lj) (b:Nat),(∀a∈aH.2,a<=b)->∀a∈(lE j h g c aH).2,a<=b+(b9 (·.length) c).sum
 |_,[],_,_,d=>λa e=>cJ (d a e)<|Bh _ _
 |g,i::c,aH,b,d=>by unfold lE;intro a e;have:=Vk (g+1) c _ _ (Vh _ aH b d) a e;have size:=aeG i;grind
def Lq{size:Int}{aV}:∀(i:Nat) (b:List<|List aK) (aH:lj) (a:Nat),(∀c∈b,∀d∈c,nI d<|aV d)->size<=a->E aH.1.1<=a->E aH.1.1<=E (lE size aV i b aH).1.1/\E (lE size aV i b aH).1.1<=a
 |_,[],_,_,_,_,e=>⟨cO _,e⟩
 |i,c::b,aH,a,g,h,e=>by unfold lE;have l:=Vi (size:=size) (aV:=aV) (i:=i) (b9 (·.2)<|dg c8 c) aH a (λp o d n=>by{obtain⟨k,j,rfl⟩:=kE.1 o;exact g c ax d<|Kc j n}) h e;have q:=Lq (i+1) b _ a (λk j=>g k<|by grind) h l.2;omega
def pQ(a:Bool)(b:Int):Int:=if a=aD then min (max b 512) 1232 else 512
def p5(a:Bool)(b:Int):ap:=if a=aD then us (UInt8.ofNat<|cM b/16)else []
def tU(a:Bool)(i h:Int)(g d:ap)(c e b:List aK):lj:=lE (pQ a i-(E (p5 a h):Int)) eI 0 [c,e,b] ⟨(List.replicate 12 0++g,jj 12 d),[0,0,0],ak⟩
def zT(a:lj)(b c:List aK):Bool:=decide (((a.2.getD 0 0:Nat):Int)<(E b:Int))||decide (((a.2.getD 1 0:Nat):Int)<(E c:Int))
def Ls(a:Nat)(c:Int)(b d:Bool):Int:=qe (qe (qo a c) 1024 b) 512 d
def x9(l j:Nat)(a k:Bool)(i b:Int)(h g:ap)(c d e:List aK):ap:=
 d_ (iS l (cM<|Ls j b k<|zT (tU a i b h g c d e) c d) 1 ((tU a i b h g c d e).2.getD 0 0) ((tU a i b h g c d e).2.getD 1 0)<|cond a ((tU a i b h g c d e).2.getD 2 0+1)<|(tU a i b h g c d e).2.getD 2 0)++bi 12 ((tU a i b h g c d e).1.1++p5 a b)
def aeH(g h i c k l q p o d r e)(a)(n:dx b)(t:j=0\/j=2\/j=3\/j=5\/j=16):a_ aL 106 #[hD g h i c k l q p o d a r e,M j] b (cI (aS<|p5 a j) b):=by
 cases a with
 |false=>unfold hD;go_wp2;go_ret;exact Fg
 |true=>{exact aeD n t U}
def aeI(g h i j k l p o n d b e a c):a_ aL 108 #[hD g h i j k l p o n d a b e] c (cI (M<|pQ a b) c):=by
 cases a with
 |false=>unfold hD;go_wp2;go_ret;exact Fg
 |true=>unfold hD;go_wp2;go_ret;refine bd ?_<|cf cc bo _;rfl
def Lt(h:jy b e i)(j:dx b):∃d v a ay,e=aE d (E i) v/\zg e a ay i/\fA b a ay i:=by rcases h with⟨rfl,rfl⟩|⟨a,ay,g,rfl,c,k⟩;{exact⟨none,0,0,0,rfl,.inl<|bd rfl rfl,j.1,λn l=>by grind⟩};{exact⟨_,_,a,ay,U,bE ⟨g,U,c⟩,k⟩}
def aeJ{a}(b:E a=3):a=[a.getD 0 0,a.getD 1 0,a.getD 2 0]:=by
 match a,b with
 |[c,d,e],_=>rfl
def Ce(c:List aK):Prop:=∀b∈dg c8 c,∀(s:ap) (a:gs),i8 a->E s<=1300->E a<=E s+300->E (ef eI b.2 s a).1<=50000/\E (ef eI b.2 s a).2<=20000/\E (ef eI b.2 s a).2<=E (ef eI b.2 s a).1+300
structure zU(l:List aK):Prop where
 rr:∀r∈l,nI r (eI r)
 set:Ce l
 len:l.length<=1000
def aeK{O ay aP aR h T aq o V}(C:dx b)(aY:a<65536)(a0:jy b e p)(a1:jy b k x)(a2:jy b V i)(az:zU p)(S:zU x)(r:zU i)(bf:E T<=300)(aM:E h<=300)(bj:E (jj 12 T)<=300)(a5:o=0\/o=2\/o=3\/o=5\/o=16)(aB:qe (qo c o) 1024 H=(g:Int))(aF:g<65536)(a4:∀a3,∃u:Nat,qe g 512 a3=(u:Int)/\u<65536):a_ aL 47 #[hD a c O q ay y h T aP aR t j aq,ce #[M o,aG H,e,k,V]] b (cI (aS<|x9 a c t H j o h T p x i) b):=by
 obtain⟨ab,au,aj,W,rfl,aT,w⟩:=Lt a0 C;obtain⟨ac,av,al,aW,rfl,aU,I⟩:=Lt a1 C;obtain⟨ad,aw,an,X,rfl,aV,K⟩:=Lt a2 C;let a9:E (p5 t o)<=11:=by unfold p5;split<;>simp[us]
 let a6:pQ t j<=1232/\512<=pQ t j:=by unfold pQ;omega
 let aX:E ((List.replicate 12 0++h,jj 12 T):ap×gs).1=12+E h:=by grind
 let⟨l,z⟩:=du<|tU t j o h T p x i;let Y:E l.2=3:=z▸Vj _ _ _
 let bc:∀P∈l.2,P<=3000:=λP D=>by{rw[<-z]at D;let:=Vk 0 [p,x,i] _ 0 (λP D=>by grind) P D;let:=az.3;let O:=S.3;let q:=r.3;grind};let ba:12+E h<=E l.1.1/\E l.1.1<=1300:=by{rw[<-z,<-aX];exact Lq 0 [p,x,i] ⟨(List.replicate 12 0++h,jj 12 T),[0,0,0],ak⟩ 1300 (λbl R N F=>by{simp only[fw,rF,n_]at R;rcases R with rfl|rfl|rfl;{exact az.rr N F};{exact S.rr N F};{exact r.rr N F}}) G (by grind)};let L:∀n,l.cs.getD n 0<=3000:=λn=>by{rw[iA];by_cases aO:n<E l.2;{simp_all};grind};let⟨u,aH,Z⟩:=a4<|zT l p x;let:=aeJ Y;let ah:x9 a c t H j o h T p x i=d_ (iS a u 1 (l.2.getD 0 0) (l.2.getD 1 0)<|cond t (l.2.getD 2 0+1)<|l.2.getD 2 0)++bi 12 (l.1.1++p5 t o):=by{grind[x9,Ls]};rw[ah];let:=L 0;let:=L 1;let:=L 2;refine aaJ C G G G U aY aF aB G aM (zT l p x) U aH Z ?_ (λB aC=>aeH _ _ _ _ _ _ _ _ _ _ _ _ _ aC a5) (λB=>aeI _ _ _ _ _ _ _ _ _ _ _ _ _ B) G G G G G;intro B bm bd a8 d A ar bb aa aI aJ;let:=C.1;have Q:=adb (pQ t j-(E (p5 t o):Int)) eI p x i (List.replicate 12 0++h,jj 12 T) aa (by intro bn aK;obtain⟨ax,bo,rfl⟩:=kE.1 aK;show 12+E T-E ax<16384;omega) (C.below d) ar G G aI aJ (λn aO=>by{
 let:=az.3;let:=S.3;let:=r.3;match n,aO with
 |0,_=>exact⟨ab,_,au,p,aj,W,U,U,aT,w.below d,eA w.1 A,cd w.1,G,az.1,U,az.2⟩
 |1,_=>exact⟨ac,_,av,x,al,aW,U,U,aU,I.below d,eA I.1 A,cd I.1,G,S.1,U,S.2⟩
 |2,_=>exact⟨ad,_,aw,i,an,X,U,U,aV,K.below d,eA K.1 A,cd K.1,G,r.1,U,r.2⟩}) G G (by grind)
 rw[show lE (pQ t j-(E (p5 t o):Int)) eI 0 [p,x,i] ⟨(List.replicate 12 0++h,jj 12 T),[0,0,0],ak⟩=l from z]at Q;refine eb Q ?_;grind
structure lk(T:ap)(r:aK):Prop where
 own:r.owner=T\/qv r.owner
 ab8:r.owner.length<=255
 aNL:r.owner≠[]
 aP:r.aP<=86400
 dat:et r.type (I 32 r.data)=true
 len:r.data.length<=3000
def lk.wr{c b}(a:lk c b):Af b:=⟨cJ a.2 G,wH a.4 G,a.5,a.6⟩
def Ur{a}(c:gD a):a≠[]:=λb=>by
 subst b;exact absurd U (c []<|by simp[tM])
section
variable {o:ap}{rs:List aK} (hz:hW o rs) {T:ap}
include hz
theorem Lg{b}(c:b∈rs):lk T b:=by let a:=hz.2 b c;let d:=ul a.1;exact⟨bE<|acP a.1,G,Ur d.1,a.2,a.3,a.4⟩
theorem Us{a}(h:gD a)(g:E a<=255)(e:a=T\/qv a){c}(d:c∈rs):lk T (gw a c):=by let b:=hz.2 c d;exact⟨e,g,Ur h,b.2,b.3,b.4⟩
theorem F_:∀b∈jw o (ck rs),lk T b/\b.type=6:=by intro b g;obtain⟨h,c,rfl⟩:=kE.1 g;rw[zG]at c;let⟨e,i⟩:=ig.1 c;let a:=Lg hz (T:=T) e;let d:h.type=6:=by{grind};exact bd (⟨a.1,a.2,a.3,cJ (Nat.min_le_left _ _) a.4,a.5,a.6⟩) d
omit hz in
theorem adT{b a}(h0:a∈f_ rs b j):a∈rs:=by exact Nm
theorem Ut{c}(k:gD c)(A:E c<=255)(z:c=T\/qv c)(e first j)(n:∀a∈i,lk T a/\a.type=5):(∀a∈(fK o (ck rs) e first j i c).2.2.1,lk T a)/\(∀a∈(fK o (ck rs) e first j i c).2.2.2.1,lk T a/\(a.type=2\/a.type=6))/\((fK o (ck rs) e first j i c).2.2.2.1≠[]->∀a∈(fK o (ck rs) e first j i c).2.2.1,a.type=5)/\∀w,(fK o (ck rs) e first j i c).2.2.2.2=ae w->eL w=aD/\∀a∈(fK o (ck rs) e first j i c).2.2.1,a.type=5:=by
 cases g:fx c o with
 |false=>{grind[fK]}
 |true=>{
 by_cases p:E (fm o (ck rs) c)=0;{
 let q:=hq p;cases B:(d3 (ck rs) c).2 with
 |false=>{rw[JO g q B];exact⟨λa b=>(n a b).1,λa b=>⟨(F_ hz a b).1,bE (F_ hz (T:=T) a b).2⟩,λ_ a b=>(n a b).2,ax⟩}
 |true=>{
 by_cases u:(e=5\/e=255)\/i6 o (ck rs) c=af;{rw[JP g q B u];let M:∀a∈kZ e (d3 (ck rs) c).1,lk T a:=by{rcases BO hz k e with d|⟨s,d⟩;{grind};{rw[d];intro a b;obtain⟨L,G,rfl⟩:=kE.1 b;exact Us hz k A z<|adT G}};refine⟨λa b=>?_,λa b=>?_,λd a b=>?_,ax⟩;{grind};{have h:=b;split at h;{grind};{exact⟨(F_ hz a h).1,bE (F_ hz (T:=T) a h).2⟩}};{have F:=d;split at F;{grind};{rename_i K;let O:kZ e (d3 (ck rs) c).1=[]:=by{let P:dT (kV e) (dg c8 (d3 (ck rs) c).1)=[]:=by{rw[pU];intro l t p;exact K<|ni.2 ⟨l,t,p⟩};grind[kZ,mU]};grind}}};{
 let x:=λd=>u<|bJ<|bJ d;let C:=λd=>u<|bJ<|bE d;cases r:i6 o (ck rs) c with
 |none=>grind
 |some a=>{
 let⟨L,I,D,H,Q⟩:=Ew hz k r;by_cases y:E i=8;{rw[Ev g q r x C y];simp};{
 rw[BN g q r x C y];let N:∀l∈i++[a],lk T l/\l.type=5:=by{
 intro l t;rcases i_.1 t with d|d;{grind};{
 obtain rfl:l=a:=by grind
 rw[D];exact bd (Us hz k A z I) H}};grind}}}}};{rw[Eu g p];refine⟨λa b=>(n a b).1,λa b=>?_,λ_ a b=>(n a b).2,ax⟩;have h:=b;refine⟨Lg hz<|Ro hz k g a h,bJ ?_⟩;rcases Fr (pr hz) k g with⟨_,d⟩|⟨R,_,_,d,_⟩;{grind};{rw[d]at h;let:=(ig.1 h).2;grind}}}
theorem GL(e):∀(f:Nat) (first c:Bool) (d:List aK) (b:ap),gD b->E b<=255->(b=T\/qv b)->(∀a∈d,lk T a/\a.type=5)->(∀a∈(jd o (ck rs) e f first c d b).2.2.1,lk T a)/\(∀a∈(jd o (ck rs) e f first c d b).2.2.2,lk T a/\(a.type=2\/a.type=6))/\((jd o (ck rs) e f first c d b).2.2.2≠[]->∀a∈(jd o (ck rs) e f first c d b).2.2.1,a.type=5)
 |0,first,c,d,b,k,j,h,i=>by
  have g:=Ut hz k j h e first c i
  exact⟨g.1,g.2.1,g.2.2.1⟩
 |f+1,first,c,d,b,k,j,h,i=>by
  have g:=Ut hz k j h e first c i
  unfold jd;generalize fK o (ck rs) e first c d b=u at g
  obtain⟨y,r,w,x,t⟩:=u;cases t with
  |none=>grind
  |some n=>{obtain⟨l,q⟩:=g.2.2.2 n U;exact GL e f ak r w n (hC l).1 (cJ (hC l).2 G) (bE<|Ae l) λa p=>⟨g.1 a p,q a p⟩}
omit hz in
theorem Uu(b):∀(c:List aK) (s:List ap),s.contains b=ak->E (fY c b 1)+E (dT (λa=>s.contains a.owner) c)<=E (dT (λa=>(s++[b]).contains a.owner) c)
 |[],s,_=>by simp[fY]
 |a::c,s,d=>by have e:=Uu b c s d;unfold fY at e⊢;have g:(s++[b]).contains a.owner=(s.contains a.owner||a.owner==b):=by{grind};grind
omit hz in
theorem Lh(c):∀(b:List aK) (s:List ap×List aK),E s.2<=E (dT (λg=>s.1.contains g.owner) rs)->E (b.foldl (nX rs c) s).2<=E rs
 |[],s,a=>cJ a<|sH _ _
 |d::b,s,a=>by
  refine Lh c b _ ?_;unfold nX;split;{
  split;{exact a};{
  rename_i i;have e:s.1.contains (ib d.data)=ak:=by grind
  have h:=Uu (ib d.data) rs s.1 e;grind}};omega
omit hz in
theorem Uv(e first c d b):∃a:Nat,a<=16/\(fK o (ck rs) e first c d b).1=(a:Int):=by
 unfold fK;split;{
 cases first
 {exact⟨0,G,U⟩};{exact⟨5,G,U⟩}};{
 split;{grind};{
 split;{split;{exact⟨2,G,U⟩};grind};{
 show ∃a:Nat,a<=16/\lP o (ck rs) b=(a:Int);unfold lP;repeat' split
 all_goals first|exact⟨0,G,U⟩|exact⟨3,G,U⟩}}}
omit hz in
theorem Uw(d):∀(f:Nat) (first a:Bool) (b:List aK) (c:ap),∃g:Nat,g<=16/\(jd o (ck rs) d f first a b c).1=(g:Int)
 |0,first,a,b,c=>Uv d first a b c
 |f+1,first,a,b,c=>by
  have e:=Uv (o:=o) (rs:=rs) d first a b c
  unfold jd;generalize fK o (ck rs) d first a b c=k at e
  obtain⟨p,i,l,n,j⟩:=k;cases j with
  |none=>exact e
  |some h=>exact Uw d f ak i l h
theorem Ux(d):∀(e:List aK) (s:List ap×List aK),(∀a∈s.2,lk T a)->∀a∈(e.foldl (nX rs d) s).2,lk T a
 |[],s,b=>b
 |h::e,s,b=>by refine Ux d e _ ?_;unfold nX;split;{split;{exact b};{show ∀a∈(if d.any (λg=>g.owner==ib h.data&&g.type==1)then s.2 else s.2++fY rs (ib h.data) 1),lk T a;split;{exact b};{intro a c;rcases i_.1 c with c|c;{grind};{exact Lg hz (ig.1 c).1}}}};omega
end
def Vc{bG h i}(l:t=ak\/(t=aD/\(bits .and ai q 32768 != 0)=aD))(c:a_ aL 44 #[aS Q] b<|cI (bZ #[ce #[M j,M q,M y,M bG,M h,M i],aG t]) b):a_ aL 14 #[e,aS Q] b (cI (am ⟨#[]⟩) b):=by replace c:=O c;go_in;go_wp21;refine c.m λo d=>?_;let a:=O<|cf d d.4<|aZ #[ag ai j,ag ai q,ag ai y,ag ai bG,ag ai h,ag ai i] 110;rcases l with rfl|⟨rfl,p⟩;{go_wp2;go_ret;exact bd U a};{go_wp2;go_ret;exact bd U a}
def adW{bG}(aO:a<65536)(t:c<65536)(u:qo g 4=(c:Int))(x:(bits .and ai g 32768 != 0)=ak)(m:(bits .and ai g 30720 != 0)=aD)(r:a_ aL 44 #[aS Q] b<|cI (bZ #[ce #[M a,M g,M j,M bG,M q,M y],aG aD]) b):a_ aL 14 #[e,aS Q] b (cI (aS<|d_<|iS a c 0 0 0 0) b):=by have l:=O r;have n:ao (∀d,a_ aL 45 #[ce #[M a,M g,M j,M bG,M q,M y],M 4] d<|cI (aS<|d_<|iS a c 0 0 0 0) d):=λd=>RW 4 j bG q y d aO t u;generalize D (d_<|iS a c 0 0 0 0)=z at*;go_in;go_wp21;refine l.m λA k=>?_;let p:=cf k k.4<|aZ #[ag ai a,ag ai g,ag ai j,ag ai bG,ag ai q,ag ai y] 110;let i:=O p;go_wp21;refine(n _).m λB h=>?_;let o:=O<|bC i<|bN h i.4;go_wp2;go_ret;exact bd U o
def adX{bG}(aO:a<65536)(H:g<65536)(V:qo c 1=(g:Int))(ar:(bits .and ai c 32768 != 0)=ak)(au:(bits .and ai c 30720 != 0)=ak)(F:a_ aL 44 #[aS Q] b<|cI (bZ #[ce #[M a,M c,M j,M bG,M q,M y],aG aD]) b)(G:∀i,a_ aL 46 #[ce #[M a,M c,M j,M bG,M q,M y],aS Q] i λo S=>(∃t,KQ t/\o=bh (bZ #[t,aG ak]))/\a6 i S):a_ aL 14 #[e,aS Q] b (cI (aS<|d_<|iS a g 0 0 0 0) b):=by have w:=O F;have x:=O G;have W:ao (∀i,a_ aL 45 #[ce #[M a,M c,M j,M bG,M q,M y],M 1] i<|cI (aS<|d_<|iS a g 0 0 0 0) i):=λi=>RW 1 j bG q y i aO H V;generalize D (d_<|iS a g 0 0 0 0)=av at*;go_in;go_wp21;refine w.m λk m=>?_;let A:=cf m m.4<|aZ #[ag ai a,ag ai c,ag ai j,ag ai bG,ag ai q,ag ai y] 110;let B:gS (aN k<|aZ #[ag ai a,ag ai c,ag ai j,ag ai bG,ag ai q,ag ai y] 110) (J k.1) [(a:Int),(c:Int),j,bG,q,y] 110:=cW k _;let l:=O A;let n:=O B;go_wp21;refine(x _).mono ?_;rintro o T ⟨⟨_,⟨X,Y,ac,ad,ah,aj,ap,aq,aa,ab,al,an,Z,rfl⟩,rfl⟩,r⟩;unfold hD;let h:gS T (J k.1) [(a:Int),(c:Int),j,bG,q,y] 110:=(r.5 _ n.lt).trans n;let p:=bC l<|bN r l.4;have K:=h.cell 0 ax;have L:=h.cell 1 ax;have N:=h.cell 2 ax;have P:=h.cell 3 ax;have d:=h.cell 4 ax;have R:=h.cell 5 ax;simp only[eB,eG]at K L N P d R;let:=h.lt;let u:=O λI=>cf p p.4 I;go_wp2_with fail;refine(W _).m ?_;intro aw C;let z:=O<|(u _).trans<|bN C (u _).4;go_wp2;go_ret;exact bd U z
def qB(a:Nat×Nat×bk):List bk:=[M a.1,a.2.2]
structure ee(w:World)(kb:Nat)(n:Nat)(uk:Value)(ks:List (Nat×Nat×Value)):Prop where
 kn:w.heap[kb]? = some (.cells #[.int .i64 n,uk] 40)
 Ok:w.ownsRow (kb+1) 107 2 uk ks.length (ks.flatMap qB)
 km:∀x∈ks,LB w (kb+1) x.2.2 (-(x.1:Int)) x.2.1/\x.1<=n/\x.2.1<=100000/\(∀g,x.2.2.ownBlock=some g->uk.ownBlock≠some g)
def afK(m:Int)(a:aQ):(binOp .neq 83 (ce #[am ⟨#[]⟩,M m,M 0,am ⟨#[]⟩])<|ce #[am ⟨#[]⟩,M m,M 0,am ⟨#[]⟩]).run aL a=.ok (aG ak) a:=by let u3:=underlying3;let d:=Tryz.isAgg3;let g:=Tryz.sizeOf3;let u9:=underlying9;let e:=Tryz.isAgg9;let h:=Tryz.sizeOf9;let b:aL.underlying 83=ae (.struct<|aL.fieldsOf 83):=b6;let c:aL.stoodInHeld 83=ak:=b6;rw[run_neq_struct,show(10000:Nat)=9999+1 from U,run_equalIn_agg a 9999 83 _ _ b c];simp only[Program.fieldsOf,underlying83];go_simp
def Ou:∀(b:List<|Nat×Nat×bk) (a:Nat) (c:a<E b),(ex qB b)[a*2]? = ae (M b[a].1)/\(ex qB b)[a*2+1]? = ae b[a].2.2
 |[],_,c=>by simp at c
 |d::b,0,_=>⟨U,U⟩
 |d::b,a+1,c=>by have g:=Ou b a (by simpa using c);rw[kj];have e:E (qB d)=2:=U;rw[pv G,pv G,e,show(a+1)*2-2=a*2 by omega,show(a+1)*2+1-2=a*2+1 by omega];exact g
def Ov(m:Int):∀(c a b:Nat),a<c->b<4->(jf m c)[a*4+b]? = (wl m)[b]?
 |0,a,b,e,_=>by omega
 |c+1,a,b,e,h=>by
  have d:jf m (c+1)=wl m++jf m c:=by unfold jf;rw[List.replicate_succ,List.flatten_cons]
  have g:E (wl m)=4:=U;rw[d];cases a with
  |zero=>rw[o7,fM,Cr G]
  |succ a=>{rw[pv G,g,show(a+1)*4+b-4=a*4+b by omega];exact Ov m c a b G h}
def LB.cells(k:LB b n e j c)(m:a<c):∃g v,e=bL g 0 c v/\c<=v/\g<J b.1/\aA b (N g<|a*4)=ae (am ⟨#[]⟩)/\aA b (N g<|a*4+1)=ae (M j)/\aA b (N g<|a*4+2)=ae (M 0)/\aA b (N g<|a*4+3)=ae (am ⟨#[]⟩):=by rcases k.2 with⟨_,r⟩|⟨g,v,q,rfl,t,i,l,_,u,p⟩;{omega};{let h:∀d,d<4->b.cell? (N g<|a*4+d)=(wl j)[d]?:=λd o=>by{rw[<-Ov j c a d m o,<-p,qA G];rw[aA,i];simp};exact⟨g,v,U,l,(dK.1 i).1,h 0 G,h 1 G,h 2 G,h 3 G⟩}
def LB.slice{h:aQ}(m:LB h c e j a):∃b d,e=aE b a d:=by rcases m.2 with⟨rfl,g⟩|⟨v,i,_,rfl,_⟩;{exact⟨af,0,by rw[g]⟩};{exact wa}
def afL(j an:Nat)(I:bk)(b:List<|Nat×Nat×bk)(d:aQ)(e:ee d j an I b)(ba:an<=1000000000)(a5:E b<=1000000000):a_ aL 12 #[bv j] d (cI (aG aD) d):=by
 have K:=O e;have aF:j<J d.1:=(dK.1 e.1).1;have al:aA d (N j 1)=ae I:=by unfold aA;rw[e.1];rfl
 have au:=O al;obtain⟨aK,i,ax⟩:∃av az,I=aE av (E b) az:=by{rcases e.2.2 with⟨rfl,aa⟩|⟨r,cap,_,rfl,_⟩;{exact⟨none,0,by rw[aa]⟩};{exact⟨_,_,rfl⟩}};subst ax;clear e al;go_enter func12,ntmps12;go_wp2;go_loopw [3] (λD wr=>∃a:Nat,a<=E b/\D=M a/\a6 d wr) λD _=>E b-cM (intOf D);·exact⟨0,dJ _,U,cU _ _⟩
 ·(
 obtain⟨a,aO,rfl,g⟩:=hrel;have aT:aA wr (N j 1)=ae (aE aK (E b) i):=(g.cell (p:=⟨j,1,af⟩) aF).trans au;have aC:=g.4;have Q:=O g;by_cases ah:a<E b;{
 have aJ:(a:Int)<E b:=G;let⟨C,a9,bl,_⟩:=K.3 b[a]<|ei ah;let⟨z,A⟩:=Ou b a ah;have R:=K.2;rcases R.2 with⟨_,aa⟩|⟨gk,aV,a0,k,bf,x,a3,_,aW,S⟩;{omega};obtain⟨aP,-,aI⟩:=js k;subst aP aI;have P:gk<J d.1:=(dK.1 x).1;have B:∀t,t<E b*2->aA d (N gk t)=(ex qB b)[t]?:=λt bb=>by{rw[<-S,qA G];rw[aA,x];simp};have aS:aA wr (N gk<|a*2)=ae (M b[a].1):=(g.cell (p:=⟨gk,a*2,af⟩) P).trans ((B _ G).trans z);have aq:aA wr (N gk<|a*2+1)=ae b[a].2.2:=(g.cell (p:=⟨gk,a*2+1,af⟩) P).trans ((B _ G).trans A);have V:=O C;let⟨n,o,L⟩:=C.slice;rw[L]at aq V;generalize b[a].1=m,b[a].2.1=c at*;clear C R x S B z A k L g;go_wp2;have Z:∀ap,a6 wr (aN wr ap):=λap=>cf cc bo _;have ad:=bC Q<|(Z<|aZ #[ag ai m,aE n c o] 107).mono aC;have oO:=cW wr<|aZ #[ag ai m,aE n c o] 107;have y:=O ad;have F:=O oO;have aj:J (aN wr<|aZ #[ag ai m,aE n c o] 107).1=J wr.1+1:=eE wr _;clear Z ad oO aS aq aT;obtain⟨u,T⟩:∃u,aN wr (aZ #[ag ai m,aE n c o] 107)=u:=eR _ U;rw[T]at y F aj⊢;obtain⟨l,aH⟩:∃l,J wr.1=l:=eR _ U;rw[aH]at F aj⊢;clear T;go_loopw [5] (λw aU=>∃h:Nat,h<=c/\w=M h/\a6 u aU) λw _=>c-cM (intOf w);·exact⟨0,dJ _,U,cU _ _⟩
 ·(
 obtain⟨h,a4,rfl,q⟩:=hrel;have oO:=(q.5 l G).trans F;have aX:aA wr (N l 0)=ae (M m):=by unfold aA;rw[oO];rfl
 have aB:aA wr (N l 1)=ae (aE n c o):=Hu
 have aw:=O q;have ar:=O<|bC y<|bN q y.4;clear oO q;by_cases aR:h<c;{let ay:(h:Int)<c:=G;let⟨r,aY,k,bj,aM,cS,W,X,Y⟩:=V.cells aR;obtain⟨ab,-,ac⟩:=js k;have i:∀(a:Nat) (H:bk),bY d r a H->bY wr r a H:=λa H e=>(ar.cell (p:=⟨r,a,af⟩) aM).trans e;have a1:=i _ _ cS;have z:=i _ _ W;have A:=i _ _ X;have a2:=i _ _ Y;rw[ab,ac]at aB;clear i cS W X Y k ab ac;have a8 : -(9223372036854775808:Int)<=-(m:Int)/\-(m:Int)<=9223372036854775807:=G;let bc:=afK<|-(m:Int);go_upto_region 8 with fail;go_region;all_goals(go_wp2;exact bd (⟨h+1,G,dd,aw.drew⟩) dz)};{let ay:¬(h:Int)<c:=G;go_wp2;exact bd (⟨a+1,G,dd,ar⟩) dz})};{let aJ:¬(a:Int)<E b:=G;clear g;go_wp2;go_ret;exact bd U Q})
def FD{j:Nat}{r:List bk}{u:bk}(size:b.ownsRow c z g (bL n 0 a v) a r)(y:j<a*g):(a7 b ⟨n,j,af⟩ u).ownsRow c z g (bL n 0 a v) a (r.set j u):=by
 let i:=size.1;rcases size.2 with⟨w,_⟩|⟨F,D,k,B,x,t,o,A,p,C⟩;{cases w};{
 cases B;refine⟨by rw[o4];exact i,bE ⟨n,v,k.setIfInBounds j u,U,x,?_,o,A,by simp[p],?_⟩⟩;{simp only[a7,ru,mM,t];rfl};{
 rw[Array.toList_setIfInBounds,<-C];apply List.ext_getElem?;intro e;simp only[yG,List.getElem?_set,iv];by_cases d:e<a*g;{
 by_cases l:j=e;{
 subst l;have h:j<J k:=p▸eA y (tp _ o)
 simp[d,h];exact Nat.lt_min.2<|bd d h};{simp[d,l]}};{by_cases l:j=e;{omega};{simp[d,l]}}}}
def afM(m:Int)(d e g h:bk)(a c:List bk)(b:Nat)(i:E a=b):((((a++(d::e::g::h::c)).set b<|am ⟨#[]⟩).set (b+1)<|M m).set (b+2)<|M 0).set (b+3) (am ⟨#[]⟩)=a++(wl m++c):=by
 subst i;induction a with
 |nil=>rfl
 |cons k a j=>{simp only[fN,dW];rw[show E a+1+1=(E a+1)+1 from U,show E a+1+2=(E a+2)+1 from U,show E a+1+3=(E a+3)+1 from U,iy,iy,iy,iy,j]}
def afN(t:E i=n)(aO:a<n)(l:b.ownsRow g 83 4 (bL c 0 n v) n<|jf j a++gz (bi a i)):(a7 (a7 (a7 (a7 b ⟨c,a*4,af⟩<|am ⟨#[]⟩) ⟨c,a*4+1,af⟩<|ag ai j) ⟨c,a*4+2,af⟩<|ag ai 0) ⟨c,a*4+3,af⟩<|am ⟨#[]⟩).ownsRow g 83 4 (bL c 0 n v) n (jf j (a+1)++gz (bi (a+1) i)):=by
 let m:=FD (u:=am ⟨#[]⟩) l (j:=a*4) G;let o:=FD (u:=ag ai j) m (j:=a*4+1) G;let p:=FD (u:=ag ai 0) o (j:=a*4+2) G;have e:=FD (u:=am ⟨#[]⟩) p (j:=a*4+3) G;let k:bi a i=i[a]' G::bi (a+1) i:=jM G;let q:gz (bi a i)=aS (i[a]' G).owner::M (i[a]' G).aP::M (i[a]' G).type::aS (i[a]' G).data::gz (bi (a+1) i):=by{rw[k];rfl};rw[q,afM j _ _ _ _ (jf j a) (gz<|bi (a+1) i) (a*4)<|CU j a,<-iz]at e;let r:jf j a++wl j=jf j (a+1):=by rw[HX];rfl
 rw[r]at e;exact e
def HQ(t:LB b g e j a)(m:Nat)(u:0<m)(n:a+m<=1000000)(D:g<=J b.1):∃d v,(Builtin.append_ #[77,77] 77 #[e,bL (J b.1) 0 m m]).run aL (aN b<|aZ (c7<|jf j m) 83)=.ok d v/\LB v g d j (a+m)/\co (λc=>ae c≠bA e) b v/\(∃q r,d=aE q (a+m) r)/\(bA d=bA e\/∃p,J b.1<=p/\bA d=ae p)/\(∀k c,c<=a+m->LB b g k j c->LB v g k j c):=by let o:a6 b (aN b<|aZ (c7<|jf j m) 83):=cf cc bo _;let w:J (aN b<|aZ (c7<|jf j m) 83).1=J b.1+1:=eE b _;let⟨d,v,y,z,i,A,B,C⟩:=afJ (g6 t o) (N (J b.1) 0) m m u n G (λc k h=>by{rw[yl,fM];let:=cW b<|aZ (c7<|jf j m) 83;rw[aA,this];simpa using h});refine⟨d,v,y,z,?_,A,?_,λk c h x=>C k c h<|g6 x o⟩;{exact⟨i.1,i.2,i.3,cJ G i.4,λc h n=>(i.5 c G n).trans<|dv b _ c h⟩};{rcases B with l|l;{exact bJ l};{exact bE ⟨J b.1+1,G,by rw[l,w]⟩}}
end Go.Proofs.YtkkpahmoljiepabGreatDoor
