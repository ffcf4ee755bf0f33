import Derived.Test.YtkkpahmoljiepaaGreatDoorJ07
import Derived.Test.YtkkpahmoljiepaaGreatDoorCards
import Derived.SevenTiedAt
set_option maxRecDepth 1000000
set_option maxHeartbeats 12800000
set_option linter.all false
open Array renaming size->U
open Bool renaming false->ao,true->aE
open ByteArray renaming size->cf
open Eq renaming symm->bZ,trans->c_
open Go renaming Calls->bd,Ending->nO,Value->bm,World->aQ,results->dr
open Go.Calls renaming mono->gU
open Go.Ending renaming returned->bg
open Go.IntKind renaming i64->am,u16->fs
open Go.Obj renaming cells->aS
open Go.Proofs.Tryz renaming prog->aK
open Go.RowKit renaming Below->cB,Hid->ax
open Go.RowKit.Below renaming alloc->ct,mono->bV,setCell->fk,trans->bN
open Go.Value renaming agg->ci,bool->aG,iface->cV,int->ak,ownBlock->bW,slice->aL,string->amz,tuple->bX
open Go.World renaming alloc->aO,alloc_heap_new->du,cell?->aD,drew->bq,frozen?->io,setCell->a_
open List renaming length->E,take->amA
open Option renaming none->ai,some->ag
open UInt8 renaming toNat->be
namespace Go.Proofs.YtkkpahmoljiepaaGreatDoor
open Go.RowKit Go.Proofs.Tryz
variable{a d h w P:Nat}{b f m K:World}{c g v:ap}{e k s F:Value}{j:List D}{l H:Bool}{r C:List ap}{z:TypeId}{Q:List UInt8}
def rK{a:oz}(c:a.Ok):∀f∈[a],f.Ok:=by intro f b;simp at b;subst b;exact c
def lm{b:oz}{c:List oz}(d:b.Ok)(e:∀f∈c,f.Ok):∀f∈b::c,f.Ok:=by intro f a;rcases gC.1 a with rfl|a;{exact d};{exact e f a}
def rk(a b s:ap):Nat:=iQ<|ch aE<|a++b++[0,17,aN<|E s,cO<|E s]++s
def Dv{P:Prop}(h:P:=by simp[ew,eI,gs];omega):P:=h
def Vt(n s:ap)(e:aQ)(p:E c<=1000)(q:E g<=1000)(l:E s<65536):bd aK 282 #[ci #[aZ c,aZ g,aZ n],aZ s] e (cQ (J<|rk c g s) e):=by
 have:=de s;have:=qe (E s:Int)
 have h:ax (∀(d:Nat) (b:aQ),d=U b.1->bd aK 256 #[bC d 0 5 5] (aO b<|aS #[cV 224<|amz<|O c,cV 224<|amz<|O g,cV 284<|ak fs 17,cV 284<|ak fs<|E s,cV 224<|amz<|O s] 297) λj o=>j=bg (J<|rk c g s)/\cB d b o):=λd b k=>by{subst k;have:=M2 [eI c,eI g,gs 17,gs<|E s,eI s] b (lm (lD c)<|lm (lD g)<|lm (nM 17 G)<|lm (nM _ l)<|rK<|lD s) aA Dv;rw[show ew [eI c,eI g,gs 17,gs<|E s,eI s]=c++g++[0,17,aN<|E s,cO<|E s]++s by simp[ew,eI,gs];exact pf]at this;exact this};go_in;go_wp2_with fail;refine(h _ _ hV).m ?_;intro r a;have i:=ae<|((dz (U e.1) e).alloc bv _).trans<|bV a aA;clear a;go_wp2;go_ret;exact⟨af,i⟩
def Vu(a:Nat)(h:aQ)(r:E g<=1000)(t:E c<=1000)(u:E v<=100000)(o:a<65536):bd aK 209 #[ci #[aZ g,aZ c,J a,aZ v]] h (cQ (aZ<|g++c++[aN a,cO a]++v) h):=by
 have:=qe (a:Int)
 have j:ax (∀(d:Nat) (e:aQ),d=U e.1->bd aK 199 #[bC d 0 4 4] (aO e<|aS #[cV 224<|amz<|O g,cV 224<|amz<|O c,cV 284<|ak fs a,cV 224<|amz<|O v] 297) λl p=>l=bg (aZ<|g++c++[aN a,cO a]++v)/\cB d e p):=λd e n=>by{subst n;have:=AQ [eI g,eI c,gs a,eI v] e (lm (lD g)<|lm (lD c)<|lm (nM a o)<|rK<|lD v) aA Dv;rw[show ew [eI g,eI c,gs a,eI v]=g++c++[aN a,cO a]++v by simp[ew,eI,gs]]at this;exact this};go_in;go_wp2_with fail;refine(j _ _ hV).m ?_;intro w i;have k:=ae<|((dz (U h.1) h).alloc bv _).trans<|bV i aA;clear i;go_wp2;go_ret;exact⟨fE (λq=>bg<|aZ q) aA,k⟩
def rq(a:Nat):ap:=[69,0,aN<|20+a,cO<|20+a,0,0,64,0,64,17]
def yN(a b:ap)(c:Nat):Nat:=65535-iQ (ch aE<|rq c++a++b)
def qT(b c a:ap):ap:=rq (E a)++[aN<|yN b c<|E a,cO<|yN b c<|E a]++b++c++a
def Is{P:Prop}(h:P:=by rw[ax,hh];rfl):P:=h
def afu(j:aQ)(S:E g<=1000)(T:E v<=1000)(W:E c<=60000):bd aK 212 #[ci #[aZ g,aZ v,aZ c]] j (cQ (aZ<|qT g v c) j):=by
 have:=de c;have⟨i,hn⟩:=bi<|20+E c;have:20+(E c:Int)=i:=G;have:=qe (i:Int)
 have D:ax (rq (E c)=[69,0,aN i,cO i,0,0,64,0,64,17]):=by rw[ax,hn];rfl
 have z:ax (∀(e:Nat) (d:aQ),e=U d.1->bd aK 199 #[bC e 0 7 7] (aO d<|aS #[cV 292<|ak .u8 69,cV 292<|ak .u8 0,cV 284<|ak fs i,cV 284<|ak fs 0,cV 284<|ak fs 16384,cV 292<|ak .u8 64,cV 292<|ak .u8 17] 297) λn p=>n=bg (aZ<|rq<|E c)/\cB e d p):=λe d o=>by{subst o;have:=AQ [nL 69,nL 0,gs i,gs 0,gs 16384,nL 64,nL 17] d (lm (vv 69)<|lm (vv 0)<|lm (nM i G)<|lm (nM 0 G)<|lm (nM 16384 G)<|lm (vv 64)<|rK<|vv 17) aA (by simp[ew,nL,gs]);rw[V D];exact this};have⟨h,hh⟩:=bi<|rq<|E c;have H:E h=10:=by rw[hh];rfl
 have l:ax (yN g v (E c)=65535-iQ (ch aE<|h++g++v)):=Is
 have w:ax (qT g v c=h++[aN<|yN g v<|E c,cO<|yN g v<|E c]++g++v++c):=Is
 rw[<- hh]at z;have L:ax (∀(e:Nat) (d:aQ),e=U d.1->bd aK 256 #[bC e 0 3 3] (aO d<|aS #[cV 224<|amz<|O h,cV 224<|amz<|O g,cV 224<|amz<|O v] 297) λn p=>n=bg (J<|iQ<|ch aE<|h++g++v)/\cB e d p):=λe d o=>by{subst o;have:=M2 [eI h,eI g,eI v] d (lm (lD h)<|lm (lD g)<|rK<|lD v) aA (by simp[ew,eI];omega);rw[show ew [eI h,eI g,eI v]=h++g++v by simp[ew,eI]]at this;exact this};have:=yH<|ch aE<|h++g++v;generalize iQ (ch aE<|h++g++v)=f at *;have⟨b,hc⟩:=bi<|yN g v<|E c;rw[<- hc]at l w;have:65535-(f:Int)=b:=cj<|V l
 have R:fs.wrap (b:Int)=(b:Int):=by rw[DF];have:=V l;omega
 have M:b<65536:=cj<|V l
 have Q:ax (∀(e:Nat) (d:aQ),e=U d.1->bd aK 199 #[bC e 0 5 5] (aO d<|aS #[cV 224<|amz<|O h,cV 284<|ak fs b,cV 224<|amz<|O g,cV 224<|amz<|O v,cV 224<|amz<|O c] 297) λn p=>n=bg (aZ<|qT g v c)/\cB e d p):=λe d o=>by{subst o;have:=AQ [eI h,gs b,eI g,eI v,eI c] d (lm (lD h)<|lm (nM b M)<|lm (lD g)<|lm (lD v)<|rK<|lD c) aA Dv;rw[show ew [eI h,gs b,eI g,eI v,eI c]=qT g v c by rw[V w];simp[ew,eI,gs]]at this;exact this};clear D l w hh hc hn H;have C:=ae<|bk.fF j [aZ g,aZ v,aZ c] 307;have A:=ae<|(dz (U j.1) j).alloc bv<|aS #[amz<|O g,amz<|O v,amz<|O c] 307;have P:U (aO j<|aS #[amz<|O g,amz<|O v,amz<|O c] 307).1=U j.1+1:=aA;go_in;go_wp2_with fail;refine(z _ _ hV).m ?_;intro X x;have k:=ae<|C.below x aA;have B:=ae<|bN A<|bV x aA;clear x C A P;have r:=k.cell 0 aA;have t:=k.cell 1 aA;have u:=k.cell 2 aA;simp at r t u;have N:=k.lt;go_wp2_with fail;refine(L _ _ hV).m ?_;intro Y y;have q:=ae<|k.below y N;have I:=ae<|bN B<|bV y G;clear y k B r t u;have r:=q.cell 0 aA;have t:=q.cell 1 aA;have u:=q.cell 2 aA;simp at r t u;have:=q.lt;go_wp2_with fail;refine(Q _ _ hV).m ?_;intro Z F;have K:=ae<|bN I<|bV F G;clear F;go_wp2;go_ret;exact⟨af,K⟩
def qz(b a:Nat)(m:ap):ap:=[aN b,cO b,aN a,cO a,aN<|8+E m,cO<|8+E m]
def xw(a b:ap)(d c:Nat)(m:ap):Nat:=if 65535-rk a b (qz d c m++[0,0]++m)=0 then 65535 else 65535-rk a b (qz d c m++[0,0]++m)
def pJ(c d:ap)(b a:Nat)(m:ap):ap:=qz b a m++[aN<|xw c d b a m,cO<|xw c d b a m]++m
structure yQ(w W:World)(a b r m:ap)(sp dp:Nat):Prop where
 p:bk W w.heap.size [aZ a,aZ b,aZ r] 307
 d:bk W (w.heap.size+1) [J sp,J dp,aZ m] 349
 z:bk W (w.heap.size+2) [.string ⟨#[]⟩,.string ⟨#[]⟩,.string ⟨#[]⟩] 307
 below:a7 w W
def yQ.size{m:ap}{i:Nat}(e:yQ b f c g v m i a):U b.1+2<U f.1:=e.3.lt
def yQ.next{i:ap}(e:yQ b f c g v i a h)(j:a7 f m):yQ b m c g v i a h :=
 ⟨e.1.below j e.1.lt,e.2.below j e.2.lt,e.3.below j e.3.lt,bN e.4<|bV j (by have:=e.size;omega)⟩
def yQ.aHz(a:aQ)(b c g m:ap)(h e:Nat):yQ a (aO (aO (aO a<|aS #[amz<|O b,amz<|O c,amz<|O g] 307)<|aS #[ak am h,ak am e,amz<|O m] 349)<|aS #[amz ⟨#[]⟩,amz ⟨#[]⟩,amz ⟨#[]⟩] 307) b c g m h e where
 p:=((bk.fF a _ _).alloc _).alloc _
 d:=by
  have:=(bk.fF (aO a<|aS #[amz<|O b,amz<|O c,amz<|O g] 307) [J h,J e,aZ m] 349).alloc<|aS #[amz ⟨#[]⟩,amz ⟨#[]⟩,amz ⟨#[]⟩] 307;simpa using this
 z:=by
  have:=bk.fF (aO (aO a<|aS #[amz<|O b,amz<|O c,amz<|O g] 307)<|aS #[ak am h,ak am e,amz<|O m] 349) [amz ⟨#[]⟩,amz ⟨#[]⟩,amz ⟨#[]⟩] 307;simpa using this
 below:=((ct cd bv _).alloc aA _).alloc cx _
def O8{P:Prop}(h:P:=by go_wp2_with fail;refine(kQ _ _ hV).m ?_;intro w4 hb4;have iJ:=ae<|gK.next hb4;clear hb4 gK kQ x0 x1 x2 y2;have x0:=iJ.1.cell 0 aA;have x1:=iJ.1.cell 1 aA;have x2:=iJ.1.cell 2 aA;have z0:=iJ.3.cell 0 aA;have z1:=iJ.3.cell 1 aA;have z2:=iJ.3.cell 2 aA;have om:=iJ.1.frozen;have hf2:=iJ.3.frozen;simp at x0 x1 x2 z0 z1 z2;have aT:=ae iJ.4;clear iJ;go_wp2;refine eh (v:=ci #[amz<|O a,amz<|O b,amz<|O<|pJ a b sp dp m]) ?_ af ?_;{simp[dr,results258,go_sem,x0,x1,x2,z0,z1,z2]};{exact⟨af,(((fk aT bv _).setCell (by show U w.1<=U w.1+2;omega) _).setCell (by show U w.1<=U w.1+2;omega) _).setCell (by show U w.1<=U w.1+2;omega) _⟩}):P:=h
def ae1{a b:ap}(t:ap){m:ap}(sp:Nat){dp:Nat}(w:aQ)(H:E a<=1000)(I:E b<=1000)(P:E m<=60000)(L:sp<65536)(C:dp<65536):bd aK 258 #[ci #[aZ a,aZ b,aZ t],ci #[J sp,J dp,aZ m]] w (cQ (ci #[aZ a,aZ b,aZ<|pJ a b sp dp m]) w):=by
 have Q:=de m;have⟨k,hn⟩:=bi<|8+E m;have W:8+(E m:Int)=k:=G;have Y:=qe (k:Int)
 have X:=qe (sp:Int)
 have T:=qe (dp:Int)
 have o:ax (∀(d:Nat) (c:aQ),d=U c.1->bd aK 199 #[bC d 0 3 3] (aO c<|aS #[cV 284<|ak fs sp,cV 284<|ak fs dp,cV 284<|ak fs k] 297) λi l=>i=bg (aZ<|qz sp dp m)/\cB d c l):=λd c j=>by{subst j;have:=AQ [gs sp,gs dp,gs k] c (lm (nM sp L)<|lm (nM dp C)<|rK<|nM k G) aA (by simp[ew,gs]);rw[qz,<- hn];exact this};have⟨h,hh⟩:=bi<|qz sp dp m;have D:E h=6:=by rw[hh];rfl
 rw[<- hh]at o;have x:ax (∀(d:Nat) (c:aQ),d=U c.1->bd aK 199 #[bC d 0 3 3] (aO c<|aS #[cV 224<|amz<|O h,cV 284<|ak fs 0,cV 224<|amz<|O m] 297) λi l=>i=bg (aZ<|h++[0,0]++m)/\cB d c l):=λd c j=>by{subst j;have:=AQ [eI h,gs 0,eI m] c (lm (lD h)<|lm (nM 0 G)<|rK<|lD m) aA Dv;rw[show ew [eI h,gs 0,eI m]=h++[0,0]++m by simp[ew,eI,gs];exact pf]at this;exact this};have B:=ae λc=>Vt t (h++[0,0]++m) c H I cx;have n:ax (xw a b sp dp m=if 65535-rk a b (h++[0,0]++m)=0 then 65535 else 65535-rk a b (h++[0,0]++m)):=Is
 have p:ax (pJ a b sp dp m=h++[aN<|xw a b sp dp m,cO<|xw a b sp dp m]++m):=Is
 have R:rk a b (h++[0,0]++m)<=65535:=yH _;generalize rk a b (h++[0,0]++m)=f at *;generalize h++[0,0]++m=Z at *;have⟨e,hc⟩:=bi<|xw a b sp dp m;rw[<- hc]at n p;have K:e<65536:=by rw[V n];split<;>omega
 have kQ:ax (∀(d:Nat) (c:aQ),d=U c.1->bd aK 199 #[bC d 0 3 3] (aO c<|aS #[cV 224<|amz<|O h,cV 284<|ak fs e,cV 224<|amz<|O m] 297) λi l=>i=bg (aZ<|pJ a b sp dp m)/\cB d c l):=λd c j=>by{subst j;have:=AQ [eI h,gs e,eI m] c (lm (lD h)<|lm (nM e K)<|rK<|lD m) aA Dv;rw[show ew [eI h,gs e,eI m]=pJ a b sp dp m by rw[V p];simp[ew,eI,gs]]at this;exact this};clear p hh hc hn D;have u:=ae<|yQ.aHz w a b t m sp dp;go_in;go_wp2_with fail;refine(o _ _ hV).m ?_;intro aa y;have q:=ae<|u.next<|bV y hV;clear y u o;have y2:=q.2.cell 2 aA;simp at y2;go_wp2_with fail;refine(x _ _ hV).m ?_;intro ab z;have g:=ae<|q.next z;clear z q x y2;have x0:=g.1.cell 0 aA;have x1:=g.1.cell 1 aA;have x2:=g.1.cell 2 aA;have y2:=g.2.cell 2 aA;simp at x0 x1 x2 y2;go_wp2_with fail;refine(B _).m ?_;intro ac A;have gK:=ae<|g.next A;clear A g B x0 x1 x2 y2;have x0:=gK.1.cell 0 aA;have x1:=gK.1.cell 1 aA;have x2:=gK.1.cell 2 aA;have y2:=gK.2.cell 2 aA;simp at x0 x1 x2 y2;by_cases F:f=65535;{
 subst F;have r:e=65535:=by rw[V n];rfl
 subst r;exact O8};{
 have r:e=65535-f:=by rw[V n,bJ G]
 have S:65535-(f:Int)=e:=G;have N:¬(e:Int)=0:=G;have M:=qe (e:Int)
 clear r;exact O8}
def Jd{b:UInt8}:fe (b::c) l=(be b,c,l):=rfl
def wg{b a:UInt8}:fj (b::a::c) l=(be b*256+be a,c,l):=rfl
def VM{a b d e:UInt8}:e_ (a::b::d::e::c) l 4=([a,b,d,e],c,l):=by unfold e_;rw[b7 aA];rfl
abbrev yR:List bm:=[amz ⟨#[]⟩,amz ⟨#[]⟩,amz ⟨#[]⟩]
structure AT(w W:World)(s:ap)(bs:Bool)(t:ap)(gF:Bool):Prop where
 z:bk W w.heap.size yR 307
 r:eB W (w.heap.size+1) s bs
 h:eB W (w.heap.size+2) t gF
 size:W.heap.size=w.heap.size+3
 below:a7 w W
def AT.call{gF:Bool}(a:AT f m c l g gF)(j:eB b (U f.1+2) v H)(e:eL (U f.1+2) m b)(k:U b.1=U m.1):AT f b c l v H :=
 ⟨a.1.kept e G,a.2.kept e G,j,c_ k a.4,bN a.5<|e.below G (by have:=a.4;omega)⟩
def ae2(a:ap)(c:Nat)(b:aQ)(g:c=U b.1)(i:E a<=1000):bd aK 256 #[bC c 0 1 1] (aO b<|aS #[cV 224<|amz<|O a] 297) λe h=>e=bg (J<|iQ<|ch aE a)/\cB c b h:=by subst g;have:=M2 [eI a] b (by intro f d;simp at d;subst d;exact lD a) aA (by simp[ew,eI];omega);rw[show ew [eI a]=a by simp[ew,eI]]at this;exact this
structure tT(w W:World)(s:ap)(bs:Bool)(a b r:ap):Prop where
 z:bk W w.heap.size yR 307
 Vb:eB W (w.heap.size+1) s bs
 p:bk W (w.heap.size+3) [aZ a,aZ b,aZ r] 307
 below:a7 w W
def AT.next{gF:Bool}(a:AT f b c l g gF)(e d:ap):tT f (aO b<|aS #[amz<|O e,amz<|O d,amz ⟨#[]⟩] 307) c l e d [] :=
 ⟨a.1.alloc _,(dT _ _ _ a.2.lt).trans a.2,by rw[<- a.4];exact bk.fF _ _ _,ct a.5 (by have:=a.4;omega) _⟩
def tT.size{h:ap}(e:tT b f g l c v h):U b.1+3<U f.1:=e.3.lt
def tT.next{i:ap}(a:tT b f c l v g i)(h:a7 f m):tT b m c l v g i :=
 ⟨a.1.below h a.1.lt,(h.5 _ a.2.lt).trans a.2,a.3.below h a.3.lt,bN a.4<|bV h (by have:=a.size;omega)⟩
def tT.call{j k:ap}(a:tT b f c l g v j)(n:eB m (U b.1+1) k H)(d:eL (U b.1+1) f m):tT b m k H g v j :=
 ⟨a.1.kept d G,n,a.3.kept d G,bN a.4<|d.below G (by have:=a.size;omega)⟩
def tT.aHC{i:ap}(e:tT b f c l g v i)(h:ap):tT b (a_ f ⟨U b.1+3,2,ai⟩<|amz<|O h) c l g v h :=
 ⟨(dJ _ _ _ _ (by show U b.1≠U b.1+3;omega)).trans e.1,(dJ _ _ _ _ (by show U b.1+1≠U b.1+3;omega)).trans e.2,e.3.set 2 _,fk e.4 (by show U b.1<=U b.1+3;omega) _⟩
def ae3(c:a<65536):bits .and am (a:Int) 16383=(a:Int)%16384:=by have b:bits .and am (a:Int) 16383=((a%16384:Nat):Int):=by{show am.wrap ((BitVec.ofInt 64 (a:Int) &&& BitVec.ofInt 64 16383).toNat:Int)=_;rw[Lh,yv a G,show(16383:Int)=((16383:Nat):Int)from af,yv 16383 G,show(16383:Nat)=2 ^ 14-1 from af,RO];rw[wL];first|omega|(unfold wrap64;omega)};rw[b];omega
def yS(b h:Nat)(e c d:ap)(g:Bool)(a:nO):Prop :=
 if b<28\/h≠65535 then a=bg (bX #[ci #[amz ⟨#[]⟩,amz ⟨#[]⟩,amz ⟨#[]⟩],aG ao])
 else if b-20<=E e then a=bg (bX #[ci #[aZ c,aZ d,aZ<|amA (b-20) e],aG g])
 else ∃m:ap,a=bg (bX #[ci #[aZ c,aZ d,aZ m],aG ao])
def J0{P:Prop}(h:P:=by go_wp2_with fail;go_region;all_goals(go_wp2;refine eh (v:=bX #[ci #[amz<|O [b12,b13,b14,b15],amz<|O [b16,b17,b18,b19],amz<|O m],aG<|ao]) ?_ af ?_;{simp[dr,results210,go_sem,z0,z1,z2]};{exact⟨V bj _ af,(((aT.drew).setCell bv _).setCell bv _).setCell bv _⟩})):P:=h
def ae4(i u n o w x q r t h k y b12 b13 b14 b15 b16 b17 b18 b19:UInt8)(j:ap)(e:aQ)(bI:E j<=100000000){J:Nat}(aX:a=be n*256+be o)(aM:d=be q*256+be r)(N:J=iQ (ch aE [i,u,n,o,w,x,q,r,t,h,k,y,b12,b13,b14,b15,b16,b17,b18,b19]))(z:l=(be i==69&&(d%16384==0&&be h==17))):bd aK 210 #[aZ (i::u::n::o::w::x::q::r::t::h::k::y::b12::b13::b14::b15::b16::b17::b18::b19::j)] e λg bz=>yS a J j [b12,b13,b14,b15] [b16,b17,b18,b19] l g/\a7 e bz:=by
 have aF:=ae λbo bc br=>ae2 [i,u,n,o,w,x,q,r,t,h,k,y,b12,b13,b14,b15,b16,b17,b18,b19] bo bc br aA;rw[<- N]at aF;have aV:=ae aX;have a2:=ae aM;have I:=ae z;have bL:a<65536:=by have:=gY n;have:=gY o;omega
 have bf:d<65536:=by have:=gY q;have:=gY r;omega
 have bE:J<=65535:=by rw[N];exact yH _
 clear aX aM z N;have a0:bk (aO (aO e<|aS #[amz ⟨#[]⟩,amz ⟨#[]⟩,amz ⟨#[]⟩] 307)<|aS #[amz<|O (i::u::n::o::w::x::q::r::t::h::k::y::b12::b13::b14::b15::b16::b17::b18::b19::j),aG ao] 215) (U e.1) yR 307:=(bk.fF e _ _).alloc _;have a3:eB (aO (aO e<|aS #[amz ⟨#[]⟩,amz ⟨#[]⟩,amz ⟨#[]⟩] 307)<|aS #[amz<|O (i::u::n::o::w::x::q::r::t::h::k::y::b12::b13::b14::b15::b16::b17::b18::b19::j),aG ao] 215) (U e.1+1) (i::u::n::o::w::x::q::r::t::h::k::y::b12::b13::b14::b15::b16::b17::b18::b19::j) ao:=by{have:=du (aO e<|aS #[amz ⟨#[]⟩,amz ⟨#[]⟩,amz ⟨#[]⟩] 307)<|aS #[amz<|O (i::u::n::o::w::x::q::r::t::h::k::y::b12::b13::b14::b15::b16::b17::b18::b19::j),aG ao] 215;simpa [eB]using this};have aW:=ae<|((dz (U e.1) e).alloc bv<|aS #[amz ⟨#[]⟩,amz ⟨#[]⟩,amz ⟨#[]⟩] 307).alloc aA<|aS #[amz<|O (i::u::n::o::w::x::q::r::t::h::k::y::b12::b13::b14::b15::b16::b17::b18::b19::j),aG ao] 215;have az:=ae<|r9 20 a3 G cx;rw[show e_ (i::u::n::o::w::x::q::r::t::h::k::y::b12::b13::b14::b15::b16::b17::b18::b19::j) ao 20=([i,u,n,o,w,x,q,r,t,h,k,y,b12,b13,b14,b15,b16,b17,b18,b19],j,ao)from by unfold e_;rw[b7 aA];rfl]at az;have a5:=ae a0;clear a0 a3;generalize (i::u::n::o::w::x::q::r::t::h::k::y::b12::b13::b14::b15::b16::b17::b18::b19::j)=bC at *;generalize ar : [i,u,n,o,w,x,q,r,t,h,k,y,b12,b13,b14,b15,b16,b17,b18,b19]=aa at *;go_in;go_wp2_with fail;refine gU az ?_;rintro g Y ⟨rfl,av,al,aY⟩;have aw:U Y.1=U e.1+2:=by rw[aY];simp
 have S:ax (AT e (aO Y<|aS #[amz<|O aa,aG ao] 215) j ao aa ao) := ⟨(a5.kept al G).alloc _,(dT _ _ _ av.lt).trans av,by rw[<- aw];exact du _ _,cx,(bN aW<|al.below G cx).alloc G _⟩;have bb:=ae aw;clear av al aY az a5 aW;go_wp2_with fail;generalize aO Y (aS #[amz<|O aa,aG ao] 215)=bQ at *;clear aw bb Y;rw[<- ar]at S;have bB:=ae ar;clear ar;have B:=ae<|rf [i,u,n,o,w,x,q,r,t,h,k,y,b12,b13,b14,b15,b16,b17,b18,b19] ao S.3 aA;rw[Jd]at B;refine gU B ?_;rintro g bR ⟨rfl,c,b,K⟩;have an:=ae<|S.call c b K;clear c b K B S;have B:=ae<|rf [u,n,o,w,x,q,r,t,h,k,y,b12,b13,b14,b15,b16,b17,b18,b19] ao an.3 aA;rw[Jd]at B;go_wp2_with fail;refine gU B ?_;rintro g bS ⟨rfl,c,b,K⟩;have aj:=ae<|an.call c b K;clear c b K B an;have B:=ae<|nD ao aj.3 aA;rw[wg,<- V aV]at B;go_wp2_with fail;refine gU B ?_;rintro g bT ⟨rfl,c,b,K⟩;have aq:=ae<|aj.call c b K;clear c b K B aj;have B:=ae<|nD ao aq.3 aA;rw[wg]at B;go_wp2_with fail;refine gU B ?_;rintro g bU ⟨rfl,c,b,K⟩;have ay:=ae<|aq.call c b K;clear c b K B aq;have B:=ae<|nD ao ay.3 aA;rw[wg,<- V a2]at B;go_wp2_with fail;refine gU B ?_;rintro g bY ⟨rfl,c,b,K⟩;have aC:=ae<|ay.call c b K;clear c b K B ay;have B:=ae<|rf [t,h,k,y,b12,b13,b14,b15,b16,b17,b18,b19] ao aC.3 aA;rw[Jd]at B;go_wp2_with fail;refine gU B ?_;rintro g b0 ⟨rfl,c,b,K⟩;have aB:=ae<|aC.call c b K;clear c b K B aC;have B:=ae<|rf [h,k,y,b12,b13,b14,b15,b16,b17,b18,b19] ao aB.3 aA;rw[Jd]at B;go_wp2_with fail;refine gU B ?_;rintro g b1 ⟨rfl,c,b,K⟩;have aI:=ae<|aB.call c b K;clear c b K B aB;have B:=ae<|nD ao aI.3 aA;rw[wg]at B;go_wp2_with fail;refine gU B ?_;rintro g b2 ⟨rfl,c,b,K⟩;have aJ:=ae<|aI.call c b K;clear c b K B aI;have B:=ae<|r9 4 aJ.3 G aA;rw[VM]at B;go_wp2_with fail;refine gU B ?_;rintro g b3 ⟨rfl,c,b,K⟩;have Z:=ae<|aJ.call c b K;clear c b K B aJ;have B:=ae<|r9 4 Z.3 G aA;rw[VM]at B;go_wp2_with fail;refine gU B ?_;rintro g aH ⟨rfl,c,b,K⟩;have F:=ae<|Z.call c b K;clear c b K B Z;have bi:=F.4;have ab:=ae<|F.next [b12,b13,b14,b15] [b16,b17,b18,b19];have a6:=F.1.cell 0 aA;have a8:=F.1.cell 1 aA;have a9:=F.1.cell 2 aA;have bl:=F.1.frozen;simp only[yR,e9,fw]at a6 a8 a9;have Q:=ae<|(((F.1.set 0<|amz ⟨#[]⟩).set 1<|amz ⟨#[]⟩).set 2<|amz ⟨#[]⟩).alloc<|aS #[amz<|O [b12,b13,b14,b15],amz<|O [b16,b17,b18,b19],amz ⟨#[]⟩] 307;have aN:=ae<|(((fk F.5 bv (p:=⟨U e.1,0,ai⟩) (amz ⟨#[]⟩)).setCell bv (p:=⟨U e.1,1,ai⟩) (amz ⟨#[]⟩)).setCell bv (p:=⟨U e.1,2,ai⟩) (amz ⟨#[]⟩)).alloc (by simp[a_];omega) (aS #[amz<|O [b12,b13,b14,b15],amz<|O [b16,b17,b18,b19],amz ⟨#[]⟩] 307);clear F aV a2;by_cases bn:a<28;{have bj:ax (∀g:nO,g=bg (bX #[ci #[amz ⟨#[]⟩,amz ⟨#[]⟩,amz ⟨#[]⟩],aG ao])->yS a J j [b12,b13,b14,b15] [b16,b17,b18,b19] l g):=λg L=>by{unfold yS;rw[b7<|.inl bn];exact L};clear ab;go_wp2;refine eh (v:=bX #[ci #[amz ⟨#[]⟩,amz ⟨#[]⟩,amz ⟨#[]⟩],aG ao]) ?_ af ?_;{have bu:aD (aO (a_ (a_ (a_ aH ⟨U e.1,0,ai⟩<|amz ⟨#[]⟩) ⟨U e.1,1,ai⟩<|amz ⟨#[]⟩) ⟨U e.1,2,ai⟩<|amz ⟨#[]⟩)<|aS #[amz<|O [b12,b13,b14,b15],amz<|O [b16,b17,b18,b19],amz ⟨#[]⟩] 307) (M (U e.1) 0)=ag (amz ⟨#[]⟩):=Q.cell 0 aA;have bw:aD (aO (a_ (a_ (a_ aH ⟨U e.1,0,ai⟩<|amz ⟨#[]⟩) ⟨U e.1,1,ai⟩<|amz ⟨#[]⟩) ⟨U e.1,2,ai⟩<|amz ⟨#[]⟩)<|aS #[amz<|O [b12,b13,b14,b15],amz<|O [b16,b17,b18,b19],amz ⟨#[]⟩] 307) (M (U e.1) 1)=ag (amz ⟨#[]⟩):=Q.cell 1 aA;have bx:aD (aO (a_ (a_ (a_ aH ⟨U e.1,0,ai⟩<|amz ⟨#[]⟩) ⟨U e.1,1,ai⟩<|amz ⟨#[]⟩) ⟨U e.1,2,ai⟩<|amz ⟨#[]⟩)<|aS #[amz<|O [b12,b13,b14,b15],amz<|O [b16,b17,b18,b19],amz ⟨#[]⟩] 307) (M (U e.1) 2)=ag (amz ⟨#[]⟩):=Q.cell 2 aA;simp[dr,results210,go_sem,bu,bw,bx]};{exact⟨V bj _ af,aN⟩}};have bF:¬(a:Int)<28:=G;go_wp2_with fail;refine(aF _ _ hV).mono ?_;rintro g bD ⟨rfl,aP⟩;have H:=ae<|ab.next<|bV aP hV;clear aP ab aF bi a6 a8 a9 bl aN Q;by_cases N:J=65535;{
 subst N;obtain⟨D,bK⟩:∃D,a=D+20:=⟨a-20,G⟩;have bM:(a:Int)-20=(D:Int):=G;have bO:=ae3 bf;have T:=gY i;have X:=gY h;have B:=ae<|r9 D H.2 G G;have ah:ax (∀(m:ap) (A:Bool),e_ j ao D=(m,(e_ j ao D).2.1,A)->∀g:nO,g=bg (bX #[ci #[aZ [b12,b13,b14,b15],aZ [b16,b17,b18,b19],aZ m],aG<|l && !A])->yS a 65535 j [b12,b13,b14,b15] [b16,b17,b18,b19] l g):=λm A W g L=>by{
 unfold yS;rw[bJ G,show a-20=D by omega];unfold e_ at W;split at W;{
 rename_i au;rw[b7 au];obtain⟨rfl,rfl⟩:amA D j=m/\A=ao:=by simpa using W
 rw[L];simp};{
 rename_i au;rw[bJ au];obtain⟨rfl,rfl⟩:m=[]/\A=aE:=by simpa using W
 exact⟨_,by rw[L,Bool.not_true,GB]⟩}};obtain⟨m,a4,A,a1⟩:∃m a4 A,e_ j ao D=(m,a4,A):=⟨_,_,_,af⟩;rw[a1]at B ah;have bj:=ae<|ah m A af;simp only at B;clear ah a1;go_wp2_with fail;refine gU B ?_;rintro g b4 ⟨rfl,c,b,-⟩;have P:=ae<|H.call c b;have bG:=P.3.frozen;have ba:=P.3.cell 2 aA;simp only[e9,fw]at ba;have C:=ae<|P.aHC m;clear c b B H P;have bP:=C.2.cells.2;have bs:=C.3.cell 0 aA;have bt:=C.3.cell 1 aA;have fz:=C.3.cell 2 aA;have z0:=C.1.cell 0 aA;have z1:=C.1.cell 1 aA;have z2:=C.1.cell 2 aA;have bp:=C.1.frozen;simp only[yR,e9,fw]at z0 z1 z2 bs bt fz;have aT:=ae C.4;clear C;by_cases bA:be i=69;{
 by_cases R:d%16384=0;{
 by_cases ad:be h=17;{
 have z:l=aE:=by rw[V I];simp[bA,R,ad]
 have ac:(be i:Int)=69:=G;have aR:(d:Int)%16384=0:=G;have aU:(be h:Int)=17:=G;subst z;rw[yn]at bj;clear I bA R ad T X;go_wp2_with fail;go_region;all_goals(go_wp2;refine eh (v:=bX #[ci #[amz<|O [b12,b13,b14,b15],amz<|O [b16,b17,b18,b19],amz<|O m],aG<|!A]) ?_ af ?_;{simp[dr,results210,go_sem,z0,z1,z2]};{exact⟨V bj _ af,(((aT.drew).setCell bv _).setCell bv _).setCell bv _⟩})};{
 have z:l=ao:=by rw[V I];simp[ad]
 have ac:(be i:Int)=69:=G;have aR:(d:Int)%16384=0:=G;have aU:¬(be h:Int)=17:=G;have iZ:((be h:Int)==17)=ao:=by simpa using aU
 subst z;rw[ym]at bj;clear I bA R T X;exact J0}};{
 have z:l=ao:=by rw[V I];simp[R]
 have ac:(be i:Int)=69:=G;have aR:¬(d:Int)%16384=0:=G;subst z;rw[ym]at bj;clear I bA T X;exact J0}};{
 have z:l=ao:=by rw[V I];simp[bA]
 have ac:¬(be i:Int)=69:=G;subst z;rw[ym]at bj;clear I T X;exact J0}};{
 have bh:¬(J:Int)=65535:=G;have bH:((J:Int) != 65535)=aE:=by simpa using bh
 have bj:ax (∀g:nO,g=bg (bX #[ci #[amz ⟨#[]⟩,amz ⟨#[]⟩,amz ⟨#[]⟩],aG ao])->yS a J j [b12,b13,b14,b15] [b16,b17,b18,b19] l g):=λg L=>by{unfold yS;rw[b7<|.inr N];exact L};have z0:=H.1.cell 0 aA;have z1:=H.1.cell 1 aA;have z2:=H.1.cell 2 aA;have bp:=H.1.frozen;simp only[yR,e9,fw]at z0 z1 z2;have aT:=ae H.4;go_wp2;refine eh (v:=bX #[ci #[amz ⟨#[]⟩,amz ⟨#[]⟩,amz ⟨#[]⟩],aG ao]) ?_ af ?_;{simp[dr,results210,go_sem,z0,z1,z2]};{exact⟨V bj _ af,((fk aT bv _).setCell bv _).setCell bv _⟩}}
structure yT(w W:World)(a b r s:ap)(bs:Bool):Prop where
 p:bk W w.heap.size [aZ a,aZ b,aZ r] 307
 z:bk W (w.heap.size+1) [J 0,J 0,.string ⟨#[]⟩] 349
 r:eB W (w.heap.size+2) s bs
 size:W.heap.size=w.heap.size+3
 below:a7 w W
def yT.call{s j gF}(a:yT f m g c v s l)(k:eB b (U f.1+2) j gF)(e:eL (U f.1+2) m b)(n:U b.1=U m.1):yT f b g c v j gF :=
 ⟨a.1.kept e G,a.2.kept e G,k,c_ n a.4,bN a.5<|e.below G (by have:=a.4;omega)⟩
def yT.aHH(a:aQ)(b c r:ap):yT a (aO (aO (aO a<|aS #[amz<|O b,amz<|O c,amz<|O r] 307)<|aS #[ak am 0,ak am 0,amz ⟨#[]⟩] 349)<|aS #[amz<|O r,aG ao] 215) b c r r ao where
 p:=((bk.fF a _ _).alloc _).alloc _
 z:=by
  have:=(bk.fF (aO a<|aS #[amz<|O b,amz<|O c,amz<|O r] 307) [J 0,J 0,amz ⟨#[]⟩] 349).alloc (aS #[amz<|O r,aG ao] 215)
  simp_all
 r:=by
  have:=du (aO (aO a<|aS #[amz<|O b,amz<|O c,amz<|O r] 307)<|aS #[ak am 0,ak am 0,amz ⟨#[]⟩] 349)<|aS #[amz<|O r,aG ao] 215;simpa [eB]using this
 size:=aA
 below:=((ct cd bv _).alloc aA _).alloc cx _
structure AU(w W:World)(a b r s:ap)(bs:Bool)(sp dp:Nat)(m:ap):Prop where
 p:bk W w.heap.size [aZ a,aZ b,aZ r] 307
 z:bk W (w.heap.size+1) [J 0,J 0,.string ⟨#[]⟩] 349
 r:eB W (w.heap.size+2) s bs
 d:bk W (w.heap.size+3) [J sp,J dp,aZ m] 349
 size:W.heap.size=w.heap.size+4
 below:a7 w W
def AU.call{s n i gF}(j:AU f m g c v s l a d i)(o:eB b (U f.1+2) n gF)(k:eL (U f.1+2) m b)(p:U b.1=U m.1):AU f b g c v n gF a d i :=
 ⟨j.1.kept k G,j.2.kept k G,o,j.4.kept k G,c_ p j.5,bN j.6<|k.below G (by have:=j.5;omega)⟩
def yT.next{s}(a:yT f b c g v s l)(i e:Nat):AU f (aO b<|aS #[ak am i,ak am e,amz ⟨#[]⟩] 349) c g v s l i e [] :=
 ⟨a.1.alloc _,a.2.alloc _,(dT _ _ _ a.3.lt).trans a.3,by rw[<- a.4];exact bk.fF _ _ _,by have:=a.4;simp;omega,ct a.5 (by have:=a.4;omega) _⟩
def AU.arc{s m}(k:AU b f c g v s l a h m)(i):AU b (a_ f ⟨U b.1+3,2,ai⟩<|amz<|O i) c g v s l a h i :=
 ⟨(dJ _ _ _ _ aA).trans k.1,(dJ _ _ _ _ aA).trans k.2,(dJ _ _ _ _ aA).trans k.3,k.4.set 2 _,by have:=k.5;simp_all,fk k.6 aA _⟩
def AV(g d a e:Nat)(c:ap)(h:Nat)(b:nO):Prop :=
 if a<8\/E c<a-8 then b=bg (bX #[ci #[J 0,J 0,amz ⟨#[]⟩],aG ao])
 else b=bg (bX #[ci #[J g,J d,aZ<|amA (a-8) c],aG<|e==0||h==65535])
def ae5(F bA H I cD fB gE C q l)(ah:E c<=1000)(A:E g<=1000)(aR:E q<=100000)(aV:a=be F*256+be bA)(ar:d=be H*256+be I)(aT:h=be cD*256+be fB)(e:w=be gE*256+be C)(t:P=rk c g (amA h (F::bA::H::I::cD::fB::gE::C::q))):bd aK 257 #[ci #[aZ c,aZ g,aZ (F::bA::H::I::cD::fB::gE::C::q)]] l λi n=>AV a d h w q P i/\a7 l n:=by
 have ap:=ae aV;have Z:=ae ar;have aa:=ae aT;have W:=ae e;have bD:h<65536:=by have:=gY cD;have:=gY fB;omega
 have a8:w<65536:=by have:=gY gE;have:=gY C;omega
 have a5:P<=65535:=by rw[t];exact yH _
 have⟨r,p⟩:=bi (F::bA::H::I::cD::fB::gE::C::q);have bw:E r=8+E q:=by grind
 have a3:=de r;rw[<- p]at t ⊢;have aq:=ae (λa4=>Vt r (amA h r) a4 ah A<|by grind);rw[<- t]at aq;have ad:=ae<|yT.aHH l c g r;have Y:=ae p;clear aV ar aT e t p;go_in;go_wp2_with fail;rw[show U l.1+1+1=U l.1+2 from af];generalize aO (aO (aO l<|aS #[amz<|O c,amz<|O g,amz<|O r] 307)<|aS #[ak am 0,ak am 0,amz ⟨#[]⟩] 349) (aS #[amz<|O r,aG ao] 215)=bP at *;have k:=ae<|nD ao ad.3 G;rw[V Y,wg,<- V ap]at k;refine gU k ?_;rintro i bQ ⟨rfl,p,e,u⟩;have ac:=ae<|ad.call p e u;clear p e u k ad;have k:=ae (nD ao ac.3<|by grind);rw[wg,<- V Z]at k;go_wp2_with fail;refine gU k ?_;rintro i bE ⟨rfl,p,e,u⟩;have ab:=ae<|ac.call p e u;clear p e u k ac;have bx:=ab.4;have T:=ae<|ab.next a d;clear ab;go_wp2_with fail;generalize aO bE (aS #[ak am a,ak am d,amz ⟨#[]⟩] 349)=u0 at *;clear bx;have k:=ae (nD ao T.3<|by grind);rw[wg,<- V aa]at k;refine gU k ?_;rintro i u1 ⟨rfl,p,e,u⟩;have an:=ae<|T.call p e u;clear p e u k T;have k:=ae (nD ao an.3<|by grind);rw[wg,<- V W]at k;go_wp2_with fail;refine gU k ?_;rintro i u2 ⟨rfl,p,e,u⟩;have j:=ae<|an.call p e u;clear p e u k an;by_cases aM:h<8
 ·have Q:=j.2.cell 0 aA;have R:=j.2.cell 1 aA;have S:=j.2.cell 2 aA;have bv:=j.2.frozen;simp at Q R S;have X:=ae j.6;go_wp2;refine eh (v:=bX #[ci #[ak am 0,ak am 0,amz ⟨#[]⟩],aG ao]) (by simp[dr,results257,go_sem,Q,R,S]) af ⟨?_,?_⟩
  ·unfold AV;grind
  ·exact((fk X aA _).setCell aA _).setCell aA _
 obtain⟨z,aU⟩:∃z,h=z+8:=⟨h-8,G⟩
 have aW:(h:Int)-8=(z:Int):=G;have av:¬(h:Int)<8:=G;have aw:=ae aU;have bM:z<=65536:=G;clear aU;have k:=ae<|r9 z j.3 G G;by_cases L:z<=E q
 ·rw[e_,b7 L]at k;have B:ax (∀i:nO,i=bg (bX #[ci #[J a,J d,aZ<|amA z q],aG<|w==0||P==65535])->AV a d h w q P i):=λi bu=>by
   unfold AV;grind
  generalize amA z q=m at *;go_wp2_with fail;refine gU k ?_;rintro i u3 ⟨rfl,p,e,u⟩;have o:=ae<|(j.call p e u).arc m;have aY:=(j.call p e u).4.frozen;have N:=(j.call p e u).4.cell 2 aA;simp at N;clear p e u k j;have aX:=o.3.cells.2;have au:h<=E r:=G;have aj:=z8 r h au;go_wp2_with fail;clear aY N;generalize a_ u3 ⟨U l.1+3,2,ai⟩ (amz<|O m)=u4 at *;have ay:(aD (bq u4) (M (U l.1) 0)=ag (aZ c)/\aD (bq u4) (M (U l.1) 1)=ag (aZ g)/\aD (bq u4) (M (U l.1) 2)=ag (aZ r)/\aD (bq u4) (M (U l.1+3) 0)=ag (J a)/\aD (bq u4) (M (U l.1+3) 1)=ag (J d)/\aD (bq u4) (M (U l.1+3) 2)=ag (aZ m)):=by
   have b:=V o;exact⟨b.1.cell 0 aA,b.1.cell 1 aA,b.1.cell 2 aA,b.4.cell 0 aA,b.4.cell 1 aA,b.4.cell 2 aA⟩
  have az:(aD u4 (M (U l.1) 0)=ag (aZ c)/\aD u4 (M (U l.1) 1)=ag (aZ g)/\aD u4 (M (U l.1) 2)=ag (aZ r)/\aD u4 (M (U l.1+1) 0)=ag (J 0)/\aD u4 (M (U l.1+1) 1)=ag (J 0)/\aD u4 (M (U l.1+1) 2)=ag (amz ⟨#[]⟩)/\aD u4 (M (U l.1+3) 0)=ag (J a)/\aD u4 (M (U l.1+3) 1)=ag (J d)/\aD u4 (M (U l.1+3) 2)=ag (aZ m)/\io u4 (M (U l.1+1) 0)=ao/\io u4 (M (U l.1+1) 1)=ao/\io u4 (M (U l.1+1) 2)=ao/\a7 l u4):=by
   have b:=V o;exact⟨b.1.cell 0 aA,b.1.cell 1 aA,b.1.cell 2 aA,b.2.cell 0 aA,b.2.cell 1 aA,b.2.cell 2 aA,b.4.cell 0 aA,b.4.cell 1 aA,b.4.cell 2 aA,b.2.frozen 0,b.2.frozen 1,b.2.frozen 2,b.6⟩
  have aB:ax (bd aK 282 #[ci #[aZ c,aZ g,aZ r],aZ<|amA h r] (bq u4) λi n=>i=bg (J P)/\(aD n (M (U l.1) 0)=ag (aZ c)/\aD n (M (U l.1) 1)=ag (aZ g)/\aD n (M (U l.1) 2)=ag (aZ r)/\aD n (M (U l.1+3) 0)=ag (J a)/\aD n (M (U l.1+3) 1)=ag (J d)/\aD n (M (U l.1+3) 2)=ag (aZ m))/\(aD n (M (U l.1+1) 0)=ag (J 0)/\aD n (M (U l.1+1) 1)=ag (J 0)/\aD n (M (U l.1+1) 2)=ag (amz ⟨#[]⟩)/\io n (M (U l.1+1) 0)=ao/\io n (M (U l.1+1) 1)=ao/\io n (M (U l.1+1) 2)=ao/\a7 l n)):=by
   refine(aq<|bq u4).mono ?_;rintro i n ⟨rfl,A⟩;have b:=V o;obtain⟨bn,bo,bp,br,bs,bt⟩:=ay;have y:∀(x:Addr) (v:bm),aD (bq u4) x=ag v->aD n x=ag v:=λx v b=>(A.cell<|i8 (bq u4) x b).trans b;have al:∀x:Addr,x.1<U u4.1->io n x=io u4 x:=λx aj=>vH<|A.5 x.1 aj;exact⟨af,⟨y _ _ bn,y _ _ bo,y _ _ bp,y _ _ br,y _ _ bs,y _ _ bt⟩,y _ _<|b.2.cell 0 aA,y _ _<|b.2.cell 1 aA,y _ _<|b.2.cell 2 aA,(al _ b.2.lt).trans<|b.2.frozen 0,(al _ b.2.lt).trans<|b.2.frozen 1,(al _ b.2.lt).trans<|b.2.frozen 2,bN b.6.drew<|bV A b.6.4⟩
  clear aq o aX;by_cases aN:w=0
  ·obtain⟨bc,bf,bh,aH,aI,aJ,bj,bk,bl,a9,ba,bb,K⟩:=az;have X:=ae K.drew;clear K aB ay;subst aN;clear ap Z aa W a5 bD a8 aM aW av L bw a3 aj aR ah A Y au aw
   go_region
   all_goals
    go_wp2;refine eh (v:=bX #[ci #[ak am a,ak am d,amz<|O m],aG aE]) ?_ af ?_
    ·simp[dr,results257,go_sem,aH,aI,aJ]
    ·refine⟨V B _ af,?_⟩;exact((fk X aA _).setCell aA _).setCell aA _
  ·have bF:¬(w:Int)=0:=G;have bH:((w:Int)==0)=ao:=by grind
   have aP:(w==0||P==65535)=(P==65535):=by grind
   rw[aP]at B;obtain⟨bc,bf,bh,aH,aI,aJ,bj,bk,bl,a9,ba,bb,K⟩:=az;clear ap Z aa W aM aW av L aR ah A Y aP aN K aw
   go_region_held (λn=>(aD n (M (U l.1) 0)=ag (aZ c)/\aD n (M (U l.1) 1)=ag (aZ g)/\aD n (M (U l.1) 2)=ag (aZ r)/\aD n (M (U l.1+3) 0)=ag (J a)/\aD n (M (U l.1+3) 1)=ag (J d)/\aD n (M (U l.1+3) 2)=ag (aZ m))) (first|assumption|go_keep)
    (first|(go_at_call 282;go_loud (refine gU aB ?_;rintro i n ⟨rfl,bL,bz,bB,bC,bI,bO,bK,aC⟩)))
   all_goals
    have a6:=ae aC;have aF:((P:Int)==65535)=(P==65535):=by
     grind
    rw[<- aF]at B;clear aC aF;go_wp2;refine eh (v:=bX #[ci #[ak am a,ak am d,amz<|O m],aG<|(P:Int)==65535]) ?_ af ?_
    ·simp[dr,results257,go_sem,bz,bB,bC]
    ·refine⟨V B _ af,?_⟩;exact((fk a6 aA _).setCell aA _).setCell aA _
 ·rw[e_,bJ L]at k;have B:ax (∀i:nO,i=bg (bX #[ci #[J 0,J 0,amz ⟨#[]⟩],aG ao])->AV a d h w q P i):=λi bu=>by
   unfold AV;grind
  go_wp2_with fail;refine gU k ?_;rintro i u3 ⟨rfl,p,e,u⟩;have o:=ae<|(j.call p e u).arc [];have aY:=(j.call p e u).4.frozen;have N:=(j.call p e u).4.cell 2 aA;simp at N;have D:=(j.call p e u).2;have Q:=D.cell 0 aA;have R:=D.cell 1 aA;have S:=D.cell 2 aA;have bv:=D.frozen;simp only[e9,fw]at Q R S;have a0:=o.2.cell 0 aA;have a1:=o.2.cell 1 aA;have a2:=o.2.cell 2 aA;have bG:=o.2.frozen;simp only[e9,fw]at a0 a1 a2;clear p e u k j D;have aX:=o.3.cells.2;go_wp2;refine eh (v:=bX #[ci #[ak am 0,ak am 0,amz ⟨#[]⟩],aG ao]) ?_ af ?_
  ·simp[dr,results257,go_sem,a0,a1,a2]
  ·exact⟨V B _ af,((fk o.6 aA _).setCell aA _).setCell aA _⟩
abbrev od(a b c:ap):bm:=ci #[aZ a,aZ b,aZ c]
abbrev Nx(b a:Nat)(m:ap):bm:=ci #[J b,J a,aZ m]
abbrev oC(a b:ap)(c:Nat)(d:ap):bm:=ci #[aZ a,aZ b,J c,aZ d]
structure qB(w W:World)(a b r:ap):Prop where
 p:bk W w.heap.size [aZ a,aZ b,aZ r] 307
 z:bk W (w.heap.size+1) [.string ⟨#[]⟩,.string ⟨#[]⟩,.string ⟨#[]⟩] 307
 below:a7 w W
def qB.size(e:qB b f c v g):U b.1+1<U f.1:=e.2.lt
def qB.next(a:qB b f c g v)(h:a7 f m):qB b m c g v :=
 ⟨a.1.below h a.1.lt,a.2.below h a.2.lt,bN a.3<|bV h (by have:=a.size;omega)⟩
def qB.alloc(d:qB b f g c v)(h:Obj):qB b (aO f h) g c v:=d.next<|ct cd bv _
def qB.ahh(a:aQ)(b c d:ap):qB a (aO (aO a<|aS #[amz<|O b,amz<|O c,amz<|O d] 307)<|aS #[amz ⟨#[]⟩,amz ⟨#[]⟩,amz ⟨#[]⟩] 307) b c d where
 p:=(bk.fF a _ _).alloc _
 z:=by
  have:=bk.fF (aO a<|aS #[amz<|O b,amz<|O c,amz<|O d] 307) [amz ⟨#[]⟩,amz ⟨#[]⟩,amz ⟨#[]⟩] 307;simpa using this
 below:=(ct cd bv _).alloc aA _
def agd(h:bk b a [e,s,k] z)(j c d:bm):bk (a_ (a_ (a_ b ⟨a,0,ai⟩ j) ⟨a,1,ai⟩ c) ⟨a,2,ai⟩ d) a [j,c,d] z:=((h.set 0 j).set 1 c).set 2 d
def qB.zero(i:qB b f c g v)(h:Obj)(k j d:bm):bk (aO (a_ (a_ (a_ f ⟨U b.1+1,0,ai⟩ k) ⟨U b.1+1,1,ai⟩ j) ⟨U b.1+1,2,ai⟩ d) h) (U b.1+1) [k,j,d] 307/\a7 b (aO (a_ (a_ (a_ f ⟨U b.1+1,0,ai⟩ k) ⟨U b.1+1,1,ai⟩ j) ⟨U b.1+1,2,ai⟩ d) h) :=
 ⟨(agd i.2 k j d).alloc h,(((fk i.3 (by show U b.1<=U b.1+1;omega) _).setCell (by show U b.1<=U b.1+1;omega) _).setCell (by show U b.1<=U b.1+1;omega) _).alloc (by have:=i.size;simp[a_];omega) _⟩
def PM{P:Prop}(h:P:=by go_wp2;have⟨r0,r1,r2⟩:=V R;refine eh (v:=bX #[ci #[amz ⟨#[]⟩,amz ⟨#[]⟩,amz ⟨#[]⟩],aG ao]) ?_ af ?_;{simp[dr,results211,go_sem,r0,r1,r2]};{exact⟨af,dh.2⟩}):P:=h
def Wj{j m:ap}(d i:Nat)(u:l=ao\/i≠53)(r:∀z,bd aK 257 #[od c g j] z<|cQ (bX #[Nx d i m,aG l]) z):bd aK 211 #[od c g j,e] b (cQ (bX #[od [] [] [],aG ao]) b):=by
 have n:=ae r;have q:=ae<|qB.ahh b c g j;have p:=ae u;go_in;go_wp21;refine(n _).m λk t=>?_;have a:=ae<|q.next t;have w:=a.2.cell 0 aA;have x:=a.2.cell 1 aA;have y:=a.2.cell 2 aA;have C:=a.2.frozen;simp only[e9,fw]at w x y;have D:=a.size;have dh:=ae<|a.zero (aS #[ak am d,ak am i,amz<|O m] 349) (amz ⟨#[]⟩) (amz ⟨#[]⟩)<|amz ⟨#[]⟩;have r0:co (aO (a_ (a_ (a_ k ⟨U b.1+1,0,ai⟩<|amz ⟨#[]⟩) ⟨U b.1+1,1,ai⟩<|amz ⟨#[]⟩) ⟨U b.1+1,2,ai⟩<|amz ⟨#[]⟩)<|aS #[ak am d,ak am i,amz<|O m] 349) (U b.1+1) 0 (amz ⟨#[]⟩):=dh.1.cell 0 aA;have r1:co (aO (a_ (a_ (a_ k ⟨U b.1+1,0,ai⟩<|amz ⟨#[]⟩) ⟨U b.1+1,1,ai⟩<|amz ⟨#[]⟩) ⟨U b.1+1,2,ai⟩<|amz ⟨#[]⟩)<|aS #[ak am d,ak am i,amz<|O m] 349) (U b.1+1) 1 (amz ⟨#[]⟩):=dh.1.cell 1 aA;have r2:co (aO (a_ (a_ (a_ k ⟨U b.1+1,0,ai⟩<|amz ⟨#[]⟩) ⟨U b.1+1,1,ai⟩<|amz ⟨#[]⟩) ⟨U b.1+1,2,ai⟩<|amz ⟨#[]⟩)<|aS #[ak am d,ak am i,amz<|O m] 349) (U b.1+1) 2 (amz ⟨#[]⟩):=dh.1.cell 2 aA;have R:=ae<|cv r0<|cv r1 r2;cases l with
 | false =>{exact PM}
 | true =>{
 have A:i≠53:=by{rcases V p with h|h;{cases h};{exact h}};have o:¬(i:Int)=53:=G;have B:((i:Int) != 53)=aE:=by simpa using o
 exact PM}
structure Fs(w W:World)(a b r:ap)(db sp:Nat)(m:ap):Prop where
 pa:qB w W a b r
 d:bk W db [J sp,J 53,aZ m] 349
def Fs.next{j:ap}(i:Fs f b c g v a d j)(h:a7 b m):Fs f m c g v a d j:=⟨i.1.next h,i.2.below h i.2.lt⟩
def afE{m d:ap}{w:aQ}(F:E c<=1000)(H:E g<=1000)(M:a<65536)(L:d≠[])(A:E d<=60000)(C:∀q,bd aK 257 #[od c g v] q<|cQ (bX #[Nx a 53 m,aG aE]) q)(D:∀q,a7 w q->bd aK 27 #[e,aZ m] q (cQ (aZ d) q)):bd aK 211 #[od c g v,e] w (cQ (bX #[od g c<|pJ g c 53 a d,aG aE]) w):=by
 have t:=ae C;have x:=ae D;have B:=ae<|qB.ahh w c g v;have S:(O d).toList.isEmpty=ao:=by{
 rw[hZ];cases d with
 | nil=>exact absurd af L
 | cons aa Y=>rfl};have r:=ae λq=>ae1 [] 53 q H F A G M;go_in;go_wp21;refine(t _).m λj I=>?_;have l:=B.next I;have W:=l.size;have k:Fs w (aO j<|aS #[ak am a,ak am 53,amz<|O m] 349) c g v (U j.1) a m:=⟨l.alloc _,bk.fF _ _ _⟩;have z:=ae k;have Q:=ae<|x _ k.1.3;go_wp21;refine Q.m λR J=>?_;have b:=ae<|z.next J;generalize U j.1=T at *;have N:=b.1.1.cell 0 aA;have P:=b.1.1.cell 1 aA;have cS:=b.2.cell 0 aA;have y:=b.2.cell 1 aA;simp only[e9,fw]at N P cS y;have X:=b.2.lt;go_wp21;refine(r<|aO R<|aS #[amz<|O g,amz<|O c,amz ⟨#[]⟩] 307).m λZ K=>?_;have h:=((b.1.alloc<|aS #[amz<|O g,amz<|O c,amz ⟨#[]⟩] 307).next K);have n:=h.2.cell 0 aA;have o:=h.2.cell 1 aA;have p:=h.2.cell 2 aA;have V:=h.2.frozen;simp only[e9,fw]at n o p;have u:=ae h.3;go_wp2;refine eh (v:=bX #[ci #[amz<|O g,amz<|O c,amz<|O<|pJ g c 53 a d],aG aE]) ?_ af ?_;{simp[dr,results211,go_sem,n,o,p]};{exact⟨af,((fk u uV _).setCell uV _).setCell uV _⟩}
abbrev l8(a b:ap):bm:=ci #[aZ a,aZ b]
structure o8(w W:World)(a b:ap)(k:Nat)(r aB ip:ap):Prop where
 f:bk W w.heap.size [aZ a,aZ b,J k,aZ r] 150
 c:bk W (w.heap.size+1) [aZ aB,aZ ip] 62
 below:a7 w W
def o8.size{d h:ap}{i:Nat}(j:o8 b f c g i v d h):U b.1+1<U f.1:=j.2.lt
def o8.next{k i:ap}(h:o8 b f c v a k g i)(j:a7 f m):o8 b m c v a k g i :=
 ⟨h.1.below j h.1.lt,h.2.below j h.2.lt,bN h.3<|bV j (by have:=h.size;omega)⟩
def o8.alloc{h e:ap}(j:o8 b f g v a h c e)(k:Obj):o8 b (aO f k) g v a h c e:=j.next<|ct cd bv _
def o8.IJ(a:aQ)(b e:ap)(h:Nat)(i d g:ap):o8 a (aO (aO a<|aS #[amz<|O b,amz<|O e,ak am h,amz<|O i] 150)<|aS #[amz<|O d,amz<|O g] 62) b e h i d g where
 f:=(bk.fF a _ _).alloc _
 c:=by
  have:=bk.fF (aO a<|aS #[amz<|O b,amz<|O e,ak am h,amz<|O i] 150) [aZ d,aZ g] 62;simpa using this
 below:=(ct cd bv _).alloc aA _
def IR{j n:ap}(o:∀h,bd aK 210 #[aZ v] h λl t=>(∃d k u:ap,l=bg (bX #[od d k u,aG ao]))/\a7 h t):bd aK 150 #[oC c g a v,e,l8 j n] b (cQ (amz ⟨#[]⟩) b):=by have p:=ae<|o8.IJ b c g a v j n;replace o:=ae o;go_in;go_wp21;refine(o _).mono ?_;rintro l w ⟨⟨d,k,u,rfl⟩,r⟩;have q:=p.next r;have aT:=ae (q.alloc<|aS #[amz<|O d,amz<|O k,amz<|O u] 307).3;go_wp2;go_ret;exact BD
def Wk{n j k h:ap}(r:∀o,bd aK 210 #[aZ n] o<|cQ (bX #[od g k h,aG aE]) o)(y:∀o,a7 b o->bd aK 211 #[od g k h,e] o (cQ (bX #[od [] [] [],aG ao]) o)):bd aK 150 #[oC c v a n,e,l8 j k] b (cQ (amz ⟨#[]⟩) b):=by have p:=ae r;have u:=ae y;have w:=ae<|o8.IJ b c v a n j k;go_in;go_wp21;refine(p _).m λC z=>?_;have l:=w.next z;have d:=l.alloc<|aS #[amz<|O g,amz<|O k,amz<|O h] 307;have B:=ae<|u _ d.3;have bA:=l.2.cell 1 aA;have q:=d.2.cell 1 aA;simp only[e9,fw]at bA q;have t:=ae d;go_wp21;refine B.m λD A=>?_;have x:=t.next A;have aT:=ae (x.alloc<|aS #[amz<|O [],amz<|O [],amz<|O []] 307).3;go_wp2;go_ret;exact BD
def afG{w h q x y d i:ap}(ab:E v<=1000)(ac:E h<=1000)(ad:E c<=1000)(af:E d<=1000)(ah:E i<=60000)(R:∀F,bd aK 210 #[aZ w] F<|cQ (bX #[od x q y,aG aE]) F)(Y:∀F,a7 b F->bd aK 211 #[od x q y,e] F (cQ (bX #[od c d i,aG aE]) F)):bd aK 150 #[oC g v a w,e,l8 h q] b (cQ (aZ<|v++h++[8,0]++qT c d i) b):=by
 have N:=ae R;have T:=ae Y;have W:=ae<|o8.IJ b g v a w h q;have I:E (qT c d i)<=100000:=by simp[qT,rq];omega
 have K:=ae λF=>afu F ad af ah;have L:ax (∀F,bd aK 209 #[ci #[aZ v,aZ h,J 2048,aZ<|qT c d i]] F<|cQ (aZ<|v++h++[8,0]++qT c d i) F):=λF=>Vu 2048 F ab ac I G;go_in;go_wp21;refine(N _).m λaq Z=>?_;have C:=W.next Z;have t:=C.alloc<|aS #[amz<|O x,amz<|O q,amz<|O y] 307;have an:=ae<|T _ t.3;have bA:=C.2.cell 1 aA;have Q:=t.2.cell 1 aA;simp only[e9,fw]at bA Q;have S:=ae t;go_wp21;refine an.m λA aa=>?_;have X:=S.next aa;have p:=ae<|X.alloc<|aS #[amz<|O c,amz<|O d,amz<|O i] 307;have ar:co (bq<|aO A<|aS #[amz<|O c,amz<|O d,amz<|O i] 307) (U b.1) 1 (aZ v)/\co (bq<|aO A<|aS #[amz<|O c,amz<|O d,amz<|O i] 307) (U b.1+1) 0 (aZ h)/\co (bq<|aO A<|aS #[amz<|O c,amz<|O d,amz<|O i] 307) (U A.1) 0 (aZ c)/\co (bq<|aO A<|aS #[amz<|O c,amz<|O d,amz<|O i] 307) (U A.1) 1 (aZ d)/\co (bq<|aO A<|aS #[amz<|O c,amz<|O d,amz<|O i] 307) (U A.1) 2 (aZ i)/\a7 b (bq<|aO A<|aS #[amz<|O c,amz<|O d,amz<|O i] 307):=by
  have u:=bk.fF A [aZ c,aZ d,aZ i] 307;exact⟨p.1.cell 1 aA,p.2.cell 0 aA,u.cell 0 aA,u.cell 1 aA,u.cell 2 aA,p.3.drew⟩
 have z:ax (∀F j:aQ,(co F (U b.1) 1 (aZ v)/\co F (U b.1+1) 0 (aZ h)/\co F (U A.1) 0 (aZ c)/\co F (U A.1) 1 (aZ d)/\co F (U A.1) 2 (aZ i)/\a7 b F)->a7 F j->(co j (U b.1) 1 (aZ v)/\co j (U b.1+1) 0 (aZ h)/\co j (U A.1) 0 (aZ c)/\co j (U A.1) 1 (aZ d)/\co j (U A.1) 2 (aZ i)/\a7 b j)):=λF j l D=>by
  have r:∀(o:Addr) (H:bm),aD F o=ag H->aD j o=ag H:=λo H B=>(D.cell<|i8 F o B).trans B;exact⟨r _ _ l.1,r _ _ l.2.1,r _ _ l.2.2.1,r _ _ l.2.2.2.1,r _ _ l.2.2.2.2.1,bN l.2.2.2.2.2<|bV D l.2.2.2.2.2.4⟩
 have aj:=p.1.cell 1 aA;have al:=p.2.cell 0 aA;simp only[e9,fw]at aj al;go_wp2
 go_region_held (λk=>aD k (M (U b.1) 1)=ag (aZ v)/\aD k (M (U b.1+1) 0)=ag (aZ h)/\aD k (M (U A.1) 0)=ag (aZ c)/\aD k (M (U A.1) 1)=ag (aZ d)/\aD k (M (U A.1) 2)=ag (aZ i)/\a7 b k) (first|assumption|go_keep)
  (first
   | (go_at_call 212;go_loud (refine(K _).m λk n=>?_;replace n:=V z _ _ fN n))
   | (go_at_call 209;go_loud (refine(L _).m λk n=>?_;replace n:=V z _ _ fN n)))
 all_goals
  have P:=ae n.2.2.2.2.2;go_wp2;go_ret;exact⟨fE (λo=>bg<|aZ o) aA,P⟩
def afH{h d:ap}(l:a≠2054)(n:a≠2048):bd aK 80 #[oC c v a h,k,l8 d g] b (cQ (amz ⟨#[]⟩) b):=by
 have aT:=ae (o8.IJ b c v a h d g).3;have i:¬(a:Int)=2054:=G;have j:¬(a:Int)=2048:=G;have:((a:Int)==2054)=ao:=by simpa using i
 have:((a:Int)==2048)=ao:=by simpa using j
 go_wp2;go_ret;exact BD
def Qv{P:Prop}(h:P:=by have aT:=ae hS.3;have dx:=ae<|hA _ hS.3;go_in;go_wp21;refine dx.m λw1 hb1=>?_;have bM:=ae<|bN aT<|bV hb1 aT.4;go_wp2;go_ret;exact⟨af,bM⟩):P:=h
def afI{h d i:ap}(hA:∀a,a7 b a->bd aK 150 #[oC c v 2048 h,e,l8 d g] a (cQ (aZ i) a)):bd aK 80 #[oC c v 2048 h,e,l8 d g] b (cQ (aZ i) b):=by have hS:=o8.IJ b c v 2048 h d g;exact Qv
def afJ{j d h:ap}(p:∀i,bd aK 79 #[aZ g] i<|cQ (bX #[oC c v a j,aG ao]) i):bd aK 37 #[e,l8 d h,aZ g] b (cQ (amz ⟨#[]⟩) b):=by have l:=ae p;have o:=(dz (U b.1) b).alloc bv<|aS #[amz<|O d,amz<|O h] 62;have n:=ae o;go_in;go_wp21;refine(l _).m λu q=>?_;have t:=bN n<|bV q aA;have r:=t.4;have k:=ae<|ct t r<|aS #[amz<|O c,amz<|O v,ak am a,amz<|O j] 150;go_wp2;go_ret;exact⟨af,k⟩
def afK{h d e:ap}{D:bm}(w:g≠d)(j:g≠[255,255,255,255,255,255])(y:∀i,bd aK 79 #[aZ c] i<|cQ (bX #[oC g v a h,aG aE]) i):bd aK 37 #[D,l8 d e,aZ c] b (cQ (amz ⟨#[]⟩) b):=by
 have q:=ae y;have x:=(dz (U b.1) b).alloc bv<|aS #[amz<|O d,amz<|O e] 62;have u:=ae x;have o:=ae<|bk.fF b [aZ d,aZ e] 62;have A:¬(O g).toList=(O d).toList:=by rw[hZ,hZ];exact w
 have B:¬(O g).toList=[255,255,255,255,255,255]:=by rw[hZ];exact j
 have C:¬(O g).toList=(⟨#[255,255,255,255,255,255]⟩:ByteArray).toList:=by rw[hZ,hZ];exact j
 have:((O g).toList==(O d).toList)=ao:=by simpa using A
 have:((O g).toList==[255,255,255,255,255,255])=ao:=by simpa using B
 have F:((O g).toList==(⟨#[255,255,255,255,255,255]⟩:ByteArray).toList)=ao:=by rw[kE];exact C
 go_in;go_wp21;refine(q _).m λG l=>?_;have k:=bN u<|bV l aA;have z:=k.4;have p:=ae<|ct k z<|aS #[amz<|O g,amz<|O v,ak am a,amz<|O h] 150;have n:=o.below l aA;have r:=n.cell 0 aA;have t:=(n.alloc<|aS #[amz<|O g,amz<|O v,ak am a,amz<|O h] 150).cell 0 aA;simp only[e9]at r t;go_wp2;go_ret;exact⟨af,p⟩
def afL{h q p:ap}(C:∀d,bd aK 79 #[aZ c] d<|cQ (bX #[oC v g a h,aG aE]) d)(A:∀d,a7 b d->bd aK 80 #[oC v g a h,e,l8 v q] d (cQ (aZ p) d)):bd aK 37 #[e,l8 v q,aZ c] b (cQ (aZ p) b):=by have t:=ae C;have B:=(dz (U b.1) b).alloc bv<|aS #[amz<|O v,amz<|O q] 62;have z:=ae B;have r:=ae<|bk.fF b [aZ v,aZ q] 62;have y:=ae A;go_in;go_wp21;refine(t _).m λH o=>?_;have k:=bN z<|bV o aA;have F:=k.4;have l:=ct k F<|aS #[amz<|O v,amz<|O g,ak am a,amz<|O h] 150;have G:=ae<|y _ l;have j:=ae l;have i:=r.below o aA;have n:=i.alloc<|aS #[amz<|O v,amz<|O g,ak am a,amz<|O h] 150;have u:=i.cell 0 aA;have bA:=i.cell 1 aA;have w:=n.cell 0 aA;have x:=n.cell 1 aA;simp only[e9,fw]at u w bA x;go_wp21;refine G.m λI D=>?_;have bU:=ae<|bN j<|bV D j.4;go_wp2;go_ret;exact FK
def afR(b:a+1<E c)(s:a%2=0):ch aE (amA (a+2) c)=ch aE (amA a c)+cG c a:=by rw[aeR b s,cG,jw,jw,gw G,gw b];rfl
def Ft(s a):cG s a<=65535:=by have:=gY<|s.getD a 0;have:=gY<|s.getD (a+1) 0;unfold cG;omega
def IT(b e)(M:E b<=10000000):bd aK 84 #[aZ b] e (cQ (J<|iQ<|ch aE b) e):=by
 have:=de b;have⟨L,c⟩:=bi<|if E b%2=1 then b++[0]else b;have n:E L<=100000000/\E L%2=0/\ch aE L=ch aE b:=by{rw[c];split;{refine⟨by grind,by grind,?_⟩;rw[M0];cases yG aE (E b)<;>rfl};omega};obtain⟨n,o,r⟩:=n;have:=de L;have l:=ae<|cv o r;have u:=ae c;clear o r c;go_in;go_upto_if 8 with fail;go_cut [0]from 5 λv F=>v=aZ L/\e=F;·(
 have c:=V u;by_cases t:E b%2=1;{
 have z:(E b:Int)%2=1:=G;rw[b7 t]at c;have H:O b++⟨#[0]⟩=O L:=by rw[c];rfl
 clear c;go_wp2;go_meet;simp};{have z:¬(E b:Int)%2=1:=G;rw[bJ t]at c;subst c;go_wp2;go_meet;simp})
 case rest =>
 obtain⟨rfl,rfl⟩:=hcut;go_wp2;go_loopw [3,4] (λD k wr=>∃a:Nat,D=J (iQ (ch aE<|amA a L):Nat)/\k=J a/\a%2=0/\a<=E L/\a7 e wr) λ_ k _=>E L-(intOf k).toNat;·exact⟨0,af,af,af,eb _,dz _ _⟩
 ·(
 obtain⟨a,rfl,rfl,A,K,d⟩:=hrel;have B:=d.4;replace d:=ae d;by_cases N:a<E L;{
 have q:a+1<E L:=cj l.1
 have x:=ae<|Tx wr q G;have j:=ae<|afR q A;have C:=Ft L a;generalize cG L a=g at *;have h:=ae<|VO (ch aE<|amA a L) g C;have:=yH<|ch aE<|amA a L;rw[<- V j]at h;generalize iQ (ch aE<|amA a L)=f at *;go_wp2_with fail;refine x.m λP y=>?_;have p:=ae<|bN d<|bV y B;by_cases I:65535<(f:Int)+g;{have i:ax ((f:Int)+(g:Int)-65535=((iQ (ch aE<|amA (a+2) L):Nat):Int)):=by{have:=V h;rw[ax];omega};go_wp2;rw[V i];exact⟨⟨a+2,af,dH,G,G,p⟩,ee⟩};{have i:ax ((f:Int)+(g:Int)=((iQ (ch aE<|amA (a+2) L):Nat):Int)):=by{have:=V h;rw[ax];omega};go_wp2;rw[V i];exact⟨⟨a+2,af,dH,G,G,p⟩,ee⟩}};{
 have w:a=E L:=G;subst w;have j:ax (iQ (ch aE<|amA (E L) L)=iQ (ch aE b)):=by rw[ax,ld,l.2]
 generalize iQ (ch aE<|amA (E L) L)=f at *;go_wp2;go_ret;exact⟨by rw[V j];rfl,d⟩})
def kh(a b):∃c,c=a++b/\O a++O b=O c/\cf (O c)=cf (O a)+cf (O b):=⟨_,af,ua a b,by rw[de,de,de,dE]⟩
def V5(b e)(a:Nat)(h)(j:a<65536)(k:E b<=1000)(l:E e<=1000):bd aK 85 #[aZ b,aZ e,J a] h (cQ (aZ<|b++e++[0,17]++[aN a,cO a]) h):=by
 have:=de b;have:=de e;have⟨c,h1,e1,z1⟩:=kh b e;have⟨d,h2,e2,z2⟩:=kh c [0,17];have⟨f,h3,e3,_⟩:=kh d [aN a,cO a];have:O c++⟨#[0,17]⟩=O d:=e2;have:cf (O [aN a,cO a])=2:=af;have n:cf (O d)<=3000:=by rw[z2,z1,de,de,de];grind
 have i:=ae<|qa a h j;rw[<- h1,<- h2,<- h3];clear h1 h2 h3 z2 e2;go_in;go_wp2_with fail;refine i.m λo g=>?_;replace g:=ae g;go_wp2;go_ret;exact⟨af,g⟩
def sV(v b:bm):Prop:=∀a,bW v=ag a->bW b≠ag a
def Ko{P:Prop}(h:P:=by rcases kF with h|h<;>omega):P:=h
def QW{P:Prop}(h:P:=by rw[ht]at e3;go_wp2;go_ret2;refine⟨af,⟨eU,bY,?_,?_,?_,?_⟩,hb3⟩;{rw[V e1];exact gK};{rw[V e2];exact eM};{rw[V e3];exact jO _ _ _ _};{exact λg _ h2=>by cases h2}):P:=h
def Pi{P:Prop}(h:P:=by rw[ht]at e3;go_wp21;refine gU HD ?_;rintro e w4 ⟨v4,rfl,mV,hb4⟩;obtain⟨a4,cD,rfl⟩:=mV.slice;have ja:=gK.kept<|hb4.5 sb Tk;obtain⟨z0,z1,z2,z3,z4,z5,z6,z7⟩:=ja.cells;have g5:=ja.frozen 5;have S5:=ae<|ja.ub<|aL a4 (E<|lr o rs) cD;have Ac:=ae<|(eM.below hb4).ri (k:=sb) (i:=5) G (aL a4 (E<|lr o rs) cD);have wG:=ae<|mV.ri (k:=sb) (i:=5) Tk (aL a4 (E<|lr o rs) cD);have hb5:cB sb w (a_ w4 ⟨sb,5,ai⟩<|aL a4 (E<|lr o rs) cD):=(bN hb3<|bV hb4<|show sb<=_ by omega).setCell (p:=⟨sb,5,ai⟩) (cW sb) _;go_wp2;go_ret2;refine⟨af,⟨eU,aL a4 (E<|lr o rs) cD,?_,?_,?_,?_⟩,hb5⟩;{rw[V e1];exact S5};{rw[V e2];exact Ac};{rw[V e3];exact wG.base G};{exact λg h1 h2=>by have k1:=(eM.ue g h1).2;have k2:=(wG.ue g h2).1;omega}):P:=h
def Q5{P:Prop}(h:P:=by
 have Bq:(0:Int)<(E (fV o rs n):Int):=G;have e1:ax (nh o rs n=0):=by rw[nh,ax,bJ hc]
 have e2:ax (oo o rs k n=[]):=by rw[oo,ax,bJ hc]
 have e3:ax (pm o rs k n=fV o rs n):=by rw[pm,ax,bJ hc]
 go_in;go_wp21;refine gU HC ?_;rintro e w1 ⟨⟨v1,rfl,o5⟩,hb1⟩;have Ey:=ae<|JR (o5.rv (dh.below hb1).2.2.2.2) hcl;obtain⟨a1,bA,rfl⟩:=o5.slice;go_wp21;refine gU Ey ?_;rintro e w4 ⟨v4,rfl,mV,hb4⟩;obtain⟨a4,cD,rfl⟩:=mV.slice;have oD:=bN hb1<|bV hb4 hb1.4;have ja:=V uZ w4 oD;obtain⟨z0,z1,z2,z3,z4,z5,z6,z7⟩:=ja.cells;have g5:=ja.frozen 5;have S5:=ae<|ja.ub<|aL a4 (E<|fV o rs n) cD;have Ac:=ae<|(HO.below oD).ri (k:=sb) (i:=5) G (aL a4 (E<|fV o rs n) cD);have wG:=ae<|mV.ri (k:=sb) (i:=5) (cj hb1.4) (aL a4 (E<|fV o rs n) cD);have hb5:cB sb w (a_ w4 ⟨sb,5,ai⟩<|aL a4 (E<|fV o rs n) cD):=(bV oD<|show sb<=_ by omega).setCell (p:=⟨sb,5,ai⟩) (cW sb) _;go_wp2;go_ret2;refine⟨af,⟨va,aL a4 (E<|fV o rs n) cD,?_,?_,?_,?_⟩,hb5⟩;{rw[V e1];exact S5};{rw[V e2];simpa using V Ac};{rw[V e3];exact wG.base<|cj hb1.4};{exact λg h1 h2=>by have k1:=(vZ g h1).2;have k2:=(wG.ue g h2).1;have:=hb1.4;omega}):P:=h
def Qw{P:Prop}(h:P:=by
 rw[hm]at e1 e2 e3;go_in;go_wp21;refine gU HC ?_;rintro e w1 ⟨⟨v1,rfl,o5⟩,hb1⟩;obtain⟨a1,bA,rfl⟩:=o5.slice;have⟨t0,t1,_⟩:=(uZ w1 hb1).cells;go_wp21;refine(cA w1 hb1).mono ?_;rintro e w2 ⟨⟨v2,rfl,hv2⟩,hb2⟩;rw[hm];have fQ:=bN hb1<|bV hb2 hb1.4;have hs2:=V uZ w2 fQ;obtain⟨u0,u1,u2,u3,u4,u5,u6,u7⟩:=hs2.cells;have:=hs2.frozen 2;have S3:=ae<|hs2.set2 3;have hs3:=hs2.set2 3;have⟨y0,_⟩:=hs3.cells;have hb3:cB sb w (a_ w2 ⟨sb,2,ai⟩<|ak am 3):=(bV fQ<|show sb<=U w.1 by omega).setCell (p:=⟨sb,2,ai⟩) (cW sb) _;have hz3:=dh.low hb3 hzs cY;have HD:=ae<|JS hz3 hlen<|V bT;have eM:=ae<|(HO.below fQ).ri (k:=sb) (i:=2) G (J 3);have yI:U (a_ w2 ⟨sb,2,ai⟩<|ak am 3).1=U w2.1:=by simp[a_]
 go_wp21;refine gU HD ?_;rintro e w4 ⟨v4,rfl,mV,hb4⟩;obtain⟨a4,cD,rfl⟩:=mV.slice;have ja:=S3.kept<|hb4.5 sb<|yI▸e8 xA fQ.4;obtain⟨z0,z1,z2,z3,z4,z5,z6,z7⟩:=ja.cells;have g5:=ja.frozen 5;have S5:=ae<|ja.ub<|aL a4 (E<|lr o rs) cD;have Ac:=ae<|(eM.below hb4).ri (k:=sb) (i:=5) G (aL a4 (E<|lr o rs) cD);have wG:=ae<|mV.ri (k:=sb) (i:=5) (yI▸e8 xA fQ.4) (aL a4 (E<|lr o rs) cD);have hb5:cB sb w (a_ w4 ⟨sb,5,ai⟩<|aL a4 (E<|lr o rs) cD):=(bN hb3<|bV hb4 (show sb<=_ by rw[yI];have:=fQ.4;omega)).setCell (p:=⟨sb,5,ai⟩) (cW sb) _;go_wp2;go_ret2;refine⟨af,⟨va,aL a4 (E<|lr o rs) cD,?_,?_,?_,?_⟩,hb5⟩;{rw[V e1];exact S5};{rw[V e2];simpa using V Ac};{rw[V e3];exact wG.base (by rw[yI];have:=fQ.4;omega)};{exact λg h1 h2=>by have k1:=(vZ g h1).2;have k2:=(wG.ue g h2).1;rw[yI]at k2;have:=fQ.4;omega}):P:=h
def Q1{P:Prop}(h:P:=by{intro h;have:=V vZ b' h;exact Ko}):P:=h
def aac{sb y ay Q:Nat}{k:Int}{va:bm}{o n:ap}{rs:List D}{w:aQ}(u:gH w sb a k 0 l va F s d)(A:ec w (sb+1) va j)(aq:F=bY)(B:iL w a o y ay Q rs)(z:d3 w)(hzs:a<sb)(cY:y<sb)(av:0<sb)(an:xk o rs)(Z:E n<=2900)(X:E j<=90000)(M:∀b∈jb (dF rs o) 6,Az b/\E b.data<=3000/\b.aP<=1000000000)(T:(k==5)=ao)(aj:(k==255)=ao)(I:E (fV o rs n)=0->(er rs n).2=aE->qS (er rs n).1=ao)(C:E (er rs n).1<=3001):bd aK 194 #[N sb,aZ n] w λe r=>e=bg (bX #[amz ⟨#[]⟩,aG ao])/\(∃eU t,gH r sb a k (nh o rs n) l eU t s d/\ec r (sb+1) eU (j++oo o rs k n)/\ec r (sb+1) t (pm o rs k n)/\sV eU t)/\cB sb w r:=by
 subst aq;obtain⟨hlen,S,ad⟩:=an;have ar:(k != 5)=aE:=by rw[bne,T];rfl
 have au:(k != 255)=aE:=by rw[bne,aj];rfl
 have xA:=u.lt;have aa:=A.ue;have⟨s0,s1,_⟩:=u.cells;have HO:=ae A;have dh:=ae B;have K:=ae z;have bT:=ae M;have HC:=ae<|GA n B z hlen G S;have uZ:ax (∀x,a7 w x->gH x sb a k 0 l va (bY) s d):=λx q=>u.kept<|q.5 sb xA;have vZ:=ae aa;have hcl:=cU (Tu o rs n) hlen;by_cases hc:E (fV o rs n)=0;{
 have Bq:¬(0:Int)<(E (fV o rs n):Int):=G;have L:=ae<|I hc;have e1:ax (nh o rs n=if(er rs n).2 then 0 else 3):=by rw[nh,ax,b7 hc]
 have e2:ax (oo o rs k n=if(er rs n).2 then mi k (er rs n).1 else []):=by rw[oo,ax,b7 hc]
 have e3:ax (pm o rs k n=if(er rs n).2 then(if wM k (er rs n).1 then []else lr o rs)else lr o rs):=by rw[pm,ax,b7 hc]
 have cA:=ae λx (q:a7 w x)=>Ln (dh.below q) (K.below q) hlen Z λb ab=>(ad b ab).1;cases hm:(er rs n).2;{
 exact Qw};{
 rw[hm]at e1 e2 e3;go_in;go_wp21;refine gU HC ?_;rintro e w1 ⟨⟨v1,rfl,o5⟩,hb1⟩;obtain⟨a1,bA,rfl⟩:=o5.slice;have⟨t0,t1,_⟩:=(uZ w1 hb1).cells;go_wp21;refine(cA w1 hb1).mono ?_;rintro e w2 ⟨⟨v2,rfl,hv2⟩,hb2⟩;rw[hm];have fQ:=bN hb1<|bV hb2 hb1.4;have hs2:=V uZ w2 fQ;obtain⟨u0,u1,u2,u3,u4,u5,u6,u7⟩:=hs2.cells;have H:=ae<|Tt hv2.rv C;obtain⟨b',az,W,ac,kF⟩:=hv2;have:=hb1.4;have O:b'≠sb:=by exact Ko
 have P:bW va≠ag b':=Q1;have R:=ae<|Ss hs2 (HO.below fQ) W ac O P C X;rw[V L hm]at H;go_wp21;refine H.m ?_;rintro w2 rfl;go_wp21;refine R.m λaA ⟨⟨eU,hs3,al⟩,Y⟩=>?_;have hb3:=(bV fQ<|show sb<=U w.1 by omega).trans<|Y.below (λah aw=>⟨G,λh=>cj<|V vZ ah<|bZ h⟩)<|cj fQ.4;have gK:=ae hs3;have eM:=ae al;have⟨y0,_,_,_,_,qw,_,_⟩:=hs3.cells;have Tk:=hs3.lt;have hz3:=dh.low hb3 hzs cY;have HD:=ae<|JS hz3 hlen<|V bT;cases ht:wM k (er rs n).1;{exact Pi};{exact QW}}};{
 exact Q5}
def aad{sb y ay O:Nat}{k:Int}{va:bm}{o n:ap}{rs:List D}(q:List D){w:aQ}(u:gH w sb a k 0 l va s F d)(A:ec w (sb+1) va q)(al:s=bY)(B:iL w a o y ay O rs)(z:d3 w)(hzs:a<sb)(cY:y<sb)(aq:0<sb)(aj:xk o rs)(X:E n<=2900)(S:E q<=90000)(K:∀b∈jb (dF rs o) 6,Az b/\E b.data<=3000/\b.aP<=1000000000)(W:k=5\/k=255)(ad:E (er rs n).1<=3001):bd aK 194 #[N sb,aZ n] w λe j=>e=bg (bX #[amz ⟨#[]⟩,aG ao])/\(∃eU t,gH j sb a k (nh o rs n) l eU t F d/\ec j (sb+1) eU (q++oo o rs k n)/\ec j (sb+1) t (pm o rs k n)/\sV eU t)/\cB sb w j:=by
 subst al;obtain⟨hlen,Q,ab⟩:=aj;have I:(k != 5)=ao\/((k != 5)=aE/\(k != 255)=ao):=by{rcases W with h|h;{left;rw[h];rfl};{right;rw[h];exact⟨rfl,rfl⟩}};have xA:=u.lt;have Y:=A.ue;have⟨s0,s1,_⟩:=u.cells;have HO:=ae A;have dh:=ae B;have r:=ae z;have bT:=ae K;have HC:=ae<|GA n B z hlen G Q;have uZ:ax (∀x,a7 w x->gH x sb a k 0 l va (bY) F d):=λx C=>u.kept<|C.5 sb xA;have vZ:=ae Y;have hcl:=cU (Tu o rs n) hlen;by_cases hc:E (fV o rs n)=0;{
 have Bq:¬(0:Int)<(E (fV o rs n):Int):=G;have e1:ax (nh o rs n=if(er rs n).2 then 0 else 3):=by rw[nh,ax,b7 hc]
 have e2:ax (oo o rs k n=if(er rs n).2 then mi k (er rs n).1 else []):=by rw[oo,ax,b7 hc]
 have e3:ax (pm o rs k n=if(er rs n).2 then(if wM k (er rs n).1 then []else lr o rs)else lr o rs):=by rw[pm,ax,b7 hc]
 have cA:=ae λx (C:a7 w x)=>Ln (dh.below C) (r.below C) hlen X λb Z=>(ab b Z).1;cases hm:(er rs n).2;{
 exact Qw};{
 rw[hm]at e1 e2 e3;go_in;go_wp21;refine gU HC ?_;rintro e w1 ⟨⟨v1,rfl,o5⟩,hb1⟩;obtain⟨a1,bA,rfl⟩:=o5.slice;have⟨t0,t1,_⟩:=(uZ w1 hb1).cells;go_wp21;refine(cA w1 hb1).mono ?_;rintro e w2 ⟨⟨v2,rfl,hv2⟩,hb2⟩;rw[hm];have fQ:=bN hb1<|bV hb2 hb1.4;have hs2:=V uZ w2 fQ;obtain⟨u0,u1,u2,u3,u4,u5,u6,u7⟩:=hs2.cells;obtain⟨b',au,R,aa,kF⟩:=hv2;have:=hb1.4;have L:b'≠sb:=by exact Ko
 have M:bW va≠ag b':=Q1;have P:=ae<|Ss hs2 (HO.below fQ) R aa L M ad S;rcases I with H|⟨H,an⟩;all_goals(go_wp21;refine P.m λav ⟨⟨eU,hs3,ah⟩,T⟩=>?_;have hb3:=(bV fQ<|show sb<=U w.1 by omega).trans<|T.below (λac ar=>⟨G,λh=>cj<|V vZ ac<|bZ h⟩)<|cj fQ.4;have gK:=ae hs3;have eM:=ae ah;have⟨y0,_,_,_,_,qw,_,_⟩:=hs3.cells;have Tk:=hs3.lt;have hz3:=dh.low hb3 hzs cY;have HD:=ae<|JS hz3 hlen<|V bT;cases ht:wM k (er rs n).1;{exact Pi};{exact QW})}};{
 exact Q5}
def gO(b:ap)(c:List D)(e:Int)(first g:Bool)(d:List D)(a:ap):Int×Bool×List D×List D×Option ap :=
 if fZ a b=ao then((if first then 5 else 0),g,d,[],ai)
 else if(fV b c a).length≠0 then(0,g || !first,d,fV b c a,ai)
 else match (if e=5\/e=255 then ai else kj b c a)with
  | some h=>if E d=8 then(2,aE,[],[],ai)else(0,aE,d++[h],[],ag h.data)
  | none=>(nh b c a,aE,d++oo b c e a,pm b c e a,ai)
def acj(e:aQ)(g:Nat->Prop)(v d:bm):Option ap->Prop
 | none=>v=bY
 | some a=>d=bY/\∃b c,v=bC b 0 (E<|cJ a) c/\E (cJ a)<=c/\iy e b 0 (cJ a)/\¬g b
def Ur(c:Nat->Prop)(i b:aQ)(d:Nat)(a:Int×Bool×List D×List D×Option ap)(j:nO):Prop :=
 ∃e g v,j=bg v/\gz b d a.1 a.2.1 e g (bY)/\fS c b (d+1) e a.2.2.1/\fS c b (d+1) g a.2.2.2.1/\acj b (λh=>c h\/ag h=bW e) v g a.2.2.2.2/\cB (U i.1) i b
section
def ack(a:Option Addr)(d c:Nat)(b:aQ):(binOp .eql 113 (aL a d c)<|bY).run aK b=.ok (aG a.isNone) b:=RQ b _ _ a d c 0 0 CS
attribute [local go_sem] ack
section
variable {o n:ap} {L ans:List D} {t:Int} {first aa:Bool} (hu:fZ n o=true)
include hu
theorem Hv(a:E (fV o L n)≠0):gO o L t first aa ans n=(0,aa || !first,ans,fV o L n,ai):=by rw[gO,bJ<|by simp[hu],b7 a]
theorem MJ(a:fV o L n=[])(b:(er L n).2=ao):gO o L t first aa ans n=(3,aE,ans,lr o L,ai):=by
 have c:kj o L n=ai:=by rw[kj,bJ<|by simp[b]]
 rw[gO,bJ<|by simp[hu],bJ<|by simp[a],c,ite_self];simp[nh,oo,pm,a,b]
omit hu in
theorem acl{a:D}(d:fV o L n=[])(e:(er L n).2=aE)(b:(er L n).1=[a])(c:qS [a]=aE):kj o L n=ag a:=by rw[kj,b7 ⟨by rw[d];rfl,e,b▸c⟩,b];rfl
theorem EZ{a:D}(c:fV o L n=[])(d:kj o L n=ag a)(e:t≠5)(g:t≠255)(b:E ans≠8):gO o L t first aa ans n=(0,aE,ans++[a],[],ag a.data):=by rw[gO,bJ<|by simp[hu],bJ<|by simp[c],bJ G,d];show(if _ then _ else _)=_;rw[bJ b]
theorem Hw{d:D}(b:fV o L n=[])(c:kj o L n=ag d)(e:t≠5)(g:t≠255)(a:E ans=8):gO o L t first aa ans n=(2,aE,[],[],ai):=by rw[gO,bJ<|by simp[hu],bJ<|by simp[b],bJ G,c];show(if _ then _ else _)=_;rw[b7 a]
theorem MK(b:fV o L n=[])(d:(er L n).2=aE)(e:(t=5\/t=255)\/kj o L n=ai):gO o L t first aa ans n=(0,aE,ans++mi t (er L n).1,if wM t (er L n).1 then []else lr o L,ai):=by have c:(if t=5\/t=255 then ai else kj o L n)=ai:=by{rcases e with a|a;{rw[b7 a]};{rw[a,ite_self]}};rw[gO,bJ<|by simp[hu],bJ<|by simp[b],c];simp[nh,oo,pm,b,d]
end
def acm(a:qo j r=ag C):E C<=E r+1:=by
 have h:∀f d,ry j r d f=ag C->E C<=E r+1:=by{
 intro f;induction f with
 | zero=>intro d a;cases a
 | succ f g =>{intro d a;unfold ry at a;split at a;{split at a;{have:=ih a;rw[<- this];simp};{cases a}};{exact g _ a}}};unfold qo at a;split at a;{have:=ih a;rw[<- this];omega};{exact h _ _ a}
def Qn{P:Prop}(h:P:=by have dO:=ae bK;obtain⟨da,dc,rfl⟩:=mJ.slice;have y0:=S7.cells;have rD:=S7.frozen;clear S7 mJ ej bK u0 afi;go_wp2;go_ret;exact dO):P:=h
def wJ{P:Prop}(h:P:=by show ab<ab+1;omega):P:=h
def Re{P:Prop}(h:P:=by
 have⟨v8,w8,hrun,wO,jR,Nc⟩:=DK (V Gn) (V Ap) (λk hk h=>h) G G λk hk=>cj<|V ZE k hk;rw[fC]at hrun;have Nd:ag ab≠bW (aL mZ (E ans) ac):=λe=>cj<|(HO.lt ab<|bZ e).1
 have S8:=pS.kept<|jR.5 ab G Nd;have HZ:=ae<|bN hE ⟨jR.1,jR.2,jR.3,jR.4,λk hk=>jR.5 k (cj hE.4) λe=>cj<|(HO.lt k<|bZ e).1⟩;have Qr:=ae wO;have⟨a8,oH,wP⟩:=wO.slice;rw[dE,fC]at wP;subst wP;have y0:=S8.cells;have rD:=S8.frozen;have xM:=ae S8;have aU:=ae<|V Ug;have uu:=ae hrun;go_wp2_with (at_builtin;go_loud (refine xX dS (.tmp 127) (.tmp 128) 115 dS dS dS (V uu) ?_));go_ret;rw[V aU,bJ jQ];exact⟨_,_,_,af,xM.set2 _,Qr.set (a:=⟨ab,2,ai⟩) _ (V uv) (by show ab<ab+1;omega),fS.nil _ _ _,af,fk HZ (p:=⟨ab,2,ai⟩) hab _⟩):P:=h
def Px{P:Prop}(h:P:=by have wN:=ae<|Rk (W:=w6) (x:=X) (base:=ab+1) (V Qq) (V bT) (Ai _ hE) (V Ki) G;go_wp21;refine gU wN ?_;rintro e w7 ⟨⟨vd,rfl,mJ⟩,ej⟩;have S7:=pS.kept<|ej.5 ab G;have HY:=ae<|Gn.below ej;have vh:=ae<|bN hE<|bV ej hE.4;obtain⟨da,dc,rfl⟩:=mJ.slice;have y0:=S7.cells;have rD:=S7.frozen;have Nb:=ae mJ;have vk:=ae S7;go_wp2;go_ret;rw[V aU,hnil];refine⟨_,_,_,af,vk.lM _,?_,?_,af,fk vh (p:=⟨ab,3,ai⟩) hab _⟩;{rw[u_,mw];exact HY.set (a:=⟨ab,3,ai⟩) _ (V uv) (by show ab<ab+1;omega)};{exact Nb.set (a:=⟨ab,3,ai⟩) _ (V uv) (by show ab<ab+1;omega)}):P:=h
def P9{P:Prop}(h:P:=by have hnil:=iM EU;have aU:=ae<|V Ug;exact Px):P:=h
def aco{O ab bH:Nat}{ans:List D}(t:Int)(first:Bool){X:Nat->Prop}(cd:nS b O c j)(aV:cB (U b.1) b f)(cR:X ab)(cS:∀k,k<U b.1->¬X k)(cT:∀k,U f.1<=k->k≠ab->¬X k)(cG:∀k,X k->k<=ab)(aH:jJ c j)(aJ:cB (U f.1) f K)(hab:U f.1<=ab)(aR:gz K ab 0 l s (bY)<|bY)(b8:fS X K (ab+1) s ans)(dD:E ans<=8)(b6:iy K d bH<|cJ g)(aY:E (cJ g)<=w)(bQ:d≠ab)(c7:¬X d)(bn:ag d≠bW s)(dn:h9 g)(d8:E g<=260):bd aK 186 #[N O,N ab,bC d bH (E<|cJ g) w,J t,aG first] K λe q=>Ur X f q ab (gO c (cq j) t first l ans g) e:=by
 have cc:=cd.below aV;have cn:=ID aH;have dh:=rz aH;have eo:0<E (cJ g):=by rw[uw];exact yk g
 have d7:E (cJ g)<=261:=by have:=pN 46 g;rw[uw];omega
 have dm:=pQ cn.1;have bc:=ae cc;have Qq:=ae cd;have Ai:ax (∀W,cB (U f.1) f W->cB (U b.1) b W):=λW bj=>bN aV<|bV bj aV.4;have eb:=aV.4;have a9:=ae cn;have a0:=ae dh;have bT:=ae aH;have dg:=ae aJ;have cI:=ae aR;have HO:=ae b8;have dd:=ae b6;have cv:=ae dn;have c6:=aR.lt;have dp:=aJ.4;obtain⟨mZ,ac,rfl⟩:=b8.slice;have el:=aR.cells;have em:=aR.frozen;obtain⟨cs,dW,ay,cap,cz,bB,ex,ez⟩:=cc;have dw:=(ea.1 cz).1;have dC:=aJ.5 O dw;have eA:aD K (M O 0)=ag cs:=by unfold aD; rw[dC,cz];rfl
 have cK:ax (bd aK 119 #[bC d bH (E<|cJ g) w,cs] K<|cQ (aG<|fZ g c) K):=by{have:=Hp ⟨d,bH,w,af,aY,b6⟩ (bB.below aJ) G dm<|yk c;rw[abY<|Iz aH.1]at this;exact this};have dL:=ae bB;obtain⟨dH,dI,dM,rfl,_,_⟩:=bB;have uv:=ae cR;have Ki:=ae cS;have cU:=ae cT;have ZE:=ae cG;have ch:=ae c7;generalize H:E (cJ g)=C at *;go_in;go_wp21;refine cK.m λbt ar=>?_;have d9:=ar.4;have a1:=cI.kept<|ar.5 ab c6;have bu:=ae<|HO.below ar;have aq:=ae<|bN dg<|bV ar dp;have cm:=ae<|dd.below ar;have en:=a1.cells;have ep:=a1.frozen;have bf:=ae a1;cases z:fZ g c with
 | false =>{
 have aU:ax (gO c (cq j) t first l ans g=((if first then 5 else 0),l,ans,[],ai)):=by{rw[ax,gO,b7 z]};cases first with
 | false =>{go_wp2;go_ret;rw[V aU];exact⟨_,_,_,af,bf,bu,fS.nil _ _ _,af,aq⟩}
 | true =>{go_wp2;go_ret;rw[V aU];exact⟨_,_,_,af,bf.set0 5,bu.set _ (V uv) wJ,fS.nil _ _ _,af,fk aq (p:=⟨ab,0,ai⟩) hab _⟩}}
 | true =>{
 have an:ax (∀W,cB (U f.1) f W->ab<U W.1->∀(o:ap) (bp:bm) (aX:Int),gG W bp (cJ o)->E (cJ o)<=1000->iy W d bH (cJ g)->bd aK 237 #[N O,bp,J aX,bC d bH C w] W λe q=>(∃v,e=bg v/\fS (λk=>X k\/ag k=bW (aL mZ (E ans) ac)) q (U W.1) v ((hM j o aX).map<|h6 g))/\cB (U W.1) W q):=λW bj d6 o bp aX z S di=>by{refine LV (V Qq) (V bT) (Ai W bj) (λk hk R=>?_) bv aX z S ⟨d,bH,w,by rw[H],H▸aY,di,λR=>R.elim (V ch) bn⟩;rcases R with R|R;{exact Ki k hk R};{have:=(HO.lt k<|bZ R).1;omega}};have c8:ax (bd aK 236 #[N O,bC d bH C w] bt λe q=>(∃v,e=bg v/\((v=bY/\fV c (cq j) g=[])\/∃ah,ah<C/\v=bC d (bH+ah) (C-ah) (w-ah)/\fV c (cq j) g=gN j (i7 g ah) 2/\gN j (i7 g ah) 2≠[]))/\cB (U bt.1) bt q):=by{have aI:=(L8 z).1;rw[<- uw g]at aI;rw[ax,<- H];refine(abw w (bc.below aq) (V a9) (V cm) (H▸aY) G aI).mono ?_;rintro e q ⟨⟨v,rfl,A⟩,bk⟩;refine⟨⟨v,af,?_⟩,bk⟩;rcases abG A with⟨rfl,ce⟩|⟨ah,ce,cg,rfl⟩<;>rcases Ix (V a0) (V cv) z with⟨bA,Q⟩|⟨ed,dY,bA,Q,ba⟩;{exact .inl ⟨af,Q⟩};{rw[ce]at bA;cases bA};{rw[cg]at bA;cases bA};{rw[cg]at bA;obtain rfl:=ih bA;exact .inr ⟨ah,G,af,Q,ba⟩}};go_wp21;refine gU c8 ?_;rintro e u ⟨⟨et,rfl,ds⟩,au⟩;have d_:=au.4;have a2:=bf.kept<|au.5 ab G;have bI:=ae<|bu.below au;have a7:=ae<|bN aq<|bV au aq.4;have cp:=ae<|cm.below au;have u0:=a2.cells;have afi:=a2.frozen;have b2:=ae a2;rcases ds with⟨rfl,hcut⟩|⟨ah,aN,rfl,hcut,cZ⟩;{
 have a3:=b2.set1 aE;have cM:=ae<|bI.set (a:=⟨ab,1,ai⟩) (aG aE) (V uv) wJ;have bb:=ae<|fk a7 (p:=⟨ab,1,ai⟩) hab (aG aE);have cA:=ae<|cp.fr (p:=λk=>k≠ab) (cL.j9 (a:=⟨ab,1,ai⟩) (aG aE) λ_ h=>h) bQ;have b_:U (a_ u ⟨ab,1,ai⟩<|aG aE).1=U u.1:=oF
 have c9:ax (bd aK 238 #[N O,bC d bH C w] (a_ u ⟨ab,1,ai⟩<|aG aE) λe q=>(∃v,e=bg v/\((v=bY/\(er (cq j) g).2=ao)\/∃o,gG q v (cJ o)/\E (cJ o)<=1000/\(er (cq j) g).2=aE/\(er (cq j) g).1=(dF (cq j) o).map (h6 g)))/\cB (U (a_ u ⟨ab,1,ai⟩<|aG aE).1) (a_ u ⟨ab,1,ai⟩<|aG aE) q):=by{rw[ax,<- H];refine(abC w (bc.below bb) (V a9) (V cA) (H▸aY) G G).mono ?_;rintro e q ⟨⟨v,rfl,A⟩,bk⟩;refine⟨⟨v,af,?_⟩,bk⟩;rcases Ma (V a0) (V cv)with⟨bA,Q⟩|⟨o,bA,Q,ba⟩;{rw[bA]at A;exact .inl ⟨A,Q⟩};{have:=acm bA;rw[bA]at A;exact .inr ⟨o,A,G,Q,ba⟩}};replace a3:=ae a3;go_wp21;refine gU c9 ?_;rintro e aw ⟨⟨eu,rfl,dt⟩,av⟩;have ee:=av.4;have a4:=a3.kept<|av.5 ab G;have az:=ae<|cM.below av;have B:=ae<|bN bb<|bV av bb.4;have bD:=ae<|cA.below av;have ek:=a4.cells;have eq:=a4.frozen;have aT:=ae a4;rcases dt with⟨rfl,aP⟩|⟨o,bG,S,aP,bo⟩;{
 have aU:=ae<|MJ (L:=cq j) (ans:=ans) (t:=t) (first:=first) (aa:=l) z hcut aP;have P:=aT.set0 3;have aB:=ae<|az.set (a:=⟨ab,0,ai⟩) (J 3) (V uv) wJ;have y:=ae<|fk B (p:=⟨ab,0,ai⟩) hab (J 3);have dq:U (a_ aw ⟨ab,0,ai⟩<|ak am 3).1=U aw.1:=oF
 have wN:=ae<|Rk (W:=a_ aw ⟨ab,0,ai⟩<|ak am 3) (x:=X) (base:=ab+1) (V Qq) (V bT) (Ai _ y) (V Ki) G;replace P:=ae P;go_wp21;refine gU wN ?_;rintro e w7 ⟨⟨vd,rfl,mJ⟩,ej⟩;have S7:=P.kept<|ej.5 ab G;have HY:=ae<|aB.below ej;have vh:=ae<|bN y<|bV ej y.4;obtain⟨da,dc,rfl⟩:=mJ.slice;have y0:=S7.cells;have rD:=S7.frozen;have Nb:=ae mJ;have vk:=ae S7;go_wp2;go_ret;rw[V aU];exact⟨_,_,_,af,vk.lM _,HY.set _ (V uv) wJ,Nb.set _ (V uv) wJ,af,fk vh (p:=⟨ab,3,ai⟩) hab _⟩};have a5:ax (((t=5\/t=255)\/kj c (cq j) g=ai)->gO c (cq j) t first l ans g=(0,aE,ans++(hM j o t).map (h6 g),if hM j o t=[]then lr c (cq j)else [],ai)):=λbn=>by{rw[MK z hcut aP bn,bo,L4 o g t<|V a0];congr 4;rw[ab6<|T5 (Au j o) (Ev j o) g,L4 o g t<|V a0];cases hM j o t<;>simp};have aC:=ae bG;obtain⟨d4,ei,d0,rfl,d5,ec⟩:=bG;by_cases Y:t=5;{
 have aj:=ae<|a5<|.inl<|.inl Y;have Ug:=Y▸aj
 subst Y;go_wp21;refine(an aw B G o _ _ (V aC) S<|V bD).mono ?_;rintro e w6 ⟨⟨bs,rfl,aa⟩,br⟩;have bz:=br.4;have i:=aT.kept<|br.5 ab G;have Gn:=ae<|az.below br;have hE:=ae<|bN B<|bV br B.4;have bw:=i.cells;have bx:=i.frozen;have pS:=ae i;obtain⟨ck,cl,rfl⟩:=aa.slice;rw[fC];have Ap:=ae aa;have al:=aa.lt;by_cases EU:E (hM j o 5)=0;{
 exact P9};{
 have bM:((E (hM j o 5):Int)==0)=ao:=kB
 have jQ:hM j o 5≠[]:=λh=>EU xO;have cw:=CW (V bT) o 5;have bR:E ((hM j o 5).map<|h6 g)<=2000:=FQ
 exact Re}};by_cases ad:t=255;{
 have aj:=ae<|a5<|.inl<|.inr ad;have Ug:=ad▸aj
 subst ad;go_wp21;refine(an aw B G o _ _ (V aC) S<|V bD).mono ?_;rintro e w6 ⟨⟨bs,rfl,aa⟩,br⟩;have bz:=br.4;have i:=aT.kept<|br.5 ab G;have Gn:=ae<|az.below br;have hE:=ae<|bN B<|bV br B.4;have bw:=i.cells;have bx:=i.frozen;have pS:=ae i;obtain⟨ck,cl,rfl⟩:=aa.slice;rw[fC];have Ap:=ae aa;have al:=aa.lt;by_cases EU:E (hM j o 255)=0;{
 exact P9};{
 have bM:((E (hM j o 255):Int)==0)=ao:=kB
 have jQ:hM j o 255≠[]:=λh=>EU xO;have cw:=CW (V bT) o 255;have bR:E ((hM j o 255).map<|h6 g)<=2000:=FQ
 exact Re}};have dG:(t != 5)=aE:=by simpa using Y
 have dT:(t != 255)=aE:=by simpa using ad
 have cH:=ae<|bc.below B;have cP:=ae<|Hh 5 (V cH) (V a9) (V aC) S;go_wp21;refine cP.m λcu Z=>?_;have dq:=Z.4;have P:=aT.kept<|Z.5 ab G;have aB:=ae<|az.below Z;have y:=ae<|bN B<|bV Z B.4;have bO:=ae<|bD.below Z;have bS:=ae<|aC.below Z;have dA:=P.cells;have dB:=P.frozen;have co:=ae P;cases bl:kl j (cJ o) 5 with
 | false =>{
 have aM:kj c (cq j) g=ai:=by{rw[kj,bJ];rintro⟨_,_,b4⟩;rw[bo,<- (LU (V bT) o g).1,bl]at b4;cases b4};have aj:=ae<|a5<|.inr aM;go_wp21;refine(an cu y G o _ _ (V bS) S<|V bO).mono ?_;rintro e w6 ⟨⟨bs,rfl,aa⟩,br⟩;have bz:=br.4;have i:=co.kept<|br.5 ab G;have Gn:=ae<|aB.below br;have hE:=ae<|bN y<|bV br y.4;have bw:=i.cells;have bx:=i.frozen;have pS:=ae i;obtain⟨ck,cl,rfl⟩:=aa.slice;rw[fC];have Ap:=ae aa;have al:=aa.lt;by_cases EU:E (hM j o t)=0;{
 have hnil:=iM EU;have aU:=ae<|V aj;exact Px};{
 have bM:((E (hM j o t):Int)==0)=ao:=kB
 have jQ:hM j o t≠[]:=λh=>EU xO;have cw:=CW (V bT) o t;have bR:E ((hM j o t).map<|h6 g)<=2000:=FQ
 have⟨v8,w8,hrun,wO,jR,Nc⟩:=DK (V Gn) (V Ap) (λk hk h=>h) G G λk hk=>cj<|V ZE k hk;rw[fC]at hrun;have Nd:ag ab≠bW (aL mZ (E ans) ac):=λe=>cj<|(HO.lt ab<|bZ e).1
 have S8:=pS.kept<|jR.5 ab G Nd;have HZ:=ae<|bN hE ⟨jR.1,jR.2,jR.3,jR.4,λk hk=>jR.5 k (cj hE.4) λe=>cj<|(HO.lt k<|bZ e).1⟩;have Qr:=ae wO;have⟨a8,oH,wP⟩:=wO.slice;rw[dE,fC]at wP;subst wP;have y0:=S8.cells;have rD:=S8.frozen;have xM:=ae S8;have aU:=ae<|V aj;have uu:=ae hrun;go_wp2_with (at_builtin;go_loud (refine xX dS (.tmp 127) (.tmp 128) 115 dS dS dS (V uu) ?_));go_ret;rw[V aU,bJ jQ];exact⟨_,_,_,af,xM.set2 _,Qr.set (a:=⟨ab,2,ai⟩) _ (V uv) wJ,fS.nil _ _ _,af,fk HZ (p:=⟨ab,2,ai⟩) hab _⟩}}
 | true =>{
 have⟨r,Eu,Pn,ql,how⟩:=(LU (V bT) o g).2 bl;have a6:=(LU (V bT) o g).1;rw[bl,ql]at a6;have aM:=acl hcut aP (by rw[bo,ql];rfl)<|bZ a6;clear a6;have b3:=ae<|an cu y G o _ 5 (V bS) S<|V bO;go_wp2_with fail;refine gU b3 ?_;rintro e w6 ⟨⟨bs,rfl,aa⟩,br⟩;rw[how]at aa;have bz:=br.4;have i:=co.kept<|br.5 ab G;have Gn:=ae<|aB.below br;have hE:=ae<|bN y<|bV br y.4;have bw:=i.cells;have bx:=i.frozen;have pS:=ae i;have Ap:=ae aa;have al:=aa.lt;rcases aa.TX with⟨_,h⟩|⟨F,dZ,rfl,dN,dj,cr⟩;{cases h};have⟨_,fL,_,_,_,_,l4,_,l6⟩:=cr 0 aA;rw[rW,g8]at l4;have⟨Qj,hpl⟩:=UF (V bT) Pn Eu;obtain⟨T,aW,d1,rfl,dk,gJ,cb⟩:=l6;have bU:aD w6 (M T aW)=ag (aZ r.data):=by{have:=gJ.2 0 (by show 0<E (I 32 r.data);rw[Qj];simp);rw[jn]at this;rw[this];congr 3;show(I 32 r.data)[0]'_=_;simp[Qj]};have cD:=gJ.1;have ca:E (I 32 (List.map (h6 g) [r])[0].data)=1:=by show(I 32 r.data).length=1;rw[Qj];rfl
 rw[ca]at l4 dk;simp only[fC,ey,h8]at dj ⊢;clear i aa br dA dB b3 cr gJ ca;by_cases bi:E ans=8;{
 have cO:((E ans:Int)==8)=aE:=by simp[bi]
 have aU:=ae<|Hw (first:=first) (aa:=l) z hcut aM Y ad bi;have S8:=pS.set0 2;clear l4;go_wp2;go_ret;rw[V aU];exact⟨_,_,_,af,S8.set2 _,fS.nil _ _ _,fS.nil _ _ _,af,(fk hE (p:=⟨ab,0,ai⟩) hab _).setCell (p:=⟨ab,2,ai⟩) hab _⟩};{
 have cO:((E ans:Int)==8)=ao:=kB
 have aU:=ae<|EZ (first:=first) (aa:=l) z hcut aM Y ad bi;have⟨v8,w8,hrun,wO,jR,Nc⟩:=DK (V Gn) (V Ap) (λk hk h=>h) G cx λk hk=>cj<|V ZE k hk;have Nd:ag ab≠bW (aL mZ (E ans) ac):=λe=>cj<|(HO.lt ab<|bZ e).1
 have c0:ag F≠bW (aL mZ (E ans) ac):=λe=>cj<|(HO.lt F<|bZ e).2
 have c1:=λe=>cb<|.inl<|.inr e;have c2:T≠ab:=λe=>cb<|.inl<|.inl (by rw[e];exact uv);have c3:F≠ab:=G;have c4:=(al F af).2;have S8:=pS.kept<|jR.5 ab G Nd;have dy:=(ev (a:=⟨F,4,ai⟩) (jR.5 F c4 c0)).trans l4;have c5:=(ev (a:=⟨T,aW,ai⟩) (jR.5 T cD c1)).trans bU;have dU:=jR.4;have HZ:=ae<|bN hE ⟨jR.1,jR.2,jR.3,jR.4,λk hk=>jR.5 k (cj hE.4) λe=>cj<|(HO.lt k<|bZ e).1⟩;have Qr:=ae wO;have⟨a8,oH,wP⟩:=wO.slice;rw[dE,fC,RK]at wP;subst wP;have y0:=S8.cells;have rD:=S8.frozen;have uu:=ae hrun;have b0:=S8.set2<|aL a8 (E ans+1) oH;have cW:=ae<|wO.set (a:=⟨ab,2,ai⟩) (aL a8 (E ans+1) oH) (V uv) wJ;have bP:=ae<|fk HZ (p:=⟨ab,2,ai⟩) hab (aL a8 (E ans+1) oH);have ef:aD (a_ w8 ⟨ab,2,ai⟩<|aL a8 (E ans+1) oH) (M F 4)=_:=(ev (a:=⟨F,4,ai⟩) (dJ _ _ _ _ c3)).trans dy;have dP:aD (a_ w8 ⟨ab,2,ai⟩<|aL a8 (E ans+1) oH) (M T aW)=_:=(ev (a:=⟨T,aW,ai⟩) (dJ _ _ _ _ c2)).trans c5;have dQ:U (a_ w8 ⟨ab,2,ai⟩<|aL a8 (E ans+1) oH).1=U w8.1:=oF
 have cE:=ae b0;have eg:=(jp hpl).2;have dz:=ae λW=>B_ r.data ao W G;have cX:=ae<|wO.lt;clear S8 b0 wO hrun Ap al jR Nc l4 bU;go_wp2_with (at_builtin;go_loud (refine xX dS (.tmp 98) (.tmp 99) 115 dS dS dS (V uu) ?_));refine(dz _).mono ?_;rintro e ew ⟨⟨es,rfl,b1⟩,aF⟩;have dV:=aF.4;have dx:je ao r.data=ag (I 46 r.data):=by{have:=vT r.data;rw[hpl]at this;unfold je at this ⊢;split at this;{rename_i h;rw[b7 h]};{cases this}};rw[dx,<- ux (Iz hpl)]at b1;obtain⟨_,bh,wS,rfl,db,dR,cN⟩:=b1;go_wp2;go_ret;rw[V aU];refine⟨_,_,_,af,cE.kept<|aF.5 ab G,cW.below aF,fS.nil _ _ _,⟨af,bh,wS,af,db,cN,?_⟩,bN bP<|bV aF bP.4⟩;rintro(h|h);{exact cU bh G G h};{have:=(cX bh<|bZ h).2;omega}}}};{
 have cy:E (fV c (cq j) g)≠0:=by rw[hcut];intro h;exact cZ<|iM h
 have aU:=ae<|Hv (t:=t) (first:=first) (aa:=l) (ans:=ans) z cy;have b9:(hM j (i7 g ah) 2).map (h6<|i7 g ah)=fV c (cq j) g:=by rw[T7,TF,hcut]
 have bF:ax (∀x:Bool,bd aK 237 #[N O,bC d (bH+ah) (C-ah)<|w-ah,J 2,bC d (bH+ah) (C-ah)<|w-ah] (a_ u ⟨ab,1,ai⟩<|aG x) λe q=>(∃v,e=bg v/\fS X q (ab+1) v (fV c (cq j) g))/\cB (U (a_ u ⟨ab,1,ai⟩<|aG x).1) (a_ u ⟨ab,1,ai⟩<|aG x) q):=λx=>by{
 have b_:U (a_ u ⟨ab,1,ai⟩<|aG x).1=U u.1:=oF
 have cF:=cp.fr (p:=λk=>k≠ab) (cL.j9 (a:=⟨ab,1,ai⟩) (aG x) λ_ h=>h) bQ;have b5:ah<E (I 46 g):=by rw[<- uw];omega
 have A:=Ho cF (cap:=w) G ah G;rw[<- Iw b5,H]at A;have dl:E (cJ<|i7 g ah)=C-ah:=by rw[Iw b5,js,H]
 rw[<- b9];refine LV (V Qq) (V bT) (Ai _<|fk a7 (p:=⟨ab,1,ai⟩) hab _) (V Ki) G 2 A G ⟨d,bH+ah,w-ah,by rw[dl],G,?_,ch⟩;obtain⟨d3,eh,dX,de,d2,df⟩:=A;have⟨aI,_,_⟩:=np de;cases ih aI;exact df};clear an;have bL:ax (∀x:Bool,(l || !first)=x->∀(w7:aQ) (vd:bm),cB (U (a_ u ⟨ab,1,ai⟩<|aG x).1) (a_ u ⟨ab,1,ai⟩<|aG x) w7->fS X w7 (ab+1) vd (fV c (cq j) g)->Ur X f (a_ w7 ⟨ab,3,ai⟩ vd) ab (gO c (cq j) t first l ans g) (bg<|bY)/\gz w7 ab 0 x (aL mZ (E ans) ac) (bY) (bY)):=λx dv w7 vd ej mJ=>by{
 have b_:U (a_ u ⟨ab,1,ai⟩<|aG x).1=U u.1:=oF
 have S7:=(b2.set1 x).kept<|ej.5 ab G;have HY:=(bI.set (a:=⟨ab,1,ai⟩) (aG x) (V uv) wJ).below ej;have bE:=fk a7 (p:=⟨ab,1,ai⟩) hab (aG x);have cC:=bN bE<|bV ej bE.4;rw[V aU,dv];exact⟨⟨_,_,_,af,S7.lM _,HY.set _ (V uv) wJ,mJ.set _ (V uv) wJ,af,fk cC (p:=⟨ab,3,ai⟩) hab _⟩,S7⟩};clear hcut b9 cy;cases l with
 | true =>{go_wp2_with fail;refine(bF aE).mono ?_;rintro e w7 ⟨⟨vd,rfl,mJ⟩,ej⟩;have⟨bK,S7⟩:=V bL aE af w7 vd ej mJ;exact Qn}
 | false =>{have⟨nf,aD2⟩:=dK<|!first;have cY:(ao || !first)=nf:=aD2;go_wp2_with fail;refine(bF nf).mono ?_;rintro e w7 ⟨⟨vd,rfl,mJ⟩,ej⟩;have⟨bK,S7⟩:=V bL nf cY w7 vd ej mJ;exact Qn}}}
end
def xB(a b s:ap):ap:=if E s<28\/amA 8 s≠[0,1,8,0,6,4,0,1]\/amA 4 (s.drop 24)≠b then []else(s.drop 8).take 6++a++[8,6]++amA 7 s++[2]++a++b++amA 10 (s.drop 8)
def Of(b:c=g):((O c).toList==(O g).toList)=aE:=by grind
def Og(b:c≠g):((O c).toList==(O g).toList)=ao:=by rw[hZ,hZ,kE];exact b
def ru(s a b c)(e:b=a+c):∃d,d=amA c (s.drop a)/\(O s).extract a b=O d:=⟨_,af,by rw[B8,e,GT]⟩
def Ka{P:Prop}(h:P:=by go_wp2;go_quiet (fail);go_wp2;go_ret;exact⟨af,V aT _⟩):P:=h
def agQ(a b s c)(q:E s<=100000000)(o:E a<=1000)(n:E b<=1000):bd aK 81 #[l8 a b,aZ s] c (cQ (aZ<|xB a b s) c):=by
 have:=de s;have g:=bk.fF c [aZ a,aZ b] 62;have k:=g.cell 0 aA;have bA:=g.cell 1 aA;simp only[e9,fw]at k bA;have aT:ax (∀h,a7 c<|(aO c<|aS #[amz<|O a,amz<|O b] 62).drewN h):=λh=>kv ((dz (U c.1) c).alloc bv _) h;have⟨q1,e1,x1⟩:=ru s 0 8 8 af;have⟨q2,e2,x2⟩:=ru s 24 28 4 af;have⟨q3,e3,x3⟩:=ru s 8 14 6 af;have⟨q4,e4,x4⟩:=ru s 0 7 7 af;have⟨q5,e5,x5⟩:=ru s 8 18 10 af;have r:cf (O q3)<=6:=by rw[de,e3,jF];omega
 have t:cf (O q4)<=7:=by rw[de,e4,jF];omega
 have u:cf (O q5)<=10:=by rw[de,e5,jF];omega
 rw[xB,<- e2,<- e3,<- e5];rw[sk]at e1 e4;rw[<- e1,<- e4];clear g e1 e2 e3 e4 e5;have⟨r1,f1,g1,z1⟩:=kh q3 a;have⟨r2,f2,g2,z2⟩:=kh r1 [8,6];have⟨r3,f3,g3,z3⟩:=kh r2 q4;have⟨r4,f4,g4,z4⟩:=kh r3 [2];have⟨r5,f5,g5,z5⟩:=kh r4 a;have⟨r6,f6,g6,z6⟩:=kh r5 b;have⟨r7,f7,g7,z7⟩:=kh r6 q5;rw[<- f1,<- f2,<- f3,<- f4,<- f5,<- f6,<- f7];rw[<- de]at o n;have:O r1++⟨#[8,6]⟩=O r2:=g2;have:O r3++⟨#[2]⟩=O r4:=g4;rw[show(O [8,6]).size=2 from af]at z2;rw[show(O [2]).size=1 from af]at z4;have:¬9223372036854775807<cf (O q3)+cf (O a):=G;have:¬9223372036854775807<cf (O r1)+2:=G;have:¬9223372036854775807<cf (O r2)+cf (O q4):=G;have:¬9223372036854775807<cf (O r3)+1:=G;have:¬9223372036854775807<cf (O r4)+cf (O a):=G;have:¬9223372036854775807<cf (O r5)+cf (O b):=G;have:¬9223372036854775807<cf (O r6)+cf (O q5):=G;clear f1 f2 f3 f4 f5 f6 f7 g2 g4 z1 z2 z3 z4 z5 z6 z7;go_in;by_cases l:E s<28;{rw[b7<|.inl l];have p:(E s:Int)<28:=G;exact Ka};have p:¬(E s:Int)<28:=G;have:decide ((E s:Int)<28)=ao:=by grind
 by_cases d:q1=[0,1,8,0,6,4,0,1];case neg =>(
 rw[b7<|.inr<|.inl d];have i:((O q1).toList==[0,1,8,0,6,4,0,1])=ao:=by rw[hZ,kE];exact d
 exact Ka)
 have i:((O q1).toList==[0,1,8,0,6,4,0,1])=aE:=by rw[d,hZ];rfl
 by_cases e:q2=b;case neg =>(rw[b7<|.inr<|.inr e];have j:=Og e;clear d;exact Ka)
 have j:=Of e;rw[bJ<|by grind];have:¬(E s:Int)<14:=G;have:¬(E s:Int)<7:=G;have:¬(E s:Int)<18:=G;clear d e;go_wp2;go_quiet (fail);go_wp2;go_quiet (fail);go_wp2;go_ret;exact⟨af,by rw[World.drewN_drewN];exact aT _⟩
def Xe(q:eB b a g l)(M:E g<=1000000000){x m j}(o:e_ g l 6=(v,x,H))(I:e_ x H 4=(c,m,j)):bd aK 255 #[N a] b λd y=>d=bg (ci #[aZ v,aZ c])/\eB y a m j/\eL a b y:=by have w:=yy g l 6;rw[o]at w;simp only at w;have J:=q.lt;have h:U b.1≠a:=G;have W:eB (aO b<|aS #[amz ⟨#[]⟩,amz ⟨#[]⟩] 62) a g l:=(dT _ _ _ J).trans q;have Y:ax (bk (aO b<|aS #[amz ⟨#[]⟩,amz ⟨#[]⟩] 62) (U b.1) [amz ⟨#[]⟩,amz ⟨#[]⟩] 62):=bk.fF b _ _;have t:=ae<|r9 6 W G M;rw[o]at t;have R:=ae I;have F:ax (eL a b<|aO b<|aS #[amz ⟨#[]⟩,amz ⟨#[]⟩] 62):=⟨af,af,af,aA,λc aN _=>dT _ _ _ aN⟩;go_in;go_wp21;refine t.m λab ⟨P,p,Z⟩=>?_;have u:=ae<|r9 4 P G G;rw[V R]at u;have X:=ae<|Y.kept p h;have C:=ae<|Ce (V F) p;go_wp21;refine u.m λz ⟨Q,r,aa⟩=>?_;have i:=X.kept r h;have e:=Ce (V C) r;have k:=(i.set 0<|aZ v).set 1<|aZ c;simp only[kH,lp]at k;have s:=i.cell 0 aA;have bA:=i.cell 1 aA;have:=i.frozen;have A:=k.cell 0 aA;have B:=k.cell 1 aA;simp only[e9,fw]at s bA A B;have T:ax (eB (a_ (a_ z ⟨U b.1,0,ai⟩<|amz<|O v) ⟨U b.1,1,ai⟩<|amz<|O c) a m j):=((dJ _ _ _ _ λd=>h<|bZ d).trans<|dJ _ _ _ _ λd=>h<|bZ d).trans Q;have D:ax (eL a b<|a_ (a_ z ⟨U b.1,0,ai⟩<|amz<|O v) ⟨U b.1,1,ai⟩<|amz<|O c):=⟨e.1,e.2,e.3,by simpa [a_]using e.4,λS K L=>((dJ _ _ _ _<|by grind).trans<|dJ _ _ _ _<|by grind).trans<|e.5 S K L⟩;go_wp2;refine eh (v:=ci #[amz<|O v,amz<|O c]) (by simp[dr,results255,go_sem,A,B]) af ⟨af,T,D⟩
def sv(a:Nat)(d b e c:ap):ap:=[0,1,8,0,6,4]++[aN a,cO a]++d++b++e++c
def ahr(a:Nat){b e c}(i)(p:a<65536)(r:E Q<=1000)(t:E b<=1000)(u:E e<=1000)(w:E c<=1000):bd aK 208 #[ci #[J a,aZ Q,aZ b,aZ e,aZ c]] i (cQ (aZ<|sv a Q b e c) i):=by
 have:=qe (a:Int)
 have j:ax (∀(h:Nat) (g:aQ),h=U g.1->bd aK 199 #[bC h 0 6 6] (aO g<|aS #[cV 224<|amz ⟨#[0,1,8,0,6,4]⟩,cV 284<|ak fs a,cV 224<|amz<|O Q,cV 224<|amz<|O b,cV 224<|amz<|O e,cV 224<|amz<|O c] 297) λl q=>l=bg (aZ<|sv a Q b e c)/\cB h g q):=λh g o=>by{subst o;have:=AQ [eI [0,1,8,0,6,4],gs a,eI Q,eI b,eI e,eI c] g (lm (lD _)<|lm (nM a p)<|lm (lD Q)<|lm (lD b)<|lm (lD e)<|rK<|lD c) aA Dv;rw[show ew [eI [0,1,8,0,6,4],gs a,eI Q,eI b,eI e,eI c]=sv a Q b e c by simp[ew,eI,gs,sv]]at this;exact this};go_in;go_wp21;refine(j _ _ aA).m λx n=>?_;have k:=ae<|((dz (U i.1) i).alloc bv _).trans<|bV n aA;go_wp2;go_ret;exact⟨af,k⟩
abbrev Fk(e:Nat)(c a d b:ap):bm:=ci #[J e,aZ c,aZ a,aZ d,aZ b]
def ahs(x y:ap)(d:ap){a p:ap}(C:Nat)(i:aQ)(D:E a<=1000)(F:E d<=1000)(af:E v<=1000)(ah:E g<=1000)(Q:∀e,bd aK 207 #[aZ c] e<|cQ (bX #[Fk 1 a g p v,aG aE]) e):bd aK 149 #[oC x y C c,l8 d v] i (cQ (aZ<|a++d++[8,6]++sv 2 d v a g) i):=by
 have L:=ae Q;have R:=ae<|o8.IJ i x y C c d v;have H:E (sv 2 d v a g)<=100000:=by simp[sv];omega
 have I:ax (∀e,bd aK 208 #[ci #[J 2,aZ d,aZ v,aZ a,aZ g]] e<|cQ (aZ<|sv 2 d v a g) e):=λe=>ahr 2 e G F af D ah;have K:ax (∀e,bd aK 209 #[ci #[aZ a,aZ d,J 2054,aZ<|sv 2 d v a g]] e<|cQ (aZ<|a++d++[8,6]++sv 2 d v a g) e):=λe=>Vu 2054 e D F H G;generalize sv 2 d v a g=al at *;go_in;go_wp21;refine(L _).m λb ad=>?_;have ab:=R.next ad;have q:=ab.alloc<|aS #[ak am 1,amz<|O a,amz<|O g,amz<|O p,amz<|O v] 303;have aj:=bk.fF b [J 1,aZ a,aZ g,aZ p,aZ v] 303;have r:=q.alloc<|aS #[ak am 2,amz<|O d,amz<|O v,amz<|O a,amz<|O g] 303;have k:=bk.fF (aO b<|aS #[ak am 1,amz<|O a,amz<|O g,amz<|O p,amz<|O v] 303) [J 2,aZ d,aZ v,aZ a,aZ g] 303;rw[gd]at k;have u:=aj.alloc<|aS #[ak am 2,amz<|O d,amz<|O v,amz<|O a,amz<|O g] 303;have P:=q.2.cell 0 aA;have bA:=q.2.cell 1 aA;simp only[e9,fw]at P bA;have⟨W3,hW3⟩:=bi<|aO (aO b<|aS #[ak am 1,amz<|O a,amz<|O g,amz<|O p,amz<|O v] 303)<|aS #[ak am 2,amz<|O d,amz<|O v,amz<|O a,amz<|O g] 303;rw[<- hW3]at r k u;have an:co (bq W3) (U b.1) 1 (aZ a)/\co (bq W3) (U i.1+1) 0 (aZ d)/\co (bq W3) (U b.1+1) 0 (J 2)/\co (bq W3) (U b.1+1) 1 (aZ d)/\co (bq W3) (U b.1+1) 2 (aZ v)/\co (bq W3) (U b.1+1) 3 (aZ a)/\co (bq W3) (U b.1+1) 4 (aZ g)/\a7 i (bq W3) :=
  ⟨u.cell 1 aA,r.2.cell 0 aA,k.cell 0 aA,k.cell 1 aA,k.cell 2 aA,k.cell 3 aA,k.cell 4 aA,r.3.drew⟩
 have w:ax (∀e h:aQ,(co e (U b.1) 1 (aZ a)/\co e (U i.1+1) 0 (aZ d)/\co e (U b.1+1) 0 (J 2)/\co e (U b.1+1) 1 (aZ d)/\co e (U b.1+1) 2 (aZ v)/\co e (U b.1+1) 3 (aZ a)/\co e (U b.1+1) 4 (aZ g)/\a7 i e)->a7 e h->(co h (U b.1) 1 (aZ a)/\co h (U i.1+1) 0 (aZ d)/\co h (U b.1+1) 0 (J 2)/\co h (U b.1+1) 1 (aZ d)/\co h (U b.1+1) 2 (aZ v)/\co h (U b.1+1) 3 (aZ a)/\co h (U b.1+1) 4 (aZ g)/\a7 i h)):=λe h ac B=>by
  have l:∀(o:Addr) (t:bm),aD e o=ag t->aD h o=ag t:=λo t z=>(B.cell<|i8 e o z).trans z;obtain⟨S,T,W,X,Y,Z,aa,A⟩:=ac;exact⟨l _ _ S,l _ _ T,l _ _ W,l _ _ X,l _ _ Y,l _ _ Z,l _ _ aa,bN A<|bV B A.4⟩
 go_wp2;rw[<- hW3];clear hW3
 go_region_held (λj=>aD j (M (U b.1) 1)=ag (aZ a)/\aD j (M (U i.1+1) 0)=ag (aZ d)/\aD j (M (U b.1+1) 0)=ag (J 2)/\aD j (M (U b.1+1) 1)=ag (aZ d)/\aD j (M (U b.1+1) 2)=ag (aZ v)/\aD j (M (U b.1+1) 3)=ag (aZ a)/\aD j (M (U b.1+1) 4)=ag (aZ g)/\a7 i j) (first|assumption|go_keep)
  (first
   | (go_at_call 208;go_loud (refine(I _).m λj n=>?_;replace n:=V w _ _ fN n))
   | (go_at_call 209;go_loud (refine(K _).m λj n=>?_;replace n:=V w _ _ fN n)))
 all_goals
  have N:=ae n.2.2.2.2.2.2.2;go_wp2;go_ret;exact⟨fE (λo=>bg<|aZ o) aA,N⟩
def aht{h d i:ap}(hA:∀a,a7 b a->bd aK 149 #[oC c v 2054 h,l8 d g] a (cQ (aZ i) a)):bd aK 80 #[oC c v 2054 h,e,l8 d g] b (cQ (aZ i) b):=by have hS:=o8.IJ b c v 2054 h d g;exact Qv
def nR:ap:=[2,102,105,118,101,53]
def oJ:ap:=[10,0,0,1]
def Jv:ap:=[2,111,116,104,101,114]
def qI:ap:=nR++Jv++[8,6]++([0,1,8,0,6,4]++[0,1]++Jv++[10,0,0,2]++[110,111,98,111,100,121]++oJ)
def Dd:ap:=Jv++nR++[8,6]++sv 2 nR oJ Jv [10,0,0,2]
def Jw:fe [] l=(0,[],aE):=rfl
def Fl:fj [] l=(0,[],aE):=by simp[fj,fe]
def WY:e_ [] l 4=([],[],aE):=rfl
def ahu(b)(S:E Q<20):bd aK 210 #[aZ Q] b (cQ (bX #[ci #[amz ⟨#[]⟩,amz ⟨#[]⟩,amz ⟨#[]⟩],aG ao]) b):=by
 have H:bk (aO (aO b<|aS #[amz ⟨#[]⟩,amz ⟨#[]⟩,amz ⟨#[]⟩] 307)<|aS #[amz<|O Q,aG ao] 215) (U b.1) yR 307:=(bk.fF b _ _).alloc _;have I:eB (aO (aO b<|aS #[amz ⟨#[]⟩,amz ⟨#[]⟩,amz ⟨#[]⟩] 307)<|aS #[amz<|O Q,aG ao] 215) (U b.1+1) Q ao:=by{have:=du (aO b<|aS #[amz ⟨#[]⟩,amz ⟨#[]⟩,amz ⟨#[]⟩] 307)<|aS #[amz<|O Q,aG ao] 215;simpa [eB]using this};have D:=ae<|((dz (U b.1) b).alloc bv<|aS #[amz ⟨#[]⟩,amz ⟨#[]⟩,amz ⟨#[]⟩] 307).alloc aA<|aS #[amz<|O Q,aG ao] 215;have x:=ae<|r9 20 I G G;rw[show e_ Q ao 20=([],[],aE)from by unfold e_;grind]at x;have N:=ae H;go_in;go_wp21;refine x.m λl ⟨u,o,T⟩=>?_;have F:U l.1=U b.1+2:=by simp_all
 have r:ax (AT b (aO l<|aS #[amz<|O [],aG ao] 215) [] aE [] ao) := ⟨(N.kept o G).alloc _,(dT _ _ _ u.lt).trans u,F▸du _ _,cx,(bN D<|o.below G G).alloc G _⟩;go_wp21;generalize aO l (aS #[amz<|O [],aG ao] 215)=V at *;have a:=ae<|rf [] ao r.3 aA;rw[Jw]at a;refine a.m λW ⟨d,c,e⟩=>?_;have q:=ae<|r.call d c e;have a:=ae<|rf [] aE q.3 aA;rw[Jw]at a;go_wp21;refine a.m λX ⟨d,c,e⟩=>?_;have n:=ae<|q.call d c e;have a:=ae<|nD aE n.3 aA;rw[Fl]at a;go_wp21;refine a.m λY ⟨d,c,e⟩=>?_;have t:=ae<|n.call d c e;have a:=ae<|nD aE t.3 aA;rw[Fl]at a;go_wp21;refine a.m λZ ⟨d,c,e⟩=>?_;have w:=ae<|t.call d c e;have a:=ae<|nD aE w.3 aA;rw[Fl]at a;go_wp21;refine a.m λaa ⟨d,c,e⟩=>?_;have z:=ae<|w.call d c e;have a:=ae<|rf [] aE z.3 aA;rw[Jw]at a;go_wp21;refine a.m λab ⟨d,c,e⟩=>?_;have y:=ae<|z.call d c e;have a:=ae<|rf [] aE y.3 aA;rw[Jw]at a;go_wp21;refine a.m λac ⟨d,c,e⟩=>?_;have A:=ae<|y.call d c e;have a:=ae<|nD aE A.3 aA;rw[Fl]at a;go_wp21;refine a.m λad ⟨d,c,e⟩=>?_;have B:=ae<|A.call d c e;have a:=ae<|r9 4 B.3 G aA;rw[WY]at a;go_wp2_with fail;refine a.m λah ⟨d,c,e⟩=>?_;have i:=ae<|B.call d c e;have a:=ae<|r9 4 i.3 G aA;rw[WY]at a;go_wp2_with fail;refine a.m ?_;rintro k ⟨d,c,e⟩;have h:=ae<|i.call d c e;clear d c e a i;have:=h.4;have P:=h.1.cell 0 aA;have g:=h.1.cell 1 aA;have R:=h.1.cell 2 aA;have:=h.1.frozen;simp only[yR,e9,fw]at P g R;have j:=ae<|(((h.1.set 0<|amz ⟨#[]⟩).set 1<|amz ⟨#[]⟩).set 2<|amz ⟨#[]⟩).alloc<|aS #[amz<|O [],amz<|O [],amz ⟨#[]⟩] 307;have C:=ae<|(((fk h.5 bv (p:=⟨U b.1,0,ai⟩) (amz ⟨#[]⟩)).setCell bv (p:=⟨U b.1,1,ai⟩) (amz ⟨#[]⟩)).setCell bv (p:=⟨U b.1,2,ai⟩) (amz ⟨#[]⟩)).alloc (by simp_all) (aS #[amz<|O [],amz<|O [],amz ⟨#[]⟩] 307);clear h;go_wp2;refine eh (v:=bX #[ci #[amz ⟨#[]⟩,amz ⟨#[]⟩,amz ⟨#[]⟩],aG ao]) ?_ af ?_;{have J:aD (aO (a_ (a_ (a_ k ⟨U b.1,0,ai⟩<|amz ⟨#[]⟩) ⟨U b.1,1,ai⟩<|amz ⟨#[]⟩) ⟨U b.1,2,ai⟩<|amz ⟨#[]⟩)<|aS #[amz<|O [],amz<|O [],amz ⟨#[]⟩] 307) (M (U b.1) 0)=ag (amz ⟨#[]⟩):=j.cell 0 aA;have K:aD (aO (a_ (a_ (a_ k ⟨U b.1,0,ai⟩<|amz ⟨#[]⟩) ⟨U b.1,1,ai⟩<|amz ⟨#[]⟩) ⟨U b.1,2,ai⟩<|amz ⟨#[]⟩)<|aS #[amz<|O [],amz<|O [],amz ⟨#[]⟩] 307) (M (U b.1) 1)=ag (amz ⟨#[]⟩):=j.cell 1 aA;have L:aD (aO (a_ (a_ (a_ k ⟨U b.1,0,ai⟩<|amz ⟨#[]⟩) ⟨U b.1,1,ai⟩<|amz ⟨#[]⟩) ⟨U b.1,2,ai⟩<|amz ⟨#[]⟩)<|aS #[amz<|O [],amz<|O [],amz ⟨#[]⟩] 307) (M (U b.1) 2)=ag (amz ⟨#[]⟩):=j.cell 2 aA;simp[dr,results210,go_sem,J,K,L]};{exact⟨af,C⟩}
theorem ako : aK.mainIs = ag (aE, "5b2062f78c25776db10a3b5217a7e108862c6d0a3f58b80340ffd2b28c0468f7".toList) := by kernel_rfl
def akp:aE=aK.looks []:=b8
end Go.Proofs.YtkkpahmoljiepaaGreatDoor
