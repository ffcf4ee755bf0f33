import Derived.Test.YtkkpahmoljiepabGreatDoorJ06
import Derived.Test.YtkkpahmoljiepabGreatDoorJ0h
import Derived.LaidOnce
set_option maxRecDepth 1000000
set_option maxHeartbeats 12800000
set_option linter.all false
open Array renaming size->J
open Bool renaming false->ak,true->aD
open ByteArray renaming size->b7
open Eq renaming symm->b5,trans->cQ
open Go renaming Addr->gU,Calls->a_,Ending->kP,Value->bk,World->aQ,maxLen->fk,results->c_
open Go.Calls renaming mono->eb
open Go.Ending renaming returned->bh
open Go.IntKind renaming i64->ai,u16->eO,u8->ch
open Go.Obj renaming cells->aZ
open Go.Proofs.Tryz renaming prog->aL
open Go.RowKit renaming Below->cv,Hid->ao
open Go.RowKit.Below renaming alloc->cf,mono->bN,setCell->fc,trans->bC
open Go.Value renaming agg->ce,bool->aG,iface->cP,int->ag,ownBlock->bA,slice->aE,string->am,tuple->bZ
open Go.World renaming alloc->aN,alloc_heap_new->cW,cell?->aA,drew->bx,frozen?->gd,setCell->a7
open List renaming drop->bi,flatMap->ex,length->E,map->b9,take->be
open Option renaming none->af,some->ae
open Or renaming inl->bJ,inr->bE
open UInt8 renaming toNat->bg
namespace Go.Proofs.YtkkpahmoljiepabGreatDoor
variable{φ:Prop}
open Go.RowKit Go.Proofs.Tryz
variable{a c g:Nat}{b f m u:World}{d P:ap}{e k r C:Value}{i x:List aK}{j q:Int}{l H:Bool}{s F:List ap}{Q:List UInt8}
def pC{a:mC}(c:a.Ok):∀f∈[a],f.Ok:=by intro f b;simp at b;subst b;exact c
def jL{b:mC}{c:List mC}(d:b.Ok)(e:∀f∈c,f.Ok):∀f∈b::c,f.Ok:=by intro f a;rcases fw.1 a with rfl|a;{exact d};{exact e f a}
def o_(a b s:ap):Nat:=hJ<|ci aD<|a++b++[0,17,aO<|E s,cL<|E s]++s
def Si{b:ap}(n s:ap)(e:aQ)(p:E d<=1000)(q:E b<=1000)(l:E s<65536):a_ aL 247 #[ce #[aS d,aS b,aS n],aS s] e (cI (M<|o_ d b s) e):=by
 have:=cV s;have:=od (E s:Int)
 have h:ao (∀(a:Nat) (c:aQ),a=J c.1->a_ aL 216 #[bL a 0 5 5] (aN c<|aZ #[cP 204<|am<|D d,cP 204<|am<|D b,cP 259<|ag eO 17,cP 259<|ag eO<|E s,cP 204<|am<|D s] 275) λj o=>j=bh (M<|o_ d b s)/\cv a c o):=λa c k=>by{subst k;have:=J3 [ev d,ev b,fB 17,fB<|E s,ev s] c (jL (ka d)<|jL (ka b)<|jL (l3 17 G)<|jL (l3 _ l)<|pC<|ka s) ax AC;rw[show d_ [ev d,ev b,fB 17,fB<|E s,ev s]=d++b++[0,17,aO<|E s,cL<|E s]++s by simp[d_,ev,fB];exact⟨U,U⟩]at this;exact this};go_in;go_wp2_with fail;refine(h _ _ gB).m ?_;intro r g;have i:=O<|((cU (J e.1) e).alloc bo _).trans<|bN g ax;clear g;go_wp2;go_ret;exact bd U i
def Sj{b c:ap}(a:Nat)(h:aQ)(r:E b<=1000)(t:E c<=1000)(u:E d<=100000)(o:a<65536):a_ aL 175 #[ce #[aS b,aS c,M a,aS d]] h (cI (aS<|b++c++[aO a,cL a]++d) h):=by
 have:=od (a:Int)
 have j:ao (∀(g:Nat) (e:aQ),g=J e.1->a_ aL 164 #[bL g 0 4 4] (aN e<|aZ #[cP 204<|am<|D b,cP 204<|am<|D c,cP 259<|ag eO a,cP 204<|am<|D d] 275) λl p=>l=bh (aS<|b++c++[aO a,cL a]++d)/\cv g e p):=λg e n=>by{subst n;have:=xD [ev b,ev c,fB a,ev d] e (jL (ka b)<|jL (ka c)<|jL (l3 a o)<|pC<|ka d) ax AC;rw[show d_ [ev b,ev c,fB a,ev d]=b++c++[aO a,cL a]++d by simp[d_,ev,fB]]at this;exact this};go_in;go_wp2_with fail;refine(j _ _ gB).m ?_;intro w i;have k:=O<|((cU (J h.1) h).alloc bo _).trans<|bN i ax;clear i;go_wp2;go_ret;exact⟨eQ (λq=>bh<|aS q) ax,k⟩
def pi(a:Nat):ap:=[69,0,aO<|20+a,cL<|20+a,0,0,64,0,64,17]
def vr(a b:ap)(c:Nat):Nat:=65535-hJ (ci aD<|pi c++a++b)
def oN(b c a:ap):ap:=pi (E a)++[aO<|vr b c<|E a,cL<|vr b c<|E a]++b++c++a
def E1(h:φ:=by rw[ao,hh];rfl):φ:=h
def abj{b c:ap}(j:aQ)(Y:E d<=1000)(Z:E b<=1000)(aa:E c<=60000):a_ aL 178 #[ce #[aS d,aS b,aS c]] j (cI (aS<|oN d b c) j):=by
 have:=cV c;let⟨i,K⟩:=bm<|20+E c;have:20+(E c:Int)=i:=G;have:=od (i:Int)
 have F:ao (pi (E c)=[69,0,aO i,cL i,0,0,64,0,64,17]):=by rw[ao,K];rfl
 have z:ao (∀(g:Nat) (a:aQ),g=J a.1->a_ aL 164 #[bL g 0 7 7] (aN a<|aZ #[cP 270<|ag ch 69,cP 270<|ag ch 0,cP 259<|ag eO i,cP 259<|ag eO 0,cP 259<|ag eO 16384,cP 270<|ag ch 64,cP 270<|ag ch 17] 275) λn p=>n=bh (aS<|pi<|E c)/\cv g a p):=λg a o=>by{subst o;have:=xD [l2 69,l2 0,fB i,fB 0,fB 16384,l2 64,l2 17] a (jL (sC 69)<|jL (sC 0)<|jL (l3 i G)<|jL (l3 0 G)<|jL (l3 16384 G)<|jL (sC 64)<|pC<|sC 17) ax (by simp[d_,l2,fB]);rw[F];exact this};let⟨e,hh⟩:=bm<|pi<|E c;have L:E e=10:=by rw[hh];rfl
 have l:ao (vr d b (E c)=65535-hJ (ci aD<|e++d++b)):=E1
 have w:ao (oN d b c=e++[aO<|vr d b<|E c,cL<|vr d b<|E c]++d++b++c):=E1
 rw[<-hh]at z;have Q:ao (∀(g:Nat) (a:aQ),g=J a.1->a_ aL 216 #[bL g 0 3 3] (aN a<|aZ #[cP 204<|am<|D e,cP 204<|am<|D d,cP 204<|am<|D b] 275) λn p=>n=bh (M<|hJ<|ci aD<|e++d++b)/\cv g a p):=λg a o=>by{subst o;have:=J3 [ev e,ev d,ev b] a (jL (ka e)<|jL (ka d)<|pC<|ka b) ax (by simp[d_,ev];omega);rw[show d_ [ev e,ev d,ev b]=e++d++b by simp[d_,ev]]at this;exact this};have:=vf<|ci aD<|e++d++b;generalize hJ (ci aD<|e++d++b)=f at*;let⟨h,I⟩:=bm<|vr d b<|E c;rw[<-I]at l w;have:65535-(f:Int)=h:=cd<|V l
 have X:eO.wrap (h:Int)=(h:Int):=by rw[AN];have:=l;omega
 have R:h<65536:=cd<|V l
 have W:ao (∀(g:Nat) (a:aQ),g=J a.1->a_ aL 164 #[bL g 0 5 5] (aN a<|aZ #[cP 204<|am<|D e,cP 259<|ag eO h,cP 204<|am<|D d,cP 204<|am<|D b,cP 204<|am<|D c] 275) λn p=>n=bh (aS<|oN d b c)/\cv g a p):=λg a o=>by{subst o;have:=xD [ev e,fB h,ev d,ev b,ev c] a (jL (ka e)<|jL (l3 h R)<|jL (ka d)<|jL (ka b)<|pC<|ka c) ax AC;rw[show d_ [ev e,fB h,ev d,ev b,ev c]=oN d b c by rw[w];simp[d_,ev,fB]]at this;exact this};clear F l w hh I K L;have C:=O<|bq.fF j [aS d,aS b,aS c] 285;have A:=O<|(cU (J j.1) j).alloc bo<|aZ #[am<|D d,am<|D b,am<|D c] 285;have T:J (aN j<|aZ #[am<|D d,am<|D b,am<|D c] 285).1=J j.1+1:=ax;go_in;go_wp2_with fail;refine(z _ _ gB).m ?_;intro ab x;have k:=O<|C.below x ax;have B:=O<|bC A<|bN x ax;clear x C A T;have r:=k.cell 0 ax;have t:=k.cell 1 ax;have u:=k.cell 2 ax;simp at r t u;have S:=k.lt;go_wp2_with fail;refine(Q _ _ gB).m ?_;intro ac y;have q:=O<|k.below y S;have N:=O<|bC B<|bN y G;clear y k B r t u;have r:=q.cell 0 ax;have t:=q.cell 1 ax;have u:=q.cell 2 ax;simp at r t u;have:=q.lt;go_wp2_with fail;refine(W _ _ gB).m ?_;intro ad H;have P:=O<|bC N<|bN H G;clear H;go_wp2;go_ret;exact bd U P
def oy(b a:Nat)(m:ap):ap:=[aO b,cL b,aO a,cL a,aO<|8+E m,cL<|8+E m]
def tX(a b:ap)(d c:Nat)(m:ap):Nat:=if 65535-o_ a b (oy d c m++[0,0]++m)=0 then 65535 else 65535-o_ a b (oy d c m++[0,0]++m)
def nJ(c d:ap)(b a:Nat)(m:ap):ap:=oy b a m++[aO<|tX c d b a m,cL<|tX c d b a m]++m
structure vv(w W:World)(a b r m:ap)(sp dp:Nat):Prop where
 p:bq W w.heap.size [aS a,aS b,aS r] 285
 d:bq W (w.heap.size+1) [M sp,M dp,aS m] 322
 z:bq W (w.heap.size+2) [.string ⟨#[]⟩,.string ⟨#[]⟩,.string ⟨#[]⟩] 285
 below:a6 w W
def vv.size{h m:ap}{i:Nat}(g:vv b f P d h m i a):J b.1+2<J f.1:=g.3.lt
def vv.next{i j:ap}(g:vv b f d P i j a c)(h:a6 f m):vv b m d P i j a c:=
 ⟨g.1.below h g.1.lt,g.2.below h g.2.lt,g.3.below h g.3.lt,bC g.4<|bN h (by have:=g.size;omega)⟩
def vv.aHz(a:aQ)(b c g m:ap)(h e:Nat):vv a (aN (aN (aN a<|aZ #[am<|D b,am<|D c,am<|D g] 285)<|aZ #[ag ai h,ag ai e,am<|D m] 322)<|aZ #[am ⟨#[]⟩,am ⟨#[]⟩,am ⟨#[]⟩] 285) b c g m h e where
 p:=((bq.fF a _ _).alloc _).alloc _
 d:=by
  have:=(bq.fF (aN a<|aZ #[am<|D b,am<|D c,am<|D g] 285) [M h,M e,aS m] 322).alloc<|aZ #[am ⟨#[]⟩,am ⟨#[]⟩,am ⟨#[]⟩] 285;simpa using this
 z:=by
  have:=bq.fF (aN (aN a<|aZ #[am<|D b,am<|D c,am<|D g] 285)<|aZ #[ag ai h,ag ai e,am<|D m] 322) [am ⟨#[]⟩,am ⟨#[]⟩,am ⟨#[]⟩] 285;simpa using this
 below:=((cf cc bo _).alloc ax _).alloc ct _
def MB(h:φ:=by go_wp2_with fail;refine(kQ _ _ gB).m ?_;intro w4 hb4;have iJ:=O<|gK.next hb4;clear hb4 gK kQ x0 x1 x2 y2;have x0:=iJ.1.cell 0 ax;have x1:=iJ.1.cell 1 ax;have x2:=iJ.1.cell 2 ax;have z0:=iJ.3.cell 0 ax;have z1:=iJ.3.cell 1 ax;have z2:=iJ.3.cell 2 ax;have om:=iJ.1.frozen;have hf2:=iJ.3.frozen;simp at x0 x1 x2 z0 z1 z2;have aT:=O iJ.4;clear iJ;go_wp2;refine dQ (v:=ce #[am<|D a,am<|D b,am<|D<|nJ a b sp dp m]) ?_ U ?_;{simp[c_,results218,go_sem,x0,x1,x2,z0,z1,z2]};{exact bd U<|(((fc aT bo _).setCell (by show J w.1<=J w.1+2;omega) _).setCell (by show J w.1<=J w.1+2;omega) _).setCell (by show J w.1<=J w.1+2;omega) _}):φ:=h
def aaV{a b:ap}(t:ap){m:ap}(sp:Nat){dp:Nat}(w:aQ)(L:E a<=1000)(N:E b<=1000)(T:E m<=60000)(Q:sp<65536)(H:dp<65536):a_ aL 218 #[ce #[aS a,aS b,aS t],ce #[M sp,M dp,aS m]] w (cI (ce #[aS a,aS b,aS<|nJ a b sp dp m]) w):=by
 have V:=cV m;let⟨k,C⟩:=bm<|8+E m;have Z:8+(E m:Int)=k:=G;have ab:=od (k:Int)
 have aa:=od (sp:Int)
 have Y:=od (dp:Int)
 have o:ao (∀(e:Nat) (c:aQ),e=J c.1->a_ aL 164 #[bL e 0 3 3] (aN c<|aZ #[cP 259<|ag eO sp,cP 259<|ag eO dp,cP 259<|ag eO k] 275) λi l=>i=bh (aS<|oy sp dp m)/\cv e c l):=λe c j=>by{subst j;have:=xD [fB sp,fB dp,fB k] c (jL (l3 sp Q)<|jL (l3 dp H)<|pC<|l3 k G) ax (by simp[d_,fB]);rw[oy,<-C];exact this};let⟨d,hh⟩:=bm<|oy sp dp m;have I:E d=6:=by rw[hh];rfl
 rw[<-hh]at o;have x:ao (∀(e:Nat) (c:aQ),e=J c.1->a_ aL 164 #[bL e 0 3 3] (aN c<|aZ #[cP 204<|am<|D d,cP 259<|ag eO 0,cP 204<|am<|D m] 275) λi l=>i=bh (aS<|d++[0,0]++m)/\cv e c l):=λe c j=>by{subst j;have:=xD [ev d,fB 0,ev m] c (jL (ka d)<|jL (l3 0 G)<|pC<|ka m) ax AC;rw[show d_ [ev d,fB 0,ev m]=d++[0,0]++m by simp[d_,ev,fB];exact⟨U,U⟩]at this;exact this};have F:=O λc=>Si t (d++[0,0]++m) c L N ct;have n:ao (tX a b sp dp m=if 65535-o_ a b (d++[0,0]++m)=0 then 65535 else 65535-o_ a b (d++[0,0]++m)):=E1
 have p:ao (nJ a b sp dp m=d++[aO<|tX a b sp dp m,cL<|tX a b sp dp m]++m):=E1
 have W:o_ a b (d++[0,0]++m)<=65535:=vf _;generalize o_ a b (d++[0,0]++m)=f at*;generalize d++[0,0]++m=ac at*;let⟨g,B⟩:=bm<|tX a b sp dp m;rw[<-B]at n p;have P:g<65536:=by rw[n];split<;>omega
 have kQ:ao (∀(e:Nat) (c:aQ),e=J c.1->a_ aL 164 #[bL e 0 3 3] (aN c<|aZ #[cP 204<|am<|D d,cP 259<|ag eO g,cP 204<|am<|D m] 275) λi l=>i=bh (aS<|nJ a b sp dp m)/\cv e c l):=λe c j=>by{subst j;have:=xD [ev d,fB g,ev m] c (jL (ka d)<|jL (l3 g P)<|pC<|ka m) ax AC;rw[show d_ [ev d,fB g,ev m]=nJ a b sp dp m by rw[p];simp[d_,ev,fB]]at this;exact this};clear p hh B C I;have u:=O<|vv.aHz w a b t m sp dp;go_in;go_wp2_with fail;refine(o _ _ gB).m ?_;intro ad y;have q:=O<|u.next<|bN y gB;clear y u o;have y2:=q.2.cell 2 ax;simp at y2;go_wp2_with fail;refine(x _ _ gB).m ?_;intro ah z;have h:=O<|q.next z;clear z q x y2;have x0:=h.1.cell 0 ax;have x1:=h.1.cell 1 ax;have x2:=h.1.cell 2 ax;have y2:=h.2.cell 2 ax;simp at x0 x1 x2 y2;go_wp2_with fail;refine(F _).m ?_;intro aj A;have gK:=O<|h.next A;clear A h F x0 x1 x2 y2;have x0:=gK.1.cell 0 ax;have x1:=gK.1.cell 1 ax;have x2:=gK.1.cell 2 ax;have y2:=gK.2.cell 2 ax;simp at x0 x1 x2 y2;by_cases K:f=65535;{
 subst K;have r:g=65535:=by rw[n];rfl
 subst r;exact MB};{
 have r:g=65535-f:=by rw[n,bV G]
 have X:65535-(f:Int)=g:=G;have S:¬(g:Int)=0:=G;have R:=od (g:Int)
 clear r;exact MB}
def F9{b:UInt8}:eY (b::d) l=(bg b,d,l):=rfl
def s4{b c:UInt8}:e4 (b::c::d) l=(bg b*256+bg c,d,l):=rfl
def Sz{a b c e:UInt8}:eP (a::b::c::e::d) l 4=([a,b,c,e],d,l):=by unfold eP;rw[b8 ax];rfl
abbrev nG:List bk:=[am ⟨#[]⟩,am ⟨#[]⟩,am ⟨#[]⟩]
structure xG(w W:World)(s:ap)(bs:Bool)(t:ap)(gF:Bool):Prop where
 z:bq W w.heap.size nG 285
 r:ed W (w.heap.size+1) s bs
 h:ed W (w.heap.size+2) t gF
 size:W.heap.size=w.heap.size+3
 below:a6 w W
def xG.call{i:ap}{gF:Bool}(a:xG f m d l P gF)(j:ed b (J f.1+2) i H)(e:ey (J f.1+2) m b)(k:J b.1=J m.1):xG f b d l i H:=
 ⟨a.1.kept e G,a.2.kept e G,j,cQ k a.4,bC a.5<|e.below G (by have:=a.4;omega)⟩
def aaW(a:ap)(c:Nat)(b:aQ)(g:c=J b.1)(i:E a<=1000):a_ aL 216 #[bL c 0 1 1] (aN b<|aZ #[cP 204<|am<|D a] 275) λe h=>e=bh (M<|hJ<|ci aD a)/\cv c b h:=by subst g;have:=J3 [ev a] b (by intro f d;simp at d;subst d;exact ka a) ax (by simp[d_,ev];omega);rw[show d_ [ev a]=a by simp[d_,ev]]at this;exact this
structure rf(w W:World)(s:ap)(bs:Bool)(a b r:ap):Prop where
 z:bq W w.heap.size nG 285
 Vb:ed W (w.heap.size+1) s bs
 p:bq W (w.heap.size+3) [aS a,aS b,aS r] 285
 below:a6 w W
def xG.next{gF:Bool}(a:xG f b d l P gF)(c e:ap):rf f (aN b<|aZ #[am<|D c,am<|D e,am ⟨#[]⟩] 285) d l c e []:=
 ⟨a.1.alloc _,(dv _ _ _ a.2.lt).trans a.2,by rw[<-a.4];exact bq.fF _ _ _,cf a.5 (by have:=a.4;omega) _⟩
def rf.size{c h:ap}(g:rf b f P l c d h):J b.1+3<J f.1:=g.3.lt
def rf.next{g i:ap}(a:rf b f d l P g i)(h:a6 f m):rf b m d l P g i:=
 ⟨a.1.below h a.1.lt,(h.5 _ a.2.lt).trans a.2,a.3.below h a.3.lt,bC a.4<|bN h (by have:=a.size;omega)⟩
def rf.call{h j k:ap}(a:rf b f d l P h j)(n:ed m (J b.1+1) k H)(i:ey (J b.1+1) f m):rf b m k H P h j:=
 ⟨a.1.kept i G,n,a.3.kept i G,bC a.4<|i.below G (by have:=a.size;omega)⟩
def rf.aHC{e i:ap}(g:rf b f P l d e i)(h:ap):rf b (a7 f ⟨J b.1+3,2,af⟩<|am<|D h) P l d e h:=
 ⟨(dr _ _ _ _ (by show J b.1≠J b.1+3;omega)).trans g.1,(dr _ _ _ _ (by show J b.1+1≠J b.1+3;omega)).trans g.2,g.3.set 2 _,fc g.4 (by show J b.1<=J b.1+3;omega) _⟩
def aaX(c:a<65536):bits .and ai (a:Int) 16383=(a:Int)%16384:=by have b:bits .and ai (a:Int) 16383=((a%16384:Nat):Int):=by{show ai.wrap ((BitVec.ofInt 64 (a:Int) &&& BitVec.ofInt 64 16383).toNat:Int)=_;rw[Iw,uS a G,show(16383:Int)=((16383:Nat):Int)from U,uS 16383 G,show(16383:Nat)=2^14-1 from U,OU];rw[tv];first|omega|(unfold wrap64;omega)};rw[b];omega
def vw(b h:Nat)(e c d:ap)(g:Bool)(a:kP):Prop:=
 if b<28\/h≠65535 then a=bh (bZ #[ce #[am ⟨#[]⟩,am ⟨#[]⟩,am ⟨#[]⟩],aG ak])
 else if b-20<=E e then a=bh (bZ #[ce #[aS c,aS d,aS<|be (b-20) e],aG g])
 else ∃m:ap,a=bh (bZ #[ce #[aS c,aS d,aS m],aG ak])
def Hz(h:φ:=by go_wp2_with fail;go_region;all_goals(go_wp2;refine dQ (v:=bZ #[ce #[am<|D [b12,b13,b14,b15],am<|D [b16,b17,b18,b19],am<|D m],aG<|ak]) ?_ U ?_;{simp[c_,results176,go_sem,z0,z1,z2]};{exact⟨bj _ U,(((aT.drew).setCell bo _).setCell bo _).setCell bo _⟩})):φ:=h
def aaY(i u n o w x q r t h k y b12 b13 b14 b15 b16 b17 b18 b19:UInt8)(j:ap)(e:aQ)(bP:E j<=100000000){M:Nat}(aX:a=bg n*256+bg o)(aM:M=bg q*256+bg r)(Q:c=hJ (ci aD [i,u,n,o,w,x,q,r,t,h,k,y,b12,b13,b14,b15,b16,b17,b18,b19]))(z:l=(bg i==69&&(M%16384==0&&bg h==17))):a_ aL 176 #[aS (i::u::n::o::w::x::q::r::t::h::k::y::b12::b13::b14::b15::b16::b17::b18::b19::j)] e λg bD=>vw a c j [b12,b13,b14,b15] [b16,b17,b18,b19] l g/\a6 e bD:=by
 have aH:=O λbr bd bt=>aaW [i,u,n,o,w,x,q,r,t,h,k,y,b12,b13,b14,b15,b16,b17,b18,b19] br bd bt ax;rw[<-Q]at aH;have aV:=O aX;have a2:=O aM;have K:=O z;have bR:a<65536:=by have:=gp n;have:=gp o;omega
 have bf:M<65536:=by have:=gp q;have:=gp r;omega
 have bK:c<=65535:=by rw[Q];exact vf _
 clear aX aM z Q;have a0:bq (aN (aN e<|aZ #[am ⟨#[]⟩,am ⟨#[]⟩,am ⟨#[]⟩] 285)<|aZ #[am<|D (i::u::n::o::w::x::q::r::t::h::k::y::b12::b13::b14::b15::b16::b17::b18::b19::j),aG ak] 195) (J e.1) nG 285:=(bq.fF e _ _).alloc _;have a3:ed (aN (aN e<|aZ #[am ⟨#[]⟩,am ⟨#[]⟩,am ⟨#[]⟩] 285)<|aZ #[am<|D (i::u::n::o::w::x::q::r::t::h::k::y::b12::b13::b14::b15::b16::b17::b18::b19::j),aG ak] 195) (J e.1+1) (i::u::n::o::w::x::q::r::t::h::k::y::b12::b13::b14::b15::b16::b17::b18::b19::j) ak:=by{have:=cW (aN e<|aZ #[am ⟨#[]⟩,am ⟨#[]⟩,am ⟨#[]⟩] 285)<|aZ #[am<|D (i::u::n::o::w::x::q::r::t::h::k::y::b12::b13::b14::b15::b16::b17::b18::b19::j),aG ak] 195;simpa [ed]using this};have aW:=O<|((cU (J e.1) e).alloc bo<|aZ #[am ⟨#[]⟩,am ⟨#[]⟩,am ⟨#[]⟩] 285).alloc ax<|aZ #[am<|D (i::u::n::o::w::x::q::r::t::h::k::y::b12::b13::b14::b15::b16::b17::b18::b19::j),aG ak] 195;have aB:=O<|pO 20 a3 G ct;rw[show eP (i::u::n::o::w::x::q::r::t::h::k::y::b12::b13::b14::b15::b16::b17::b18::b19::j) ak 20=([i,u,n,o,w,x,q,r,t,h,k,y,b12,b13,b14,b15,b16,b17,b18,b19],j,ak)from by unfold eP;rw[b8 ax];rfl]at aB;have a5:=O a0;clear a0 a3;generalize (i::u::n::o::w::x::q::r::t::h::k::y::b12::b13::b14::b15::b16::b17::b18::b19::j)=bH at*;generalize au:[i,u,n,o,w,x,q,r,t,h,k,y,b12,b13,b14,b15,b16,b17,b18,b19]=ab at*;go_in;go_wp2_with fail;refine eb aB ?_;rintro g Z ⟨rfl,aw,an,aY⟩;have ay:J Z.1=J e.1+2:=by rw[aY];simp
 have V:ao (xG e (aN Z<|aZ #[am<|D ab,aG ak] 195) j ak ab ak):=⟨(a5.kept an G).alloc _,(dv _ _ _ aw.lt).trans aw,by rw[<-ay];exact cW _ _,ct,(bC aW<|an.below G ct).alloc G _⟩;have bc:=O ay;clear aw an aY aB a5 aW;go_wp2_with fail;generalize aN Z (aZ #[am<|D ab,aG ak] 195)=bW at*;clear ay bc Z;rw[<-au]at V;have bF:=O au;clear au;have B:=O<|o0 [i,u,n,o,w,x,q,r,t,h,k,y,b12,b13,b14,b15,b16,b17,b18,b19] ak V.3 ax;rw[F9]at B;refine eb B ?_;rintro g bX ⟨rfl,L,b,d⟩;have aq:=O<|V.call L b d;clear L b d B V;have B:=O<|o0 [u,n,o,w,x,q,r,t,h,k,y,b12,b13,b14,b15,b16,b17,b18,b19] ak aq.3 ax;rw[F9]at B;go_wp2_with fail;refine eb B ?_;rintro g bY ⟨rfl,L,b,d⟩;have al:=O<|aq.call L b d;clear L b d B aq;have B:=O<|lW ak al.3 ax;rw[s4,<-aV]at B;go_wp2_with fail;refine eb B ?_;rintro g b0 ⟨rfl,L,b,d⟩;have ar:=O<|al.call L b d;clear L b d B al;have B:=O<|lW ak ar.3 ax;rw[s4]at B;go_wp2_with fail;refine eb B ?_;rintro g b1 ⟨rfl,L,b,d⟩;have az:=O<|ar.call L b d;clear L b d B ar;have B:=O<|lW ak az.3 ax;rw[s4,<-a2]at B;go_wp2_with fail;refine eb B ?_;rintro g b2 ⟨rfl,L,b,d⟩;have aF:=O<|az.call L b d;clear L b d B az;have B:=O<|o0 [t,h,k,y,b12,b13,b14,b15,b16,b17,b18,b19] ak aF.3 ax;rw[F9]at B;go_wp2_with fail;refine eb B ?_;rintro g b3 ⟨rfl,L,b,d⟩;have aC:=O<|aF.call L b d;clear L b d B aF;have B:=O<|o0 [h,k,y,b12,b13,b14,b15,b16,b17,b18,b19] ak aC.3 ax;rw[F9]at B;go_wp2_with fail;refine eb B ?_;rintro g b4 ⟨rfl,L,b,d⟩;have aJ:=O<|aC.call L b d;clear L b d B aC;have B:=O<|lW ak aJ.3 ax;rw[s4]at B;go_wp2_with fail;refine eb B ?_;rintro g b6 ⟨rfl,L,b,d⟩;have aK:=O<|aJ.call L b d;clear L b d B aJ;have B:=O<|pO 4 aK.3 G ax;rw[Sz]at B;go_wp2_with fail;refine eb B ?_;rintro g b_ ⟨rfl,L,b,d⟩;have aa:=O<|aK.call L b d;clear L b d B aK;have B:=O<|pO 4 aa.3 G ax;rw[Sz]at B;go_wp2_with fail;refine eb B ?_;rintro g aI ⟨rfl,L,b,d⟩;have H:=O<|aa.call L b d;clear L b d B aa;have bm:=H.4;have ac:=O<|H.next [b12,b13,b14,b15] [b16,b17,b18,b19];have a8:=H.1.cell 0 ax;have a9:=H.1.cell 1 ax;have ba:=H.1.cell 2 ax;have bn:=H.1.frozen;simp only[nG,eB,eG]at a8 a9 ba;have S:=O<|(((H.1.set 0<|am ⟨#[]⟩).set 1<|am ⟨#[]⟩).set 2<|am ⟨#[]⟩).alloc<|aZ #[am<|D [b12,b13,b14,b15],am<|D [b16,b17,b18,b19],am ⟨#[]⟩] 285;have aO:=O<|(((fc H.5 bo (p:=⟨J e.1,0,af⟩) (am ⟨#[]⟩)).setCell bo (p:=⟨J e.1,1,af⟩) (am ⟨#[]⟩)).setCell bo (p:=⟨J e.1,2,af⟩) (am ⟨#[]⟩)).alloc (by simp[a7];omega) (aZ #[am<|D [b12,b13,b14,b15],am<|D [b16,b17,b18,b19],am ⟨#[]⟩] 285);clear H aV a2;by_cases bp:a<28;{have bj:ao (∀g:kP,g=bh (bZ #[ce #[am ⟨#[]⟩,am ⟨#[]⟩,am ⟨#[]⟩],aG ak])->vw a c j [b12,b13,b14,b15] [b16,b17,b18,b19] l g):=λg P=>by{unfold vw;rw[b8<|bJ bp];exact P};clear ac;go_wp2;refine dQ (v:=bZ #[ce #[am ⟨#[]⟩,am ⟨#[]⟩,am ⟨#[]⟩],aG ak]) ?_ U ?_;{have bw:aA (aN (a7 (a7 (a7 aI ⟨J e.1,0,af⟩<|am ⟨#[]⟩) ⟨J e.1,1,af⟩<|am ⟨#[]⟩) ⟨J e.1,2,af⟩<|am ⟨#[]⟩)<|aZ #[am<|D [b12,b13,b14,b15],am<|D [b16,b17,b18,b19],am ⟨#[]⟩] 285) (N (J e.1) 0)=ae (am ⟨#[]⟩):=S.cell 0 ax;have bz:aA (aN (a7 (a7 (a7 aI ⟨J e.1,0,af⟩<|am ⟨#[]⟩) ⟨J e.1,1,af⟩<|am ⟨#[]⟩) ⟨J e.1,2,af⟩<|am ⟨#[]⟩)<|aZ #[am<|D [b12,b13,b14,b15],am<|D [b16,b17,b18,b19],am ⟨#[]⟩] 285) (N (J e.1) 1)=ae (am ⟨#[]⟩):=S.cell 1 ax;have bB:aA (aN (a7 (a7 (a7 aI ⟨J e.1,0,af⟩<|am ⟨#[]⟩) ⟨J e.1,1,af⟩<|am ⟨#[]⟩) ⟨J e.1,2,af⟩<|am ⟨#[]⟩)<|aZ #[am<|D [b12,b13,b14,b15],am<|D [b16,b17,b18,b19],am ⟨#[]⟩] 285) (N (J e.1) 2)=ae (am ⟨#[]⟩):=S.cell 2 ax;simp[c_,results176,go_sem,bw,bz,bB]};{exact⟨bj _ U,aO⟩}};have bL:¬(a:Int)<28:=G;go_wp2_with fail;refine(aH _ _ gB).mono ?_;rintro g bI ⟨rfl,aP⟩;have I:=O<|ac.next<|bN aP gB;clear aP ac aH bm a8 a9 ba bn aO S;by_cases Q:c=65535;{
 subst Q;obtain⟨F,bQ⟩:∃F,a=F+20:=⟨a-20,G⟩;have bS:(a:Int)-20=(F:Int):=G;have bT:=aaX bf;have W:=gp i;have Y:=gp h;have B:=O<|pO F I.2 G G;have aj:ao (∀(m:ap) (A:Bool),eP j ak F=(m,(eP j ak F).2.1,A)->∀g:kP,g=bh (bZ #[ce #[aS [b12,b13,b14,b15],aS [b16,b17,b18,b19],aS m],aG<|l && !A])->vw a 65535 j [b12,b13,b14,b15] [b16,b17,b18,b19] l g):=λm A X g P=>by{
 unfold vw;rw[bV G,show a-20=F by omega];unfold eP at X;split at X;{
 rename_i av;rw[b8 av];obtain⟨rfl,rfl⟩:be F j=m/\A=ak:=by simpa using X
 rw[P];simp};{
 rename_i av;rw[bV av];obtain⟨rfl,rfl⟩:m=[]/\A=aD:=by simpa using X
 exact⟨_,by rw[P,Bool.not_true,DC]⟩}};obtain⟨m,a4,A,a1⟩:∃m a4 A,eP j ak F=(m,a4,A):=⟨_,_,_,U⟩;rw[a1]at B aj;have bj:=O<|aj m A U;simp only at B;clear aj a1;go_wp2_with fail;refine eb B ?_;rintro g ca ⟨rfl,L,b,-⟩;have R:=O<|I.call L b;have bM:=R.3.frozen;have bb:=R.3.cell 2 ax;simp only[eB,eG]at bb;have C:=O<|R.aHC m;clear L b B I R;have bU:=C.2.cells.2;have bu:=C.3.cell 0 ax;have bv:=C.3.cell 1 ax;have fa:=C.3.cell 2 ax;have z0:=C.1.cell 0 ax;have z1:=C.1.cell 1 ax;have z2:=C.1.cell 2 ax;have bs:=C.1.frozen;simp only[nG,eB,eG]at z0 z1 z2 bu bv fa;have aT:=O C.4;clear C;by_cases bG:bg i=69;{
 by_cases T:M%16384=0;{
 by_cases ah:bg h=17;{
 have z:l=aD:=by rw[K];simp[bG,T,ah]
 have ad:(bg i:Int)=69:=G;have aR:(M:Int)%16384=0:=G;have aU:(bg h:Int)=17:=G;subst z;rw[uN]at bj;clear K bG T ah W Y;go_wp2_with fail;go_region;all_goals(go_wp2;refine dQ (v:=bZ #[ce #[am<|D [b12,b13,b14,b15],am<|D [b16,b17,b18,b19],am<|D m],aG<|!A]) ?_ U ?_;{simp[c_,results176,go_sem,z0,z1,z2]};{exact⟨bj _ U,(((aT.drew).setCell bo _).setCell bo _).setCell bo _⟩})};{
 have z:l=ak:=by rw[K];simp[ah]
 have ad:(bg i:Int)=69:=G;have aR:(M:Int)%16384=0:=G;have aU:¬(bg h:Int)=17:=G;have hN:((bg h:Int)==17)=ak:=by simpa using aU
 subst z;rw[uM]at bj;clear K bG T W Y;exact Hz}};{
 have z:l=ak:=by rw[K];simp[T]
 have ad:(bg i:Int)=69:=G;have aR:¬(M:Int)%16384=0:=G;subst z;rw[uM]at bj;clear K bG W Y;exact Hz}};{
 have z:l=ak:=by rw[K];simp[bG]
 have ad:¬(bg i:Int)=69:=G;subst z;rw[uM]at bj;clear K W Y;exact Hz}};{
 have bl:¬(c:Int)=65535:=G;have bO:((c:Int) != 65535)=aD:=by simpa using bl
 have bj:ao (∀g:kP,g=bh (bZ #[ce #[am ⟨#[]⟩,am ⟨#[]⟩,am ⟨#[]⟩],aG ak])->vw a c j [b12,b13,b14,b15] [b16,b17,b18,b19] l g):=λg P=>by{unfold vw;rw[b8<|bE Q];exact P};have z0:=I.1.cell 0 ax;have z1:=I.1.cell 1 ax;have z2:=I.1.cell 2 ax;have bs:=I.1.frozen;simp only[nG,eB,eG]at z0 z1 z2;have aT:=O I.4;go_wp2;refine dQ (v:=bZ #[ce #[am ⟨#[]⟩,am ⟨#[]⟩,am ⟨#[]⟩],aG ak]) ?_ U ?_;{simp[c_,results176,go_sem,z0,z1,z2]};{exact⟨bj _ U,((fc aT bo _).setCell bo _).setCell bo _⟩}}
structure vx(w W:World)(a b r s:ap)(bs:Bool):Prop where
 p:bq W w.heap.size [aS a,aS b,aS r] 285
 z:bq W (w.heap.size+1) [M 0,M 0,.string ⟨#[]⟩] 322
 r:ed W (w.heap.size+2) s bs
 size:W.heap.size=w.heap.size+3
 below:a6 w W
def vx.call{i s j gF}(a:vx f m d P i s l)(k:ed b (J f.1+2) j gF)(e:ey (J f.1+2) m b)(n:J b.1=J m.1):vx f b d P i j gF:=
 ⟨a.1.kept e G,a.2.kept e G,k,cQ n a.4,bC a.5<|e.below G (by have:=a.4;omega)⟩
def vx.aHH(a:aQ)(b c r:ap):vx a (aN (aN (aN a<|aZ #[am<|D b,am<|D c,am<|D r] 285)<|aZ #[ag ai 0,ag ai 0,am ⟨#[]⟩] 322)<|aZ #[am<|D r,aG ak] 195) b c r r ak where
 p:=((bq.fF a _ _).alloc _).alloc _
 z:=by
  have:=(bq.fF (aN a<|aZ #[am<|D b,am<|D c,am<|D r] 285) [M 0,M 0,am ⟨#[]⟩] 322).alloc (aZ #[am<|D r,aG ak] 195)
  simp_all
 r:=by
  have:=cW (aN (aN a<|aZ #[am<|D b,am<|D c,am<|D r] 285)<|aZ #[ag ai 0,ag ai 0,am ⟨#[]⟩] 322)<|aZ #[am<|D r,aG ak] 195;simpa [ed]using this
 size:=ax
 below:=((cf cc bo _).alloc ax _).alloc ct _
structure xH(w W:World)(a b r s:ap)(bs:Bool)(sp dp:Nat)(m:ap):Prop where
 p:bq W w.heap.size [aS a,aS b,aS r] 285
 z:bq W (w.heap.size+1) [M 0,M 0,.string ⟨#[]⟩] 322
 r:ed W (w.heap.size+2) s bs
 d:bq W (w.heap.size+3) [M sp,M dp,aS m] 322
 size:W.heap.size=w.heap.size+4
 below:a6 w W
def xH.call{j s k i gF}(n:xH f m d P j s l a c i)(o:ed b (J f.1+2) k gF)(h:ey (J f.1+2) m b)(p:J b.1=J m.1):xH f b d P j k gF a c i:=
 ⟨n.1.kept h G,n.2.kept h G,o,n.4.kept h G,cQ p n.5,bC n.6<|h.below G (by have:=n.5;omega)⟩
def vx.next{h s}(a:vx f b P d h s l)(i g:Nat):xH f (aN b<|aZ #[ag ai i,ag ai g,am ⟨#[]⟩] 322) P d h s l i g []:=
 ⟨a.1.alloc _,a.2.alloc _,(dv _ _ _ a.3.lt).trans a.3,by rw[<-a.4];exact bq.fF _ _ _,by have:=a.4;simp;omega,cf a.5 (by have:=a.4;omega) _⟩
def xH.arc{j s m}(h:xH b f d P j s l a c m)(i):xH b (a7 f ⟨J b.1+3,2,af⟩<|am<|D i) d P j s l a c i:=
 ⟨(dr _ _ _ _ ax).trans h.1,(dr _ _ _ _ ax).trans h.2,(dr _ _ _ _ ax).trans h.3,h.4.set 2 _,by have:=h.5;simp_all,fc h.6 ax _⟩
def xI(g d a e:Nat)(c:ap)(h:Nat)(b:kP):Prop:=
 if a<8\/E c<a-8 then b=bh (bZ #[ce #[M 0,M 0,am ⟨#[]⟩],aG ak])
 else b=bh (bZ #[ce #[M g,M d,aS<|be (a-8) c],aG<|e==0||h==65535])
def aaZ(H bG I K cB fe fJ C r o)(aj:E d<=1000)(A:E P<=1000)(aR:E r<=100000){w q}(aV:a=bg H*256+bg bG)(au:c=bg I*256+bg K)(aT:g=bg cB*256+bg fe)(e:w=bg fJ*256+bg C)(R:q=o_ d P (be g (H::bG::I::K::cB::fe::fJ::C::r))):a_ aL 217 #[ce #[aS d,aS P,aS (H::bG::I::K::cB::fe::fJ::C::r)]] o λi j=>xI a c g w r q i/\a6 o j:=by
 have aq:=O aV;have aa:=O au;have ab:=O aT;have X:=O e;have bI:g<65536:=by have:=gp cB;have:=gp fe;omega
 have a9:w<65536:=by have:=gp fJ;have:=gp C;omega
 have a5:q<=65535:=by rw[R];exact vf _
 let⟨k,u⟩:=bm (H::bG::I::K::cB::fe::fJ::C::r);have bz:E k=8+E r:=by grind
 have a3:=cV k;rw[<-u]at R⊢;have ar:=O (λa4=>Si k (be g k) a4 aj A<|by grind);rw[<-R]at ar;have ah:=O<|vx.aHH o d P k;have Z:=O u;clear aV au aT e R u;go_in;go_wp2_with fail;rw[show J o.1+1+1=J o.1+2 from U];generalize aN (aN (aN o<|aZ #[am<|D d,am<|D P,am<|D k] 285)<|aZ #[ag ai 0,ag ai 0,am ⟨#[]⟩] 322) (aZ #[am<|D k,aG ak] 195)=bU at*;have t:=O<|lW ak ah.3 G;rw[Z,s4,<-aq]at t;refine eb t ?_;rintro i bW ⟨rfl,u,e,h⟩;have ad:=O<|ah.call u e h;clear u e h t ah;have t:=O (lW ak ad.3<|by grind);rw[s4,<-aa]at t;go_wp2_with fail;refine eb t ?_;rintro i bK ⟨rfl,u,e,h⟩;have ac:=O<|ad.call u e h;clear u e h t ad;have bB:=ac.4;have W:=O<|ac.next a c;clear ac;go_wp2_with fail;generalize aN bK (aZ #[ag ai a,ag ai c,am ⟨#[]⟩] 322)=u0 at*;clear bB;have t:=O (lW ak W.3<|by grind);rw[s4,<-ab]at t;refine eb t ?_;rintro i u1 ⟨rfl,u,e,h⟩;have ap:=O<|W.call u e h;clear u e h t W;have t:=O (lW ak ap.3<|by grind);rw[s4,<-X]at t;go_wp2_with fail;refine eb t ?_;rintro i u2 ⟨rfl,u,e,h⟩;have l:=O<|ap.call u e h;clear u e h t ap;by_cases aM:g<8
 ·have S:=l.2.cell 0 ax;have T:=l.2.cell 1 ax;have V:=l.2.cell 2 ax;have bw:=l.2.frozen;simp at S T V;have Y:=O l.6;go_wp2;refine dQ (v:=bZ #[ce #[ag ai 0,ag ai 0,am ⟨#[]⟩],aG ak]) (by simp[c_,results217,go_sem,S,T,V]) U ⟨?_,?_⟩
  ·unfold xI;grind
  ·exact((fc Y ax _).setCell ax _).setCell ax _
 obtain⟨z,aU⟩:∃z,g=z+8:=⟨g-8,G⟩
 have aW:(g:Int)-8=(z:Int):=G;have aw:¬(g:Int)<8:=G;have ay:=O aU;have bS:z<=65536:=G;clear aU;have t:=O<|pO z l.3 G G;by_cases n:z<=E r
 ·rw[eP,b8 n]at t;have B:ao (∀i:kP,i=bh (bZ #[ce #[M a,M c,aS<|be z r],aG<|w==0||q==65535])->xI a c g w r q i):=λi bv=>by
   unfold xI;grind
  generalize be z r=m at*;go_wp2_with fail;refine eb t ?_;rintro i u3 ⟨rfl,u,e,h⟩;have p:=O<|(l.call u e h).arc m;have aY:=(l.call u e h).4.frozen;have Q:=(l.call u e h).4.cell 2 ax;simp at Q;clear u e h t l;have aX:=p.3.cells.2;have av:g<=E k:=G;have al:(D k).extract 0 g=D (be g k):=wS k g av;go_wp2_with fail;clear aY Q;generalize a7 u3 ⟨J o.1+3,2,af⟩ (am<|D m)=u4 at*;have az:(aA (bx u4) (N (J o.1) 0)=ae (aS d)/\aA (bx u4) (N (J o.1) 1)=ae (aS P)/\aA (bx u4) (N (J o.1) 2)=ae (aS k)/\aA (bx u4) (N (J o.1+3) 0)=ae (M a)/\aA (bx u4) (N (J o.1+3) 1)=ae (M c)/\aA (bx u4) (N (J o.1+3) 2)=ae (aS m)):=by
   have b:=p;exact⟨b.1.cell 0 ax,b.1.cell 1 ax,b.1.cell 2 ax,b.4.cell 0 ax,b.4.cell 1 ax,b.4.cell 2 ax⟩
  have aB:(aA u4 (N (J o.1) 0)=ae (aS d)/\aA u4 (N (J o.1) 1)=ae (aS P)/\aA u4 (N (J o.1) 2)=ae (aS k)/\aA u4 (N (J o.1+1) 0)=ae (M 0)/\aA u4 (N (J o.1+1) 1)=ae (M 0)/\aA u4 (N (J o.1+1) 2)=ae (am ⟨#[]⟩)/\aA u4 (N (J o.1+3) 0)=ae (M a)/\aA u4 (N (J o.1+3) 1)=ae (M c)/\aA u4 (N (J o.1+3) 2)=ae (aS m)/\gd u4 (N (J o.1+1) 0)=ak/\gd u4 (N (J o.1+1) 1)=ak/\gd u4 (N (J o.1+1) 2)=ak/\a6 o u4):=by
   have b:=p;exact⟨b.1.cell 0 ax,b.1.cell 1 ax,b.1.cell 2 ax,b.2.cell 0 ax,b.2.cell 1 ax,b.2.cell 2 ax,b.4.cell 0 ax,b.4.cell 1 ax,b.4.cell 2 ax,b.2.frozen 0,b.2.frozen 1,b.2.frozen 2,b.6⟩
  have aC:ao (a_ aL 247 #[ce #[aS d,aS P,aS k],aS<|be g k] (bx u4) λi j=>i=bh (M q)/\(aA j (N (J o.1) 0)=ae (aS d)/\aA j (N (J o.1) 1)=ae (aS P)/\aA j (N (J o.1) 2)=ae (aS k)/\aA j (N (J o.1+3) 0)=ae (M a)/\aA j (N (J o.1+3) 1)=ae (M c)/\aA j (N (J o.1+3) 2)=ae (aS m))/\(aA j (N (J o.1+1) 0)=ae (M 0)/\aA j (N (J o.1+1) 1)=ae (M 0)/\aA j (N (J o.1+1) 2)=ae (am ⟨#[]⟩)/\gd j (N (J o.1+1) 0)=ak/\gd j (N (J o.1+1) 1)=ak/\gd j (N (J o.1+1) 2)=ak/\a6 o j)):=by
   refine(ar<|bx u4).mono ?_;rintro i j ⟨rfl,A⟩;have b:=p;let⟨bp,bq,br,bs,bt,bu⟩:=az;have y:∀(x:gU) (v:bk),aA (bx u4) x=ae v->aA j x=ae v:=λx v b=>(A.cell<|g_ (bx u4) x b).trans b;have an:∀x:gU,x.1<J u4.1->gd j x=gd u4 x:=λx al=>sN<|A.5 x.1 al;exact⟨U,⟨y _ _ bp,y _ _ bq,y _ _ br,y _ _ bs,y _ _ bt,y _ _ bu⟩,y _ _<|b.2.cell 0 ax,y _ _<|b.2.cell 1 ax,y _ _<|b.2.cell 2 ax,(an _ b.2.lt).trans<|b.2.frozen 0,(an _ b.2.lt).trans<|b.2.frozen 1,(an _ b.2.lt).trans<|b.2.frozen 2,bC b.6.drew<|bN A b.6.4⟩
  clear ar p aX;by_cases aO:w=0
  ·let⟨bd,bf,bj,aI,aJ,aK,bl,bn,bo,ba,bb,bc,L⟩:=aB;have Y:=O L.drew;clear L aC az;subst aO;clear aq aa ab X a5 bI a9 aM aW aw n bz a3 al aR aj A Z av ay
   go_region
   all_goals
    go_wp2;refine dQ (v:=bZ #[ce #[ag ai a,ag ai c,am<|D m],aG aD]) ?_ U ?_
    ·simp[c_,results217,go_sem,aI,aJ,aK]
    ·refine⟨B _ U,?_⟩;exact((fc Y ax _).setCell ax _).setCell ax _
  ·have bL:¬(w:Int)=0:=G;have bO:((w:Int)==0)=ak:=by grind
   have aP:(w==0||q==65535)=(q==65535):=by grind
   rw[aP]at B;let⟨bd,bf,bj,aI,aJ,aK,bl,bn,bo,ba,bb,bc,L⟩:=aB;clear aq aa ab X aM aW aw n aR aj A Z aP aO L ay
   go_region_held (λj=>(aA j (N (J o.1) 0)=ae (aS d)/\aA j (N (J o.1) 1)=ae (aS P)/\aA j (N (J o.1) 2)=ae (aS k)/\aA j (N (J o.1+3) 0)=ae (M a)/\aA j (N (J o.1+3) 1)=ae (M c)/\aA j (N (J o.1+3) 2)=ae (aS m))) (first|assumption|go_keep)
    (first|(go_at_call 247;go_loud (refine eb aC ?_;rintro i j ⟨rfl,bR,bD,bF,bH,bP,bT,bQ,aF⟩)))
   all_goals
    have a8:=O aF;have aH:((q:Int)==65535)=(q==65535):=by
     grind
    rw[<-aH]at B;clear aF aH;go_wp2;refine dQ (v:=bZ #[ce #[ag ai a,ag ai c,am<|D m],aG<|(q:Int)==65535]) ?_ U ?_
    ·simp[c_,results217,go_sem,bD,bF,bH]
    ·refine⟨B _ U,?_⟩;exact((fc a8 ax _).setCell ax _).setCell ax _
 ·rw[eP,bV n]at t;have B:ao (∀i:kP,i=bh (bZ #[ce #[M 0,M 0,am ⟨#[]⟩],aG ak])->xI a c g w r q i):=λi bv=>by
   unfold xI;grind
  go_wp2_with fail;refine eb t ?_;rintro i u3 ⟨rfl,u,e,h⟩;have p:=O<|(l.call u e h).arc [];have aY:=(l.call u e h).4.frozen;have Q:=(l.call u e h).4.cell 2 ax;simp at Q;have F:=(l.call u e h).2;have S:=F.cell 0 ax;have T:=F.cell 1 ax;have V:=F.cell 2 ax;have bw:=F.frozen;simp only[eB,eG]at S T V;have a0:=p.2.cell 0 ax;have a1:=p.2.cell 1 ax;have a2:=p.2.cell 2 ax;have bM:=p.2.frozen;simp only[eB,eG]at a0 a1 a2;clear u e h t l F;have aX:=p.3.cells.2;go_wp2;refine dQ (v:=bZ #[ce #[ag ai 0,ag ai 0,am ⟨#[]⟩],aG ak]) ?_ U ?_
  ·simp[c_,results217,go_sem,a0,a1,a2]
  ·exact⟨B _ U,((fc p.6 ax _).setCell ax _).setCell ax _⟩
abbrev mm(a b c:ap):bk:=ce #[aS a,aS b,aS c]
abbrev Kt(b a:Nat)(m:ap):bk:=ce #[M b,M a,aS m]
abbrev mI(a b:ap)(c:Nat)(d:ap):bk:=ce #[aS a,aS b,M c,aS d]
structure oz(w W:World)(a b r:ap):Prop where
 p:bq W w.heap.size [aS a,aS b,aS r] 285
 z:bq W (w.heap.size+1) [.string ⟨#[]⟩,.string ⟨#[]⟩,.string ⟨#[]⟩] 285
 below:a6 w W
def oz.size{g:ap}(e:oz b f P d g):J b.1+1<J f.1:=e.2.lt
def oz.next{h:ap}(a:oz b f d P h)(g:a6 f m):oz b m d P h:=
 ⟨a.1.below g a.1.lt,a.2.below g a.2.lt,bC a.3<|bN g (by have:=a.size;omega)⟩
def oz.alloc{c:ap}(g:oz b f P c d)(h:Obj):oz b (aN f h) P c d:=g.next<|cf cc bo _
def oz.ahh(a:aQ)(b c d:ap):oz a (aN (aN a<|aZ #[am<|D b,am<|D c,am<|D d] 285)<|aZ #[am ⟨#[]⟩,am ⟨#[]⟩,am ⟨#[]⟩] 285) b c d where
 p:=(bq.fF a _ _).alloc _
 z:=by
  have:=bq.fF (aN a<|aZ #[am<|D b,am<|D c,am<|D d] 285) [am ⟨#[]⟩,am ⟨#[]⟩,am ⟨#[]⟩] 285;simpa using this
 below:=(cf cc bo _).alloc ax _
def oz.zero{k:ap}(g:oz b f d P k)(h:Obj)(j c i:bk):bq (aN (a7 (a7 (a7 f ⟨J b.1+1,0,af⟩ j) ⟨J b.1+1,1,af⟩ c) ⟨J b.1+1,2,af⟩ i) h) (J b.1+1) [j,c,i] 285/\a6 b (aN (a7 (a7 (a7 f ⟨J b.1+1,0,af⟩ j) ⟨J b.1+1,1,af⟩ c) ⟨J b.1+1,2,af⟩ i) h):=
 ⟨(((g.2.set 0 j).set 1 c).set 2 i).alloc h,(((fc g.3 (by show J b.1<=J b.1+1;omega) _).setCell (by show J b.1<=J b.1+1;omega) _).setCell (by show J b.1<=J b.1+1;omega) _).alloc (by have:=g.size;simp[a7];omega) _⟩
def M9(h:φ:=by go_wp2;let⟨r0,r1,r2⟩:=R;refine dQ (v:=bZ #[ce #[am ⟨#[]⟩,am ⟨#[]⟩,am ⟨#[]⟩],aG ak]) ?_ U ?_;{simp[c_,results177,go_sem,r0,r1,r2]};{exact bd U dh.2}):φ:=h
def S9{g j m:ap}(a i:Nat)(u:l=ak\/i≠53)(r:∀z,a_ aL 217 #[mm d g j] z<|cI (bZ #[Kt a i m,aG l]) z):a_ aL 177 #[mm d g j,e] b (cI (bZ #[mm [] [] [],aG ak]) b):=by
 let n:=O r;let q:=O<|oz.ahh b d g j;let p:=O u;go_in;go_wp21;refine(n _).m λk t=>?_;let c:=O<|q.next t;have w:=c.2.cell 0 ax;have x:=c.2.cell 1 ax;have y:=c.2.cell 2 ax;let C:=c.2.frozen;simp only[eB,eG]at w x y;let F:=c.size;let dh:=O<|c.zero (aZ #[ag ai a,ag ai i,am<|D m] 322) (am ⟨#[]⟩) (am ⟨#[]⟩)<|am ⟨#[]⟩;let r0:bY (aN (a7 (a7 (a7 k ⟨J b.1+1,0,af⟩<|am ⟨#[]⟩) ⟨J b.1+1,1,af⟩<|am ⟨#[]⟩) ⟨J b.1+1,2,af⟩<|am ⟨#[]⟩)<|aZ #[ag ai a,ag ai i,am<|D m] 322) (J b.1+1) 0 (am ⟨#[]⟩):=dh.1.cell 0 ax;let r1:bY (aN (a7 (a7 (a7 k ⟨J b.1+1,0,af⟩<|am ⟨#[]⟩) ⟨J b.1+1,1,af⟩<|am ⟨#[]⟩) ⟨J b.1+1,2,af⟩<|am ⟨#[]⟩)<|aZ #[ag ai a,ag ai i,am<|D m] 322) (J b.1+1) 1 (am ⟨#[]⟩):=dh.1.cell 1 ax;let r2:bY (aN (a7 (a7 (a7 k ⟨J b.1+1,0,af⟩<|am ⟨#[]⟩) ⟨J b.1+1,1,af⟩<|am ⟨#[]⟩) ⟨J b.1+1,2,af⟩<|am ⟨#[]⟩)<|aZ #[ag ai a,ag ai i,am<|D m] 322) (J b.1+1) 2 (am ⟨#[]⟩):=dh.1.cell 2 ax;let R:=O<|cj r0<|cj r1 r2;cases l with
 |false=>{exact M9}
 |true=>{
 let A:i≠53:=by{rcases p with h|h;{cases h};{exact h}};let o:¬(i:Int)=53:=G;let B:((i:Int) != 53)=aD:=by simpa using o
 exact M9}
structure B7(w W:World)(a b r:ap)(db sp:Nat)(m:ap):Prop where
 pa:oz w W a b r
 d:bq W db [M sp,M 53,aS m] 322
def B7.next{i j:ap}(e:B7 f b d P i g a j)(h:a6 b m):B7 f m d P i g a j:=⟨e.1.next h,e.2.below h e.2.lt⟩
def abp{a b i m:ap}{w:aQ}(F:E a<=1000)(H:E b<=1000)(N:g<65536)(M:d≠[])(z:E d<=60000)(B:∀c,a_ aL 217 #[mm a b i] c<|cI (bZ #[Kt g 53 m,aG aD]) c)(C:∀c,a6 w c->a_ aL 14 #[e,aS m] c (cI (aS d) c)):a_ aL 177 #[mm a b i,e] w (cI (bZ #[mm b a<|nJ b a 53 g d,aG aD]) w):=by
 have t:=O B;have u:=O C;have A:=O<|oz.ahh w a b i;have T:(D d).toList.isEmpty=ak:=by{
 rw[gC];cases d with
 |nil=>exact absurd U M
 |cons ab Z=>rfl};have r:=O λc=>aaV [] 53 c H F z G N;go_in;go_wp21;refine(t _).m λj I=>?_;have l:=A.next I;have X:=l.size;have k:B7 w (aN j<|aZ #[ag ai g,ag ai 53,am<|D m] 322) a b i (J j.1) g m:=⟨l.alloc _,bq.fF _ _ _⟩;have y:=O k;have R:=O<|u _ k.1.3;go_wp21;refine R.m λS K=>?_;have q:=O<|y.next K;generalize J j.1=V at*;have P:=q.1.1.cell 0 ax;have Q:=q.1.1.cell 1 ax;have cS:=q.2.cell 0 ax;have x:=q.2.cell 1 ax;simp only[eB,eG]at P Q cS x;let Y:=q.2.lt;go_wp21;refine(r<|aN S<|aZ #[am<|D b,am<|D a,am ⟨#[]⟩] 285).m λaa L=>?_;let h:=((q.1.alloc<|aZ #[am<|D b,am<|D a,am ⟨#[]⟩] 285).next L);have n:=h.2.cell 0 ax;have o:=h.2.cell 1 ax;have p:=h.2.cell 2 ax;let W:=h.2.frozen;simp only[eB,eG]at n o p;let aT:=O h.3;go_wp2;refine dQ (v:=bZ #[ce #[am<|D b,am<|D a,am<|D<|nJ b a 53 g d],aG aD]) ?_ U ?_;{simp[c_,results177,go_sem,n,o,p]};{exact Me}
abbrev jW(a b:ap):bk:=ce #[aS a,aS b]
structure mX(w W:World)(a b:ap)(k:Nat)(r aB ip:ap):Prop where
 f:bq W w.heap.size [aS a,aS b,M k,aS r] 128
 c:bq W (w.heap.size+1) [aS aB,aS ip] 47
 below:a6 w W
def mX.size{e j h:ap}{i:Nat}(g:mX b f P e i j d h):J b.1+1<J f.1:=g.2.lt
def mX.next{k g i:ap}(h:mX b f d P a k g i)(j:a6 f m):mX b m d P a k g i:=
 ⟨h.1.below j h.1.lt,h.2.below j h.2.lt,bC h.3<|bN j (by have:=h.size;omega)⟩
def mX.alloc{c h e:ap}(j:mX b f P c g h d e)(k:Obj):mX b (aN f k) P c g h d e:=j.next<|cf cc bo _
def mX.IJ(a:aQ)(b e:ap)(h:Nat)(i d g:ap):mX a (aN (aN a<|aZ #[am<|D b,am<|D e,ag ai h,am<|D i] 128)<|aZ #[am<|D d,am<|D g] 47) b e h i d g where
 f:=(bq.fF a _ _).alloc _
 c:=by
  have:=bq.fF (aN a<|aZ #[am<|D b,am<|D e,ag ai h,am<|D i] 128) [aS d,aS g] 47;simpa using this
 below:=(cf cc bo _).alloc ax _
def FN{k j n:ap}(w:∀h,a_ aL 176 #[aS k] h λl u=>(∃c o g:ap,l=bh (bZ #[mm c o g,aG ak]))/\a6 h u):a_ aL 120 #[mI d P a k,e,jW j n] b (cI (am ⟨#[]⟩) b):=by let q:=O<|mX.IJ b d P a k j n;replace w:=O w;go_in;go_wp21;refine(w _).mono ?_;rintro l x ⟨⟨c,o,g,rfl⟩,t⟩;let r:=q.next t;let p:=O (r.alloc<|aZ #[am<|D c,am<|D o,am<|D g] 285).3;go_wp2;go_ret;exact bd U p
def S_{n j k g h:ap}(t:∀o,a_ aL 176 #[aS n] o<|cI (bZ #[mm g k h,aG aD]) o)(z:∀o,a6 b o->a_ aL 177 #[mm g k h,e] o (cI (bZ #[mm [] [] [],aG ak]) o)):a_ aL 120 #[mI d P a n,e,jW j k] b (cI (am ⟨#[]⟩) b):=by let q:=O t;let w:=O z;let x:=O<|mX.IJ b d P a n j k;go_in;go_wp21;refine(q _).m λF A=>?_;let l:=x.next A;let c:=l.alloc<|aZ #[am<|D g,am<|D k,am<|D h] 285;let C:=O<|w _ c.3;have bG:=l.2.cell 1 ax;have r:=c.2.cell 1 ax;simp only[eB,eG]at bG r;let u:=O c;go_wp21;refine C.m λG B=>?_;let y:=u.next B;let p:=O (y.alloc<|aZ #[am<|D [],am<|D [],am<|D []] 285).3;go_wp2;go_ret;exact bd U p
def abq{A i w h q x y c e:ap}{I:bk}(ab:E i<=1000)(ac:E h<=1000)(ad:E c<=1000)(ah:E d<=1000)(aj:E e<=60000)(T:∀g,a_ aL 176 #[aS w] g<|cI (bZ #[mm x q y,aG aD]) g)(Y:∀g,a6 b g->a_ aL 177 #[mm x q y,I] g (cI (bZ #[mm c d e,aG aD]) g)):a_ aL 120 #[mI A i a w,I,jW h q] b (cI (aS<|i++h++[8,0]++oN c d e) b):=by
 let Q:=O T;let V:=O Y;let W:=O<|mX.IJ b A i a w h q;let K:E (oN c d e)<=100000:=by simp[oN,pi];omega
 let L:=O λg=>abj g ad ah aj;let P:ao (∀g,a_ aL 175 #[ce #[aS i,aS h,M 2048,aS<|oN c d e]] g<|cI (aS<|i++h++[8,0]++oN c d e) g):=λg=>Sj 2048 g ab ac K G;go_in;go_wp21;refine(Q _).m λar Z=>?_;let C:=W.next Z;let t:=C.alloc<|aZ #[am<|D x,am<|D q,am<|D y] 285;let aq:=O<|V _ t.3;have bG:=C.2.cell 1 ax;have S:=t.2.cell 1 ax;simp only[eB,eG]at bG S;let U:=O t;go_wp21;refine aq.m λH aa=>?_;let X:=U.next aa;let p:=O<|X.alloc<|aZ #[am<|D c,am<|D d,am<|D e] 285;let au:bY (bx<|aN H<|aZ #[am<|D c,am<|D d,am<|D e] 285) (J b.1) 1 (aS i)/\bY (bx<|aN H<|aZ #[am<|D c,am<|D d,am<|D e] 285) (J b.1+1) 0 (aS h)/\bY (bx<|aN H<|aZ #[am<|D c,am<|D d,am<|D e] 285) (J H.1) 0 (aS c)/\bY (bx<|aN H<|aZ #[am<|D c,am<|D d,am<|D e] 285) (J H.1) 1 (aS d)/\bY (bx<|aN H<|aZ #[am<|D c,am<|D d,am<|D e] 285) (J H.1) 2 (aS e)/\a6 b (bx<|aN H<|aZ #[am<|D c,am<|D d,am<|D e] 285):=by
  let u:=bq.fF H [aS c,aS d,aS e] 285;exact⟨p.1.cell 1 ax,p.2.cell 0 ax,u.cell 0 ax,u.cell 1 ax,u.cell 2 ax,p.3.drew⟩
 let z:ao (∀g j:aQ,(bY g (J b.1) 1 (aS i)/\bY g (J b.1+1) 0 (aS h)/\bY g (J H.1) 0 (aS c)/\bY g (J H.1) 1 (aS d)/\bY g (J H.1) 2 (aS e)/\a6 b g)->a6 g j->(bY j (J b.1) 1 (aS i)/\bY j (J b.1+1) 0 (aS h)/\bY j (J H.1) 0 (aS c)/\bY j (J H.1) 1 (aS d)/\bY j (J H.1) 2 (aS e)/\a6 b j)):=λg j l F=>by
  let r:∀(o:gU) (v:bk),aA g o=ae v->aA j o=ae v:=λo v B=>(F.cell<|g_ g o B).trans B;exact⟨r _ _ l.1,r _ _ l.2.1,r _ _ l.2.2.1,r _ _ l.2.2.2.1,r _ _ l.2.2.2.2.1,bC l.2.2.2.2.2<|bN F l.2.2.2.2.2.4⟩
 have al:=p.1.cell 1 ax;have an:=p.2.cell 0 ax;simp only[eB,eG]at al an;go_wp2
 go_region_held (λk=>aA k (N (J b.1) 1)=ae (aS i)/\aA k (N (J b.1+1) 0)=ae (aS h)/\aA k (N (J H.1) 0)=ae (aS c)/\aA k (N (J H.1) 1)=ae (aS d)/\aA k (N (J H.1) 2)=ae (aS e)/\a6 b k) (first|assumption|go_keep)
  (first
   |(go_at_call 178;go_loud (refine(L _).m λk n=>?_;replace n:=z _ _ fi n))
   |(go_at_call 175;go_loud (refine(P _).m λk n=>?_;replace n:=z _ _ fi n)))
 all_goals
  let R:=O n.2.2.2.2.2;go_wp2;go_ret;exact⟨eQ (λo=>bh<|aS o) ax,R⟩
def abr{l h g:ap}(n:a≠2054)(o:a≠2048):a_ aL 54 #[mI P l a h,e,jW d g] b (cI (am ⟨#[]⟩) b):=by
 let i:=O (mX.IJ b P l a h d g).3;let j:¬(a:Int)=2054:=G;let k:¬(a:Int)=2048:=G;let:((a:Int)==2054)=ak:=by simpa using j
 let:((a:Int)==2048)=ak:=by simpa using k
 go_wp2;go_ret;exact bd U i
def abs{a h g k:ap}(p:∀l,a6 b l->a_ aL 120 #[mI P a 2048 h,e,jW d g] l (cI (aS k) l)):a_ aL 54 #[mI P a 2048 h,e,jW d g] b (cI (aS k) b):=by let j:=mX.IJ b P a 2048 h d g;let i:=O j.3;let o:=O<|p _ j.3;go_in;go_wp21;refine o.m λr q=>?_;let n:=O<|bC i<|bN q i.4;go_wp2;go_ret;exact bd U n
def abt{c t j h:ap}(p:∀i,a_ aL 53 #[aS P] i<|cI (bZ #[mI c t a j,aG ak]) i):a_ aL 18 #[e,jW d h,aS P] b (cI (am ⟨#[]⟩) b):=by let l:=O p;let o:=(cU (J b.1) b).alloc bo<|aZ #[am<|D d,am<|D h] 47;let n:=O o;go_in;go_wp21;refine(l _).m λu q=>?_;let g:=bC n<|bN q ax;let r:=g.4;let k:=O<|cf g r<|aZ #[am<|D c,am<|D t,ag ai a,am<|D j] 128;go_wp2;go_ret;exact bd U k
def abu{a h F c:ap}(w:a≠F)(j:a≠[255,255,255,255,255,255])(y:∀i,a_ aL 53 #[aS P] i<|cI (bZ #[mI a d g h,aG aD]) i):a_ aL 18 #[e,jW F c,aS P] b (cI (am ⟨#[]⟩) b):=by
 let q:=O y;let x:=(cU (J b.1) b).alloc bo<|aZ #[am<|D F,am<|D c] 47;let u:=O x;let o:=O<|bq.fF b [aS F,aS c] 47;let A:¬(D a).toList=(D F).toList:=by rw[gC,gC];exact w
 let B:¬(D a).toList=[255,255,255,255,255,255]:=by rw[gC];exact j
 let C:¬(D a).toList=(⟨#[255,255,255,255,255,255]⟩:ByteArray).toList:=by rw[gC,gC];exact j
 let:((D a).toList==(D F).toList)=ak:=by simpa using A
 let:((D a).toList==[255,255,255,255,255,255])=ak:=by simpa using B
 let G:((D a).toList==(⟨#[255,255,255,255,255,255]⟩:ByteArray).toList)=ak:=by rw[ju];exact C
 go_in;go_wp21;refine(q _).m λH l=>?_;let k:=bC u<|bN l ax;let z:=k.4;let p:=O<|cf k z<|aZ #[am<|D a,am<|D d,ag ai g,am<|D h] 128;let n:=o.below l ax;have r:=n.cell 0 ax;have t:=(n.alloc<|aZ #[am<|D a,am<|D d,ag ai g,am<|D h] 128).cell 0 ax;simp only[eB]at r t;go_wp2;go_ret;exact bd U p
def abv{h a c p:ap}(F:∀q,a_ aL 53 #[aS P] q<|cI (bZ #[mI a d g h,aG aD]) q)(B:∀q,a6 b q->a_ aL 54 #[mI a d g h,e,jW a c] q (cI (aS p) q)):a_ aL 18 #[e,jW a c,aS P] b (cI (aS p) b):=by let u:=O F;let C:=(cU (J b.1) b).alloc bo<|aZ #[am<|D a,am<|D c] 47;let A:=O C;let r:=O<|bq.fF b [aS a,aS c] 47;let z:=O B;go_in;go_wp21;refine(u _).m λK o=>?_;let k:=bC A<|bN o ax;let H:=k.4;let l:=cf k H<|aZ #[am<|D a,am<|D d,ag ai g,am<|D h] 128;let I:=O<|z _ l;let j:=O l;let i:=r.below o ax;let n:=i.alloc<|aZ #[am<|D a,am<|D d,ag ai g,am<|D h] 128;have w:=i.cell 0 ax;have bG:=i.cell 1 ax;have x:=n.cell 0 ax;have y:=n.cell 1 ax;simp only[eB,eG]at w x bG y;go_wp21;refine I.m λL G=>?_;let t:=O<|bC j<|bN G j.4;go_wp2;go_ret;exact bd U t
def abA(b:a+1<E d)(c:a%2=0):ci aD (be (a+2) d)=ci aD (be a d)+cD d a:=by rw[aaL b c,cD,iA,iA,fs G,fs b];rfl
def B8(s a):cD s a<=65535:=by have:=gp<|s.getD a 0;have:=gp<|s.getD (a+1) 0;unfold cD;omega
def FP(c g)(P:E c<=10000000):a_ aL 58 #[aS c] g (cI (M<|hJ<|ci aD c) g):=by
 have:=cV c;let⟨a,d⟩:=bm<|if E c%2=1 then c++[0]else c;have o:E a<=100000000/\E a%2=0/\ci aD a=ci aD c:=by{rw[d];split;{refine⟨by grind,by grind,?_⟩;rw[J1];cases ve aD (E c)<;>rfl};omega};let⟨o,p,t⟩:=o;have:=cV a;have n:=O<|cj p t;have w:=O d;clear p t d;go_in;go_upto_if 8 with fail;go_cut [0]from 5 λv I=>v=aS a/\g=I;·(
 have d:=w;by_cases u:E c%2=1;{
 have A:(E c:Int)%2=1:=G;rw[b8 u]at d;have K:D c++⟨#[0]⟩=D a:=by rw[d];rfl
 clear d;go_wp2;go_meet;simp};{have A:¬(E c:Int)%2=1:=G;rw[bV u]at d;subst d;go_wp2;go_meet;simp})
 case rest=>
 obtain⟨rfl,rfl⟩:=hcut;go_wp2;go_loopw [3,4] (λH l wr=>∃b:Nat,H=M (hJ (ci aD<|be b a):Nat)/\l=M b/\b%2=0/\b<=E a/\a6 g wr) λ_ l _=>E a-(intOf l).toNat;·exact⟨0,U,U,U,dJ _,cU _ _⟩
 ·(
 obtain⟨b,rfl,rfl,B,N,e⟩:=hrel;have C:=e.4;replace e:=O e;by_cases Q:b<E a;{
 have r:b+1<E a:=cd n.1
 have y:=O<|Qy wr r G;have k:=O<|abA r B;have F:=B8 a b;generalize cD a b=h at*;have i:=O<|SB (ci aD<|be b a) h F;have:=vf<|ci aD<|be b a;rw[<-k]at i;generalize hJ (ci aD<|be b a)=f at*;go_wp2_with fail;refine y.m λR z=>?_;have q:=O<|bC e<|bN z C;by_cases L:65535<(f:Int)+h;{have j:ao ((f:Int)+(h:Int)-65535=((hJ (ci aD<|be (b+2) a):Nat):Int)):=by{have:=V i;rw[ao];omega};go_wp2;rw[j];exact bd (⟨b+2,U,dd,G,G,q⟩) dz};{have j:ao ((f:Int)+(h:Int)=((hJ (ci aD<|be (b+2) a):Nat):Int)):=by{have:=V i;rw[ao];omega};go_wp2;rw[j];exact bd (⟨b+2,U,dd,G,G,q⟩) dz}};{
 have x:b=E a:=G;subst x;have k:ao (hJ (ci aD<|be (E a) a)=hJ (ci aD c)):=by rw[ao,jc,n.2]
 generalize hJ (ci aD<|be (E a) a)=f at*;go_wp2;go_ret;exact⟨by rw[k];rfl,e⟩})
def ix(a b):∃c,c=a++b/\D a++D b=D c/\b7 (D c)=b7 (D a)+b7 (D b):=⟨_,U,qF a b,by rw[cV,cV,cV,dj]⟩
def SP(b c)(a:Nat)(g)(p:a<65536)(u:E b<=1000)(w:E c<=1000):a_ aL 59 #[aS b,aS c,M a] g (cI (aS<|b++c++[0,17]++[aO a,cL a]) g):=by
 have:=cV b;have:=cV c;let⟨h,j,r,q⟩:=ix b c;let⟨d,k,i,n⟩:=ix h [0,17];let⟨f,l,t,_⟩:=ix d [aO a,cL a];have:D h++⟨#[0,17]⟩=D d:=i;have:b7 (D [aO a,cL a])=2:=U;have x:b7 (D d)<=3000:=by rw[n,q,cV,cV,cV];grind
 have o:=O<|nW a g p;rw[<-j,<-k,<-l];clear j k l n i;go_in;go_wp2_with fail;refine o.m λy e=>?_;replace e:=O e;go_wp2;go_ret;exact bd U e
def nE(v b:bk):Prop:=∀a,bA v=ae a->bA b≠ae a
def NF(h:φ:=by{intro h;let:=vZ b' h;rcases kF with h|h<;>omega}):φ:=h
def Mt(h:φ:=by rw[ht]at e3;go_wp2;go_ret2;refine⟨U,⟨eU,bX,?_,?_,?_,?_⟩,hb3⟩;{rw[e1];exact gK};{rw[e2];exact eM};{rw[e3];exact ih _ _ _ _};{exact λg _ h2=>by cases h2}):φ:=h
def L5(h:φ:=by rw[ht]at e3;go_wp21;refine eb HD ?_;rintro e w4 ⟨v4,rfl,mV,hb4⟩;obtain⟨a4,cB,rfl⟩:=mV.slice;let ja:=gK.kept<|hb4.5 sb Tk;let⟨z0,z1,z2,z3,z4,z5,z6,z7⟩:=ja.cells;let g5:=ja.frozen 5;let S5:=O<|ja.ub<|aE a4 (E<|jw o rs) cB;let Ac:=O<|(eM.below hb4).ri (k:=sb) (i:=5) G (aE a4 (E<|jw o rs) cB);let wG:=O<|mV.ri (k:=sb) (i:=5) Tk (aE a4 (E<|jw o rs) cB);let hb5:cv sb w (a7 w4 ⟨sb,5,af⟩<|aE a4 (E<|jw o rs) cB):=(bC hb3<|bN hb4<|show sb<=_ by omega).setCell (p:=⟨sb,5,af⟩) (cO sb) _;go_wp2;go_ret2;refine⟨U,⟨eU,aE a4 (E<|jw o rs) cB,?_,?_,?_,?_⟩,hb5⟩;{rw[e1];exact S5};{rw[e2];exact Ac};{rw[e3];exact wG.base G};{exact λg h1 h2=>by let k1:=(eM.ue g h1).2;have k2:=(wG.ue g h2).1;omega}):φ:=h
def L2(h:φ:=by
 let Bq:(0:Int)<(E (fm o rs n):Int):=G;have e1:ao (lP o rs n=0):=by rw[lP,ao,bV hc]
 have e2:ao (mv o rs k n=[]):=by rw[mv,ao,bV hc]
 have e3:ao (nf o rs k n=fm o rs n):=by rw[nf,ao,bV hc]
 go_in;go_wp21;refine eb HC ?_;rintro e w1 ⟨⟨v1,rfl,o5⟩,hb1⟩;let Ey:=O<|GU (o5.rv (dh.below hb1).2.2.2.2) hcl;obtain⟨a1,bG,rfl⟩:=o5.slice;go_wp21;refine eb Ey ?_;rintro e w4 ⟨v4,rfl,mV,hb4⟩;obtain⟨a4,cB,rfl⟩:=mV.slice;let oD:=bC hb1<|bN hb4 hb1.4;let ja:=uZ w4 oD;let⟨z0,z1,z2,z3,z4,z5,z6,z7⟩:=ja.cells;let g5:=ja.frozen 5;let S5:=O<|ja.ub<|aE a4 (E<|fm o rs n) cB;let Ac:=O<|(HO.below oD).ri (k:=sb) (i:=5) G (aE a4 (E<|fm o rs n) cB);let wG:=O<|mV.ri (k:=sb) (i:=5) (cd hb1.4) (aE a4 (E<|fm o rs n) cB);let hb5:cv sb w (a7 w4 ⟨sb,5,af⟩<|aE a4 (E<|fm o rs n) cB):=(bN oD<|show sb<=_ by omega).setCell (p:=⟨sb,5,af⟩) (cO sb) _;go_wp2;go_ret2;refine⟨U,⟨va,aE a4 (E<|fm o rs n) cB,?_,?_,?_,?_⟩,hb5⟩;{rw[e1];exact S5};{rw[e2];simpa using V Ac};{rw[e3];exact wG.base<|cd hb1.4};{exact λg h1 h2=>by let k1:=(vZ g h1).2;have k2:=(wG.ue g h2).1;let:=hb1.4;omega}):φ:=h
def NB(h:φ:=by
 rw[hm]at e1 e2 e3;go_in;go_wp21;refine eb HC ?_;rintro e w1 ⟨⟨v1,rfl,o5⟩,hb1⟩;obtain⟨a1,bG,rfl⟩:=o5.slice;let⟨t0,t1,_⟩:=(uZ w1 hb1).cells;go_wp21;refine(cA w1 hb1).mono ?_;rintro e w2 ⟨⟨v2,rfl,hv2⟩,hb2⟩;rw[hm];let fQ:=bC hb1<|bN hb2 hb1.4;let hs2:=uZ w2 fQ;let⟨u0,u1,u2,u3,u4,u5,u6,u7⟩:=hs2.cells;let:=hs2.frozen 2;let S3:=O<|hs2.set2 3;let hs3:=hs2.set2 3;let⟨y0,_⟩:=hs3.cells;let hb3:cv sb w (a7 w2 ⟨sb,2,af⟩<|ag ai 3):=(bN fQ<|show sb<=J w.1 by omega).setCell (p:=⟨sb,2,af⟩) (cO sb) _;let hz3:=dh.low hb3 hzs cY;let HD:=O<|GV hz3 hlen bT;let eM:=O<|(HO.below fQ).ri (k:=sb) (i:=2) G (M 3);let yI:J (a7 w2 ⟨sb,2,af⟩<|ag ai 3).1=J w2.1:=by simp[a7]
 go_wp21;refine eb HD ?_;rintro e w4 ⟨v4,rfl,mV,hb4⟩;obtain⟨a4,cB,rfl⟩:=mV.slice;let ja:=S3.kept<|hb4.5 sb<|yI▸eA xA fQ.4;let⟨z0,z1,z2,z3,z4,z5,z6,z7⟩:=ja.cells;let g5:=ja.frozen 5;let S5:=O<|ja.ub<|aE a4 (E<|jw o rs) cB;let Ac:=O<|(eM.below hb4).ri (k:=sb) (i:=5) G (aE a4 (E<|jw o rs) cB);let wG:=O<|mV.ri (k:=sb) (i:=5) (yI▸eA xA fQ.4) (aE a4 (E<|jw o rs) cB);let hb5:cv sb w (a7 w4 ⟨sb,5,af⟩<|aE a4 (E<|jw o rs) cB):=(bC hb3<|bN hb4 (show sb<=_ by rw[yI];let:=fQ.4;omega)).setCell (p:=⟨sb,5,af⟩) (cO sb) _;go_wp2;go_ret2;refine⟨U,⟨va,aE a4 (E<|jw o rs) cB,?_,?_,?_,?_⟩,hb5⟩;{rw[e1];exact S5};{rw[e2];simpa using V Ac};{rw[e3];exact wG.base (by rw[yI];let:=fQ.4;omega)};{exact λg h1 h2=>by let k1:=(vZ g h1).2;have k2:=(wG.ue g h2).1;rw[yI]at k2;let:=fQ.4;omega}):φ:=h
def Wt{sb y ay Q:Nat}{k:Int}{va D:bk}{o n:ap}{rs:List aK}{w:aQ}(u:fV w sb c k 0 l va D r a)(A:dH w (sb+1) va x)(aq:D=bX)(B:gJ w c o y ay Q rs)(z:dx w)(hzs:c<sb)(cY:y<sb)(av:0<sb)(an:tR o rs)(Z:E n<=2900)(X:E x<=90000)(L:∀b∈jb (dF rs o) 6,xm b/\E b.data<=3000/\b.aP<=1000000000)(T:(k==5)=ak)(aj:(k==255)=ak)(H:E (fm o rs n)=0->(d3 rs n).2=aD->oM (d3 rs n).1=ak)(C:E (d3 rs n).1<=3001):a_ aL 188 #[bv sb,aS n] w λe j=>e=bh (bZ #[am ⟨#[]⟩,aG ak])/\(∃eU t,fV j sb c k (lP o rs n) l eU t r a/\dH j (sb+1) eU (x++mv o rs k n)/\dH j (sb+1) t (nf o rs k n)/\nE eU t)/\cv sb w j:=by
 subst aq;let⟨hlen,S,ad⟩:=an;let ar:(k != 5)=aD:=by rw[bne,T];rfl
 let au:(k != 255)=aD:=by rw[bne,aj];rfl
 let xA:=u.lt;let aa:=A.ue;let⟨aB,aC,_⟩:=u.cells;let HO:=O A;let dh:=O B;let I:=O z;let bT:=O L;let HC:=O<|DB n B z hlen G S;let uZ:ao (∀q,a6 w q->fV q sb c k 0 l va (bX) r a):=λq d=>u.kept<|d.5 sb xA;let vZ:=O aa;let hcl:=cJ (Qv o rs n) hlen;by_cases hc:E (fm o rs n)=0;{
 let Bq:¬(0:Int)<(E (fm o rs n):Int):=G;let K:=O<|H hc;have e1:ao (lP o rs n=if(d3 rs n).2 then 0 else 3):=by rw[lP,ao,b8 hc]
 have e2:ao (mv o rs k n=if(d3 rs n).2 then kZ k (d3 rs n).1 else []):=by rw[mv,ao,b8 hc]
 have e3:ao (nf o rs k n=if(d3 rs n).2 then(if tw k (d3 rs n).1 then []else jw o rs)else jw o rs):=by rw[nf,ao,b8 hc]
 let cA:=O λq (d:a6 w q)=>IE (dh.below d) (I.below d) hlen Z λb ab=>(ad b ab).1;cases hm:(d3 rs n).2;{
 exact NB};{
 rw[hm]at e1 e2 e3;go_in;go_wp21;refine eb HC ?_;rintro e w1 ⟨⟨v1,rfl,o5⟩,hb1⟩;obtain⟨a1,bG,rfl⟩:=o5.slice;let⟨t0,t1,_⟩:=(uZ w1 hb1).cells;go_wp21;refine(cA w1 hb1).mono ?_;rintro e w2 ⟨⟨v2,rfl,hv2⟩,hb2⟩;rw[hm];let fQ:=bC hb1<|bN hb2 hb1.4;let hs2:=uZ w2 fQ;let⟨u0,u1,u2,u3,u4,u5,u6,u7⟩:=hs2.cells;have F:=O<|Qu hv2.rv C;let⟨b',ax,W,ac,kF⟩:=hv2;let:=hb1.4;let N:b'≠sb:=by rcases kF with h|h<;>omega
 let P:bA va≠ae b':=NF;let R:=O<|Py hs2 (HO.below fQ) W ac N P C X;rw[K hm]at F;go_wp21;refine F.m ?_;rintro w2 rfl;go_wp21;refine R.m λaF ⟨⟨eU,hs3,al⟩,Y⟩=>?_;let hb3:=(bN fQ<|show sb<=J w.1 by omega).trans<|Y.below (λah aw=>bd G<|λh=>cd<|V vZ ah<|b5 h) (cd fQ.4);let gK:=O hs3;let eM:=O al;let⟨y0,_,_,_,_,az,_,_⟩:=hs3.cells;let Tk:=hs3.lt;let hz3:=dh.low hb3 hzs cY;let HD:=O<|GV hz3 hlen bT;cases ht:tw k (d3 rs n).1;{exact L5};{exact Mt}}};{
 exact L2}
def Wu{sb y ay N:Nat}{k:Int}{va:bk}{o n:ap}{rs:List aK}(q:List aK){w:aQ}(u:fV w sb c k 0 l va C r a)(A:dH w (sb+1) va q)(al:C=bX)(B:gJ w c o y ay N rs)(z:dx w)(hzs:c<sb)(cY:y<sb)(aq:0<sb)(aj:tR o rs)(X:E n<=2900)(S:E q<=90000)(I:∀b∈jb (dF rs o) 6,xm b/\E b.data<=3000/\b.aP<=1000000000)(W:k=5\/k=255)(ad:E (d3 rs n).1<=3001):a_ aL 188 #[bv sb,aS n] w λe j=>e=bh (bZ #[am ⟨#[]⟩,aG ak])/\(∃eU t,fV j sb c k (lP o rs n) l eU t r a/\dH j (sb+1) eU (q++mv o rs k n)/\dH j (sb+1) t (nf o rs k n)/\nE eU t)/\cv sb w j:=by
 subst al;let⟨hlen,Q,ab⟩:=aj;have H:(k != 5)=ak\/((k != 5)=aD/\(k != 255)=ak):=by{rcases W with h|h;{left;rw[h];rfl};{right;rw[h];exact bd rfl rfl}};let xA:=u.lt;let Y:=A.ue;let⟨aw,ax,_⟩:=u.cells;let HO:=O A;let dh:=O B;let D:=O z;let bT:=O I;let HC:=O<|DB n B z hlen G Q;let uZ:ao (∀x,a6 w x->fV x sb c k 0 l va (bX) r a):=λx d=>u.kept<|d.5 sb xA;let vZ:=O Y;let hcl:=cJ (Qv o rs n) hlen;by_cases hc:E (fm o rs n)=0;{
 let Bq:¬(0:Int)<(E (fm o rs n):Int):=G;have e1:ao (lP o rs n=if(d3 rs n).2 then 0 else 3):=by rw[lP,ao,b8 hc]
 have e2:ao (mv o rs k n=if(d3 rs n).2 then kZ k (d3 rs n).1 else []):=by rw[mv,ao,b8 hc]
 have e3:ao (nf o rs k n=if(d3 rs n).2 then(if tw k (d3 rs n).1 then []else jw o rs)else jw o rs):=by rw[nf,ao,b8 hc]
 let cA:=O λx (d:a6 w x)=>IE (dh.below d) (D.below d) hlen X λb Z=>(ab b Z).1;cases hm:(d3 rs n).2;{
 exact NB};{
 rw[hm]at e1 e2 e3;go_in;go_wp21;refine eb HC ?_;rintro e w1 ⟨⟨v1,rfl,o5⟩,hb1⟩;obtain⟨a1,bG,rfl⟩:=o5.slice;let⟨t0,t1,_⟩:=(uZ w1 hb1).cells;go_wp21;refine(cA w1 hb1).mono ?_;rintro e w2 ⟨⟨v2,rfl,hv2⟩,hb2⟩;rw[hm];let fQ:=bC hb1<|bN hb2 hb1.4;let hs2:=uZ w2 fQ;let⟨u0,u1,u2,u3,u4,u5,u6,u7⟩:=hs2.cells;let⟨b',au,R,aa,kF⟩:=hv2;let:=hb1.4;let K:b'≠sb:=by rcases kF with h|h<;>omega
 let L:bA va≠ae b':=NF;let P:=O<|Py hs2 (HO.below fQ) R aa K L ad S;rcases H with F|⟨F,an⟩;all_goals(go_wp21;refine P.m λaz ⟨⟨eU,hs3,ah⟩,T⟩=>?_;let hb3:=(bN fQ<|show sb<=J w.1 by omega).trans<|T.below (λac ar=>bd G<|λh=>cd<|V vZ ac<|b5 h) (cd fQ.4);let gK:=O hs3;let eM:=O ah;let⟨y0,_,_,_,_,av,_,_⟩:=hs3.cells;let Tk:=hs3.lt;let hz3:=dh.low hb3 hzs cY;let HD:=O<|GV hz3 hlen bT;cases ht:tw k (d3 rs n).1;{exact L5};{exact Mt})}};{
 exact L2}
def fK(b:ap)(c:List aK)(e:Int)(first g:Bool)(d:List aK)(a:ap):Int×Bool×List aK×List aK×Option ap:=
 if fx a b=ak then((if first then 5 else 0),g,d,[],af)
 else if(fm b c a).length≠0 then(0,g || !first,d,fm b c a,af)
 else match (if e=5\/e=255 then af else i6 b c a)with
  |some h=>if E d=8 then(2,aD,[],[],af)else(0,aD,d++[h],[],ae h.data)
  |none=>(lP b c a,aD,d++mv b c e a,nf b c e a,af)
def Yv(e:aQ)(g:Nat->Prop)(v d:bk):Option ap->Prop
 |none=>v=bX
 |some a=>d=bX/\∃b c,v=bL b 0 (E<|cE a) c/\E (cE a)<=c/\gR e b 0 (cE a)/\¬g b
def Rm(c:Nat->Prop)(i b:aQ)(d:Nat)(a:Int×Bool×List aK×List aK×Option ap)(j:kP):Prop:=
 ∃e g v,j=bh v/\fC b d a.1 a.2.1 e g (bX)/\ek c b (d+1) e a.2.2.1/\ek c b (d+1) g a.2.2.2.1/\Yv b (λh=>c h\/ae h=bA e) v g a.2.2.2.2/\cv (J i.1) i b
section
def Yw(a:Option gU)(d c:Nat)(b:aQ):(binOp .eql 92 (aE a d c)<|bX).run aL b=.ok (aG a.isNone) b:=LF b _ _ a d c 0 0 yk
attribute [local go_sem] Yw
section
variable {o n:ap} {L ans:List aK} {t:Int}{first aa:Bool} (hu:fx n o=true)
include hu
theorem Eu(a:E (fm o L n)≠0):fK o L t first aa ans n=(0,aa || !first,ans,fm o L n,af):=by rw[fK,bV<|by simp[hu],b8 a]
theorem JO(a:fm o L n=[])(b:(d3 L n).2=ak):fK o L t first aa ans n=(3,aD,ans,jw o L,af):=by
 let c:i6 o L n=af:=by rw[i6,bV<|by simp[b]]
 rw[fK,bV<|by simp[hu],bV<|by simp[a],c,ite_self];simp[lP,mv,nf,a,b]
omit hu in
theorem Yx{a:aK}(d:fm o L n=[])(e:(d3 L n).2=aD)(b:(d3 L n).1=[a])(c:oM [a]=aD):i6 o L n=ae a:=by rw[i6,b8 ⟨by rw[d];rfl,e,b▸c⟩,b];rfl
theorem BN{a:aK}(c:fm o L n=[])(d:i6 o L n=ae a)(e:t≠5)(g:t≠255)(b:E ans≠8):fK o L t first aa ans n=(0,aD,ans++[a],[],ae a.data):=by rw[fK,bV<|by simp[hu],bV<|by simp[c],bV G,d];show(if _ then _ else _)=_;rw[bV b]
theorem Ev{d:aK}(b:fm o L n=[])(c:i6 o L n=ae d)(e:t≠5)(g:t≠255)(a:E ans=8):fK o L t first aa ans n=(2,aD,[],[],af):=by rw[fK,bV<|by simp[hu],bV<|by simp[b],bV G,c];show(if _ then _ else _)=_;rw[b8 a]
theorem JP(b:fm o L n=[])(d:(d3 L n).2=aD)(e:(t=5\/t=255)\/i6 o L n=af):fK o L t first aa ans n=(0,aD,ans++kZ t (d3 L n).1,if tw t (d3 L n).1 then []else jw o L,af):=by let c:(if t=5\/t=255 then af else i6 o L n)=af:=by{rcases e with a|a;{rw[b8 a]};{rw[a,ite_self]}};rw[fK,bV<|by simp[hu],bV<|by simp[b],c];simp[lP,mv,nf,b,d]
end
def Yy(a:oo i s=ae F):E F<=E s+1:=by
 let h:∀f d,pq i s d f=ae F->E F<=E s+1:=by{
 intro f;induction f with
 |zero=>intro d a;cases a
 |succ f g=>{intro d a;unfold pq at a;split at a;{split at a;{let:=gm a;rw[<-this];simp};{cases a}};{exact g _ a}}};unfold oo at a;split at a;{let:=gm a;rw[<-this];omega};{exact h _ _ a}
def Nl(h:φ:=by have dO:=O bK;obtain⟨da,dc,rfl⟩:=mJ.slice;have y0:=S7.cells;have rD:=S7.frozen;clear S7 mJ ej bK u0 afi;go_wp2;go_ret;exact dO):φ:=h
def ts(h:φ:=by show ab<ab+1;omega):φ:=h
def NM(h:φ:=by
 have⟨v8,w8,hrun,wO,jR,Nc⟩:=AQ (V Gn) (V Ap) (λk hk h=>h) G G λk hk=>cd<|V ZE k hk;rw[ff]at hrun;have Nd:ae ab≠bA (aE mZ (E ans) ac):=λe=>cd<|(HO.lt ab<|b5 e).1
 have S8:=pS.kept<|jR.5 ab G Nd;have HZ:=O<|bC hE ⟨jR.1,jR.2,jR.3,jR.4,λk hk=>jR.5 k (cd hE.4) λe=>cd<|(HO.lt k<|b5 e).1⟩;have Qr:=O wO;have⟨a8,mO,wP⟩:=wO.slice;rw[dj,ff]at wP;subst wP;have y0:=S8.cells;have rD:=S8.frozen;have xM:=O S8;have aU:=O<|V Ug;have uu:=O hrun;go_wp2_with (at_builtin;go_loud (refine uw dl (.tmp 127) (.tmp 128) 94 dl dl dl (V uu) ?_));go_ret;rw[V aU,bV jQ];exact⟨_,_,_,U,xM.set2 _,Qr.set (a:=⟨ab,2,af⟩) _ (V uv) (by show ab<ab+1;omega),ek.nil _ _ _,U,fc HZ (p:=⟨ab,2,af⟩) hab _⟩):φ:=h
def Mf(h:φ:=by have wN:=O<|NW (W:=w6) (x:=X) (base:=ab+1) (V Qq) (V bT) (Ai _ hE) (V Ki) G;go_wp21;refine eb wN ?_;rintro e w7 ⟨⟨vd,rfl,mJ⟩,ej⟩;have S7:=pS.kept<|ej.5 ab G;have HY:=O<|Gn.below ej;have vh:=O<|bC hE<|bN ej hE.4;obtain⟨da,dc,rfl⟩:=mJ.slice;have y0:=S7.cells;have rD:=S7.frozen;have Nb:=O mJ;have vk:=O S7;go_wp2;go_ret;rw[V aU,hnil];refine⟨_,_,_,U,vk.lM _,?_,?_,U,fc vh (p:=⟨ab,3,af⟩) hab _⟩;{rw[sv,kW];exact HY.set (a:=⟨ab,3,af⟩) _ (V uv) (by show ab<ab+1;omega)};{exact Nb.set (a:=⟨ab,3,af⟩) _ (V uv) (by show ab<ab+1;omega)}):φ:=h
def MA(h:φ:=by have hnil:=hq EU;have aU:=O<|V Ug;exact Mf):φ:=h
def Yz{ab bH o:Nat}{n:ap}{ans:List aK}(t:Int)(first:Bool){X:Nat->Prop}(cx:lu b c d i)(aW:cv (J b.1) b u)(c9:X ab)(db:∀k,k<J b.1->¬X k)(dd:∀k,J u.1<=k->k≠ab->¬X k)(c0:∀k,X k->k<=ab)(aI:hW d i)(aM:cv (J u.1) u f)(hab:J u.1<=ab)(aT:fC f ab 0 l r (bX)<|bX)(cp:ek X f (ab+1) r ans)(d5:E ans<=8)(cn:gR f g bH<|cE n)(a0:E (cE n)<=o)(b6:g≠ab)(dw:¬X g)(bt:ae g≠bA r)(dM:gD n)(ey:E n<=260):a_ aL 160 #[bv c,bv ab,bL g bH (E<|cE n) o,M t,aG first] f λe q=>Rm X u q ab (fK d (ck i) t first l ans n) e:=by
 have cw:=cx.below aW;have cF:=Fs aI;have dE:=pr aI;have eN:0<E (cE n):=by rw[rU];exact uK n
 have ew:E (cE n)<=261:=by have:=nM 46 n;rw[rU];omega
 have dL:=nD cF.1;have bl:=O cw;have Qq:=O cx;have Ai:ao (∀W,cv (J u.1) u W->cv (J b.1) b W):=λW bq=>bC aW<|bN bq aW.4;have eB:=aW.4;have bc:=O cF;have a1:=O dE;have bT:=O aI;have dD:=O aM;have c2:=O aT;have HO:=O cp;have dA:=O cn;have cN:=O dM;have dv:=aT.lt;have dP:=aM.4;obtain⟨mZ,ac,rfl⟩:=cp.slice;have eK:=aT.cells;have eL:=aT.frozen;obtain⟨cL,ei,ay,cap,cS,bR,eV,eW⟩:=cw;have dV:=(dK.1 cS).1;have d4:=aM.5 c dV;have eX:aA f (N c 0)=ae cL:=by unfold aA;rw[d4,cS];rfl
 have c3:ao (a_ aL 95 #[bL g bH (E<|cE n) o,cL] f<|cI (aG<|fx n d) f):=by{have:=Eo ⟨g,bH,o,U,a0,cn⟩ (bR.below aM) G dL<|uK d;rw[Yd<|CN aI.1]at this;exact this};have d9:=O bR;obtain⟨d7,d8,d_,rfl,_,_⟩:=bR;have uv:=O c9;have Ki:=O db;have de:=O dd;have ZE:=O c0;have cA:=O dw;generalize F:E (cE n)=C at*;go_in;go_wp21;refine c3.m λbI ar=>?_;have ez:=ar.4;have a3:=c2.kept<|ar.5 ab dv;have bM:=O<|HO.below ar;have aq:=O<|bC dD<|bN ar dP;have cD:=O<|dA.below ar;have eM:=a3.cells;have eP:=a3.frozen;have bm:=O a3;cases y:fx n d with
 |false=>{
 have aU:ao (fK d (ck i) t first l ans n=((if first then 5 else 0),l,ans,[],af)):=by{rw[ao,fK,b8 y]};cases first with
 |false=>{go_wp2;go_ret;rw[V aU];exact⟨_,_,_,U,bm,bM,ek.nil _ _ _,U,aq⟩}
 |true=>{go_wp2;go_ret;rw[V aU];exact⟨_,_,_,U,bm.set0 5,bM.set _ (V uv) ts,ek.nil _ _ _,U,fc aq (p:=⟨ab,0,af⟩) hab _⟩}}
 |true=>{
 have an:ao (∀W,cv (J u.1) u W->ab<J W.1->∀(s:ap) (bB:bk) (aY:Int),fG W bB (cE s)->E (cE s)<=1000->gR W g bH (cE n)->a_ aL 207 #[bv c,bB,M aY,bL g bH C o] W λe q=>(∃v,e=bh v/\ek (λk=>X k\/ae k=bA (aE mZ (E ans) ac)) q (J W.1) v (b9 (gw n)<|f_ i s aY))/\cv (J W.1) W q):=λW bq ev s bB aY y S dG=>by{refine Ja (V Qq) (V bT) (Ai W bq) (λk hk R=>?_) bo aY y S ⟨g,bH,o,by rw[F],F▸a0,dG,λR=>R.elim (V cA) bt⟩;rcases R with R|R;{exact Ki k hk R};{have:=(HO.lt k<|b5 R).1;omega}};have dx:ao (a_ aL 206 #[bv c,bL g bH C o] bI λe q=>(∃v,e=bh v/\((v=bX/\fm d (ck i) n=[])\/∃H,H<C/\v=bL g (bH+H) (C-H) (o-H)/\fm d (ck i) n=fY i (ia n H) 2/\fY i (ia n H) 2≠[]))/\cv (J bI.1) bI q):=by{have aJ:=(Jn y).1;rw[<-rU n]at aJ;rw[ao,<-F];refine(XR o (bl.below aq) (V bc) (V cD) (F▸a0) G aJ).mono ?_;rintro e q ⟨⟨v,rfl,z⟩,br⟩;refine bd (⟨v,U,?_⟩) br;rcases XZ z with⟨rfl,cy⟩|⟨H,cy,cz,rfl⟩<;>rcases Fr (V a1) (V cN) y with⟨bG,Q⟩|⟨eD,em,bG,Q,bf⟩;{exact bJ<|bd U Q};{rw[cy]at bG;cases bG};{rw[cz]at bG;cases bG};{rw[cz]at bG;obtain rfl:=gm bG;exact bE ⟨H,G,U,Q,bf⟩}};go_wp21;refine eb dx ?_;rintro e aa ⟨⟨eS,rfl,dS⟩,au⟩;have eA:=au.4;have a4:=bm.kept<|au.5 ab G;have b0:=O<|bM.below au;have bb:=O<|bC aq<|bN au aq.4;have cJ:=O<|cD.below au;have u0:=a4.cells;have afi:=a4.frozen;have ci:=O a4;rcases dS with⟨rfl,hcut⟩|⟨H,aO,rfl,hcut,dk⟩;{
 have a5:=ci.set1 aD;have c4:=O<|b0.set (a:=⟨ab,1,af⟩) (aG aD) (V uv) ts;have bj:=O<|fc bb (p:=⟨ab,1,af⟩) hab (aG aD);have cT:=O<|cJ.fr (p:=λk=>k≠ab) (co.j9 (a:=⟨ab,1,af⟩) (aG aD) λ_ h=>h) b6;have cr:J (a7 aa ⟨ab,1,af⟩<|aG aD).1=J aa.1:=mo
 have dy:ao (a_ aL 208 #[bv c,bL g bH C o] (a7 aa ⟨ab,1,af⟩<|aG aD) λe q=>(∃v,e=bh v/\((v=bX/\(d3 (ck i) n).2=ak)\/∃s,fG q v (cE s)/\E (cE s)<=1000/\(d3 (ck i) n).2=aD/\(d3 (ck i) n).1=b9 (gw n) (dF (ck i) s)))/\cv (J (a7 aa ⟨ab,1,af⟩<|aG aD).1) (a7 aa ⟨ab,1,af⟩<|aG aD) q):=by{rw[ao,<-F];refine(XW o (bl.below bj) (V bc) (V cT) (F▸a0) G G).mono ?_;rintro e q ⟨⟨v,rfl,z⟩,br⟩;refine bd (⟨v,U,?_⟩) br;rcases Jp (V a1) (V cN)with⟨bG,Q⟩|⟨s,bG,Q,bf⟩;{rw[bG]at z;exact bJ<|bd z Q};{have:=Yy bG;rw[bG]at z;exact bE ⟨s,z,G,Q,bf⟩}};replace a5:=O a5;go_wp21;refine eb dy ?_;rintro e az ⟨⟨eT,rfl,dT⟩,av⟩;have eE:=av.4;have a6:=a5.kept<|av.5 ab G;have aB:=O<|c4.below av;have A:=O<|bC bj<|bN av bj.4;have bS:=O<|cT.below av;have eJ:=a6.cells;have eQ:=a6.frozen;have aV:=O a6;rcases dT with⟨rfl,aR⟩|⟨s,bY,S,aR,bw⟩;{
 have aU:=O<|JO (L:=ck i) (ans:=ans) (t:=t) (first:=first) (aa:=l) y hcut aR;have P:=aV.set0 3;have aC:=O<|aB.set (a:=⟨ab,0,af⟩) (M 3) (V uv) ts;have w:=O<|fc A (p:=⟨ab,0,af⟩) hab (M 3);have dQ:J (a7 az ⟨ab,0,af⟩<|ag ai 3).1=J az.1:=mo
 have wN:=O<|NW (W:=a7 az ⟨ab,0,af⟩<|ag ai 3) (x:=X) (base:=ab+1) (V Qq) (V bT) (Ai _ w) (V Ki) G;replace P:=O P;go_wp21;refine eb wN ?_;rintro e w7 ⟨⟨vd,rfl,mJ⟩,ej⟩;have S7:=P.kept<|ej.5 ab G;have HY:=O<|aC.below ej;have vh:=O<|bC w<|bN ej w.4;obtain⟨da,dc,rfl⟩:=mJ.slice;have y0:=S7.cells;have rD:=S7.frozen;have Nb:=O mJ;have vk:=O S7;go_wp2;go_ret;rw[V aU];exact⟨_,_,_,U,vk.lM _,HY.set _ (V uv) ts,Nb.set _ (V uv) ts,U,fc vh (p:=⟨ab,3,af⟩) hab _⟩};have a9:ao (((t=5\/t=255)\/i6 d (ck i) n=af)->fK d (ck i) t first l ans n=(0,aD,ans++b9 (gw n) (f_ i s t),if f_ i s t=[]then jw d (ck i)else [],af)):=λbt=>by{rw[JP y hcut aR bt,bw,Jj s n t<|V a1];congr 4;rw[Yi<|Q1 (xg i s) (Bt i s) n,Jj s n t<|V a1];cases f_ i s t<;>simp};have aF:=O bY;obtain⟨et,eI,eo,rfl,eu,eC⟩:=bY;by_cases Y:t=5;{
 have aj:=O<|a9<|bJ<|bJ Y;have Ug:ao (fK d (ck i) 5 first l ans n=(0,aD,ans++b9 (gw n) (f_ i s 5),if f_ i s 5=[]then jw d (ck i)else [],af)):=Y▸aj
 subst Y;go_wp21;refine(an az A G s _ _ (V aF) S<|V bS).mono ?_;rintro e w6 ⟨⟨bF,rfl,j⟩,ah⟩;have bQ:=ah.4;have bD:=aV.kept<|ah.5 ab G;have Gn:=O<|aB.below ah;have hE:=O<|bC A<|bN ah A.4;have bO:=bD.cells;have bP:=bD.frozen;have pS:=O bD;obtain⟨cB,cC,rfl⟩:=j.slice;rw[ff];have Ap:=O j;have al:=j.lt;by_cases EU:E (f_ i s 5)=0;{
 exact MA};{
 have b2:((E (f_ i s 5):Int)==0)=ak:=iQ
 have jQ:f_ i s 5≠[]:=λh=>EU uo;have cO:=zK (V bT) s 5;have b_:E (b9 (gw n)<|f_ i s 5)<=2000:=CG
 exact NM}};by_cases ad:t=255;{
 have aj:=O<|a9<|bJ<|bE ad;have Ug:ao (fK d (ck i) 255 first l ans n=(0,aD,ans++b9 (gw n) (f_ i s 255),if f_ i s 255=[]then jw d (ck i)else [],af)):=ad▸aj
 subst ad;go_wp21;refine(an az A G s _ _ (V aF) S<|V bS).mono ?_;rintro e w6 ⟨⟨bF,rfl,j⟩,ah⟩;have bQ:=ah.4;have bD:=aV.kept<|ah.5 ab G;have Gn:=O<|aB.below ah;have hE:=O<|bC A<|bN ah A.4;have bO:=bD.cells;have bP:=bD.frozen;have pS:=O bD;obtain⟨cB,cC,rfl⟩:=j.slice;rw[ff];have Ap:=O j;have al:=j.lt;by_cases EU:E (f_ i s 255)=0;{
 exact MA};{
 have b2:((E (f_ i s 255):Int)==0)=ak:=iQ
 have jQ:f_ i s 255≠[]:=λh=>EU uo;have cO:=zK (V bT) s 255;have b_:E (b9 (gw n)<|f_ i s 255)<=2000:=CG
 exact NM}};have d6:(t != 5)=aD:=by simpa using Y
 have ef:(t != 255)=aD:=by simpa using ad
 have c1:=O<|bl.below A;have c8:=O<|Ee 5 (V c1) (V bc) (V aF) S;go_wp21;refine c8.m λcM Z=>?_;have dQ:=Z.4;have P:=aV.kept<|Z.5 ab G;have aC:=O<|aB.below Z;have w:=O<|bC A<|bN Z A.4;have b3:=O<|bS.below Z;have ca:=O<|aF.below Z;have d1:=P.cells;have d2:=P.frozen;have cG:=O P;cases bs:i7 i (cE s) 5 with
 |false=>{
 have aP:i6 d (ck i) n=af:=by{rw[i6,bV];rintro⟨_,_,cl⟩;rw[bw,<-(I_ (V bT) s n).1,bs]at cl;cases cl};have aj:=O<|a9<|bE aP;go_wp21;refine(an cM w G s _ _ (V ca) S<|V b3).mono ?_;rintro e w6 ⟨⟨bF,rfl,j⟩,ah⟩;have bQ:=ah.4;have bD:=cG.kept<|ah.5 ab G;have Gn:=O<|aC.below ah;have hE:=O<|bC w<|bN ah w.4;have bO:=bD.cells;have bP:=bD.frozen;have pS:=O bD;obtain⟨cB,cC,rfl⟩:=j.slice;rw[ff];have Ap:=O j;have al:=j.lt;by_cases EU:E (f_ i s t)=0;{
 have hnil:=hq EU;have aU:=O<|V aj;exact Mf};{
 have b2:((E (f_ i s t):Int)==0)=ak:=iQ
 have jQ:f_ i s t≠[]:=λh=>EU uo;have cO:=zK (V bT) s t;have b_:E (b9 (gw n)<|f_ i s t)<=2000:=CG
 have⟨v8,w8,hrun,wO,jR,Nc⟩:=AQ (V Gn) (V Ap) (λk hk h=>h) G G λk hk=>cd<|V ZE k hk;rw[ff]at hrun;have Nd:ae ab≠bA (aE mZ (E ans) ac):=λe=>cd<|(HO.lt ab<|b5 e).1
 have S8:=pS.kept<|jR.5 ab G Nd;have HZ:=O<|bC hE ⟨jR.1,jR.2,jR.3,jR.4,λk hk=>jR.5 k (cd hE.4) λe=>cd<|(HO.lt k<|b5 e).1⟩;have Qr:=O wO;have⟨a8,mO,wP⟩:=wO.slice;rw[dj,ff]at wP;subst wP;have y0:=S8.cells;have rD:=S8.frozen;have xM:=O S8;have aU:=O<|V aj;have uu:=O hrun;go_wp2_with (at_builtin;go_loud (refine uw dl (.tmp 127) (.tmp 128) 94 dl dl dl (V uu) ?_));go_ret;rw[V aU,bV jQ];exact⟨_,_,_,U,xM.set2 _,Qr.set (a:=⟨ab,2,af⟩) _ (V uv) ts,ek.nil _ _ _,U,fc HZ (p:=⟨ab,2,af⟩) hab _⟩}}
 |true=>{
 have⟨B,cZ,c7,cH,dN⟩:=(I_ (V bT) s n).2 bs;have ba:=(I_ (V bT) s n).1;rw[bs,cH]at ba;have aP:=Yx hcut aR (by rw[bw,cH];rfl)<|b5 ba;clear ba;have cj:=O<|an cM w G s _ 5 (V ca) S<|V b3;go_wp2_with fail;refine eb cj ?_;rintro e w6 ⟨⟨bF,rfl,j⟩,ah⟩;rw[dN]at j;have bQ:=ah.4;have bD:=cG.kept<|ah.5 ab G;have Gn:=O<|aC.below ah;have hE:=O<|bC w<|bN ah w.4;have bO:=bD.cells;have bP:=bD.frozen;have pS:=O bD;have Ap:=O j;have al:=j.lt;rcases j.TX with⟨_,h⟩|⟨D,en,rfl,ea,dH,cK⟩;{cases h};have⟨_,er,_,_,_,_,aw,_,dZ⟩:=cK 0 ax;rw[o7,fM]at aw;have⟨a2,bu⟩:=Rz (V bT) c7 cZ;obtain⟨T,aX,ep,rfl,dI,fX,cu⟩:=dZ;have cb:aA w6 (N T aX)=ae (aS B.data):=by{have:=fX.2 0 (by show 0<E (I 32 B.data);rw[a2];simp);rw[h8]at this;rw[this];congr 3;show(I 32 B.data)[0]'_=_;simp[a2]};have cV:=fX.1;have cs:E (I 32 (List.map (gw n) [B])[0].data)=1:=by show(I 32 B.data).length=1;rw[a2];rfl
 rw[cs]at aw dI;simp only[ff,dW,gG]at dH⊢;clear bD j ah d1 d2 cj cK fX cs;by_cases bp:E ans=8;{
 have c6:((E ans:Int)==8)=aD:=by simp[bp]
 have aU:=O<|Ev (first:=first) (aa:=l) y hcut aP Y ad bp;have S8:=pS.set0 2;clear aw;go_wp2;go_ret;rw[V aU];exact⟨_,_,_,U,S8.set2 _,ek.nil _ _ _,ek.nil _ _ _,U,(fc hE (p:=⟨ab,0,af⟩) hab _).setCell (p:=⟨ab,2,af⟩) hab _⟩};{
 have c6:((E ans:Int)==8)=ak:=iQ
 have aU:=O<|BN (first:=first) (aa:=l) y hcut aP Y ad bp;have⟨v8,w8,hrun,wO,jR,Nc⟩:=AQ (V Gn) (V Ap) (λk hk h=>h) G ct λk hk=>cd<|V ZE k hk;have Nd:ae ab≠bA (aE mZ (E ans) ac):=λe=>cd<|(HO.lt ab<|b5 e).1
 have dm:ae D≠bA (aE mZ (E ans) ac):=λe=>cd<|(HO.lt D<|b5 e).2
 have dn:=λe=>cu<|bJ<|bE e;have dp:T≠ab:=λe=>cu<|bJ<|bJ (by rw[e];exact uv);have dq:D≠ab:=G;have ds:=(al D U).2;have S8:=pS.kept<|jR.5 ab G Nd;have dY:=(dR (a:=⟨D,4,af⟩) (jR.5 D ds dm)).trans aw;have dt:=(dR (a:=⟨T,aX,af⟩) (jR.5 T cV dn)).trans cb;have eg:=jR.4;have HZ:=O<|bC hE ⟨jR.1,jR.2,jR.3,jR.4,λk hk=>jR.5 k (cd hE.4) λe=>cd<|(HO.lt k<|b5 e).1⟩;have Qr:=O wO;have⟨a8,mO,wP⟩:=wO.slice;rw[dj,ff,OQ]at wP;subst wP;have y0:=S8.cells;have rD:=S8.frozen;have uu:=O hrun;have cc:=S8.set2<|aE a8 (E ans+1) mO;have df:=O<|wO.set (a:=⟨ab,2,af⟩) (aE a8 (E ans+1) mO) (V uv) ts;have b4:=O<|fc HZ (p:=⟨ab,2,af⟩) hab (aE a8 (E ans+1) mO);have eF:aA (a7 w8 ⟨ab,2,af⟩<|aE a8 (E ans+1) mO) (N D 4)=_:=(dR (a:=⟨D,4,af⟩) (dr _ _ _ _ dq)).trans dY;have ec:aA (a7 w8 ⟨ab,2,af⟩<|aE a8 (E ans+1) mO) (N T aX)=_:=(dR (a:=⟨T,aX,af⟩) (dr _ _ _ _ dp)).trans dt;have ed:J (a7 w8 ⟨ab,2,af⟩<|aE a8 (E ans+1) mO).1=J w8.1:=mo
 have cX:=O cc;have eG:=(hC bu).2;have d0:=O λW=>yj B.data ak W G;have dg:=O<|wO.lt;clear S8 cc wO hrun Ap al jR Nc aw cb;go_wp2_with (at_builtin;go_loud (refine uw dl (.tmp 98) (.tmp 99) 94 dl dl dl (V uu) ?_));refine(d0 _).mono ?_;rintro e eU ⟨⟨eR,rfl,cg⟩,aH⟩;have eh:=aH.4;have dX:hO ak B.data=ae (I 46 B.data):=by{have:=rp B.data;rw[bu]at this;unfold hO at this⊢;split at this;{rename_i h;rw[b8 h]};{cases this}};rw[dX,<-rn (CN bu)]at cg;obtain⟨_,bn,tB,rfl,dz,ee,c5⟩:=cg;go_wp2;go_ret;rw[V aU];refine⟨_,_,_,U,cX.kept<|aH.5 ab G,df.below aH,ek.nil _ _ _,⟨U,bn,tB,U,dz,c5,?_⟩,bC b4<|bN aH b4.4⟩;rintro(h|h);{exact de bn G G h};{have:=(dg bn<|b5 h).2;omega}}}};{
 have cR:E (fm d (ck i) n)≠0:=by rw[hcut];intro h;exact dk<|hq h
 have aU:=O<|Eu (t:=t) (first:=first) (aa:=l) (ans:=ans) y cR;have cq:b9 (gw<|ia n H) (f_ i (ia n H) 2)=fm d (ck i) n:=by rw[Q3,QG,hcut]
 have bW:ao (∀x:Bool,a_ aL 207 #[bv c,bL g (bH+H) (C-H)<|o-H,M 2,bL g (bH+H) (C-H)<|o-H] (a7 aa ⟨ab,1,af⟩<|aG x) λe q=>(∃v,e=bh v/\ek X q (ab+1) v (fm d (ck i) n))/\cv (J (a7 aa ⟨ab,1,af⟩<|aG x).1) (a7 aa ⟨ab,1,af⟩<|aG x) q):=λx=>by{
 have cr:J (a7 aa ⟨ab,1,af⟩<|aG x).1=J aa.1:=mo
 have cY:=cJ.fr (p:=λk=>k≠ab) (co.j9 (a:=⟨ab,1,af⟩) (aG x) λ_ h=>h) b6;have cm:H<E (I 46 n):=by rw[<-rU];omega
 have z:=En cY (cap:=o) G H G;rw[<-Fq cm,F]at z;have dJ:E (cE<|ia n H)=C-H:=by rw[Fq cm,il,F]
 rw[<-cq];refine Ja (V Qq) (V bT) (Ai _<|fc bb (p:=⟨ab,1,af⟩) hab _) (V Ki) G 2 z G ⟨g,bH+H,o-H,by rw[dJ],G,?_,cA⟩;obtain⟨es,eH,el,dB,eq,dC⟩:=z;have⟨aJ,_,_⟩:=js dB;cases gm aJ;exact dC};clear an;have b1:ao (∀x:Bool,(l || !first)=x->∀(w7:aQ) (vd:bk),cv (J (a7 aa ⟨ab,1,af⟩<|aG x).1) (a7 aa ⟨ab,1,af⟩<|aG x) w7->ek X w7 (ab+1) vd (fm d (ck i) n)->Rm X u (a7 w7 ⟨ab,3,af⟩ vd) ab (fK d (ck i) t first l ans n) (bh<|bX)/\fC w7 ab 0 x (aE mZ (E ans) ac) (bX) (bX)):=λx dU w7 vd ej mJ=>by{
 have cr:J (a7 aa ⟨ab,1,af⟩<|aG x).1=J aa.1:=mo
 have S7:=(ci.set1 x).kept<|ej.5 ab G;have HY:=(b0.set (a:=⟨ab,1,af⟩) (aG x) (V uv) ts).below ej;have bU:=fc bb (p:=⟨ab,1,af⟩) hab (aG x);have cU:=bC bU<|bN ej bU.4;rw[V aU,dU];exact⟨⟨_,_,_,U,S7.lM _,HY.set _ (V uv) ts,mJ.set _ (V uv) ts,U,fc cU (p:=⟨ab,3,af⟩) hab _⟩,S7⟩};clear hcut cq cR;cases l with
 |true=>{go_wp2_with fail;refine(bW aD).mono ?_;rintro e w7 ⟨⟨vd,rfl,mJ⟩,ej⟩;have⟨bK,S7⟩:=V b1 aD U w7 vd ej mJ;exact Nl}
 |false=>{have⟨bz,dh⟩:=du<|!first;have di:(ak || !first)=bz:=dh;go_wp2_with fail;refine(bW bz).mono ?_;rintro e w7 ⟨⟨vd,rfl,mJ⟩,ej⟩;have⟨bK,S7⟩:=V b1 bz di w7 vd ej mJ;exact Nl}}}
end
def jO(h:aQ)(a:Nat)(g:bk)(e d:Int)(b:ap)(c:bk):Prop:=h.1[a]? = ae (aZ #[g,ag ai e,ag ai d,am<|D b,c] 98)
def jO.cells{g:Int}(h:jO b a e g j d k):aA b ⟨a,0,af⟩=ae e/\aA b ⟨a,1,af⟩=ae (ag ai g)/\aA b ⟨a,2,af⟩=ae (ag ai j)/\aA b ⟨a,3,af⟩=ae (am<|D d)/\aA b ⟨a,4,af⟩=ae k:=by unfold jO at h;exact Hk
def jO.frozen{t:Int}(h:jO b a e t j d k)(c:Nat):gd b ⟨a,c,af⟩=ak:=by unfold jO at h;exact qE
def jO.lt{b:Nat}(c:jO f b e j q d k):b<J f.1:=(dK.1 c).1
def HA(h:φ:=by unfold jO at*;exact EX):φ:=h
def jO.set{b:Nat}{n:bk}{t:Int}{d:ap}(h:jO f b n t j d k)(a c:bk)(i g:Int)(e:ap):jO (a7 (a7 (a7 (a7 (a7 f ⟨b,0,af⟩ a) ⟨b,1,af⟩<|ag ai i) ⟨b,2,af⟩<|ag ai g) ⟨b,3,af⟩<|am<|D e) ⟨b,4,af⟩ c) b a i g e c:=by exact HA
def xJ(e:aQ)(d:Nat)(v:bk)(b:List ap):Prop:=∃a ay c,v=aE (ae ⟨a,ay,af⟩) (E b) c/\E b<=c/\gR e a ay b/\d<=a
def JX(s:ap)(b:Nat)(n:kP)(l:aQ):Prop:=
 ∃k g c h e d i m j,n=bh (bZ #[ce #[aE k g c,ag ai h,ag ai e,am<|D d,aE i m j],aG (iB s).isSome]) /\
  ∀a,iB s=ae a->h=a.aP/\e=a.type/\d=a.data/\xJ l b (aE k g c) (I 46 a.owner)/\xJ l b (aE i m j) (I 32 a.data)
def Tb(d:UInt8):∀(c:List ap) (m:Nat),(∀a∈c,E a<=m)->E (gZ d c)<=E c*(m+1)
 |[],_,_=>dJ _
 |[a],m,b=>by have:=b a ax;simp[gZ];omega
 |a::h::g,m,b=>by have j:=b a ax;have k:=Tb d (h::g) m λi e=>b i<|l8 _ e;rw[gZ,dj,dW,dW,C2];omega
def Tc(e:a<J b.1)(d:Obj):aA (bx<|aN b d) ⟨a,c,af⟩=aA b ⟨a,c,af⟩:=dR<|dv b d a e
def FH{g:Nat}{h:bk}{o:Obj}(j:g<J b.1)(a:aA f ⟨g,0,af⟩=ae e/\aA f ⟨g,2,af⟩=ae h/\a6 b f):aA (aN f o) ⟨g,0,af⟩=ae e/\aA (aN f o) ⟨g,2,af⟩=ae h/\a6 b (aN f o):=by let i:=a.2.2.4;let d:a6 f (aN f o):=cf cc bo _;exact⟨(d.cell (p:=⟨g,0,af⟩) Ct).trans a.1,(d.cell (p:=⟨g,2,af⟩) Ct).trans a.2.1,cf a.2.2 i _⟩
def aa0{o:Obj}(d:a<J b.1)(c:aA f ⟨a,0,af⟩=ae e/\aA f ⟨a,2,af⟩=ae k/\a6 b f):aA (bx<|aN f o) ⟨a,0,af⟩=ae e/\aA (bx<|aN f o) ⟨a,2,af⟩=ae k/\a6 b (bx<|aN f o):=
 ⟨(FH (o:=o) d c).1,(FH (o:=o) d c).2.1,(FH (o:=o) d c).2.2.drew⟩
def C5{h:aQ}(q:c<J h.1)(p:J h.1<=a)(i:aA b ⟨c,0,af⟩=ae e/\aA b ⟨c,2,af⟩=ae k/\a6 h b):aA (a7 b ⟨a,g,af⟩ r) ⟨c,0,af⟩=ae e/\aA (a7 b ⟨a,g,af⟩ r) ⟨c,2,af⟩=ae k/\a6 h (a7 b ⟨a,g,af⟩ r):=by
 let n:∀d,d≠a->(a7 b ⟨a,g,af⟩ r).1[d]? = b.1[d]?:=λd j=>dr _ _ _ _ j;let v:=i.2.2;let o:J (a7 b ⟨a,g,af⟩ r).1=J b.1:=mo
 exact⟨(dR<|n c G).trans i.1,(dR<|n c G).trans i.2.1,v.1,v.2,v.3,o▸v.4,λd j=>(n d G).trans<|v.5 d j⟩
def Td(h:a<J b.1)(d:aA f ⟨a,0,af⟩=ae e/\aA f ⟨a,2,af⟩=ae k/\a6 b f):(aA (aN f<|aZ #[aE af 0 0,ag ai 0,ag ai 0,am ⟨#[]⟩,aE af 0 0] 98) ⟨a,0,af⟩=ae e/\aA (aN f<|aZ #[aE af 0 0,ag ai 0,ag ai 0,am ⟨#[]⟩,aE af 0 0] 98) ⟨a,2,af⟩=ae k/\a6 b (aN f<|aZ #[aE af 0 0,ag ai 0,ag ai 0,am ⟨#[]⟩,aE af 0 0] 98))/\jO (aN f<|aZ #[aE af 0 0,ag ai 0,ag ai 0,am ⟨#[]⟩,aE af 0 0] 98) (J f.1) (aE af 0 0) 0 0 [] (aE af 0 0)/\J b.1<=J f.1:=
 ⟨FH h d,cW f _,d.2.2.4⟩
def aa1(g:a<J b.1)(d:aA b ⟨a,0,af⟩=ae e/\aA b ⟨a,2,af⟩=ae k/\a6 b b):(aA (bx<|aN b<|aZ #[aE af 0 0,ag ai 0,ag ai 0,am ⟨#[]⟩,aE af 0 0] 98) ⟨a,0,af⟩=ae e/\aA (bx<|aN b<|aZ #[aE af 0 0,ag ai 0,ag ai 0,am ⟨#[]⟩,aE af 0 0] 98) ⟨a,2,af⟩=ae k/\a6 b (bx<|aN b<|aZ #[aE af 0 0,ag ai 0,ag ai 0,am ⟨#[]⟩,aE af 0 0] 98))/\jO (bx<|aN b<|aZ #[aE af 0 0,ag ai 0,ag ai 0,am ⟨#[]⟩,aE af 0 0] 98) (J b.1) (aE af 0 0) 0 0 [] (aE af 0 0)/\J b.1<=J b.1:=
 ⟨aa0 g d,cW b _,cO _⟩
def jO.kept{w':aQ}(i:jO b a e j q d k)(c:w'.1[a]? = b.1[a]?):jO w' a e j q d k:=cQ c i
def jO.set1(h:jO b a e j q d k)(c:Int):jO (a7 b ⟨a,1,af⟩<|ag ai c) a e c q d k:=by exact HA
def jO.lM(h:jO b a e j q d k)(c:ap):jO (a7 b ⟨a,3,af⟩<|am<|D c) a e j q c k:=by exact HA
def FI{i:Nat}{D:Option gU}{G:Nat}{u:bk}{C:Option<|List ap}(r:jO b a (aE D G g) j q d e)(v:pm b c k C):pm (a7 b ⟨a,i,af⟩ u) c k C:=by
 cases C with
 |none=>exact v
 | some n=>
  let⟨F,B,o,t,w,x,h⟩:=v;let A:B≠a:=by
   rintro rfl;let z:0<E n:=by cases n with
    |nil=>exact absurd U F
    |cons=>simp
   have:=h.2 0 z;rw[h8,r.cells.1]at this;cases this
  exact⟨F,B,o,t,w,x,by simp[a7];exact h.1,λl y=>(dR (a:=⟨B,0+l,af⟩) (dr _ _ _ _ A)).trans (h.2 l y)⟩
def Te{v:Option<|List ap}(n:Obj)(c:pm b a e v):pm (aN b n) a e v:=by
 cases v with
 |none=>exact c
 |some o=>{let⟨h,g,d,i,j,k,l⟩:=c;exact⟨h,g,d,i,j,k,l.below<|cf cc bo _⟩}
def agr{M:Option gU}{O N:Nat}{u w x:bk}{g:Option<|List ap}(B:jO b a (aE M O N) j q d e)(l:pm b c k g):pm (a7 (a7 (a7 (a7 (a7 b ⟨a,0,af⟩ r) ⟨a,1,af⟩ C) ⟨a,2,af⟩ u) ⟨a,3,af⟩ w) ⟨a,4,af⟩ x) c k g:=by
 cases g with
 |none=>exact l
 | some p=>
  let⟨t,K,y,v,D,F,L⟩:=l;let I:K≠a:=by
   rintro rfl;let H:0<E p:=by cases p with
    |nil=>exact absurd U t
    |cons=>simp
   have:=L.2 0 H;rw[h8,B.cells.1]at this;cases this
  let h:∀(i:aQ) (n:Nat) (A:bk),(a7 i ⟨a,n,af⟩ A).1[K]? = i.1[K]?:=λi n A=>dr _ _ _ _ I;refine⟨t,K,y,v,D,F,by simp[a7];exact L.1,λo G=>?_⟩;rw[<-L.2 o G];refine dR (a:=⟨K,0+o,af⟩) ?_;rw[h,h,h,h,h]
def FJ{b i ay:Nat}{u:bk}(k:c≠b)(d:gR f c ay s):gR (a7 f ⟨b,i,af⟩ u) c ay s:=
 ⟨by simp[a7];exact d.1,λe j=>(dR (a:=⟨c,ay+e,af⟩) (dr _ _ _ _ k)).trans (d.2 e j)⟩
theorem Tf(b:UInt8):∀(f:Nat) (s:ap),E s<=f->∀c∈I b s,b∉c
 |f,s,h,c,a=>by
  rcases m7 b s with⟨e,d⟩|⟨j,g,i,e,d⟩;{
  rw[d]at a;have:c=s:=by simpa using a
  rw[this];exact e};{
  rw[d]at a;rcases fw.1 a with rfl|a;{exact e};{
  have k:E g<f:=by rw[i]at h;simp at h;omega
  exact Tf b (f-1) g G c a}}
termination_by f=>f
decreasing_by omega
def JY(a:UInt8):∀(h:List ap),h≠[]->(∀c∈h,a∉c)->I a (gZ a h)=h
 |[],e,_=>absurd U e
 |[c],_,e=>by rcases m7 a c with⟨_,i⟩|⟨o,p,j,_,_⟩;{exact i};{exact absurd (by rw[j];simp)<|e c ax}
 |c::l::k,_,e=>by
  have r:=e c ax;have w:=JY a (l::k) ax λn u=>e n<|l8 _ u;rw[gZ];rcases m7 a (c++a::gZ a (l::k))with⟨t,_⟩|⟨o,p,j,q,i⟩;{exact absurd ax t};{
  have:o=c/\p=gZ a (l::k):=by{
  rcases List.append_eq_append_iff.1 j with⟨g,d,b⟩|⟨g,d,b⟩;{
  cases g with
  |nil=>simp at d b;exact⟨d,b5 b⟩
  |cons n g=>simp at b;rw[d,<-b.1]at q;exact absurd ax q};{
  cases g with
  |nil=>simp at d b;exact⟨b5 d,b⟩
  |cons n g=>simp at b;rw[d,<-b.1]at r;exact absurd ax r}};rw[i,this.1,this.2,w]}
def Tg(a:hO l d=ae s):s=I 46 d:=by unfold hO at a;split at a;{exact(gm a).symm};{cases a}
def aa2{o p:ap}(X:s≠[])(Z:∀al∈s,(32:UInt8)∉al)(ah:iB d=C9 (P::o::p::s)){wr:aQ}{b N L K x:Nat}{i:Option gU}(Y:ii p=j)(M:ft 86400 o=l/\et (ii p) s=H)(aj:l=aD->x=jF 86400 o)(k:pm wr N (aE i L K)<|hO aD P)(S:gR wr a 3 s)(W:E s=g-3)(au:g-3<=c-3)(ac:∀t,t≠b->f.1[t]? = wr.1[t]?)(R:J wr.1<=J f.1)(aq:b<N)(ar:b<a):JX d b (bh<|bZ #[ce #[aE i L K,ag ai x,ag ai j,am<|D<|gZ 32 s,aE (ae ⟨a,3,af⟩) (g-3)<|c-3],aG<|l&&H && !i.isNone]) f:=by
 let ab:(!i.isNone)=jh P:=by
  rw[<-Bx];cases r:hO aD P with
  |none=>rw[r]at k;cases k;rfl
  |some ad=>rw[r]at k;let⟨_,A,O,z,_⟩:=k;cases z;rfl
 obtain⟨q,e,rfl⟩:∃q e,s=q::e:=by cases s with
  |nil=>exact absurd U X
  |cons q e=>exact⟨q,e,U⟩
 have y:iB d=if jh P&&ft 86400 o&&et (ii p) (q::e)then ae (P,jF 86400 o,ii p,gZ 32 (q::e))else af:=ah
 rw[M.1,M.2]at y;let aa:(l&&H && !i.isNone)=(iB d).isSome:=by
  rw[ab,y];cases jh P<;>cases l<;>cases H<;>rfl
 let Q:∀(t C:Nat),t≠b->aA f ⟨t,C,af⟩=aA wr ⟨t,C,af⟩:=λt C T=>dR<|ac t T;refine⟨i,L,K,x,j,gZ 32 (q::e),ae ⟨a,3,af⟩,g-3,c-3,by rw[aa],λav u=>?_⟩;rw[y]at u;split at u
 ·rename_i w;simp only[e9]at w;obtain rfl:=b5<|gm u;refine⟨?_,b5 Y,U,?_,?_⟩
  ·rw[aj w.1.2];rfl
  ·show xJ f b _ (I 46 P);cases r:hO aD P with
   |none=>have:=Bx P;rw[r,w.1.1]at this;cases this
   |some ad=>
    rw[r]at k;obtain rfl:=Tg r;let⟨_,A,O,z,V,an,n⟩:=k;rw[z];exact⟨A,0,O,U,V,bd (eA n.1 R)<|λF B=>(Q A _ G).trans<|n.2 F B,G⟩
  ·show xJ f b _ (I 32<|gZ 32 (q::e));rw[JY 32 (q::e) ax Z,<-W];exact⟨a,3,c-3,U,G,bd (eA S.1 R)<|λF B=>(Q a _ G).trans<|S.2 F B,G⟩
 ·cases u
def Th(a b:ap):D a++D b=D (a++b):=by apply Gu;simp[D]
def aa3(a:ap):D a++⟨#[32]⟩=D (a++[32]):=Th a [32]
def Ny(h:φ:=by have z0:=hR.cells;have Kh:=hR.frozen;refine lw (rs:=[12]) b6 ax (jv U (λK hK=>?_) kU);go_simp;refine hK.out _ _ (C5 mF ny<|C5 mF ny<|C5 mF ny<|C5 mF ny<|C5 mF ny hS) λhS=>?_;clear hK K;refine su b6 ?_ _;go_wp2;go_meet;·exact⟨_,_,_,_,U,hR.set (aE va vn vc) (aE (ae ⟨g,3,af⟩) (N-3)<|cap-3) 0 (ii x2) [],agr hR pg,hS.2.2,ny⟩):φ:=h
def Ns(h:φ:=by
 refine lw (rs:=[7]) b6 ax (jv U (λK hK=>?_) kU);go_simp;go_wp2_with (go_at_call 90;go_loud (refine(aaD _).m ?_;rintro W' rfl));refine hK.out _ _ hS λhS=>?_;clear hK K;try simp only[Act.put,kB,iR,iy]
 refine fT 10 hS ?_;exact Ny):φ:=h
def aa4(e:aQ)(dh:E d<=3000):a_ aL 40 #[am<|D d] e λl o=>JX d (J e.1) l o/\a6 e o:=by
 have:=cV d;have cb:ao (∀q,a_ aL 38 #[am<|D d,ag ch 32] q λl o=>(∃v,l=bh v/\lX o (J q.1) v (I 32 d))/\a6 q o):=λq=>y6 d 32 q G;have c0:E (I 32 d)<=3001:=cd<|nM 32 d
 have a5:ao (∀r∈I 32 d,E r<=3000):=λr A=>cd<|n6 32 (E d) d bo r A
 have db:=O<|nL 32 d;have bX:=O<|Xq d;have cB:=O<|Tf 32 (E d) d bo;generalize I 32 d=Y at*;go_in;go_wp21;refine(cb _).mono ?_;rintro l h ⟨⟨v,rfl,bR⟩,bc⟩;obtain⟨g,cap,rfl,cN,bP,B⟩:=sF bR db;have aU:jO h (J e.1) (aE af 0 0) 0 0 [] (aE af 0 0):=(bc.5 _ ax).trans<|cW e _;have bf:=O aU;have:=aU.cells;have:=aU.frozen;have bO:a6 e h:=(cf cc bo _).trans<|bN bc ax;have bz:J e.1+1<=g:=by simpa using bP
 have Q:=O<|cj bz<|cj B bO;have mF:=B.1;clear bR bc cb bP B aU bO bz;by_cases ar:E Y<4;{
 have br:(E Y:Int)<4:=G;go_wp2;have bQ:iB d=af:=by{
 rw[bX];match Y,ar with
 |[],_=>rfl
 |[_],_=>rfl
 |[_,_],_=>rfl
 |[_,_,_],_=>rfl
 |_::_::_::_::_,k=>exact absurd k ax};have a8:=bf.set (aE af 0 0) (aE af 0 0) 0 0 [];let⟨aV,aW,aX,aY,a0⟩:=a8.cells;rw[show D ([]:ap)=⟨#[]⟩from U]at aV aW aX aY a0;refine dQ (v:=bZ #[ce #[aE af 0 0,ag ai 0,ag ai 0,am<|D [],aE af 0 0],aG (iB d).isSome]) ?_ U ?_;rw[show D ([]:ap)=⟨#[]⟩from U];{simp[c_,results40,go_sem,bQ,aV,aW,aX,aY,a0]};{exact⟨⟨af,0,0,0,0,[],af,0,0,U,λdj H=>by rw[bQ]at H;cases H⟩,((((fc Q.2.2 (p:=⟨J e.1,0,af⟩) bo _).setCell (p:=⟨J e.1,1,af⟩) bo _).setCell (p:=⟨J e.1,2,af⟩) bo _).setCell (p:=⟨J e.1,3,af⟩) bo _).setCell (p:=⟨J e.1,4,af⟩) bo _⟩}};{
 have br:¬(E Y:Int)<4:=G;obtain⟨j,x,x2,c,rfl,bM⟩:∃j x x2 c,Y=j::x::x2::c/\c≠[]:=by{
 match Y,ar with
 |j::x::x2::dc::c6,_=>exact⟨j,x,x2,dc::c6,U,ax⟩
 |[],k=>exact absurd ax k
 |[_],k=>exact absurd ax k
 |[_,_],k=>exact absurd ax k
 |[_,_,_],k=>exact absurd ax k};have R:=qS Q.2.1 0 U;have bG:=qS Q.2.1 1 U;have ab:=qS Q.2.1 2 U;rw[fM]at R bG ab;have:=a5 j ax;have:=a5 x ax;have:=a5 x2 ax;have bj:ao (∀q,(bY q g 0 (am<|D j)/\bY q g 2 (am<|D x2)/\a6 h q)->a_ aL 39 #[am<|D j,aG aD] q λl o=>∃va ac aa,l=bh (aE va ac aa)/\(bY o g 0 (am<|D j)/\bY o g 2 (am<|D x2)/\a6 h o)/\pm o (J h.1) (aE va ac aa) (hO aD j)/\a6 q o):=λq hS=>by{
 refine(yj j aD q G).mono ?_;rintro l o ⟨⟨v,rfl,L⟩,y⟩;let⟨aB,aC,cl⟩:=hS;have bT:=cl.4;obtain⟨va,ac,aa,rfl⟩:∃va ac aa,v=aE va ac aa:=by{
 cases F:hO aD j with
 |none=>rw[F]at L;exact⟨af,0,0,L⟩
 |some b0=>rw[F]at L;obtain⟨_,aR,aP,rfl,_⟩:=L;exact⟨_,_,_,U⟩};refine⟨va,ac,aa,U,⟨(y.cell (p:=⟨g,0,af⟩) Ct).trans aB,(y.cell (p:=⟨g,2,af⟩) Ct).trans aC,bC cl<|bN y bT⟩,?_,y⟩;cases F:hO aD j with
 |none=>rw[F]at L;exact L
 |some b0=>{rw[F]at L;let⟨c2,aR,aP,c3,c4,di,c5⟩:=L;exact⟨c2,aR,aP,c3,c4,G,c5⟩}};have aaD:=O λq=>Wm x2 q;let⟨N,bb⟩:=bm<|E (j::x::x2::c);rw[<-bb]at cN br⊢;have bB:4<=N/\N=E c+3:=by rw[bb];simp;have:E c≠0:=λk=>bM<|hq k;omega
 have:¬cap=3:=G;have:3<=(N:Int):=G;have dd:=O bB;have:0<N:=G;have:2<N:=G;have:0<(N:Int):=G;have:2<(N:Int):=G;clear bb bB;clear ar;have:¬g=J h.1:=G;have:J (bx h).1=J h.1:=U;have cy:∀X,bY (bx<|aN h X) g 0 (am<|D j):=λX=>(Tc mF X).trans R;have cz:∀X,bY (bx<|aN h X) g 2 (am<|D x2):=λX=>(Tc mF X).trans ab;have b3:bY h g 0 (am<|D j)/\bY h g 2 (am<|D x2)/\a6 h h:=⟨R,ab,cU _ _⟩;have hS:bY (bx h) g 0 (am<|D j)/\bY (bx h) g 2 (am<|D x2)/\a6 h (bx h):=⟨R,ab,cc.drew⟩;have cL:bY (bx h) g 0 (am<|D j):=R;have cM:bY (bx h) g 2 (am<|D x2):=ab;go_upto_region 4 with fail;go_cut [5]from 16 (λc8 wc=>∃n va vn vc,c8=.pointer (ae ⟨n,0,af⟩)/\jO wc n (aE va vn vc) 0 (ii x2) [] (aE (ae ⟨g,3,af⟩) (N-3)<|cap-3)/\pm wc (J h.1) (aE va vn vc) (hO aD j)/\a6 h wc/\J h.1<=n);·(
 refine Gw (S:=(λo:aQ=>aA o ⟨g,0,af⟩=ae (am<|D j)/\aA o ⟨g,2,af⟩=ae (am<|D x2)/\a6 h o)) b6 hS λhS=>?_;refine fT 0 hS ?_;refine fT 1 hS ?_;refine fT 2 hS ?_;refine fT 4 hS ?_;refine fT 5 hS ?_;refine fT 6 hS ?_;refine fT 8 hS ?_;refine fT 9 hS ?_;refine lw (rs:=[3,11]) b6 ax (jv U (λK hK=>?_)<|jv U (λK hK=>?_) kU);{
 go_simp;go_wp2_with (go_at_call 39;go_loud (refine(bj _ hS).mono ?_;rintro l W' ⟨va,vn,vc,rfl,t,an,az⟩;have pg:=O an;have C:=O az;clear an az));refine hK.out _ _ t λhS=>?_;clear hK K t C;try simp only[Act.put,kB,iR,iy]
 refine lw (rs:=[7,11]) b6 ax (jv U (λK hK=>?_)<|jv U (λK hK=>?_) kU);{
 go_simp;go_wp2_with (go_at_call 90;go_loud (refine(aaD _).m ?_;rintro W' rfl));refine hK.out _ _ hS λhS=>?_;clear hK K;try simp only[Act.put,kB,iR,iy]
 refine fT 10 hS ?_;refine lw (rs:=[11]) b6 ax (jv U (λK hK=>?_) kU);go_simp;let⟨t,hR,ny⟩:=Td mF hS;have pg:=O<|Te (aZ #[aE af 0 0,ag ai 0,ag ai 0,am ⟨#[]⟩,aE af 0 0] 98) pg;refine hK.out _ _ t λhS=>?_;clear hK K t;revert hR pg hS;generalize aN _ _=W';intro hR pg hS;try simp only[Act.put,kB,iR,iy]
 exact Ny};{
 go_simp;let⟨t,hR,ny⟩:=Td mF hS;have pg:=O<|Te (aZ #[aE af 0 0,ag ai 0,ag ai 0,am ⟨#[]⟩,aE af 0 0] 98) pg;refine hK.out _ _ t λhS=>?_;clear hK K t;revert hR pg hS;generalize aN _ _=W';intro hR pg hS;try simp only[Act.put,kB,iR,iy]
 exact Ns}};{
 go_simp;let⟨t,hR,ny⟩:=aa1 mF b3;refine hK.out _ _ t λhS=>?_;clear hK K t;revert hR hS;generalize World.drew _=W';intro hR hS;try simp only[Act.put,kB,iR,iy]
 refine lw (rs:=[3]) b6 ax (jv U (λK hK=>?_) kU);go_simp;go_wp2_with (go_at_call 39;go_loud (refine(bj _ hS).mono ?_;rintro l W' ⟨va,vn,vc,rfl,t,an,az⟩;have pg:=O an;have C:=O az;clear an az));have hR:=hR.kept<|C.5 _ hR.lt;refine hK.out _ _ t λhS=>?_;clear hK K t C;try simp only[Act.put,kB,iR,iy]
 exact Ns})
 ·(
 obtain⟨n,va,vn,vc,rfl,aH,bD,au,aK⟩:=hcut;have:=au.4;have bK:bY wc g 1 (am<|D x):=(au.cell (p:=⟨g,1,af⟩) mF).trans bG;let⟨b4,b8,bn,b_,ca⟩:=aH.cells;have b2:=aH.frozen;have a1:=O aH;have b1:=O bD;have bL:=O au;have cs:=O λq=>xv x 86400 q G bW;have cn:E c=N-3:=cd<|V dd
 have bF:ao (gR wc g 3 c):=by{have k:=Q.2.1.below au;refine⟨k.1,λay dg=>?_⟩;have:=k.2 (3+ay) ct;rw[fM]at this;rw[this];have:(j::x::x2::c)[3+ay]' ct=c[ay]:=by{simp only[show 3+ay=ay+1+1+1 by omega,eG]};rw[this]};clear aH bD au R bG ab cy cz b3 hS cL cM bj aaD;go_wp21;refine(cs _).mono ?_;rintro l bp ⟨⟨w,rfl,a3⟩,rfl⟩;replace a3:=O a3;have cY:g≠n:=G;have bU:=bf.lt;have W:=a1.set1 w;have P:=O W;let⟨aB,cg,aC,ci,ck⟩:=W.cells;have aj:=O<|FI (i:=1) (u:=ag ai w) a1 b1;have Z:=O<|FJ (b:=n) (i:=1) (u:=ag ai w) cY bF;have ah:=O<|fc bL (p:=⟨n,1,af⟩) aK (ag ai w);have a9:=O λr A=>a5 r<|l8 _<|l8 _<|l8 _ A;have c7:=O λr A=>cB r<|l8 _<|l8 _<|l8 _ A;have cC:E c<=3001:=by simp at c0;omega
 let⟨ad,aJ⟩:=du<|ft 86400 x;let⟨T,aS⟩:=du<|et (ii x2) c;rw[aJ];have cD:ao (ad=aD->w=jF 86400 x):=λk=>a3<|aJ▸k;have cE:=O<|cj aJ aS;have al:ao (0<ii x2->a_ aL 92 #[ag ai<|ii x2,aE (ae ⟨g,3,af⟩) (N-3)<|cap-3] (a7 bp ⟨n,1,af⟩<|ag ai w) λl o=>l=bh (aG T)/\cv (J (a7 bp ⟨n,1,af⟩<|ag ai w).1) (a7 bp ⟨n,1,af⟩<|ag ai w) o):=λz=>by{have:=Xo z (cap-3) Z cC G a9;rw[cn,aS]at this;exact this};have av:ao (ii x2=0->T=ak):=λk=>by rw[<-aS,k];exact Xp
 let⟨M,aM⟩:=du<|ii x2;have dk:0<=M:=by rw[<-aM];rcases P_ x2 with l|l|l|l|l|l|l<;>omega
 have cF:=O aM;rw[aM]at a1 P al av bn aC;clear aM aJ aS a3 W;go_upto_region 7 with fail;go_cut [8]from 36 λc9 a4=>c9=aG T/\jO a4 n (aE va vn vc) w M [] (aE (ae ⟨g,3,af⟩) (N-3)<|cap-3)/\pm a4 (J h.1) (aE va vn vc) (hO aD j)/\gR a4 g 3 c/\a6 h a4;·(
 by_cases z:0<M;{
 go_wp2_with fail;refine(al z).m ?_;intro da aF;have cx:=O<|P.kept<|aF.5 n (by have:=P.lt;exact this);have cG:=O<|Z.below aF;have cK:ao (pm da (J h.1) (aE va vn vc)<|hO aD j):=by{
 have:=aj;cases F:hO aD j with
 |none=>rw[F]at this;exact this
 |some b0=>{rw[F]at this;let⟨cO,aR,aP,cR,cS,ar,cT⟩:=this;exact⟨cO,aR,aP,cR,cS,ar,cT.below aF⟩}};have cu:=O<|bC ah<|bN aF ah.4;clear al aF b4 b8 bn b_ ca b2 aB cg aC ci ck bK;go_wp2;go_meet;·exact⟨U,cx,cK,cG,cu⟩};{have cH:M=0:=G;have bH:=av cH;have cr:=O bH;clear al bH;go_wp2;go_meet;·exact⟨by rw[cr],P,aj,Z,ah⟩})
 ·(
 obtain⟨rfl,W,bI,bs,cm⟩:=hcut;clear al P aj Z ah b4 b8 bn b_ ca b2 aB cg aC ci ck bK a1 b1 bL bF;have P:=O W;have aj:=O bI;have Z:=O bs;have ah:=O cm;have aB:=W.cells;clear W bI bs cm;go_wp2;go_loopw [9] (λi wr=>∃s:Nat,s<=E c/\i=ag ai s/\jO wr n (aE va vn vc) w M (gZ 32<|be s c) (aE (ae ⟨g,3,af⟩) (N-3)<|cap-3)/\pm wr (J h.1) (aE va vn vc) (hO aD j)/\gR wr g 3 c/\a6 h wr) λi _=>E c-(intOf i).toNat;·exact⟨0,dJ _,U,P,aj,Z,ah⟩
 ·(
 obtain⟨s,z,rfl,H,aT,B,y⟩:=hrel;have bl:=Tb 32 (be s c) 3000 λr A=>a9 r<|vL A;have:b7 (D<|gZ 32<|be s c)<=9006001:=by{
 rw[cV];have:E (be s c)<=3001:=by rw[iv];omega
 have:=tp (3000+1) this;omega};have R:=H.cells;have:=H.frozen;have aI:=O H;have bt:=O aT;have bu:=O B;have C:=O y;have bT:=y.4;by_cases bd:s<E c;{
 have c1:(s:Int)<((N-3:Nat):Int):=G;have ba:=B.2 s bd;have bV:=a9 c[s]<|ei bd;have aw:=g8 bd;let⟨r,A⟩:=bm<|c[s];rw[<-A]at ba bV aw;have de:b7 (D r)<=3000:=by rw[cV];exact bV
 clear H aT B y A;by_cases av:s=0;{subst av;have aq:ao (D (gZ 32 ([]:List ap))++D r=D (gZ 32<|be (0+1) c)):=by{rw[ao,aw];exact U};rw[h8]at ba;have:b7 (D<|gZ 32 ([]:List ap))<=5:=bW;clear aw bl;go_upto_region 13 with fail;go_region;all_goals(go_wp2;refine⟨⟨0+1,G,by first|rfl|go_num,?_,?_,?_,?_⟩,dz⟩;{rw[aq];exact aI.lM _};{exact FI aI bt};{exact FJ G bu};{exact(fc C (p:=⟨n,3,af⟩) aK _).drew})};{
 have:0<(s:Int):=G;have aq:ao (D (gZ 32 (be s c)++[32])++D r=D (gZ 32<|be (s+1) c)):=by{rw[ao,aw,Jq 32 r _ (by intro k;have:=eQ List.length k;rw[iv,gG]at this;omega),Th];simp};have aO:=aI.lM<|gZ 32 (be s c)++[32];have bq:=O aO;have:=aO.cells;have:=aO.frozen;have bv:=FJ (b:=n) (i:=3) (u:=am<|D<|gZ 32 (be s c)++[32]) G bu;have:aA (a7 wr ⟨n,3,af⟩<|am<|D<|gZ 32 (be s c)++[32]) ⟨g,3+s,af⟩=ae (am<|D r):=(dR (a:=⟨g,3+s,af⟩) (dr _ _ _ _ G)).trans ba;have cI:=aa3<|gZ 32<|be s c;have df:b7 (D<|gZ 32 (be s c)++[32])<=9006002:=by rw[<-cI,ByteArray.size_append];show _+1<=_;omega
 have cJ:=O<|FI (i:=3) (u:=am<|D<|gZ 32 (be s c)++[32]) aI bt;have cA:=O bv;clear aw bl av aO bv;go_upto_region 13 with fail;go_region;all_goals(go_wp2;refine⟨⟨s+1,G,by first|rfl|go_num,?_,?_,?_,?_⟩,dz⟩;{rw[aq];exact bq.lM _};{exact FI bq cJ};{exact FJ G cA};{exact((fc C (p:=⟨n,3,af⟩) aK _).setCell (p:=⟨n,3,af⟩) aK _).drew})}};{
 have c1:¬(s:Int)<((N-3:Nat):Int):=G;have cZ:s=E c:=G;have aq:ao (gZ 32 (be s c)=gZ 32 c):=by rw[ao,cZ,jc]
 have a2:=bf.kept<|y.5 (J e.1) bU;have:=a2.cells;have:=a2.frozen;have bS:JX d (J e.1) (bh<|bZ #[ce #[aE va vn vc,ag ai w,ag ai M,am<|D<|gZ 32<|be s c,aE (ae ⟨g,3,af⟩) (N-3)<|cap-3],aG<|ad&&T && !va.isNone]) (bx<|a7 (a7 (a7 (a7 (a7 wr ⟨J e.1,0,af⟩<|aE va vn vc) ⟨J e.1,1,af⟩<|ag ai w) ⟨J e.1,2,af⟩<|ag ai M) ⟨J e.1,3,af⟩<|am<|D<|gZ 32<|be s c) ⟨J e.1,4,af⟩<|aE (ae ⟨g,3,af⟩) (N-3)<|cap-3):=by{rw[aq];refine aa2 bM c7 bX cF cE cD aT B cn G (b:=J e.1) (λs z=>?_) mo bU (cd Q.1);show(a7 (a7 (a7 (a7 (a7 wr ⟨J e.1,0,af⟩ _) ⟨J e.1,1,af⟩ _) ⟨J e.1,2,af⟩ _) ⟨J e.1,3,af⟩ _) ⟨J e.1,4,af⟩ _).1[s]? = _;rw[dr _ _ _ _<|by exact z,dr _ _ _ _<|by exact z,dr _ _ _ _<|by exact z,dr _ _ _ _<|by exact z,dr _ _ _ _<|by exact z]};have cw:=O bS;have co:=O a2;clear H aT B y bl a2 bS;generalize gZ 32 (be s c)=cq at*;have cX:ad=ak\/(ad=aD/\T=ak)\/(ad=aD/\T=aD):=by cases ad<;>cases T<;>simp
 rcases cX with rfl|⟨rfl,rfl⟩|⟨rfl,rfl⟩;all_goals go_upto_region 14 with fail
 all_goals go_region
 all_goals(go_wp2;let a8:=co.set (aE va vn vc) (aE (ae ⟨g,3,af⟩) (N-3)<|cap-3) w M cq;let⟨aV,aW,aX,aY,a0⟩:=a8.cells;have bw:=cw;simp only[DD,uN,uM,DC]at bw;refine dQ ?_ U ⟨bw,?_⟩;{simp[c_,results40,go_sem,aV,aW,aX,aY,a0]};{have cp:=bC Q.2.2<|bN C G;exact(((((fc cp (p:=⟨J e.1,0,af⟩) bo _).setCell (p:=⟨J e.1,1,af⟩) bo _).setCell (p:=⟨J e.1,2,af⟩) bo _).setCell (p:=⟨J e.1,3,af⟩) bo _).setCell (p:=⟨J e.1,4,af⟩) bo _).drew})})))}
def t7(a b s:ap):ap:=if E s<28\/be 8 s≠[0,1,8,0,6,4,0,1]\/be 4 (bi 24 s)≠b then []else(bi 8 s).take 6++a++[8,6]++be 7 s++[2]++a++b++be 10 (bi 8 s)
def GK(c:d=P):((D d).toList==(D P).toList)=aD:=by grind
def K_(c:d≠P):((D d).toList==(D P).toList)=ak:=by rw[gC,gC,ju];exact c
def pk(s a b c)(e:b=a+c):∃d,d=be c (bi a s)/\(D s).extract a b=D d:=⟨_,U,by rw[y5,e,DT]⟩
def HE(h:φ:=by go_wp2;go_quiet (fail);go_wp2;go_ret;exact bd U<|aT _):φ:=h
def act(a b s c)(ap:E s<=100000000)(V:E a<=1000)(T:E b<=1000):a_ aL 55 #[jW a b,aS s] c (cI (aS<|t7 a b s) c):=by
 have:=cV s;have k:=bq.fF c [aS a,aS b] 47;have R:=k.cell 0 ax;have bG:=k.cell 1 ax;simp only[eB,eG]at R bG;have aT:ao (∀l,a6 c<|(aN c<|aZ #[am<|D a,am<|D b] 47).drewN l):=λl=>jn ((cU (J c.1) c).alloc bo _) l;let⟨n,h,aw⟩:=pk s 0 8 8 U;let⟨W,x,ay⟩:=pk s 24 28 4 U;let⟨o,i,az⟩:=pk s 8 14 6 U;let⟨p,e,aB⟩:=pk s 0 7 7 U;let⟨q,j,aC⟩:=pk s 8 18 10 U;have aq:b7 (D o)<=6:=by rw[cV,i,iv];omega
 have ar:b7 (D p)<=7:=by rw[cV,e,iv];omega
 have au:b7 (D q)<=10:=by rw[cV,j,iv];omega
 rw[t7,<-x,<-i,<-j];rw[pW]at h e;rw[<-h,<-e];clear k h x i e j;let⟨r,y,ad,Y⟩:=ix o a;let⟨t,z,I,N⟩:=ix r [8,6];let⟨u,A,ah,Z⟩:=ix t p;let⟨w,B,K,O⟩:=ix u [2];let⟨L,C,aj,aa⟩:=ix w a;let⟨M,F,al,ab⟩:=ix L b;let⟨av,H,an,ac⟩:=ix M q;rw[<-y,<-z,<-A,<-B,<-C,<-F,<-H];rw[<-cV]at V T;have:D r++⟨#[8,6]⟩=D t:=I;have:D u++⟨#[2]⟩=D w:=K;rw[show(D [8,6]).size=2 from U]at N;rw[show(D [2]).size=1 from U]at O;have:¬9223372036854775807<b7 (D o)+b7 (D a):=G;have:¬9223372036854775807<b7 (D r)+2:=G;have:¬9223372036854775807<b7 (D t)+b7 (D p):=G;have:¬9223372036854775807<b7 (D u)+1:=G;have:¬9223372036854775807<b7 (D w)+b7 (D a):=G;have:¬9223372036854775807<b7 (D L)+b7 (D b):=G;have:¬9223372036854775807<b7 (D M)+b7 (D q):=G;clear y z A B C F H I K Y N Z O aa ab ac;go_in;by_cases S:E s<28;{rw[b8<|bJ S];have X:(E s:Int)<28:=G;exact HE};have X:¬(E s:Int)<28:=G;have:decide ((E s:Int)<28)=ak:=by grind
 by_cases d:n=[0,1,8,0,6,4,0,1];case neg=>(
 rw[b8<|bE<|bJ d];have P:((D n).toList==[0,1,8,0,6,4,0,1])=ak:=by rw[gC,ju];exact d
 exact HE)
 have P:((D n).toList==[0,1,8,0,6,4,0,1])=aD:=by rw[d,gC];rfl
 by_cases g:W=b;case neg=>(rw[b8<|bE<|bE g];have Q:=K_ g;clear d;exact HE)
 have Q:=GK g;rw[bV<|by grind];have:¬(E s:Int)<14:=G;have:¬(E s:Int)<7:=G;have:¬(E s:Int)<18:=G;clear d g;go_wp2;go_quiet (fail);go_wp2;go_quiet (fail);go_wp2;go_ret;exact bd U<|by rw[World.drewN_drewN];exact aT _
def Gr:eY [] l=(0,[],aD):=rfl
def B3:e4 [] l=(0,[],aD):=by simp[e4,eY]
def TE:eP [] l 4=([],[],aD):=rfl
def acY(b)(V:E Q<20):a_ aL 176 #[aS Q] b (cI (bZ #[ce #[am ⟨#[]⟩,am ⟨#[]⟩,am ⟨#[]⟩],aG ak]) b):=by
 have I:bq (aN (aN b<|aZ #[am ⟨#[]⟩,am ⟨#[]⟩,am ⟨#[]⟩] 285)<|aZ #[am<|D Q,aG ak] 195) (J b.1) nG 285:=(bq.fF b _ _).alloc _;have K:ed (aN (aN b<|aZ #[am ⟨#[]⟩,am ⟨#[]⟩,am ⟨#[]⟩] 285)<|aZ #[am<|D Q,aG ak] 195) (J b.1+1) Q ak:=by{have:=cW (aN b<|aZ #[am ⟨#[]⟩,am ⟨#[]⟩,am ⟨#[]⟩] 285)<|aZ #[am<|D Q,aG ak] 195;simpa [ed]using this};have F:=O<|((cU (J b.1) b).alloc bo<|aZ #[am ⟨#[]⟩,am ⟨#[]⟩,am ⟨#[]⟩] 285).alloc ax<|aZ #[am<|D Q,aG ak] 195;have x:=O<|pO 20 K G G;rw[show eP Q ak 20=([],[],aD)from by unfold eP;grind]at x;have g:=O I;go_in;go_wp21;refine x.m λl ⟨u,o,W⟩=>?_;have H:J l.1=J b.1+2:=by simp_all
 have r:ao (xG b (aN l<|aZ #[am<|D [],aG ak] 195) [] aD [] ak):=⟨(g.kept o G).alloc _,(dv _ _ _ u.lt).trans u,H▸cW _ _,ct,(bC F<|o.below G G).alloc G _⟩;go_wp21;generalize aN l (aZ #[am<|D [],aG ak] 195)=X at*;have a:=O<|o0 [] ak r.3 ax;rw[Gr]at a;refine a.m λY ⟨d,c,e⟩=>?_;have q:=O<|r.call d c e;have a:=O<|o0 [] aD q.3 ax;rw[Gr]at a;go_wp21;refine a.m λZ ⟨d,c,e⟩=>?_;have n:=O<|q.call d c e;have a:=O<|lW aD n.3 ax;rw[B3]at a;go_wp21;refine a.m λaa ⟨d,c,e⟩=>?_;have t:=O<|n.call d c e;have a:=O<|lW aD t.3 ax;rw[B3]at a;go_wp21;refine a.m λab ⟨d,c,e⟩=>?_;have w:=O<|t.call d c e;have a:=O<|lW aD w.3 ax;rw[B3]at a;go_wp21;refine a.m λac ⟨d,c,e⟩=>?_;have z:=O<|w.call d c e;have a:=O<|o0 [] aD z.3 ax;rw[Gr]at a;go_wp21;refine a.m λad ⟨d,c,e⟩=>?_;have y:=O<|z.call d c e;have a:=O<|o0 [] aD y.3 ax;rw[Gr]at a;go_wp21;refine a.m λah ⟨d,c,e⟩=>?_;have A:=O<|y.call d c e;have a:=O<|lW aD A.3 ax;rw[B3]at a;go_wp21;refine a.m λaj ⟨d,c,e⟩=>?_;have B:=O<|A.call d c e;have a:=O<|pO 4 B.3 G ax;rw[TE]at a;go_wp2_with fail;refine a.m λal ⟨d,c,e⟩=>?_;have i:=O<|B.call d c e;have a:=O<|pO 4 i.3 G ax;rw[TE]at a;go_wp2_with fail;refine a.m ?_;rintro k ⟨d,c,e⟩;have h:=O<|i.call d c e;clear d c e a i;have:=h.4;have R:=h.1.cell 0 ax;have S:=h.1.cell 1 ax;have T:=h.1.cell 2 ax;have:=h.1.frozen;simp only[nG,eB,eG]at R S T;have j:=O<|(((h.1.set 0<|am ⟨#[]⟩).set 1<|am ⟨#[]⟩).set 2<|am ⟨#[]⟩).alloc<|aZ #[am<|D [],am<|D [],am ⟨#[]⟩] 285;have C:=O<|(((fc h.5 bo (p:=⟨J b.1,0,af⟩) (am ⟨#[]⟩)).setCell bo (p:=⟨J b.1,1,af⟩) (am ⟨#[]⟩)).setCell bo (p:=⟨J b.1,2,af⟩) (am ⟨#[]⟩)).alloc (by simp_all) (aZ #[am<|D [],am<|D [],am ⟨#[]⟩] 285);clear h;go_wp2;refine dQ (v:=bZ #[ce #[am ⟨#[]⟩,am ⟨#[]⟩,am ⟨#[]⟩],aG ak]) ?_ U ?_;{let L:aA (aN (a7 (a7 (a7 k ⟨J b.1,0,af⟩<|am ⟨#[]⟩) ⟨J b.1,1,af⟩<|am ⟨#[]⟩) ⟨J b.1,2,af⟩<|am ⟨#[]⟩)<|aZ #[am<|D [],am<|D [],am ⟨#[]⟩] 285) (N (J b.1) 0)=ae (am ⟨#[]⟩):=j.cell 0 ax;let M:aA (aN (a7 (a7 (a7 k ⟨J b.1,0,af⟩<|am ⟨#[]⟩) ⟨J b.1,1,af⟩<|am ⟨#[]⟩) ⟨J b.1,2,af⟩<|am ⟨#[]⟩)<|aZ #[am<|D [],am<|D [],am ⟨#[]⟩] 285) (N (J b.1) 1)=ae (am ⟨#[]⟩):=j.cell 1 ax;let P:aA (aN (a7 (a7 (a7 k ⟨J b.1,0,af⟩<|am ⟨#[]⟩) ⟨J b.1,1,af⟩<|am ⟨#[]⟩) ⟨J b.1,2,af⟩<|am ⟨#[]⟩)<|aZ #[am<|D [],am<|D [],am ⟨#[]⟩] 285) (N (J b.1) 2)=ae (am ⟨#[]⟩):=j.cell 2 ax;simp[c_,results176,go_sem,L,M,P]};{exact bd U C}
def qa(a:bk×List ap×Nat):List bk:=[a.1,M a.2.2]
def gb(c:aQ)(e h:Nat)(v:bk)(g:gH):Prop:=
 ∃a:List<|bk×List ap×Nat,b9 (·.2) a=g/\c.ownsRow e 279 2 v (E a) (ex qa a) /\
  ∀d∈a,iI c (λb=>b=h\/ae b=bA v) d.1 d.2.1
structure fz(wb:Nat)(w:World)(v:Value)(w':World)(v':Value):Prop where
 fr:co (λk=>k≠wb/\some k≠v.ownBlock) w w'
 ob:∀k,v'.ownBlock=some k->v.ownBlock=some k\/w.heap.size<=k
def fz.refl(c:Nat)(a:aQ)(v:bk):fz c a v a v:=⟨co.refl _ _,λ_ b=>bJ b⟩
def fz.Du{wb:Nat}(a:a6 b f):fz wb b e f e:=⟨co.zY a,λ_ a=>bJ a⟩
section
variable {wb:Nat} {w w' w2:World}{v v' v2:Value}
def fz.trans(a:fz wb w v w' v')(d:fz wb w' v' w2 v2):fz wb w v w2 v2 where
 fr:=⟨cQ d.1.1 a.1.1,cQ d.1.2 a.1.2,cQ d.1.3 a.1.3,cJ a.1.4 d.1.4,λc aO e=>(d.1.5 c (eA aO a.1.4) ⟨e.1,λb=>(a.2 c<|b5 b).elim (λb=>e.2<|b5 b) λb=>G⟩).trans<|a.1.5 c aO e⟩
 ob:=λc aO=>(d.2 c aO).elim (a.2 c) λb=>bE<|cJ a.1.4 b
def fz.nm(h:fz wb w v w' v')(o:iI w (λb=>b=wb\/ae b=bA v) e s):iI w' (λb=>b=wb\/ae b=bA v') e s:=by let⟨d,ay,j,k,l,g,c⟩:=o;refine⟨d,ay,j,k,l,g.fr h.1 ⟨λa=>c<|bJ a,λa=>c<|bE a⟩,λn=>n.elim (λa=>c<|bJ a) λa=>(h.2 d<|b5 a).elim (λa=>c<|bE<|b5 a) λa=>?_⟩;let:=g.1;omega
end
def gb.nil(b:aQ)(a d:Nat):gb b a d (bX) []:=⟨[],U,ih b a _ 2,λe c=>by cases c⟩
section
variable {w:World} {base wb:Nat} {v:Value}{es:gH} (h:gb w base wb v es)
include h
theorem gb.slice:∃a b,v=aE a (E es) b:=by obtain⟨i,rfl,d,_⟩:=h;rw[ff];rcases d.2 with⟨rfl,c⟩|⟨g,e,_,rfl,_⟩;{exact⟨af,0,by rw[c]⟩};{exact wa}
theorem gb.lt:∀a,bA v=ae a->base<=a/\a<J w.1:=by let⟨c,_,b,_⟩:=h;exact fS b
theorem gb.ne(s:fv w wb d e):ae wb≠bA v:=λb=>by
 obtain⟨k,_,g,_⟩:=h;rcases g.2 with⟨rfl,_⟩|⟨c,i,j,rfl,_,a,_⟩
 ·cases b
 ·have:wb=c:=by simpa [bA]using b
  subst this;rw[s]at a;simp at a
theorem gb.below(a:a6 w b):gb b base wb v es:=by let⟨i,c,d,e⟩:=h;exact⟨i,c,g6 d a,λj g=>(e j g).fr (p:=λ_=>True) (co.zY a) λ_ _=>cy⟩
theorem gb.set(t:ae wb≠bA v)(i:Nat)(b:bk):gb (a7 w ⟨wb,i,af⟩ b) base wb v es:=by let⟨x,n,e,o⟩:=h;let g:co (λj=>j≠wb) w (a7 w ⟨wb,i,af⟩ b):=co.j9 b λ_ h=>h;refine⟨x,n,bd e.1 ?_,λy u=>(o y u).fr g λj q a=>q<|bJ a⟩;rcases e.2 with r|⟨d,k,l,rfl,p,c,rest⟩;{exact .inl r};{exact .inr ⟨d,k,l,rfl,p,(g.block d (dK.1 c).1 λa=>t (by rw[a];rfl)).trans c,rest⟩}
theorem gb.apX(c:fv w wb d e)(a:Nat)(b:bk):gb (a7 w ⟨wb,a,af⟩ b) base wb v es:=h.set (h.ne c) a b
theorem gb.ends:BL w v es:=by
 obtain⟨e,rfl,q,r⟩:=h;rcases q.2 with⟨i,u⟩|⟨k,n,A,i,B,j,o,_,C,y⟩;{refine bJ<|bd i ?_;rw[hq u];rfl};{
 refine bE ⟨k,n,by rw[ff];exact i,by rw[ff];exact o,(dK.1 j).1,λd g=>?_⟩;rw[ff]at g;let p:∀(c:List<|bk×List ap×Nat) (b a:Nat) (hk:b<E c),a<2->(ex qa c)[b*2+a]? = (qa c[b])[a]?:=by{
 intro c;induction c with
 |nil=>intro b a hk;simp at hk
 |cons z c x=>{
 intro b a hk aO;let t:E (qa z)=2:=U;cases b with
 |zero=>rw[kj,o7,fM,Cr G];rfl
 |succ b=>{rw[kj,pv G,t,show(b+1)*2+a-2=b*2+a by omega];exact x b a Cx aO}}};let l:∀a,a<2->aA w (N k<|2*d+a)=(qa e[d])[a]?:=by{intro a aO;rw[wI,<-p e d a g aO,<-y,qA G];rw[aA,j];simp};rw[pH];exact⟨e[d].1,l 0 G,(r e[d]<|ei g).nm,l 1 G⟩}
end
def RX:aL.underlying 208=ae (.slice 279):=b6
def RY:(aL.info? 279).map (λa=>(a.8,a.3,a.4))=ae (ae<|ce #[bX,M 0],2,32):=b6
def ZP(h:Nat)(g:h=J b.1)(i:TypeId):∀(d:Nat) (j:bk),[e,k][d]? = ae j->aA (aN b<|aZ #[e,k] i) (((N h 0):gU).add d)=ae j:=λd j a=>by
 subst g;have c:=cW b<|aZ #[e,k] i;generalize aN b (aZ #[e,k] i)=l at c⊢;generalize J b.1=h at c⊢
 match d,a with
 |0,a=>simp at a;subst a;simp[Addr.add,aA,c]
 |1,a=>simp at a;subst a;simp[Addr.add,aA,c]
 |n+2,a=>simp at a
def er(a:List ap):List ap:=b9 (List.map gq) a
def qc:E (er s)=E s:=by simp[er]
def ZQ:er (bi a s)=bi a (er s):=by simp[er,Bc]
def de:List ap->ap->gH->ap×gH
 |[],a,b=>(a++[0],b)
 |c::d,a,b=>match jA (er (c::d)) b with
  |some e=>(a++[aO<|49152+e,cL<|49152+e],b)
  |none=>de d (a++(UInt8.ofNat (E c)::c))<|b++[(er (c::d),E a)]
def vH{b:gH}(g:jA (er (d::s)) b=ae a):de (d::s) P b=(P++[aO<|49152+a,cL<|49152+a],b):=by rw[de,g]
def rL{b:gH}(e:jA (er (d::s)) b=af):de (d::s) P b=de s (P++(UInt8.ofNat (E d)::d)) (b++[(er (d::s),E P)]):=by rw[de,e]
def fv.frozen(h:fv b a d e)(c:Nat):gd b (N a c)=ak:=by unfold fv at h;exact qE
def fv.set0(h:fv b a d e)(c:ap):fv (a7 b ⟨a,0,af⟩<|am<|D c) a c e:=by unfold fv at*;exact EX
def fv.set1(h:fv b a d e)(c:bk):fv (a7 b ⟨a,1,af⟩ c) a d c:=by unfold fv at*;exact EX
def JB(c:Nat)(b:aQ)(v:bk)(e:Nat)(d:bk):fz c b v (a7 b ⟨c,e,af⟩ d) v:=⟨co.j9 d λ_ a=>a.1,λ_ a=>bJ a⟩
def rM{i:gH}(j:fv f a d k)(l:gb f c a k i)(n:fz a b e f k)(s:a6 f m)(v:ap):fv (a7 m ⟨a,0,af⟩<|am<|D v) a v k/\gb (a7 m ⟨a,0,af⟩<|am<|D v) c a k i/\fz a b e (a7 m ⟨a,0,af⟩<|am<|D v) k:=
 ⟨(j.below s).set0 v,(l.below s).apX (j.below s) 0 _,(n.trans<|fz.Du s).trans<|JB _ _ _ _ _⟩
def ZR{h:bk}{i:List<|bk×List ap×Nat}(o:∀d∈i,iI b (λv=>v=c\/ae v=bA e) d.1 d.2.1)(q:iI b (λv=>v=c\/ae v=bA e) h s)(n:fz c b e f k)(p:f.ownsRow a 279 2 k (E i+1)<|ex qa i++[h,M g]):gb f a c k (b9 (·.2) i++[(s,g)]):=by
 refine⟨i++[(h,s,g)],by rw[jg];rfl,by rw[dj,o3];exact p,λd hy=>?_⟩;rcases i_.1 hy with hy|hy;{exact n.nm<|o d hy};{
 obtain rfl:d=_:=EY
 exact n.nm q}
def RD:∀{c:gH},jA s c=ae a->a<16384
 |g::c,b=>by unfold jA at b;split at b;{rename_i d;simp at b;subst b;exact d.2};{exact RD b}
def JC{z:gH}{bH b_:Nat}(bc:fv b a d r)(C:gb b c a r z)(hu:gR b g bH s)(dA:E s<=b_)(bz:g≠a)(ck:ae g≠bA r)(dq:c<=J b.1)(c3:s≠[])(dx:E s<=300)(b2:∀i∈s,E i<=255)(dr:E d<=900000)(b0:∀e∈z,E e.1<=1000/\e.2<=1000000)(dt:E z<=900000):a_ aL 114 #[bv a,bL g bH (E s) b_] b λe br=>e=bh (bZ #[])/\∃ac,fv br a (de s d z).1 ac/\gb br c a ac (de s d z).2/\fz a b r br ac:=by
 have⟨da,df,c7,c8,c9⟩:=im wx;have⟨cF,cG,co,c5,c6⟩:=im RY;have⟨Q,a8⟩:=bm<|de s d z;rw[<-a8];have cE:=O a8;have bu:=O bc;have a3:=O C;have aK:=O hu;have bB:=O b2;have cw:=O b0;have:=bc.lt;have b8:=hu.1;clear a8 bc C hu b2 b0;go_wp2;go_loopw [4,5] (λdb K wr=>∃k:Nat,K=M k/\k<=E s/\lX wr (J b.1) db (be k<|er s)/\a6 b wr) λ_ K _=>E s-(intOf K).toNat;·exact⟨0,U,dJ _,bd (ih _ _ _ _) ax,cU _ _⟩
 ·(
 obtain⟨k,rfl,hk,T,a9⟩:=hrel;have aT:=O a9;have aJ:=O T;have dc:=a9.4;clear a9 T;by_cases hlk:k<E s;{
 have bG:=(aT.cell (p:=⟨g,bH+k,af⟩) b8).trans (aK.2 k hlk);have bl:=V bB s[k]<|ei hlk;have cT:ao (be (k+1) (er s)=be k (er s)++[s[k].map gq]):=Ni;have cN:ao (E (be k<|er s)=k):=by rw[ao,iv,qc,ro hk]
 generalize s[k]=i at*;have cg:=O<|Qz i wr G;have aH:(k:Int)<E s:=G;generalize cH:be k (er s)=cp at*;clear cH bl;go_wp2_with fail;refine cg.m ?_;intro P l;have bU:=O l;have c4:=l.4;have fU:=O<|g6 aJ.1 l;have:=V cN;clear l cg bG;go_wp2_with (at_builtin;go_loud (refine sQ _ U (.tmp 14) (.tmp 20) 92 U (J b.1) 9 da (am ⟨#[]⟩) 1 16 yk df c7 c8 c9 U bW _ (E cp) _ U (fU.alloc _) (N (J P.1) 0) 1 1 [aS<|b9 gq i] U U (Bm _ _ _) (λF hu=>yn) lN G ct ?_));intro ac y hown' hgrow Hx _;have bS:ao (lX y (J b.1) ac (be (k+1)<|er s)/\a6 b y):=by{rw[ao,V cT];exact MO};clear hown' hgrow Hx;go_wp2;exact bd (⟨k+1,dd,G,bS.1,bS.2⟩) dz};{
 obtain rfl:k=E s:=G;have T:=V aJ;rw[mS (by rw[qc];exact cO _)]at T;have cl:=O T;clear T aJ hlk hk;have aH:¬(E s:Int)<E s:=G;have⟨A,az,b1,c1,ds,bf⟩:=sF (V cl) (λh=>c3<|by simpa [er]using h);rw[qc]at b1 c1;subst b1;have bF:ae A≠bA r:=λe=>cd<|(a3.lt A<|b5 e).2
 have ar:=O<|cj ck bF;have bs:A≠a:=G;have au:ao (fv wr a d r/\gb wr c a r z/\fz a b r wr r):=⟨bu.below aT,a3.below aT,fz.Du<|V aT⟩;have cq:=O<|aK.below aT;have dm:=O bf;have:=bf.1;clear cl bu a3 aK bf ck bF;generalize wr=dk at*;go_wp2;go_loopw [6] (λK wr=>∃(k:Nat) (v:ap) (aF:bk) (j:gH),K=M k/\k<=E s/\ao (de (bi k s) v j=Q/\fv wr a v aF/\gb wr c a aF j/\fz a dk r wr aF)/\E v<=900000+k*256/\E j<=900000+k/\ao (∀e∈j,E e.1<=1000/\e.2<=1000000)) λK _=>E s-(intOf K).toNat;·exact⟨0,d,r,z,U,dJ _,⟨b5 cE,au.1,au.2.1,fz.refl _ _ _⟩,G,G,cw⟩
 ·(
 obtain⟨k,v,aF,j,rfl,hk,aI,cB,dp,bK⟩:=hrel;have⟨aB,R,x,o⟩:=V aI;obtain⟨bn,bp,rfl⟩:=x.slice;have cR:=R.cells;have:=o.1.4;by_cases hlk:k<E s;{
 have bV:=cq.fr o.1<|bd bz ar.1;have a5:=dm.fr o.1<|bd bs ar.2;have bQ:=bV.2 k hlk;have bl:=V bB s[k]<|ei hlk;have aV:=jM hlk;have bM:gR wr A k (bi k<|er s):=bd a5.1<|λbj ba=>by{have:=a5.2 (k+bj) (by rw[il]at ba;omega);rw[fM]at this;rw[yQ];exact this};have aW:iI wr (λca=>ca=a\/ae ca=bA (aE bn (E j) bp)) (bL A k (E s-k)<|az-k) (bi k<|er s):=⟨A,k,az-k,by rw[il,qc],by rw[il,qc];omega,bM,λc0=>c0.elim bs λe=>(o.2 A<|b5 e).elim (λe=>ar.2<|b5 e) λe=>G⟩;have aq:=ZO R x.ends aW.nm (by rw[il,qc];omega) (V bK) G;have aC:ao (de (s[k]::bi (k+1) s) v j=Q):=by rw[ao,<-aV];exact aB
 have ab:ao (er (s[k]::bi (k+1) s)=bi k (er s)):=by rw[ao,<-aV,ZQ]
 generalize s[k]=i at*;have⟨bt,B⟩:=du<|jA (bi k<|er s) j;rw[B]at aq;have⟨bT,L⟩:=du<|xP bt;rw[L]at aq;have aj:=O L;have aa:=O B;have ci:=O aq;have b4:=O aW;have bO:=O<|cj R<|cj x o;have aH:(k:Int)<E s:=G;clear L B aq aW bM aV bV a5 R x aB aI o;go_wp2_with fail;refine ci.m ?_;intro P l;have⟨R,x,o⟩:=V bO;have X:=R.below l;have c4:=l.4;have aM:=X.lt;have⟨cS,bR⟩:=X.cells;have a4:=X.frozen;have aX:=(l.cell (p:=⟨g,bH+k,af⟩) (by show g<J wr.1;omega)).trans bQ;have w:=O<|cj X<|cj (x.below l)<|o.trans<|fz.Du l;have aY:=O<|(fz.Du (wb:=a) l).nm (V b4);have⟨t,al⟩:=bm<|E v;have cr:b7 (D v)=t:=by rw[cV,al]
 rw[<-al]at cB;have a0:=O al;clear R x o X l ci bO b4 bQ cR al;cases bt with
 |some n=>{
 have:=RD<|V aa;have L:bT=(n:Int):=b5 aj;subst L;have ad:ao (Q=(v++[aO<|49152+n,cL<|49152+n],j)):=by rw[ao,<-V aC];exact vH<|(V ab)▸aa
 have⟨p,aw⟩:=bm<|49152+n;rw[<-aw]at ad;have dh:p<65536:=G;have dB:ai.wrap (49152+(n:Int))=(p:Int):=fl
 have:0<=(n:Int):=G;have cx:=O<|nW p (bx P) dh;have:b7 (D [aO p,cL p])=2:=U;have:D v++D [aO p,cL p]=D (v++[aO p,cL p]):=qF _ _;have cC:bY (bx P) a 0 (aS v):=cS;clear aw aa aC ab aY aj aX bR;go_wp2;go_region_with (go_at_call 57;refine cx.m λy av=>?_;have cX:=(av.cell (p:=⟨a,0,af⟩) aM).trans cC;have cY:=λu=>(sN<|av.5 a aM).trans<|a4 u);all_goals(
 have H:=O<|rM w.1 w.2.1 (au.2.2.trans w.2.2) (bC cc.drew av)<|v++[aO p,cL p];clear av cX cY;go_wp2;try simp only[Exit.inBlock,Exit.then]
 refine dQ (wq U _ _ _) U ?_;rw[V ad];exact⟨U,_,H⟩)}
 |none=>{
 have L:bT = -1:=b5 aj;subst L;have ad:ao (de (bi (k+1) s) (v++(UInt8.ofNat (E i)::i)) (j++[(bi k<|er s,E v)])=Q):=by rw[ao,<-V aC,rL<|(V ab)▸aa,V ab]
 have⟨cm,aU,bb,bD⟩:=w.2.1;have aP:E cm=E j:=by rw[<-aU,ff]
 have a1:=O<|cj aU bD;rw[aP]at bb;have bw:=O bb;have:¬az=k:=G;have bI:=w.2.1.ne w.1;clear aU bb bD aa aC ab aj;go_wp2;go_region_law (first|(refine step_append_lies _ rfl (.tmp 50) (.tmp 60) 208 rfl c 279 cF _ 2 32 RX cG co c5 c6 rfl bW _ (List.length j) (cm.flatMap qa) rfl (g6 (V bw) (cc.alloc bo _).drew) _ 1 1 [bL A k (s.length-k)<|az-k,M t] rfl rfl (λbj F ba=>ZP (J P.1) U _ bj F ba) (λF hu=>by exact Ht) bW lN G ct (J P.1+1) ax ?_;intro I S y b3 hgrow bX dw;have Y:fv y a v (aE bn (List.length j) bp):=((hgrow.5 a ct bI).trans<|dv _ _ _ aM).trans w.1;have cZ:=Y.frozen;have dg:=Y.cells.2));all_goals(
 have ah:fz a P (aE bn (List.length j) bp) y (bL I 0 (List.length j+1) S):=⟨⟨hgrow.1,hgrow.2,hgrow.3,cJ ax hgrow.4,λu aO aw=>(hgrow.5 u ct aw.2).trans<|dv _ _ _ aO⟩,λu aO=>by{
 obtain rfl:I=u:=by simpa [bA]using aO
 exact bX.imp id λe=>G}⟩
 have bq:=ZR a1.2 (V aY) ah (by rw[aP];exact b3);rw[a1.1]at bq;have Z:=Y.set1<|bL I 0 (List.length j+1) S;have b6:=bq.apX Y 1<|bL I 0 (List.length j+1) S;have a2:=(w.2.2.trans ah).trans<|JB a y _ 1<|bL I 0 (List.length j+1) S;have cD:=eA b8<|cJ dc a2.1.4;have cy:=(dR (a:=⟨g,bH+k,af⟩) ((ah.trans<|JB a y _ 1<|bL I 0 (List.length j+1) S).1.5 g G ⟨bz,λe=>w.2.2.2 g (b5 e) |>.elim (λe=>ar.1<|b5 e) λe=>G⟩)).trans aX;generalize a7 y ⟨a,1,af⟩ (aE (ae ⟨I,0,af⟩) (List.length j+1) S)=q at*;have⟨cn,dl⟩:=Z.cells;have cb:=Z.frozen;have bP:=Z.lt;have an:=O<|cj Z<|cj b6 a2;have⟨W,aR⟩:=bm<|List.length i;have⟨F,hu⟩:=bm<|UInt8.ofNat W;have cs:b7 (D i)=W:=by rw[cV,aR]
 have dy:ch.wrap (W:Int)=(bg F:Int):=CC
 have cz:ao (de (bi (k+1) s) (v++F::i) (j++[(bi k<|er s,t)])=Q):=by rw[ao,hu,aR,V a0];exact ad
 have:W<=255:=G;have cI:bY (bx<|aN q<|aZ #[ag ch<|bg F] 5) a 0 (aS v):=(dR (a:=⟨a,0,af⟩) (dv q _ a bP)).trans cn;have cK:bY (bx<|aN q<|aZ #[ag ch<|bg F] 5) g (bH+k) (aS i):=(dR (a:=⟨g,bH+k,af⟩) (dv q _ g cD)).trans cy;have cM:∀u,gd (bx<|aN q<|aZ #[ag ch<|bg F] 5) (N a u)=ak:=λu=>(sN (a:=⟨a,u,af⟩) (dv q _ a bP)).trans (cb u);have:¬9223372036854775807<t+1:=G;have:¬9223372036854775807<t+1+W:=G;have cu:(convert 53 9<|bL (J q.1) 0 1 1).run aL (bx<|aN q<|aZ #[ag ch<|bg F] 5)=.ok (aS [F]) (bx<|aN q<|aZ #[ag ch<|bg F] 5):=xt (bx q) [F] 1 U yp;have:b7 (D [F])=1:=U;have:D v++D [F]=D (v++[F]):=qF _ _;have:D (v++[F])++D i=D (v++[F]++i):=qF _ _;have dC:b7 (D<|v++[F])=t+1:=by rw[cV,dj,<-V a0];rfl
 clear ah bq Y Z b6 a2 b3 hgrow bX cZ dg hu aR ad aX cS bR a4 a1 aY bw w bI bl aP;go_wp2;go_region;all_goals(
 have B:=rM an.1 an.2.1 an.2.2 cc (v++F::i);have ay:=((cU _<|a7 q ⟨a,0,af⟩<|am<|D (v++F::i)).alloc bo<|aZ #[ag ch<|bg F] 5).drew;have H:=O<|cj (B.1.below ay)<|cj (B.2.1.below ay)<|B.2.2.trans<|fz.Du ay;have c2:E (v++F::i)=t+1+W:=by rw[dj,<-V a0,dW,<-cV i,cs];omega
 have dn:E (j++[(bi k<|er s,t)])=E j+1:=ax;have cA:ao (∀e∈j++[(bi k<|er s,t)],E e.1<=1000/\e.2<=1000000):=λe C=>by{
 rcases i_.1 C with C|C;{exact bK e C};{
 obtain rfl:e=_:=by simpa using C
 exact⟨by show(bi k<|er s).length<=1000;rw[il,qc];omega,by show t<=1000000;omega⟩}};clear B ay;clear an cI cK cM cu cn dl cb;go_wp2;exact⟨⟨k+1,_,_,_,dd,G,⟨cz,H.1,H.2.1,H.2.2⟩,by rw[c2];omega,by rw[dn];omega,cA⟩,dz⟩))}};{
 obtain rfl:k=E s:=G;have di:ao (Q=(v++[0],j)):=by{rw[ao,<-aB,tl];rfl};have aH:¬(E s:Int)<E s:=G;have a4:=R.frozen;have H:=O<|rM R x (au.2.2.trans o) cc<|v++[0];have:D v++⟨#[0]⟩=D (v++[0]):=qF v [0];have cr:b7 (D v)<=1000000:=lv
 have:ByteArray.size ⟨#[0]⟩=1:=U;clear R x o aB aI hlk;go_wp2;refine kh (v:=bZ #[]) (by simp[c_,results114]) U ?_;rw[V di];exact⟨U,_,H⟩})})
def abJ:∀(b:List<|bk×List ap×Nat),(∀d∈b,d.1.oneCell'=aD)->∀c∈ex qa b,c.oneCell'=aD:=by intro b e c a;let⟨d,g,a⟩:=tI.1 a;simp only[qa,fw,List.not_mem_nil,n_]at a;rcases a with rfl|rfl;{grind};{rfl}
def abK{V c}(F:fv b a d e)(al:gb b V a e c)(aW:c≠[])(aT:E c<=1000000):a_ aL 116 #[bv a] b λi u=>∃p I,i=bh (bv p)/\J b.1<=p/\fv u p d I/\gb u (J b.1) p I c/\a6 b u:=by
 let⟨S,T,K,ay,az⟩:=im RY;let⟨h,M,ar,y⟩:=al;let x:E h=E c:=by grind
 let aK:0<E c:=by grind
 let⟨q,Y,Z,au,aU,A,aj,_,aX,aF⟩:=ar.2.resolve_left λaS=>G;subst au;let⟨X,bG⟩:=F.cells;let av:=F.lt;let aH:=(dK.1 A).1;let R:ao (∀n t,(ex qa h)[n]? = ae t->aA (bx<|aN b<|aZ #[] 279) (((N q 0):gU).add n)=ae t):=by{intro n t an;rw[yl,fM];let aJ:n<E h*2:=by{grind};rw[<-aF,qA aJ]at an;let:(bx<|aN b<|aZ #[] 279).1[q]? = ae (aZ Z 279):=(dv b _ q aH).trans A;grind[aA]};let P:=O<|abJ h (λaP aB=>by let⟨_,_,_,i,_⟩:=y aP aB;rw[i];rfl);let z:=O<|cj M y;rw[x]at aj bG;let aC:E (ex qa h)=E c*2:=by grind
 let Q:=O x;go_in;go_upto_region 1 with fail;go_region_law (first|(refine step_append_lies _ rfl (.tmp 7) (.tmp 11) 208 rfl b.heap.size 279 S _ 2 32 RX T K ay az rfl bW _ 0 [] rfl (⟨ax,.inr ⟨b.heap.size,0,#[],rfl,cO _,World.alloc_heap_new b _,cO _,G,ax,ax⟩⟩) _ c.length Y (h.flatMap qa) rfl aC R P aK (by omega) G ax (b.heap.size+1) ax ?_;intro l j g ap k ad aV;let:=(dR (a:=⟨a,0,af⟩) ((k.5 a ct λi=>cd<|gm<|show ae a=ae (J b.1) from i).trans<|dv _ _ _ av)).trans X));all_goals(let o:a6 b g:=⟨k.1,k.2,k.3,cJ ax k.4,λH aO=>(k.5 H ct λi=>cd<|gm<|show ae H=ae (J b.1) from i).trans<|dv _ _ _ aO⟩;let:J b.1<=l:=ad.elim (λi=>cd<|gm<|show ae (J b.1)=ae l from i) λi=>G;let L:=cW g<|aZ #[am<|D d,aE (ae ⟨l,0,af⟩) (E c) j] 210;let r:a6 g (aN g<|aZ #[am<|D d,aE (ae ⟨l,0,af⟩) (E c) j] 210):=cf cc bo _;let aq:g.ownsRow (J b.1) 279 2 (bL l 0 (E c) j) (E h) (ex qa h):=by{rw[Q];simpa using ap};let aa:ao (fv (aN g<|aZ #[am<|D d,aE (ae ⟨l,0,af⟩) (E c) j] 210) (J g.1) d (bL l 0 (E c) j)/\gb (aN g<|aZ #[am<|D d,aE (ae ⟨l,0,af⟩) (E c) j] 210) (J b.1) (J g.1) (bL l 0 (E c) j) c/\a6 b (aN g<|aZ #[am<|D d,aE (ae ⟨l,0,af⟩) (E c) j] 210)):=by{let w:=o.4;refine⟨L,⟨h,z.1,g6 aq r,λaM aw=>?_⟩,bC o<|bN r w⟩;let⟨C,aI,W,ab,ac,B,aR⟩:=z.2 aM aw;let:=B.1;exact⟨C,aI,W,ab,ac,(B.below o).below r,λah=>ah.elim (λi=>G) λi=>cd<|gm<|show ae C=ae l from i⟩};let w:=o.4;go_wp2;go_ret;exact⟨_,_,U,w,aa⟩)
section
open Go
def V4:aL.laidByTextLater (be 6 Rows.allUptoRow.16) [.data,.data,.data,.data,.sentinel,.sentinel] aD:=Program.laidByTextLater_by_one 72 8 65 b6 b6 b6 b6 b6 b6 λ_ _=>b6
theorem V5:Tryz.pinned.3.2.headLifts.contains "ownunsafe"=ak:=b6
theorem V6:Tryz.pinned.3.2.pinnedFits "unicode/utf8.first"=aD:=b6
def V7:Rows.allUptoRow.laidByTextAt .later Tryz.pinned [.data,.data,.data,.data,.sentinel,.sentinel,.pinned] aD:=OpenClaim.laidByTextAt_pinned U U V4 U U U U (λc a b=>by
 simp only[Rows.allUptoRow,List.zip_cons_cons,List.zip_nil_right,List.mem_cons,List.mem_nil_iff,or_false]at a;rcases a with rfl|rfl|rfl|rfl|rfl|rfl|rfl<;>first|(cases b;done)|exact⟨V6,b6⟩) (by unfold Program.listedFits;rw[V5];kernel_rfl)
end
end Go.Proofs.YtkkpahmoljiepabGreatDoor
