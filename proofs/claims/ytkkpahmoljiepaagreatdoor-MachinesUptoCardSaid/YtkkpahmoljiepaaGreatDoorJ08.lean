import Derived.Test.YtkkpahmoljiepaaGreatDoorJ07
import Derived.Test.YtkkpahmoljiepaaGreatDoorJ0h
import Derived.StillTail
import Derived.SevenTiedAt
import Derived.LaidOnce
set_option maxRecDepth 1000000
set_option maxHeartbeats 12800000
set_option linter.all false
open Array renaming size->U
open Bool renaming false->ao,true->aE
open Eq renaming symm->bZ,trans->c_
open Go renaming Act->lJ,Addr->kC,Calls->bd,TypeId->d_,Value->bm,World->aQ,maxLen->hC,results->dr
open Go.Ending renaming returned->bg
open Go.Exit renaming normal->lV
open Go.IntKind renaming i64->am,u16->fs,u8->ck
open Go.Lib renaming trimPrefix->pF
open Go.Obj renaming cells->aS
open Go.Proofs.Tryz renaming prog->aK
open Go.Region renaming ready->uX
open Go.RowKit.Below renaming alloc->ct,mono->bV,setCell->fk,trans->bN
open Go.Value renaming agg->ci,bool->aG,iface->cV,int->ak,ownBlock->bW,pointer->cM,slice->aL,string->amz,tuple->bX
open Go.World renaming alloc->aO,alloc_heap_new->du,cell?->aD,drew->bq,frozen?->io,setCell->a_
open List renaming drop->bh,flatMap->fA,length->E,take->amA,toArray->dl
open Option renaming none->ai,some->ag
namespace Go.Proofs.YtkkpahmoljiepaaGreatDoor
open Go.RowKit Go.Proofs.Tryz
variable{a d:Nat}{b f m:World}{c g L:ap}{k s F:Value}{p x:Int}{j q:List D}{t H:Bool}{r:List ap}{z:TypeId}
def gy(i:aQ)(g:Nat)(t:d_)(d b c a h:Nat)(e:List Bool):Prop :=
 bk i g ([cV 71<|N d,J b,J c,ak fs a,ak fs h]++e.map aG) t
theorem Vw (b a) : (method 521 71 (cM (ag ⟨b, 0, ai⟩)) "Store").run aK a = .ok (155, cM (ag ⟨b, 0, ai⟩)) a := by kernel_rfl
theorem Vx (b a) : (method 521 71 (cM (ag ⟨b, 0, ai⟩)) "Load").run aK a = .ok (159, cM (ag ⟨b, 0, ai⟩)) a := by kernel_rfl
def Vy(b a):(callFunc 155 b).run aK a=.ok (.enter 155 b) a:=b8
def Vz(b a):(callFunc 159 b).run aK a=.ok (.enter 159 b) a:=b8
def aeG{s}(e:a<2 ^ s){c:Nat}(g:d=c*2 ^ s)(h:a+d<4294967296):bits .or .u32 (a:Int) (d:Int)=((a+d:Nat):Int):=by
 show IntKind.u32.wrap ((BitVec.ofInt 32 (a:Int) ||| BitVec.ofInt 32 (d:Int)).toNat:Int)=_;rw[BitVec.toNat_or,BitVec.ofInt_natCast,BitVec.ofInt_natCast,BitVec.toNat_ofNat,BitVec.toNat_ofNat,Ef G,Ef G];have b:a ||| d=a+d:=by{rw[g,Nat.or_comm,<- Nat.shiftLeft_eq c s,<- RP e];omega}
 rw[b,BM];omega
def M5{j g e o:Nat}(b:Nat){k}(c)(i:gy c d z j g a e o k)(q:a<=100000)(r:b<=100):bd aK 214 #[N d,J b] c λh p=>h=bg (J ((a+1536*b:Nat):Int))/\p=c:=by have l:=bk.cell i 2 aA;simp only[g_,e9,fw]at l;go_wp2;go_ret;simp
def VB{c j e g}{k}(b)(i:gy b c z j e g d a k)(p:a<65536):bd aK 218 #[N c] b λh o=>h=bg (J ((260+8*(a%8):Nat):Int))/\o=b:=by have l:=bk.cell i 4 aA;simp only[g_,e9,fw]at l;have:0<=(a:Int)%8:=G;go_wp2;go_ret;simp
def aeH{e c k i}{g}(l:gy b a z e c d k i g)(h:Nat):gy (a_ b ⟨a,3,ai⟩<|ak fs h) a z e c d h i g:=bk.set l 3<|ak fs h
def VC{e c j h}{g}(l:gy b a z e c d j h g)(s i):gy (a_ b ⟨a,5+s,ai⟩<|aG i) a z e c d j h (g.set s i):=by have:=bk.set l (5+s)<|aG i;have n:([cV 71<|N e,J c,J d,ak fs j,ak fs h]++g.map aG:List bm).set (5+s) (aG i)=[cV 71<|N e,J c,J d,ak fs j,ak fs h]++(g.set s i).map aG:=by{rw[vC _ _ aA,GK];simp};grind[gy]
def ad8(a):(Instr.makeSlice 56 (J 8)<|J 8).run aK a=.ok (bC (U a.1) 0 8 8) (aO a<|aS #[ak am 0,ak am 0,ak am 0,ak am 0,ak am 0,ak am 0,ak am 0,ak am 0] 3):=b8
def I9(b:Nat):List bm:=(List.range 8).map λa:Nat=>ak am (if a<b then a else 0:Nat)
def ad9(b:a<8):(I9 a).set a (J a)=I9 (a+1):=by
 match a,b with
 | 0,_=>rfl
 | 1,_=>rfl
 | 2,_=>rfl
 | 3,_=>rfl
 | 4,_=>rfl
 | 5,_=>rfl
 | 6,_=>rfl
 | 7,_=>rfl
def ad_(a):bd aK 154 #[] a λl e=>l=bg (bC (U a.1) 0 8 8)/\bk e (U a.1) ((List.range 8).map λr:Nat=>ak am r) 3/\U e.1=U a.1+1/\a7 a e:=by
 have:=ad8 a;have t:Hid (bk (aO a<|aS #[ak am 0,ak am 0,ak am 0,ak am 0,ak am 0,ak am 0,ak am 0,ak am 0] 3) (U a.1) (I9 0) 3):=bk.fF a _ _;have n:=ae<|(dz (U a.1) a).alloc bv<|aS #[ak am 0,ak am 0,ak am 0,ak am 0,ak am 0,ak am 0,ak am 0,ak am 0] 3;go_wp2;go_loopw [6] (λd wr=>∃b:Nat,d=J b/\b<=8/\bk wr (U a.1) (I9 b) 3/\U wr.1=U a.1+1/\a7 a wr) λd _=>8-(intOf d).toNat;·exact⟨0,af,G,t,aA,n⟩
 ·(obtain⟨b,rfl,u,c,q,o⟩:=hrel;have j:=ae c;have g:=ae q;have i:=ae o;by_cases p:b<8;{obtain⟨x,w⟩:∃v,aD wr ⟨U a.1,b,ai⟩=ag v:=⟨_,c.cell b fN⟩;have:=c.frozen;have h:=ae<|c.set b<|J b;rw[ad9 p]at h;go_wp2;exact⟨⟨b+1,dH,G,h,by simpa [a_]using V g,fk i bv _⟩,ee⟩};{have k:b=8:=G;subst k;go_wp2;go_ret;exact⟨af,j,g,i⟩})
abbrev oi:List Bool:=[ao,ao,ao,ao,ao,ao,ao,ao]
def aea{g e c l}{h}(k:gy b a z g d e c l h)(i:Nat):gy (a_ b ⟨a,4,ai⟩<|ak fs i) a z g d e c i h:=bk.set k 4<|ak fs i
def sN{g h e n}{l}(i:gy b a z d g h e n l)(s)(j:l[s]? = ag t):aD b (M a<|5+s)=ag (aG t):=by have:=j_.1 j;have:=bk.cell i (5+s) (by grind);grind
def aeb{o k l j c:Nat}{h}(p:gy b d z o k l j c h)(w:a<8)(n:h[a]? = ag aE)(x:c<65536):bd aK 216 #[N d,ak .u32 a] b λr i=>r=bg (bX #[J a,aG aE])/\gy i d z o k l j ((c+1)%65536) (h.set a ao)/\eL d b i/\U i.1=U b.1:=by
 have⟨u1,hu1⟩:=bi<|(c+1)%65536;rw[<- hu1];have u:fs.wrap ((c:Int)+1)=(u1:Int):=by rw[DF];omega
 have:=sN p a n;have:=bk.frozen p;have g:=VC p a ao;have cD:=bk.cell g 4 aA;have q:=bk.cell p 4 aA;simp only[g_,e9,fw]at cD q;have:=bk.frozen g;have t:=ae<|aea g u1;have:¬8<=(a:Int):=G;clear p g hu1 n;go_wp2;refine eh (v:=bX #[ak am a,aG aE]) ?_ af ?_;{simp[dr,results216,go_sem]};{exact⟨af,t,kI (kI (mT _ _) _ _) _ _,aA⟩}
def kf(a:List Bool):Nat:=E<|a.filter id
def VD(b:List Bool)(a)(c:a<E b):kf (amA (a+1) b)=kf (amA a b)+(if(b[a]?.getD ao)=aE then 1 else 0):=by unfold kf;rw[gw c,Gd];rw[iH c,tG,dE];grind
def aec{h i j c d e}:(Instr.index 169 (ci #[aG t,aG H,aG h,aG i,aG j,aG c,aG d,aG e])<|J 0).run aK b=.ok (aG t) b:=b8
def aed{h i j c d e}:(Instr.index 169 (ci #[aG t,aG H,aG h,aG i,aG j,aG c,aG d,aG e])<|J 1).run aK b=.ok (aG H) b:=b8
def aef{a i j c d e}:(Instr.index 169 (ci #[aG t,aG H,aG a,aG i,aG j,aG c,aG d,aG e])<|J 2).run aK b=.ok (aG a) b:=b8
def aeg{i a j c d e}:(Instr.index 169 (ci #[aG t,aG H,aG i,aG a,aG j,aG c,aG d,aG e])<|J 3).run aK b=.ok (aG a) b:=b8
def aeI{i j a c d e}:(Instr.index 169 (ci #[aG t,aG H,aG i,aG j,aG a,aG c,aG d,aG e])<|J 4).run aK b=.ok (aG a) b:=b8
def aff{h i j a c d}:(Instr.index 169 (ci #[aG t,aG H,aG h,aG i,aG j,aG a,aG c,aG d])<|J 5).run aK b=.ok (aG a) b:=b8
def afg{h i j c a d}:(Instr.index 169 (ci #[aG t,aG H,aG h,aG i,aG j,aG c,aG a,aG d])<|J 6).run aK b=.ok (aG a) b:=b8
def afh{h i j c d a}:(Instr.index 169 (ci #[aG t,aG H,aG h,aG i,aG j,aG c,aG d,aG a])<|J 7).run aK b=.ok (aG a) b:=b8
def afj(g h i j k c d e)(n:a<8)(b):(Instr.index 169 (ci #[aG g,aG h,aG i,aG j,aG k,aG c,aG d,aG e])<|J (a:Int)).run aK b=.ok (aG<|[g,h,i,j,k,c,d,e][a]?.getD ao) b:=by have l:a=0\/a=1\/a=2\/a=3\/a=4\/a=5\/a=6\/a=7:=G;rcases l with rfl|rfl|rfl|rfl|rfl|rfl|rfl|rfl;{exact aec};{exact aed};{exact aef};{exact aeg};{exact aeI};{exact aff};{exact afg};{exact afh}
def afk{w x u F}{h i j n c g}(l:gy b a z d w x u F [t,H,h,i,j,n,c,g]):bd aK 259 #[N a] b λA I=>A=bg (J<|kf [t,H,h,i,j,n,c,g])/\I=b:=by
 have:=sN l 0 af;have:=sN l 1 af;have:=sN l 2 af;have:=sN l 3 af;have:=sN l 4 af;have:=sN l 5 af;have:=sN l 6 af;have:=sN l 7 af;go_wp2;go_loopw [3,10] (λD p wr=>∃k:Nat,D=J (kf ([t,H,h,i,j,n,c,g].take k):Nat)/\p=J k/\k<=8/\wr=b) λ_ p _=>8-(intOf p).toNat;·exact⟨0,af,af,G,af⟩
 ·(
 obtain⟨k,rfl,rfl,L,rfl⟩:=hrel;by_cases B:k<8;{
 have:=afj t H h i j n c g B wr;have r:=ae<|VD [t,H,h,i,j,n,c,g] k fN;have K:kf ([t,H,h,i,j,n,c,g].take k)<=8:=by{grind[kf]};generalize [t,H,h,i,j,n,c,g][k]?.getD ao=C,kf ([t,H,h,i,j,n,c,g].take k)=q at *;have⟨e,hz⟩:=bi<|kf<|[t,H,h,i,j,n,c,g].take<|k+1;rw[<- hz]at r;replace hz:=ae hz;cases C with
 | true =>{
 have o:e=q+1:=fN
 have:(q:Int)+1=e:=G;clear o r;go_wp2;exact H6}
 | false =>{
 have o:e=q:=fN
 subst o;go_wp2;exact H6}};{have y:k=8:=G;subst y;go_wp2;go_ret;simp})
def lv(h:aQ)(a:Nat)(g:bm)(e d:Int)(b:ap)(c:bm):Prop:=h.1[a]? = ag (aS #[g,ak am e,ak am d,amz<|O b,c] 119)
def lv.cells{g:Int}(h:lv b a k g p c s):aD b ⟨a,0,ai⟩=ag k/\aD b ⟨a,1,ai⟩=ag (ak am g)/\aD b ⟨a,2,ai⟩=ag (ak am p)/\aD b ⟨a,3,ai⟩=ag (amz<|O c)/\aD b ⟨a,4,ai⟩=ag s:=by unfold lv at h;exact J7
def lv.frozen{t:Int}(h:lv b a k t p c s)(e:Nat):io b ⟨a,e,ai⟩=ao:=by unfold lv at h;exact tb
def lv.lt{b:Nat}(e:lv f b k p x c s):b<U f.1:=(ea.1 e).1
def Kd{P:Prop}(h:P:=by unfold lv at *;exact H1):P:=h
def lv.set{b:Nat}{n:bm}{t:Int}{d:ap}(h:lv f b n t p d k)(a c:bm)(i g:Int)(e:ap):lv (a_ (a_ (a_ (a_ (a_ f ⟨b,0,ai⟩ a) ⟨b,1,ai⟩<|ak am i) ⟨b,2,ai⟩<|ak am g) ⟨b,3,ai⟩<|amz<|O e) ⟨b,4,ai⟩ c) b a i g e c:=by exact Kd
def AW(e:aQ)(d:Nat)(v:bm)(b:List ap):Prop:=∃a ay c,v=aL (ag ⟨a,ay,ai⟩) (E b) c/\E b<=c/\iy e a ay b/\d<=a
def MV(s:ap)(b:Nat)(n:Ending)(l:aQ):Prop :=
 ∃k g c h e d i m j,n=bg (bX #[ci #[aL k g c,ak am h,ak am e,amz<|O d,aL i m j],aG (jx s).isSome]) /\
  ∀a,jx s=ag a->h=a.aP/\e=a.type/\d=a.data/\AW l b (aL k g c) (I 46 a.owner)/\AW l b (aL i m j) (I 32 a.data)
def Wm(d:UInt8):∀(c:List ap) (m:Nat),(∀a∈c,E a<=m)->E (iz d c)<=E c*(m+1)
 | [],_,_=>eb _
 | [a],m,b=>by have:=b a aA;simp[iz];omega
 | a::h::g,m,b=>by have j:=b a aA;have k:=Wm d (h::g) m λi e=>b i<|nU _ e;rw[iz,dE,ey,ey,K6];omega
def Wn(e:a<U b.1)(c:Obj):aD (bq<|aO b c) ⟨a,d,ai⟩=aD b ⟨a,d,ai⟩:=ev<|dT b c a e
def IK{g:Nat}{h:bm}{o:Obj}(j:g<U b.1)(e:aD f ⟨g,0,ai⟩=ag k/\aD f ⟨g,2,ai⟩=ag h/\a7 b f):aD (aO f o) ⟨g,0,ai⟩=ag k/\aD (aO f o) ⟨g,2,ai⟩=ag h/\a7 b (aO f o):=by have i:=e.2.2.4;have d:a7 f (aO f o):=ct cd bv _;exact⟨(d.cell (p:=⟨g,0,ai⟩) F0).trans e.1,(d.cell (p:=⟨g,2,ai⟩) F0).trans e.2.1,ct e.2.2 i _⟩
def ae6{o:Obj}(d:a<U b.1)(c:aD f ⟨a,0,ai⟩=ag k/\aD f ⟨a,2,ai⟩=ag s/\a7 b f):aD (bq<|aO f o) ⟨a,0,ai⟩=ag k/\aD (bq<|aO f o) ⟨a,2,ai⟩=ag s/\a7 b (bq<|aO f o) :=
 ⟨(IK (o:=o) d c).1,(IK (o:=o) d c).2.1,(IK (o:=o) d c).2.2.drew⟩
def wQ{h:aQ}{g:Nat}(q:a<U h.1)(p:U h.1<=d)(i:aD b ⟨a,0,ai⟩=ag k/\aD b ⟨a,2,ai⟩=ag s/\a7 h b):aD (a_ b ⟨d,g,ai⟩ F) ⟨a,0,ai⟩=ag k/\aD (a_ b ⟨d,g,ai⟩ F) ⟨a,2,ai⟩=ag s/\a7 h (a_ b ⟨d,g,ai⟩ F):=by
 have n:∀v,v≠d->(a_ b ⟨d,g,ai⟩ F).1[v]? = b.1[v]?:=λv j=>dJ _ _ _ _ j;have e:=i.2.2;have o:U (a_ b ⟨d,g,ai⟩ F).1=U b.1:=oF
 exact⟨(ev<|n a G).trans i.1,(ev<|n a G).trans i.2.1,e.1,e.2,e.3,by rw[o];exact e.4,λv j=>(n v G).trans<|e.5 v j⟩
def Wo(h:a<U b.1)(d:aD f ⟨a,0,ai⟩=ag k/\aD f ⟨a,2,ai⟩=ag s/\a7 b f):(aD (aO f<|aS #[aL ai 0 0,ak am 0,ak am 0,amz ⟨#[]⟩,aL ai 0 0] 119) ⟨a,0,ai⟩=ag k/\aD (aO f<|aS #[aL ai 0 0,ak am 0,ak am 0,amz ⟨#[]⟩,aL ai 0 0] 119) ⟨a,2,ai⟩=ag s/\a7 b (aO f<|aS #[aL ai 0 0,ak am 0,ak am 0,amz ⟨#[]⟩,aL ai 0 0] 119))/\lv (aO f<|aS #[aL ai 0 0,ak am 0,ak am 0,amz ⟨#[]⟩,aL ai 0 0] 119) (U f.1) (aL ai 0 0) 0 0 [] (aL ai 0 0)/\U b.1<=U f.1 :=
 ⟨IK h d,du f _,d.2.2.4⟩
def ae9(g:a<U b.1)(e:aD b ⟨a,0,ai⟩=ag k/\aD b ⟨a,2,ai⟩=ag s/\a7 b b):(aD (bq<|aO b<|aS #[aL ai 0 0,ak am 0,ak am 0,amz ⟨#[]⟩,aL ai 0 0] 119) ⟨a,0,ai⟩=ag k/\aD (bq<|aO b<|aS #[aL ai 0 0,ak am 0,ak am 0,amz ⟨#[]⟩,aL ai 0 0] 119) ⟨a,2,ai⟩=ag s/\a7 b (bq<|aO b<|aS #[aL ai 0 0,ak am 0,ak am 0,amz ⟨#[]⟩,aL ai 0 0] 119))/\lv (bq<|aO b<|aS #[aL ai 0 0,ak am 0,ak am 0,amz ⟨#[]⟩,aL ai 0 0] 119) (U b.1) (aL ai 0 0) 0 0 [] (aL ai 0 0)/\U b.1<=U b.1 :=
 ⟨ae6 g e,du b _,cW _⟩
def lv.kept{w':aQ}(i:lv b a k p x c s)(j:w'.1[a]? = b.1[a]?):lv w' a k p x c s:=c_ j i
def lv.set1(h:lv b a k p x c s)(e:Int):lv (a_ b ⟨a,1,ai⟩<|ak am e) a k e x c s:=by exact Kd
def lv.lM(h:lv b a k p x c s)(j:ap):lv (a_ b ⟨a,3,ai⟩<|amz<|O j) a k p x j s:=by exact Kd
def IL{i:Nat}{D:Option kC}{G F:Nat}{u:bm}{e:Option<|List ap}(r:lv b a (aL D G F) p x c k)(v:rx b d s e):rx (a_ b ⟨a,i,ai⟩ u) d s e:=by
 cases e with
 | none=>exact v
 | some n =>
  obtain⟨j,h,o,t,w,q,C⟩:=v;have A:h≠a:=by
   rintro rfl;have z:0<E n:=by cases n with
    | nil=>exact absurd af j
    | cons=>simp
   have:=C.2 0 z;rw[jn,r.cells.1]at this;cases this
  exact⟨j,h,o,t,w,q,by simp[a_];exact C.1,λl y=>(ev (a:=⟨h,0+l,ai⟩) (dJ _ _ _ _ A)).trans (C.2 l y)⟩
def Wq{v:Option<|List ap}(n:Obj)(c:rx b a k v):rx (aO b n) a k v:=by
 cases v with
 | none=>exact c
 | some o =>{obtain⟨h,g,e,i,j,d,l⟩:=c;exact⟨h,g,e,i,j,d,l.below<|ct cd bv _⟩}
def Rv{L:Option kC}{N M:Nat}{t u w x:bm}{J:Int}{g:Option<|List ap}(B:lv b a (aL L N M) p J c k)(l:rx b d s g):rx (a_ (a_ (a_ (a_ (a_ b ⟨a,0,ai⟩ F) ⟨a,1,ai⟩ t) ⟨a,2,ai⟩ u) ⟨a,3,ai⟩ w) ⟨a,4,ai⟩ x) d s g:=by
 cases g with
 | none=>exact l
 | some A =>
  obtain⟨r,j,y,C,D,v,e⟩:=l;have I:j≠a:=by
   rintro rfl;have H:0<E A:=by cases A with
    | nil=>exact absurd af r
    | cons=>simp
   have:=e.2 0 H;rw[jn,B.cells.1]at this;cases this
  have K:∀(i:aQ) (n:Nat) (q:bm),(a_ i ⟨a,n,ai⟩ q).1[j]? = i.1[j]?:=λi n q=>dJ _ _ _ _ I;refine⟨r,j,y,C,D,v,by simp[a_];exact e.1,λo G=>?_⟩;rw[<- e.2 o G];refine ev (a:=⟨j,0+o,ai⟩) ?_;rw[K,K,K,K,K]
def IM{b i ay:Nat}{u:bm}(k:a≠b)(d:iy f a ay r):iy (a_ f ⟨b,i,ai⟩ u) a ay r :=
 ⟨by simp[a_];exact d.1,λe j=>(ev (a:=⟨a,ay+e,ai⟩) (dJ _ _ _ _ k)).trans (d.2 e j)⟩
theorem Wr(b:UInt8):∀(f:Nat) (s:ap),E s<=f->∀c∈I b s,b ∉ c
 | f,s,h,c,a=>by
  rcases pe b s with⟨e,d⟩|⟨j,g,i,e,d⟩;{
  rw[d]at a;have:c=s:=by simpa using a
  rw[this];exact e};{
  rw[d]at a;rcases gC.1 a with rfl|a;{exact e};{
  have k:E g<f:=by rw[i]at h;simp at h;omega
  exact Wr b (f-1) g G c a}}
termination_by f=>f
decreasing_by omega
def MW(a:UInt8):∀(h:List ap),h≠[]->(∀c∈h,a ∉ c)->I a (iz a h)=h
 | [],e,_=>absurd af e
 | [c],_,e=>by rcases pe a c with⟨_,i⟩|⟨o,p,j,_,_⟩;{exact i};{exact absurd (by rw[j];simp)<|e c aA}
 | c::l::k,_,e=>by
  have r:=e c aA;have w:=MW a (l::k) aA λn u=>e n<|nU _ u;rw[iz];rcases pe a (c++a::iz a (l::k))with⟨t,_⟩|⟨o,p,j,q,i⟩;{exact absurd aA t};{
  have:o=c/\p=iz a (l::k):=by{
  rcases List.append_eq_append_iff.1 j with⟨g,d,b⟩|⟨g,d,b⟩;{
  cases g with
  | nil=>simp at d b;exact⟨d,bZ b⟩
  | cons n g=>simp at b;rw[d,<- b.1]at q;exact absurd aA q};{
  cases g with
  | nil=>simp at d b;exact⟨bZ d,b⟩
  | cons n g=>simp at b;rw[d,<- b.1]at r;exact absurd aA r}};rw[i,this.1,this.2,w]}
def Ws(a:je t c=ag r):r=I 46 c:=by unfold je at a;split at a;{exact(ih a).symm};{cases a}
def ae_{h:ap}(W:r≠[])(Y:∀ah∈r,(32:UInt8) ∉ ah)(ad:jx c=F4 (g::L::h::r)){b q F J wr x:Nat}{l:Option kC}(X:i_ h=p)(K:fY 86400 L=H/\eG (i_ h) r=t)(ae:H=aE->x=kZ 86400 L)(k:rx f F (aL l J wr)<|je aE g)(R:iy f a 3 r)(V:E r=q-3)(aq:q-3<=d-3)(ab:∀i,i≠b->m.1[i]? = f.1[i]?)(Q:U f.1<=U m.1)(al:b<F)(an:b<a):MV c b (bg<|bX #[ci #[aL l J wr,ak am x,ak am p,amz<|O<|iz 32 r,aL (ag ⟨a,3,ai⟩) (q-3)<|d-3],aG<|H&&t && !l.isNone]) m:=by
 have aa:(!l.isNone)=kr g:=by
  rw[<- EA];cases j:je aE g with
  | none=>rw[j]at k;cases k;rfl
  | some ac=>rw[j]at k;obtain⟨_,A,M,z,_⟩:=k;cases z;rfl
 obtain⟨n,e,rfl⟩:∃n e,r=n::e:=by cases r with
  | nil=>exact absurd af W
  | cons n e=>exact⟨n,e,af⟩
 have y:jx c=if kr g&&fY 86400 L&&eG (i_ h) (n::e)then ag (g,kZ 86400 L,i_ h,iz 32 (n::e))else ai:=ad
 rw[K.1,K.2]at y;have Z:(H&&t && !l.isNone)=(jx c).isSome:=by
  rw[aa,y];cases kr g<;>cases H<;>cases t<;>rfl
 have P:∀(i C:Nat),i≠b->aD m ⟨i,C,ai⟩=aD f ⟨i,C,ai⟩:=λi C S=>ev<|ab i S;refine⟨l,J,wr,x,p,iz 32 (n::e),ag ⟨a,3,ai⟩,q-3,d-3,by rw[Z],λar u=>?_⟩;rw[y]at u;split at u
 ·rename_i w;simp only[fx]at w;obtain rfl:=bZ<|ih u;refine⟨?_,bZ X,af,?_,?_⟩
  ·rw[ae w.1.2];rfl
  ·show AW m b _ (I 46 g);cases j:je aE g with
   | none=>have:=EA g;rw[j,w.1.1]at this;cases this
   | some ac =>
    rw[j]at k;obtain rfl:=Ws j;obtain⟨_,A,M,z,T,aj,N⟩:=k;rw[z];exact⟨A,0,M,af,T,⟨e8 N.1 Q,λD B=>(P A _ G).trans<|N.2 D B⟩,G⟩
  ·show AW m b _ (I 32<|iz 32 (n::e));rw[MW 32 (n::e) aA Y,<- V];exact⟨a,3,d-3,af,G,⟨e8 R.1 Q,λD B=>(P a _ G).trans<|R.2 D B⟩,G⟩
 ·cases u
def Wt(a b:ap):O a++O b=O (a++b):=by apply KN;simp[O]
def afa(a:ap):O a++⟨#[32]⟩=O (a++[32]):=Wt a [32]
def QH{P:Prop}(h:P:=by have z0:=hR.cells;have Kh:=hR.frozen;refine oh (rs:=[12]) b8 aA (lK af (λK hK=>?_) m_);go_simp;refine hK.out _ _ (wQ mF ny<|wQ mF ny<|wQ mF ny<|wQ mF ny<|wQ mF ny hS) λhS=>?_;clear hK K;refine uY b8 ?_ _;go_wp2;go_meet;·exact⟨_,_,_,_,af,hR.set (aL va vn vc) (aL (ag ⟨g,3,ai⟩) (N-3)<|cap-3) 0 (i_ x2) [],Rv hR<|V pg,hS.2.2,ny⟩):P:=h
def afc(s:aQ)(cH:E c<=3000):bd aK 64 #[amz<|O c] s λh l=>MV c (U s.1) h l/\a7 s l:=by
 have:=de c;have bE:Hid (∀n,bd aK 62 #[amz<|O c,ak ck 32] n λh l=>(∃v,h=bg v/\nE l (U n.1) v (I 32 c))/\a7 n l):=λn=>B9 c 32 n G;have cn:E (I 32 c)<=3001:=cj<|pN 32 c
 have aN:Hid (∀o∈I 32 c,E o<=3000):=λo y=>cj<|qE 32 (E c) c bv o y
 have cB:=ae<|pM 32 c;have bx:=ae<|aa2 c;have bY:=ae<|Wr 32 (E c) c bv;generalize I 32 c=M at *;go_in;go_wp2_with fail;refine(bE _).mono ?_;rintro h w1 ⟨⟨v,rfl,br⟩,aU⟩;obtain⟨g,cap,rfl,cb,bo,z⟩:=vx br<|V cB;have aF:lv w1 (U s.1) (aL ai 0 0) 0 0 [] (aL ai 0 0):=(aU.5 _ aA).trans<|du s _;have aW:=ae aF;have:=aF.cells;have:=aF.frozen;have bn:a7 s w1:=(ct cd bv _).trans<|bV aU aA;have a9:U s.1+1<=g:=by simpa using bo
 have F:=ae<|cv a9<|cv z bn;have mF:=z.1;clear br aU bE bo z aF bn a9;by_cases ab:E M<4;{
 have a2:(E M:Int)<4:=G;go_wp2;have bp:jx c=ai:=by{
 rw[V bx];match M,ab with
 | [],_=>rfl
 | [_],_=>rfl
 | [_,_],_=>rfl
 | [_,_,_],_=>rfl
 | _::_::_::_::_,e=>exact absurd e aA};have aP:=aW.set (aL ai 0 0) (aL ai 0 0) 0 0 [];have⟨n0,n1,n2,n3,n4⟩:=aP.cells;rw[show O ([]:ap)=⟨#[]⟩from af]at n0 n1 n2 n3 n4;refine eh (v:=bX #[ci #[aL ai 0 0,ak am 0,ak am 0,amz<|O [],aL ai 0 0],aG (jx c).isSome]) ?_ af ?_;rw[show O ([]:ap)=⟨#[]⟩from af];{simp[dr,results64,go_sem,bp,n0,n1,n2,n3,n4]};{refine⟨⟨ai,0,0,0,0,[],ai,0,0,af,λcJ hr=>by rw[bp]at hr;cases hr⟩,?_⟩;exact((((fk F.2.2 (p:=⟨U s.1,0,ai⟩) bv _).setCell (p:=⟨U s.1,1,ai⟩) bv _).setCell (p:=⟨U s.1,2,ai⟩) bv _).setCell (p:=⟨U s.1,3,ai⟩) bv _).setCell (p:=⟨U s.1,4,ai⟩) bv _}};{
 have a2:¬(E M:Int)<4:=G;obtain⟨d,t,x2,T,rfl,bl⟩:∃d t x2 T,M=d::t::x2::T/\T≠[]:=by{
 match M,ab with
 | d::t::x2::cC::cu,_=>exact⟨d,t,x2,cC::cu,af,aA⟩
 | [],e=>exact absurd aA e
 | [_],e=>exact absurd aA e
 | [_,_],e=>exact absurd aA e
 | [_,_,_],e=>exact absurd aA e};have J:=tC F.2.1 0 af;have bA:=tC F.2.1 1 af;have R:=tC F.2.1 2 af;rw[g8]at J bA R;have:=V aN d aA;have:=V aN t aA;have:=V aN x2 aA;have aX:Hid (∀n,(aD n ⟨g,0,ai⟩=ag (amz<|O d)/\aD n ⟨g,2,ai⟩=ag (amz<|O x2)/\a7 w1 n)->bd aK 63 #[amz<|O d,aG aE] n λh l=>∃va W Q,h=bg (aL va W Q)/\(aD l ⟨g,0,ai⟩=ag (amz<|O d)/\aD l ⟨g,2,ai⟩=ag (amz<|O x2)/\a7 w1 l)/\rx l (U w1.1) (aL va W Q) (je aE d)/\a7 n l):=λn hS=>by{
 refine(B_ d aE n G).mono ?_;rintro h l ⟨⟨v,rfl,C⟩,w⟩;obtain⟨an,aq,bF⟩:=hS;have bt:=bF.4;obtain⟨va,W,Q,rfl⟩:∃va W Q,v=aL va W Q:=by{
 cases B:je aE d with
 | none=>rw[B]at C;exact⟨ai,0,0,C⟩
 | some bz=>rw[B]at C;obtain⟨_,aB,az,rfl,_⟩:=C;exact⟨_,_,_,af⟩};refine⟨va,W,Q,af,⟨(w.cell (p:=⟨g,0,ai⟩) F0).trans an,(w.cell (p:=⟨g,2,ai⟩) F0).trans aq,bN bF<|bV w bt⟩,?_,w⟩;cases B:je aE d with
 | none=>rw[B]at C;exact C
 | some bz =>{rw[B]at C;obtain⟨cp,aB,az,cq,cr,cI,cs⟩:=C;exact⟨cp,aB,az,cq,cr,G,cs⟩}};have aw:=ae λn=>Z7 x2 n;have⟨N,hN⟩:=bi<|E (d::t::x2::T);rw[<- hN]at cb a2 ⊢;have ba:4<=N/\N=E T+3:=by rw[hN];simp;have:E T≠0:=λe=>bl<|iM e;omega
 have:¬cap=3:=G;have:3<=(N:Int):=G;have cD:=ae ba;have:0<N:=G;have:2<N:=G;have:0<(N:Int):=G;have:2<(N:Int):=G;clear hN ba;clear ab;have:¬g=U w1.1:=G;have:U (bq w1).1=U w1.1:=af;have bS:∀L,aD (bq<|aO w1 L) ⟨g,0,ai⟩=ag (amz<|O d):=λL=>(Wn mF L).trans J;have bT:∀L,aD (bq<|aO w1 L) ⟨g,2,ai⟩=ag (amz<|O x2):=λL=>(Wn mF L).trans R;have bD:aD w1 ⟨g,0,ai⟩=ag (amz<|O d)/\aD w1 ⟨g,2,ai⟩=ag (amz<|O x2)/\a7 w1 w1:=⟨J,R,dz _ _⟩;have hS:aD (bq w1) ⟨g,0,ai⟩=ag (amz<|O d)/\aD (bq w1) ⟨g,2,ai⟩=ag (amz<|O x2)/\a7 w1 (bq w1):=⟨J,R,cd.drew⟩;have b_:aD (bq w1) ⟨g,0,ai⟩=ag (amz<|O d):=J;have ca:aD (bq w1) ⟨g,2,ai⟩=ag (amz<|O x2):=R;go_upto_region 4 with fail;go_cut [5]from 16 (λcy wc=>∃j va vn vc,cy=cM (ag ⟨j,0,ai⟩)/\lv wc j (aL va vn vc) 0 (i_ x2) [] (aL (ag ⟨g,3,ai⟩) (N-3)<|cap-3)/\rx wc (U w1.1) (aL va vn vc) (je aE d)/\a7 w1 wc/\U w1.1<=j);·(
 refine La (S:=(λl:aQ=>aD l ⟨g,0,ai⟩=ag (amz<|O d)/\aD l ⟨g,2,ai⟩=ag (amz<|O x2)/\a7 w1 l)) b8 hS λhS=>?_;refine lX 0 hS ?_;refine lX 1 hS ?_;refine lX 2 hS ?_;refine lX 4 hS ?_;refine lX 5 hS ?_;refine lX 6 hS ?_;refine lX 8 hS ?_;refine lX 9 hS ?_;refine oh (rs:=[3,11]) b8 aA (lK af (λK hK=>?_)<|lK af (λK hK=>?_) m_);{
 go_simp;go_wp2_with (go_at_call 63;go_loud (refine(aX _ hS).mono ?_;rintro h H ⟨va,vn,vc,rfl,q,aa,al⟩;have pg:=ae aa;have A:=ae al;clear aa al));refine hK.out _ _ q λhS=>?_;clear hK K q A;try simp only[Act.put,mK,kH,lp]
 refine oh (rs:=[7,11]) b8 aA (lK af (λK hK=>?_)<|lK af (λK hK=>?_) m_);{
 go_simp;go_wp2_with (go_at_call 114;go_loud (refine(aw _).m ?_;rintro H rfl));refine hK.out _ _ hS λhS=>?_;clear hK K;try simp only[Act.put,mK,kH,lp]
 refine lX 10 hS ?_;refine oh (rs:=[11]) b8 aA (lK af (λK hK=>?_) m_);go_simp;have⟨q,hR,ny⟩:=Wo mF hS;have pg:=ae<|Wq (aS #[aL ai 0 0,ak am 0,ak am 0,amz ⟨#[]⟩,aL ai 0 0] 119)<|V pg;refine hK.out _ _ q λhS=>?_;clear hK K q;revert hR pg hS;generalize aO _ _=H;intro hR pg hS;try simp only[Act.put,mK,kH,lp]
 exact QH};{
 go_simp;have⟨q,hR,ny⟩:=Wo mF hS;have pg:=ae<|Wq (aS #[aL ai 0 0,ak am 0,ak am 0,amz ⟨#[]⟩,aL ai 0 0] 119)<|V pg;refine hK.out _ _ q λhS=>?_;clear hK K q;revert hR pg hS;generalize aO _ _=H;intro hR pg hS;try simp only[Act.put,mK,kH,lp]
 refine oh (rs:=[7]) b8 aA (lK af (λK hK=>?_) m_);go_simp;go_wp2_with (go_at_call 114;go_loud (refine(aw _).m ?_;rintro H rfl));refine hK.out _ _ hS λhS=>?_;clear hK K;try simp only[Act.put,mK,kH,lp]
 refine lX 10 hS ?_;exact QH}};{
 go_simp;have⟨q,hR,ny⟩:=ae9 mF bD;refine hK.out _ _ q λhS=>?_;clear hK K q;revert hR hS;generalize World.drew _=H;intro hR hS;try simp only[Act.put,mK,kH,lp]
 refine oh (rs:=[3]) b8 aA (lK af (λK hK=>?_) m_);go_simp;go_wp2_with (go_at_call 63;go_loud (refine(aX _ hS).mono ?_;rintro h H ⟨va,vn,vc,rfl,q,aa,al⟩;have pg:=ae aa;have A:=ae al;clear aa al));have hR:=hR.kept<|A.5 _ hR.lt;refine hK.out _ _ q λhS=>?_;clear hK K q A;try simp only[Act.put,mK,kH,lp]
 refine oh (rs:=[7]) b8 aA (lK af (λK hK=>?_) m_);go_simp;go_wp2_with (go_at_call 114;go_loud (refine(aw _).m ?_;rintro H rfl));refine hK.out _ _ hS λhS=>?_;clear hK K;try simp only[Act.put,mK,kH,lp]
 refine lX 10 hS ?_;have z0:=hR.cells;have Kh:=hR.frozen;refine oh (rs:=[12]) b8 aA (lK rfl (λK hK=>?_) m_);go_simp;refine hK.out _ _ (wQ mF ny<|wQ mF ny<|wQ mF ny<|wQ mF ny<|wQ mF ny hS) λhS=>?_;clear hK K;refine uY b8 ?_ _;go_wp2;go_meet;·exact⟨_,_,_,_,rfl,hR.set (.slice va vn vc) (.slice (some ⟨g,3,none⟩) (N-3)<|cap-3) 0 (i_ x2) [],Rv hR<|V pg,hS.2.2,ny⟩})
 ·(
 obtain⟨j,va,vn,vc,rfl,au,bb,ac,ax⟩:=hcut;have:=ac.4;have bj:aD wc ⟨g,1,ai⟩=ag (amz<|O t):=(ac.cell (p:=⟨g,1,ai⟩) mF).trans bA;have⟨r0,r1,r2,r3,r4⟩:=au.cells;have bC:=au.frozen;have aH:=ae au;have bB:=ae bb;have bk:=ae ac;have bO:=ae λn=>AI t 86400 n G bL;have bH:E T=N-3:=cj<|V cD
 have bc:Hid (iy wc g 3 T):=by{have e:=F.2.1.below ac;refine⟨e.1,λaj cG=>?_⟩;have:=e.2 (3+aj) cx;rw[g8]at this;rw[this];have:(d::t::x2::T)[3+aj]' cx=T[aj]:=by{simp only[show 3+aj=aj+1+1+1 by omega,fw]};rw[this]};clear au bb ac J bA R bS bT bD hS b_ ca aX aw;go_wp2_with fail;refine(bO _).mono ?_;rintro h a0 ⟨⟨r,rfl,aJ⟩,rfl⟩;replace aJ:=ae aJ;have cl:g≠j:=G;have bu:=aW.lt;have lO:=aH.set1 r;have D:=ae lO;have⟨an,s1,aq,s3,s4⟩:=lO.cells;have Y:=ae<|IL (i:=1) (u:=ak am r) (V aH) (V bB);have P:=ae<|IM (b:=j) (i:=1) (u:=ak am r) cl (V bc);have X:=ae<|fk bk (p:=⟨j,1,ai⟩) ax (ak am r);have aR:=ae λo y=>V aN o<|nU _<|nU _<|nU _ y;have cw:=ae λo y=>V bY o<|nU _<|nU _<|nU _ y;have b0:E T<=3001:=by simp at cn;omega
 have⟨ok,aY⟩:=dK<|fY 86400 t;have⟨dd,hdd⟩:=dK<|eG (i_ x2) T;rw[aY];have b1:Hid (ok=aE->r=kZ 86400 t):=λe=>V aJ (by rw[aY];exact e);have b2:=ae<|cv aY hdd;have Z:Hid (0<i_ x2->bd aK 116 #[ak am<|i_ x2,aL (ag ⟨g,3,ai⟩) (N-3)<|cap-3] (a_ a0 ⟨j,1,ai⟩<|ak am r) λh l=>h=bg (aG dd)/\Below (U (a_ a0 ⟨j,1,ai⟩<|ak am r).1) (a_ a0 ⟨j,1,ai⟩<|ak am r) l):=λx=>by{have:=aa0 x (cap-3) (V P) b0 G<|V aR;rw[bH,hdd]at this;exact this};have ad:Hid (i_ x2=0->dd=ao):=λe=>by rw[<- hdd,e];exact aa1
 have⟨kd,aaF⟩:=dK<|i_ x2;have cK:0<=kd:=by rw[<- aaF];rcases Tb x2 with h|h|h|h|h|h|h<;>omega
 have b3:=ae aaF;rw[aaF]at aH D Z ad r2 aq;clear aaF aY hdd aJ lO;go_upto_region 7 with fail;go_cut [8]from 36 λcz aM=>cz=aG dd/\lv aM j (aL va vn vc) r kd [] (aL (ag ⟨g,3,ai⟩) (N-3)<|cap-3)/\rx aM (U w1.1) (aL va vn vc) (je aE d)/\iy aM g 3 T/\a7 w1 aM;·(
 by_cases x:0<kd;{
 go_wp2_with fail;refine(Z x).m ?_;intro cA ar;have bR:=ae<|D.kept<|ar.5 j (by have:=D.lt;exact this);have b4:=ae<|P.below ar;have b9:Hid (rx cA (U w1.1) (aL va vn vc)<|je aE d):=by{
 have:=V Y;cases B:je aE d with
 | none=>rw[B]at this;exact this
 | some bz =>{rw[B]at this;obtain⟨cc,aB,az,ce,cf,ab,cg⟩:=this;exact⟨cc,aB,az,ce,cf,ab,cg.below ar⟩}};have bP:=ae<|bN X<|bV ar X.4;clear Z ar r0 r1 r2 r3 r4 bC an s1 aq s3 s4 bj;go_wp2;go_meet;·exact⟨af,bR,b9,b4,bP⟩};{have b5:kd=0:=G;have be:=V ad b5;have bM:=ae be;clear Z be;go_wp2;go_meet;·exact⟨by rw[V bM],D,Y,P,X⟩})
 ·(
 obtain⟨rfl,lO,bf,a3,bG⟩:=hcut;clear Z D Y P X r0 r1 r2 r3 r4 bC an s1 aq s3 s4 bj aH bB bk bc;have D:=ae lO;have Y:=ae bf;have P:=ae a3;have X:=ae bG;have an:=lO.cells;clear lO bf a3 bG;go_wp2;go_loopw [9] (λi wr=>∃k:Nat,k<=T.length/\i=.int .i64 k/\lv wr j (.slice va vn vc) r kd (iz 32<|T.take k) (.slice (some ⟨g,3,none⟩) (N-3)<|cap-3)/\rx wr w1.heap.size (.slice va vn vc) (je true d)/\iy wr g 3 T/\a7 w1 wr) λi _=>T.length-(intOf i).toNat;·exact⟨0,eb _,rfl,D,Y,P,X⟩
 ·(
 obtain⟨k,x,rfl,hr,aC,z,w⟩:=hrel;have aZ:=Wm 32 (amA k T) 3000 λo y=>V aR o<|zP y;have:(O<|iz 32<|amA k T).size<=9006001:=by{
 rw[de];have:E (amA k T)<=3001:=by rw[jF];omega
 have:=ys (3000+1) this;omega};have J:=hr.cells;have:=hr.frozen;have av:=ae hr;have a4:=ae aC;have a5:=ae z;have A:=ae w;have bt:=w.size;by_cases aV:k<T.length;{
 have co:(k:Int)<((N-3:Nat):Int):=G;have aT:=z.2 k aV;have bw:=V aR T[k]<|eP aV;have ah:=iH aV;have⟨o,y⟩:=bi<|T[k];rw[<- y]at aT bw ah;have cE:(O o).size<=3000:=by rw[de];exact bw
 clear hr aC z w y;by_cases ad:k=0;{subst ad;have dO:Hid (O (iz 32 ([]:List ap))++O o=O (iz 32<|amA (0+1) T)):=by{rw[Hid,ah];exact af};rw[jn]at aT;have:(O<|iz 32 ([]:List ap)).size<=5:=bL;clear ah aZ;go_upto_region 13 with fail;go_region;all_goals(go_wp2;refine⟨⟨0+1,G,by first|rfl|go_num,?_,?_,?_,?_⟩,ee⟩;{rw[V dO];exact av.lM _};{exact IL (V av)<|V a4};{exact IM G<|V a5};{exact(fk A (p:=⟨j,3,ai⟩) ax _).drew})};{
 have:0<(k:Int):=G;have dO:Hid (O (iz 32 (amA k T)++[32])++O o=O (iz 32<|amA (k+1) T)):=by{rw[Hid,ah,Mc 32 o _ (by intro e;have:=fE List.length e;rw[jF,h8]at this;omega),Wt];simp};have ay:=av.lM<|iz 32 (amA k T)++[32];have a1:=ae ay;have:=ay.cells;have:=ay.frozen;have a6:=IM (b:=j) (i:=3) (u:=amz<|O<|iz 32 (amA k T)++[32]) G (V a5);have:aD (a_ wr ⟨j,3,ai⟩<|amz<|O<|iz 32 (amA k T)++[32]) ⟨g,3+k,ai⟩=ag (amz<|O o):=(ev (a:=⟨g,3+k,ai⟩) (dJ _ _ _ _ G)).trans aT;have b6:=afa<|iz 32<|amA k T;have cF:(O<|iz 32 (amA k T)++[32]).size<=9006002:=by rw[<- b6,ByteArray.size_append];show _+1<=_;omega
 have b7:=ae<|IL (i:=3) (u:=amz<|O<|iz 32 (amA k T)++[32]) (V av) (V a4);have bU:=ae a6;clear ah aZ ad ay a6;go_upto_region 13 with fail;go_region;all_goals(go_wp2;refine⟨⟨k+1,G,by first|rfl|go_num,?_,?_,?_,?_⟩,ee⟩;{rw[V dO];exact a1.lM _};{exact IL (V a1)<|V b7};{exact IM G<|V bU};{exact((fk A (p:=⟨j,3,ai⟩) ax _).setCell (p:=⟨j,3,ai⟩) ax _).drew})}};{
 have co:¬(k:Int)<((N-3:Nat):Int):=G;have cm:k=T.length:=G;have dO:Hid (iz 32 (T.take k)=iz 32 T):=by rw[Hid,cm,ld]
 have aI:=aW.kept<|w.5 (U s.1) bu;have:=aI.cells;have:=aI.frozen;have bs:MV c (U s.1) (bg<|bX #[ci #[aL va vn vc,ak am r,ak am kd,amz<|O<|iz 32<|amA k T,aL (ag ⟨g,3,ai⟩) (N-3)<|cap-3],aG<|ok&&dd && !va.isNone]) (bq<|a_ (a_ (a_ (a_ (a_ wr ⟨U s.1,0,ai⟩<|aL va vn vc) ⟨U s.1,1,ai⟩<|ak am r) ⟨U s.1,2,ai⟩<|ak am kd) ⟨U s.1,3,ai⟩<|amz<|O<|iz 32<|amA k T) ⟨U s.1,4,ai⟩<|aL (ag ⟨g,3,ai⟩) (N-3)<|cap-3):=by{rw[V dO];refine ae_ bl (V cw) (V bx) (V b3) (V b2) (V b1) aC z bH G (b:=U s.1) (λk x=>?_) oF bu (cj F.1);show(a_ (a_ (a_ (a_ (a_ wr ⟨U s.1,0,ai⟩ _) ⟨U s.1,1,ai⟩ _) ⟨U s.1,2,ai⟩ _) ⟨U s.1,3,ai⟩ _) ⟨U s.1,4,ai⟩ _).1[k]? = _;rw[dJ _ _ _ _<|by exact x,dJ _ _ _ _<|by exact x,dJ _ _ _ _<|by exact x,dJ _ _ _ _<|by exact x,dJ _ _ _ _<|by exact x]};have bQ:=ae bs;have bI:=ae aI;clear hr aC z w aZ aI bs;generalize iz 32 (amA k T)=bK at *;have ch:ok=ao\/(ok=aE/\dd=ao)\/(ok=aE/\dd=aE):=by cases ok<;>cases dd<;>simp
 rcases ch with rfl|⟨rfl,rfl⟩|⟨rfl,rfl⟩;all_goals go_upto_region 14 with fail
 all_goals go_region
 all_goals(go_wp2;have aP:=bI.set (aL va vn vc) (aL (ag ⟨g,3,ai⟩) (N-3)<|cap-3) r kd bK;have⟨n0,n1,n2,n3,n4⟩:=aP.cells;have a8:=V bQ;simp only[GC,yn,ym,GB]at a8;refine eh ?_ af ⟨a8,?_⟩;{simp[dr,results64,go_sem,n0,n1,n2,n3,n4]};{have bJ:=bN F.2.2<|bV A G;exact(((((fk bJ (p:=⟨U s.1,0,ai⟩) bv _).setCell (p:=⟨U s.1,1,ai⟩) bv _).setCell (p:=⟨U s.1,2,ai⟩) bv _).setCell (p:=⟨U s.1,3,ai⟩) bv _).setCell (p:=⟨U s.1,4,ai⟩) bv _).drew})})))}
def aeS(d:b.1[a]? = ag (aS #[k,aL ai 0 0] 117)):bd aK 65 #[N a] b (cQ (aG ao) b):=by
 have e:aD b (M a 1)=ag (bY):=by unfold aD; grind
 go_wp2;go_ret;exact FS
def yV:ap:=[111,114,105,103,105,110]
def Rg{P:Prop}(h:P:=by exact⟨λ⟨p,h⟩=>⟨p,bZ h⟩,λ⟨p,h⟩=>⟨p,bZ h⟩⟩):P:=h
def V9(a s):Lib.hasSuffix a s=aE ↔ ∃p,a=p++s:=by rw[Lib.hasSuffix,RJ];exact Rg
def V_(a s):Lib.hasPrefix a s=aE ↔ ∃p,a=s++p:=by rw[Lib.hasPrefix,List.isPrefixOf_iff_prefix];exact Rg
def Wa:kK (c++[10])=vQ (I 10 c):=by have:Lib.hasSuffix (c++[10]) [10]=aE:=(V9 _ _).2 ⟨c,af⟩;unfold kK Lib.trimSuffix;simp_all
def IN{s}(c:∀b,s≠b++[10]):kK s=ai:=by rw[kK,bJ];intro a;have:=(V9 _ _).1 a;grind
theorem Wb:∀(f:Nat) (c:ap) (b:UInt8),E c<=f->b∈c->b=46\/∃g∈I 46 c,b∈g
 | f,c,b,n,e=>by
  rcases pe 46 c with⟨_,h⟩|⟨j,d,i,_,h⟩;{grind};{
  rw[i]at e;rcases lc.1 e with a|a;{grind};{
  rcases gC.1 a with a|a;{grind};{
  have o:E d<f:=by grind
  rcases Wb (f-1) d b G a with a|⟨g,k,l⟩;{grind};grind}}}
termination_by f=>f
decreasing_by omega
def aeT(a:fI c=aE):(32:UInt8) ∉ c:=by
 intro l;have e:(je ao c).isSome=aE:=by rw[vT];exact a
 unfold je at e;split at e;{
 rename_i n;rcases Wb (E c) c 32 bv l with a|⟨p,j,k⟩;{grind};{
 have o:∀(b:List ap) (h:Nat),mm ao h b=aE->∀i∈b,lL i=aE:=by{
 intro b;induction b with
 | nil=>simp
 | cons q b r =>{intro h a i g;rw[mm,fx]at a;rcases gC.1 g with rfl|g;{have:=a.1;unfold tB at this;grind};grind}};have d:=o _ 0 n.2 p j;rw[lL,fx]at d;have:=uB.1 d.2 32 k;exact absurd this bL}};grind
def aeU{b}(h:b ∉ c):I b c=[c]:=by rcases pe b c with⟨_,a⟩|⟨d,e,g,_,_⟩;{exact a};grind
def aeV(a:I 32 c=[yV,g]):Lib.hasPrefix c mf=aE/\pF c mf=g:=by
 have b:=ye 32 c;rw[a]at b;have d:c=mf++g:=by rw[<- b];rfl
 have e:=(V_ _ _).2 ⟨g,d⟩;refine⟨e,?_⟩;grind[pF]
def aeW{f}(a:(Lib.hasPrefix f mf&&fI (pF f mf))=aE):∃b,I 32 f=[yV,b]/\fI b=aE/\pF f mf=b:=by
 rw[fx]at a;have⟨p,hp⟩:=(V_ _ _).1 a.1;have c:pF f mf=p:=by{grind[pF]};rw[c]at a;refine⟨p,?_,a.2,c⟩;have d:f=yV++32::p:=by rw[hp];rfl
 rw[d,Tc,aeU<|aeT a.2];rfl
def Wc:∀(c:List ap) (a:ap),kt (c++[a])=(kt c).bind λe=>(jx a).map λb=>e++[b]
 | [],a=>by show(jx a).bind (λb=>(kt []).map (b :: ·))=_;cases jx a<;>rfl
 | d::c,a=>by
  show(jx d).bind (λb=>(kt<|c++[a]).map (b :: ·))=Option.bind ((jx d).bind λb=>(kt c).map (b :: ·)) _;rw[Wc c a];cases jx d with
  | none=>rfl
  | some b =>{
  cases kt c with
  | none=>rfl
  | some e =>{
  cases jx a with
  | none=>rfl
  | some g=>rfl}}
def IP:∀(b:List ap) (a:List D),kt b=ag a->E a=E b
 | [],a,c=>by have : []=a:=ih c;grind
 | e::b,a,c=>by
  have g:(jx e).bind (λd=>(kt b).map (d :: ·))=ag a:=c;cases j:jx e with
  | none=>grind
  | some d =>{
  cases h:kt b with
  | none=>grind
  | some i =>{rw[j,h]at g;have:d::i=a:=ih g;rw[<- this,ey,IP b i h];rfl}}
def Wd:∀(a:List ap) (b:Nat) (d:b<E a),jx a[b]=ai->kt a=ai
 | c::a,0,_,d=>by show(jx c).bind _=ai;grind
 | c::a,b+1,g,d=>by show(jx c).bind (λe=>(kt a).map (e :: ·))=ai;rw[Wd a b (by grind) d];simp
def We{e}(h:E c<=3000)(a:jx c=ag e):CV e:=by
 unfold jx at a;split at a;{
 rename_i j k l d n;split at a;{
 rename_i b;simp only[fx]at b;obtain rfl:=bZ<|ih a;have i:d∈Lib.splitN c [32] 4:=by grind
 have g:=b.1.2;refine⟨b.1.1,(TM g).2.2,b.2,?_⟩;have:=Ld 32 _ c d i;exact cU this h};grind};grind
def MY:∀(b:List ap) (a:List D),(∀h∈b,E h<=3000)->kt b=ag a->∀c∈a,CV c
 | [],a,_,e=>by have : []=a:=ih e;grind
 | d::b,a,j,e=>by
  have i:(jx d).bind (λc=>(kt b).map (c :: ·))=ag a:=e;cases k:jx d with
  | none=>grind
  | some c =>{
  cases l:kt b with
  | none=>grind
  | some n =>{rw[k,l]at i;have:c::n=a:=ih i;rw[<- this];intro p g;rcases gC.1 g with rfl|g;{exact We (j d aA) k};{exact MY b n (λh o=>j h<|nU _ o) l p g}}}
def uP(g:aQ)(b h:Nat)(d:ap)(e:List D):Prop:=∀a,cL (λc=>b<=c) g a->nS a h d e
def uP.Zv(g:uP b a d c j):nS b d c j:=g b<|cL.refl _ _
def uP.fr(i:uP b a d c j)(k:cL (λl=>a<=l) b f):uP f a d c j:=λh g=>i h<|k.trans g
def Ct(s:ap)(d:Nat)(e:Ending)(h:aQ):Prop :=
 match lu s with
 | none=>e=bg (cM ai)
 | some g=>∃c a b,e=bg (N c)/\d<=c/\uP h d c a b/\jJ a b/\kK s=ag (a,b)/\g=(a,cq b)
section
def aeX(a:Option kC)(d c:Nat)(b:aQ):(binOp .eql 113 (aL a d c)<|bY).run aK b=.ok (aG a.isNone) b:=RQ b _ _ a d c 0 0 CS
attribute [local go_sem] aeX
def xx(s:lu c=ai):Ct c a (bg<|cM ai) b:=by rw[Ct,s]
def AY(a:kK c=ai):lu c=ai:=by rw[lu,a];rfl
def aeY{o:ap}{rs:List D}(b:kK c=ag (o,rs))(s:60<E rs):lu c=ai:=by
 rw[lu,b];show(if na o rs&&mC o (cq rs)then _ else _)=_;rw[bJ];intro a;rw[fx]at a;have:=a.1;unfold na at this;cases rs with
 | nil=>simp at this
 | cons d e=>simp at this s;omega
def Wf(a:kK c=ag (g,j))(b:∀h∈j,kr h.owner=aE)(e:¬(wU g j/\E j<=60)):lu c=ai:=by rw[lu,a];show(if na g j&&mC g (cq j)then _ else _)=_;rw[bJ];intro d;exact e<|(TS g b).2 d
def aeZ(d:kK c=ag (g,j))(h:∀i∈j,kr i.owner=aE)(b:wU g j)(e:E j<=60):lu c=ag (g,cq j)/\na g j=aE/\mC g (cq j)=aE:=by have a:=(TS g h).1 ⟨b,e⟩;rw[lu,d];refine⟨?_,by rw[fx]at a;exact a.1,by rw[fx]at a;exact a.2⟩;show(if na g j&&mC g (cq j)then _ else _)=_;rw[b7 a]
def Wg(b:List ap)(a:I 32 c=[yV,g])(d:fI g=aE):vQ (c::b)=(kt b).map (λe=>(g,e)):=by have⟨h1,h2⟩:=aeV a;show(if Lib.hasPrefix c mf&&fI (pF c mf)then _ else _)=_;rw[h1,h2,d];rfl
def MZ(b:∀a,I 32 c=[yV,a]->fI a=ao):vQ (c::r)=ai:=by show(if Lib.hasPrefix c mf&&fI (pF c mf)then _ else _)=_;rw[bJ];intro d;have⟨a,h1,h2,_⟩:=aeW d;rw[b a h1]at h2;cases h2
def ae0(e:kK g=vQ (c::r))(i:60<E r):lu g=ai:=by
 cases d:vQ (c::r)with
 | none=>exact AY (by rw[e,d])
 | some j =>{
 obtain⟨o,rs⟩:=j;refine aeY (o:=o) (rs:=rs) (by rw[e,d]) ?_;have a:(if Lib.hasPrefix c mf&&fI (pF c mf)then(kt r).map (λrs=>(pF c mf,rs))else ai)=ag (o,rs):=d;split at a;{
 cases b:kt r with
 | none=>rw[b]at a;cases a
 | some s =>{rw[b]at a;have h:s=rs:=fE Prod.snd<|ih a;rw[<- h,IP r s b];exact i}};{cases a}}
def afe{W:aQ}{q:Nat}{r:D}{x:Nat->Prop}(e:W.1[q]? = ag (aS #[k,ak am r.aP,ak am r.type,amz<|O r.data,s] 119))(g:jB W (λa=>x a\/a=q) k<|cJ r.owner)(h:jB W (λa=>x a\/a=q) s<|I 32 r.data):fS x W 0 (bC q 0 1 1) [r]:=by
 refine⟨[(k,s,r)],af,⟨af,.inr ⟨q,1,_,af,eb _,e,cW _,m9,af,af⟩⟩,?_⟩;intro b hy;obtain rfl:b=_:=Il
 have aN:∀a,a<U W.1->¬(x a\/a=q)->¬(x a\/ag a=bW (aL (ag<|M q 0) 1 1)):=λa _ j i=>j (i.imp id λd=>by simpa [bW]using d);exact⟨g.imp aN,h.imp aN⟩
structure yW(w wr:World)(zb g go oc:Nat)(f y:ap)(ls:List ap)(k:Nat)(rs:List D)(vl:Value):Prop where
 II:wr.heap[zb]? = some (.cells #[.slice (some ⟨go,0,none⟩) (I 46 y).length oc,vl] 117)
 al:kt (ls.take k)=some rs
 H7:fS (λj=>j=zb\/j<w.heap.size) wr (zb+1) vl rs
 li:iy wr g 0 (f::ls)
 nm:iy wr go 0 (I 46 y)
 bl:a7 w wr
 nil:rs=[]->vl=bY
 gl:w.heap.size<=go
def yW.fr{e i:Nat}{n:Nat}(o:yW b f a d e i c g r n j k)(h:a7 f m):yW b m a d e i c g r n j k :=
 ⟨(h.5 a (ea.1 o.1).1).trans o.1,o.2,o.3.below h,o.4.below h,o.5.below h,bN o.6<|bV h o.6.4,o.7,o.8⟩
def yW.add{j u:Nat}{n:Nat}(o:yW b f a d j u c g r n q k)(M:n<E r){x:D}(N:jx r[n]=ag x)(O:fS (λy=>(y=a\/y<U b.1)\/ag y=bW k) f 0 F [x])(R:E q<=90000)(H:U b.1<=a)(K:d<a)(L:j<a):∃e h,(Builtin.append_ #[115,115] 115 #[k,F]).run aK f=.ok e h/\h.1[a]? = ag (aS #[aL (ag ⟨j,0,ai⟩) (E<|I 46 g) u,k] 117)/\yW b (a_ h ⟨a,1,ai⟩ e) a d j u c g r (n+1) (q++[x]) e/\(∃i t,e=aL i (E q+1) t):=by
 have Q:=(ea.1 o.1).1;have⟨e,h,k1,k2,k3,k5⟩:=DK o.3 O (λy _ J=>J) G cx (λy l=>by have:=o.6.4;rcases l with rfl|l<;>omega);have A:=o.3.lt;have P:ag a≠bW k:=λwr=>cj<|(A a<|bZ wr).1
 have z:=(k3.5 a Q P).trans o.1;have C:=cL.Yg k3 λ_ o=>o;have B:cL (λy=>y≠a) h (a_ h ⟨a,1,ai⟩ e):=cL.j9 (a:=⟨a,1,ai⟩) e λ_ o=>o;have w:∀y,y<a->ag y≠bW k:=λy l wr=>cj<|(A y<|bZ wr).1
 refine⟨e,h,k1,z,⟨?_,?_,?_,?_,?_,?_,?_,o.8⟩,?_⟩;{simp only[a_,xP,pi,z];rfl};{rw[iH M,Wc,o.2,N];rfl};{exact k2.set (a:=⟨a,1,ai⟩) e (.inl af) (by show a<a+1;omega)};{exact(o.4.fr C<|w d K).fr B G};{exact(o.5.fr C<|w j L).fr B G};{exact(bN o.6 ⟨k3.1,k3.2,k3.3,k3.4,λy l=>k3.5 y G<|w y G⟩).setCell (p:=⟨a,1,ai⟩) H _};{intro wr;simp at wr};{have⟨i,t,wr⟩:=k2.slice;rw[dE]at wr;exact⟨i,t,wr⟩}
def KB{P:Prop}(h:P:=by
 refine oh (rs:=[7]) b8 aA (lK af (λK hK=>?_) m_);rw[b7 dS];refine O3 (.tmp 82) (.tmp 84) dS dS dS (V uu) ?_;refine hK.out _ _ cE λhS=>?_;clear hK K;try simp only[Act.put,mK,kH,lp]
 refine lX 8 cE ?_;refine lX 9 cE ?_;refine oh (rs:=[10]) b8 aA (lK af (λK hK=>?_) m_);go_simp;refine hK.out _ _ cE λhS=>?_;clear hK K;refine uY b8 ?_ _;go_wp2;exact⟨⟨k+1,rs++[r],_,G,dH,ahb⟩,ee⟩):P:=h
def afZ(Q:E c<=3000):bd aK 17 #[amz<|O c] b λP b4=>Ct c (U b.1) P b4/\a7 b b4:=by
 rcases si c with rfl|⟨s,ad,o⟩;{have e:Hid (lu []=ai):=AY<|IN λs h=>BA;have:(O ([]:ap)).size=0:=af;go_wp2;go_ret;exact⟨xx<|V e,dz _ _⟩};rw[se]at o;have c8:(O c).size=E s+1:=by rw[de,o];simp
 have c6:E s+1<=3000:=by rw[o]at Q;simpa using Q
 have cC:∀h:E s<(O c).size,(O c)[E s]=ad:=λh=>by{show (dl c)[E s]'_=ad;simp[o]};have:¬(3000:Int)<((E s+1:Nat):Int):=G;have:¬((E s+1:Nat):Int)<1:=G;have:((E s+1:Nat):Int)-1=(E s:Int):=G;by_cases i:ad=10;{
 have cb:((ad.toNat:Int) != 10)=ao:=by rw[i];rfl
 have bD:Hid ((O c).extract 0 (E s)=O s):=by rw[Hid,B8,o];simp
 have z:Hid (kK c=vQ (I 10 s)):=by rw[Hid,o,i];exact Wa
 have be:=ae λW=>B9 s 10 W G;have aU:Hid (∀x∈I 10 s,E x<=3000):=λx l=>cj<|qE 10 (E s) s bv x l
 have bu:E (I 10 s)<=3001:=cj<|pN 10 s
 obtain⟨f,a,ba⟩:∃f a,I 10 s=f::a:=by{
 cases h:I 10 s with
 | nil=>exact absurd h<|pM 10 s
 | cons f a=>exact⟨f,a,af⟩};rw[ba]at z be aU bu;have:=ae o;clear i o Q ba;generalize O c=S at *;go_in;go_wp2_with fail;rw[V bD];refine(be _).mono ?_;rintro P b6 ⟨⟨dj,rfl,bM⟩,bK⟩;obtain⟨ay,c1,rfl,cA,c4,aH⟩:=vx bM aA;have cu:aD b6 (M ay 0)=ag (amz<|O f):=aH.2 0 aA;have ce:=ae aH;have ba:=V aU f aA;have bG:=ae<|B9 f 32 b6 G;have bE:=ae bK;have:=aH.1;simp only[ey]at bu cA ⊢;clear aH bM bK be bD cC;go_wp2_with fail;refine bG.mono ?_;rintro P bp ⟨⟨dk,rfl,bO⟩,aC⟩;obtain⟨bJ,c2,rfl,bt,c0,bx⟩:=vx bO<|pM 32 f;have cN:=bE.4;have:=aC.4;have H:=ae<|bN bE<|bV aC cN;have cg:=ae<|ce.below aC;have aX:=ae bx;clear bO aC bG cu bx;by_cases y:E (I 32 f)=2;rotate_left
 {
 have cY:((E (I 32 f):Int) != 2)=aE:=by simp only[BF,ne_eq];omega
 have e:=ae<|AY (by rw[V z];exact MZ λd h=>absurd xO y);go_wp2;go_ret;exact⟨xx<|V e,H⟩};obtain⟨x,d,ar⟩:∃x d,I 32 f=[x,d]:=by{
 cases a5:I 32 f with
 | nil=>rw[a5]at y;cases y
 | cons x cO =>{
 cases cO with
 | nil=>rw[a5]at y;cases y
 | cons d cP =>{
 cases cP with
 | nil=>exact⟨x,d,af⟩
 | cons dn da=>rw[a5]at y;simp at y}}};rw[ar]at bt aX ⊢;simp only[ey,h8]at bt ⊢;have cS:aD bp (M bJ 0)=ag (amz<|O x):=aX.2 0 aA;have cz:aD bp (M bJ 1)=ag (amz<|O d):=aX.2 1 aA;have cZ:E d<=3000:=by have:=qE 32 (E f) f bv d (by rw[ar];simp);omega
 have R:=ae ar;clear y ar;by_cases l:x=yV;rotate_left
 {have bP:((O x).toList==yV)=ao:=by{rw[hZ];show(x==yV)=ao;simpa using l};have bz:((O x).toList==[111,114,105,103,105,110])=ao:=bP;have e:=ae<|AY (by rw[V z];exact MZ λca h=>absurd (by have:=V R;rw[h]at this;exact(D7 this).1.symm) l);clear l bP;go_wp2;go_ret;exact⟨xx<|V e,H⟩};have bz:((O x).toList==[111,114,105,103,105,110])=aE:=by{rw[hZ,l];rfl};rw[l]at R;clear l;have:((E a+1:Nat):Int)-1=(E a:Int):=G;by_cases cr:60<E a;{have ch:60<(E a:Int):=G;have e:=ae<|ae0 (V z) cr;go_wp2;go_ret;exact⟨xx<|V e,H⟩};have ch:¬60<(E a:Int):=G;have b2:=ae<|B_ d ao bp G;go_wp2_with fail;refine b2.mono ?_;rintro P aq ⟨⟨cT,rfl,ah⟩,aF⟩;have ax:=ae<|bN H<|bV aF H.4;have:=aF.4;have cl:=ae<|cg.below aF;clear b2 aF cS cz bz;cases A:je ao d with
 | none =>{rw[A]at ah;have cm:cT=bY:=ah;subst cm;have e:=ae (AY<|by{rw[V z];refine MZ λca h=>?_;have:=V R;rw[h]at this;obtain rfl:ca=d:=(D7 (D7 this).2).1;rw[<- vT,A];rfl});clear ah;go_wp2;go_ret;exact⟨xx<|V e,(ct ax G _)⟩}
 | some aj =>{
 rw[A]at ah;obtain rfl:=Ws A;have cJ:fI d=aE:=by rw[<- vT,A];rfl
 obtain⟨_,aB,aP,rfl,cR,cH,aY⟩:=ah;have:=aY.1;have⟨oU,KX⟩:=bi (aS #[aL (ag ⟨aB,0,ai⟩) (E<|I 46 d) aP,aL ai 0 0] 117:Obj);have t:a7 aq (aO aq oU):=ct cd bv _;have b9:Hid (yW b (aO aq oU) (U aq.1) ay aB aP f d a 0 []<|bY):=⟨by rw[du,KX],af,fS.nil _ _ _,cl.below t,aY.below t,bN ax<|bV t ax.4,λ_=>af,cU H.4 cH⟩;have:=ax.4;have T:=ae<|cv A<|cv cJ cR;clear t A aY;go_wp2;rw[<- KX];have⟨zb,hzb⟩:=dK<|U aq.1;rw[hzb]at b9 ⊢;clear KX;go_loopw [6] (λbb wr=>∃(k:Nat) (rs:List D) (b3:bm),k<=E a/\bb=J ((k+1:Nat):Int)/\yW b wr zb ay aB aP f d a k rs b3) λbb _=>E a+1-(intOf bb).toNat;·exact⟨0,[],_,eb _,af,b9⟩
 ·(
 obtain⟨k,rs,b3,c5,rfl,p⟩:=hrel;obtain⟨aM,aN,rfl⟩:=p.3.slice;have bH:=ae p;have cK:E rs=k:=by rw[IP _ _ p.2,jF];omega
 have bQ:=(ea.1 p.1).1;have bF:=p.6.4;by_cases a3:k<E a;{
 have cf:((k+1:Nat):Int)<((E a+1:Nat):Int):=G;have cy:aD wr (M ay<|k+1)=ag (amz<|O a[k]):=by{have:=p.4.2 (k+1) cx;rw[g8]at this;exact this};have bL:=V aU a[k]<|nU _<|eP a3;have aJ:=ae<|afc wr bL;have⟨L,hL⟩:=dK<|a[k];rw[hL]at cy aJ;have a2:=ae hL;clear p hL;go_wp2_with fail;refine aJ.mono ?_;rintro P j ⟨⟨bl,bo,bn,di,c9,c3,bj,a0,bk,rfl,br⟩,t⟩;have:=t.4;have X:=bH.fr t;have cq:=ae X;cases aT:jx L with
 | none =>{have e:=ae (AY<|by{rw[V z,Wg a (V R) T.2.1,Wd a k a3 (by rw[V a2];exact aT)];rfl});have an:=ae X.6;clear br t X aJ;go_wp2;go_ret;exact⟨xx<|V e,ct an G _⟩}
 | some r =>{
 obtain⟨rfl,rfl,rfl,bT,bU⟩:=br r aT;have⟨nJ,AK⟩:=bi (aS #[aL bl bo bn,ak am r.aP,ak am r.type,amz<|O r.data,aL bj a0 bk] 119:Obj);have bI:a7 j (aO j nJ):=ct cd bv _;have aI:=bI.drew;have hnew:(bq<|aO j nJ).1[U j.1]? = ag nJ:=du j nJ;have bw:U (bq<|aO j nJ).1=U j.1+1:=gd j nJ;have bA:=X.fr aI;have b0:AW (bq<|aO j nJ) (U wr.1) (aL bl bo bn) (I 46 r.owner):=by{obtain⟨C,Z,aa,ab,ac,F,av⟩:=bT;exact⟨C,Z,aa,ab,ac,F.below aI,av⟩};have bS:AW (bq<|aO j nJ) (U wr.1) (aL bj a0 bk) (I 32 r.data):=by{obtain⟨C,Z,aa,ab,ac,F,av⟩:=bU;exact⟨C,Z,aa,ab,ac,F.below aI,av⟩};have a1:=ae bA;have aZ:=ae<|cv b0 bS;have aV:=ae hnew;have bR:=ae aT;clear br t X aJ bT bU bA b0 bS hnew bI aI aT;go_upto_region 16 with fail;rw[<- AK];refine La (S:=λ_=>True) b8 cE λhS=>?_;generalize bq (aO j nJ)=g at *;have⟨b5,u⟩:=dK<|U j.1;rw[u]at aV bw ⊢;have hnew:=V aV;rw[AK]at hnew;have al:aD g (M b5 0)=ag (aL bl bo bn):=by exact m8
 have db:aD g (M b5 1)=ag (J r.aP):=by exact m8
 have dc:aD g (M b5 2)=ag (J r.type):=by exact m8
 have dd:aD g (M b5 3)=ag (amz<|O r.data):=by exact m8
 have df:aD g (M b5 4)=ag (aL bj a0 bk):=by exact m8
 have bB:=a1.1;have cX:aD g (M zb 1)=ag (aL aM (E rs) aN):=by unfold aD; rw[bB];rfl
 have:¬zb=U g.1:=G;have:=λcQ=>(ev<|dT g cQ zb G).trans cX;have a4:a7 g (aO g nJ):=ct cd bv _;have aW:=bH.3.lt;have bf:∀ {v:bm} {aj:List ap},AW g (U wr.1) v aj->jB (aO g nJ) (λn=>((n=zb\/n<U b.1)\/ag n=bW (aL aM (E rs) aN))\/n=U g.1) v aj:=λh=>by{obtain⟨C,Z,aa,ab,ac,F,av⟩:=h;refine⟨C,Z,aa,ab,ac,F.below a4,λi=>?_⟩;have:=F.1;rcases i with((i|i)|i)|i;{omega};{omega};{have:=(aW C<|bZ i).2;omega};{omega}};have l:=afe (W:=aO g nJ) (q:=U g.1) (r:=r) (x:=λn=>(n=zb\/n<U b.1)\/ag n=bW (aL aM (E rs) aN)) (by rw[du,AK]) (by rw[ux<|IC (We (by rw[<- V a2];exact bL)<|V bR).1];exact bf aZ.1) (bf aZ.2);have⟨v8,w8,hrun,aha,arS,a8,oH,wP⟩:=(a1.fr a4).add a3 (by rw[V a2];exact bR) l G G G G;subst wP;rw[AK]at hrun;have uu:=ae hrun;have ahb:=ae arS;have dm:aD w8 (M zb 1)=ag (aL aM (E rs) aN):=by unfold aD; rw[aha];rfl
 have dg:io w8 (M zb 1)=ao:=by unfold World.frozen?; rw[aha];rfl
 clear hrun arS aha l bf a4 hnew bB u aV a1 cq aZ AK bw cK;refine lX 0 cE ?_;refine lX 1 cE ?_;refine lX 2 cE ?_;refine lX 3 cE ?_;refine oh (rs:=[4,5]) b8 aA (lK af (λK hK=>?_)<|lK af (λK hK=>?_) m_);{
 go_simp;refine hK.out _ _ cE λhS=>?_;clear hK K;try simp only[Act.put,mK,kH,lp]
 refine F1 5 ?_;refine F1 6 ?_;exact KB};{
 go_simp;refine hK.out _ _ cE λhS=>?_;clear hK K;try simp only[Act.put,mK,kH,lp]
 refine oh (rs:=[4,6]) b8 aA (lK af (λK hK=>?_)<|lK af (λK hK=>?_) m_);{
 go_simp;refine hK.out _ _ cE λhS=>?_;clear hK K;try simp only[Act.put,mK,kH,lp]
 refine F1 6 ?_;exact KB};{
 go_simp;refine hK.out _ _ cE λhS=>?_;clear hK K;try simp only[Act.put,mK,kH,lp]
 refine F1 4 ?_;exact KB}}}};{
 have cf:¬((k+1:Nat):Int)<((E a+1:Nat):Int):=G;have cc:k=E a:=G;have b_:Hid (kt a=ag rs):=by{have:=p.2;rw[cc,ld]at this;exact this};have aw:Hid (kK c=ag (d,rs)):=by{rw[Hid,V z,Wg a (V R) T.2.1,V b_];rfl};have Y:=ae<|MY a rs (λaj Q=>V aU aj<|nU _ Q)<|V b_;have cn:E rs<=60:=G;cases rs with
 | nil =>{have aW:=p.7 af;have B:=p.1;rw[aW]at B;have bs:=ae<|aeS B;have e:=ae<|Wf (V aw) (λr w=>by cases w) (λh=>by have⟨a6,_⟩:=h.1.1;simp at a6);have an:=ae p.6;clear p B;go_wp2_with fail;refine bs.m ?_;intro cW u;have az:=ae<|bN an<|bV u bF;clear u;go_wp2;go_ret;exact⟨xx<|V e,az⟩}
 | cons al aR =>{
 have bc:uP wr (U b.1) zb d (al::aR):=λW a9=>by{have bQ:=(ea.1 p.1).1;rcases(p.3.fr a9 (λn _ c7 _=>G) λn cI=>cj<|(p.3.lt n cI).1).recs (λr w=>IC (Y r w).1)with⟨_,h⟩|⟨cB,cw,a6,_,cD,cF⟩;{cases h};{have B:=(a9.5 zb bQ G).trans p.1;rw[a6]at B;exact⟨_,cB,0,cw,B,⟨aB,0,aP,af,T.2.2,p.5.fr a9 p.8⟩,cD,cF⟩}};have bC:=bc.Zv;have:=(jp T.2.1).2;have b1:wZ d (al::aR):=⟨G,G,λr w=>cj<|(x_ (Y r w).1).2⟩;have bs:=ae<|aaK bC b1 aA;have co:=ae bc;have an:=ae p.6;clear p bC bc b1;go_wp2_with fail;refine bs.mono ?_;rintro P cW ⟨⟨cs,rfl,au⟩,u⟩;have az:=ae<|bN an<|bV u bF;have cp:=ae<|co.fr<|cL.zY u;clear u;cases cs with
 | false =>{have e:=ae<|Wf (V aw) (λr w=>(Y r w).1) (λh=>by have:=au.2 h.1;cases this);clear au;go_wp2;go_ret;exact⟨xx<|V e,az⟩}
 | true =>{have⟨p1,fz,gg⟩:=aeZ (V aw) (λr w=>(Y r w).1) (au.1 af) cn;have e:Hid (∀W,uP W (U b.1) zb d (al::aR)->Ct c (U b.1) (bg<|N zb) W):=λW cG=>by{unfold Ct;rw[p1];exact⟨zb,d,al::aR,af,G,cG,⟨T.2.1,Y,fz,gg⟩,aw,af⟩};clear au p1 fz gg;go_wp2;go_ret;exact⟨V e _<|V cp,az⟩}}})}};{have cb:((ad.toNat:Int) != 10)=aE:=by{simp only[BF,ne_eq];intro h;exact i<|zT.1 (by show _=10;omega)};have e:Hid (lu c=ai):=AY (IN λdh h=>by{rw[o]at h;have:=fE List.getLast? h;simp at this;exact i this});clear o Q;generalize O c=S at *;go_wp2;go_ret;exact⟨xx<|V e,dz _ _⟩}
end
def sB(a:bm×List ap×Nat):List bm:=[a.1,J a.2.2]
def gP(c:aQ)(e h:Nat)(v:bm)(g:ia):Prop :=
 ∃a:List<|bm×List ap×Nat,a.map (·.2)=g/\c.ownsRow e 301 2 v (E a) (fA sB a) /\
  ∀d∈a,jB c (λb=>b=h\/ag b=bW v) d.1 d.2.1
structure gn(wb:Nat)(w:World)(v:Value)(w':World)(v':Value):Prop where
 fr:cL (λk=>k≠wb/\some k≠v.ownBlock) w w'
 ob:∀k,v'.ownBlock=some k->v.ownBlock=some k\/w.heap.size<=k
def gn.refl(c:Nat)(a:aQ)(v:bm):gn c a v a v:=⟨cL.refl _ _,λ_ b=>.inl b⟩
def gn.Du{wb:Nat}(a:a7 b f):gn wb b k f k:=⟨cL.zY a,λ_ a=>.inl a⟩
section
variable {wb:Nat} {w w' w2:World} {v v' v2:Value}
def gn.trans(a:gn wb w v w' v')(d:gn wb w' v' w2 v2):gn wb w v w2 v2 where
 fr:=⟨c_ d.1.1 a.1.1,c_ d.1.2 a.1.2,c_ d.1.3 a.1.3,cU a.1.4 d.1.4,λc aN e=>(d.1.5 c (e8 aN a.1.4) ⟨e.1,λb=>(a.2 c<|bZ b).elim (λb=>e.2<|bZ b) λb=>G⟩).trans<|a.1.5 c aN e⟩
 ob:=λc aN=>(d.2 c aN).elim (a.2 c) λb=>.inr<|cU a.1.4 b
def gn.nm(e:gn wb w v w' v')(o:jB w (λb=>b=wb\/ag b=bW v) k r):jB w' (λb=>b=wb\/ag b=bW v') k r:=by obtain⟨d,ay,j,h,l,g,c⟩:=o;refine⟨d,ay,j,h,l,g.fr e.1 ⟨λa=>c<|.inl a,λa=>c<|.inr a⟩,λn=>n.elim (λa=>c<|.inl a) λa=>(e.2 d<|bZ a).elim (λa=>c<|.inr<|bZ a) λa=>?_⟩;have:=g.1;omega
end
def gP.nil(b:aQ)(a d:Nat):gP b a d (bY) []:=⟨[],af,jO b a _ 2,λe c=>by cases c⟩
section
variable {w:World} {base wb:Nat} {v:Value} {es:ia} (h:gP w base wb v es)
include h
theorem gP.slice:∃a b,v=aL a (E es) b:=by obtain⟨i,rfl,d,_⟩:=h;rw[fC];rcases d.2 with⟨rfl,c⟩|⟨g,e,_,rfl,_⟩;{exact⟨ai,0,by rw[c]⟩};{exact⟨_,_,af⟩}
theorem gP.lt:∀a,bW v=ag a->base<=a/\a<U w.1:=by obtain⟨c,_,b,_⟩:=h;exact kX b
theorem gP.ne(e:gb w wb c k):ag wb≠bW v:=λb=>by
 obtain⟨s,_,d,_⟩:=h;rcases d.2 with⟨rfl,_⟩|⟨g,i,j,rfl,_,a,_⟩
 ·cases b
 ·have:wb=g:=by simpa [bW]using b
  subst this;rw[e]at a;simp at a
theorem gP.below(a:a7 w b):gP b base wb v es:=by obtain⟨i,c,d,e⟩:=h;exact⟨i,c,jG d a,λj g=>(e j g).fr (p:=λ_=>True) (cL.zY a) λ_ _=>cE⟩
theorem gP.set(t:ag wb≠bW v)(i:Nat)(b:bm):gP (a_ w ⟨wb,i,ai⟩ b) base wb v es:=by obtain⟨x,n,e,o⟩:=h;have g:cL (λj=>j≠wb) w (a_ w ⟨wb,i,ai⟩ b):=cL.j9 b λ_ h=>h;refine⟨x,n,⟨e.1,?_⟩,λy u=>(o y u).fr g λj q a=>q<|.inl a⟩;rcases e.2 with r|⟨d,k,l,rfl,p,c,rest⟩;{exact .inl r};{exact .inr ⟨d,k,l,rfl,p,(g.block d (ea.1 c).1 λa=>t (by rw[a];rfl)).trans c,rest⟩}
theorem gP.apX(d:gb w wb c k)(a:Nat)(b:bm):gP (a_ w ⟨wb,a,ai⟩ b) base wb v es:=h.set (h.ne d) a b
theorem gP.ends:EV w v es:=by
 obtain⟨e,rfl,q,r⟩:=h;rcases q.2 with⟨i,u⟩|⟨k,n,A,i,B,j,o,_,C,y⟩;{refine .inl ⟨i,?_⟩;rw[iM u];rfl};{
 refine .inr ⟨k,n,by rw[fC];exact i,by rw[fC];exact o,(ea.1 j).1,λd g=>?_⟩;rw[fC]at g;have p:∀(c:List<|bm×List ap×Nat) (b a:Nat) (hk:b<E c),a<2->(fA sB c)[b*2+a]? = (sB c[b])[a]?:=by{
 intro c;induction c with
 | nil=>intro b a hk;simp at hk
 | cons z c x =>{
 intro b a hk aN;have t:E (sB z)=2:=af;cases b with
 | zero=>rw[l5,rW,g8,GI G];rfl
 | succ b =>{rw[l5,uC G,t,show(b+1)*2+a-2=b*2+a by omega];exact x b a FU aN}}};have l:∀a,a<2->aD w (M k<|2*d+a)=(sB e[d])[a]?:=by{intro a aN;rw[zR,<- p e d a g aN,<- y,uD G];unfold aD;rw[j];simp};rw[rS];exact⟨e[d].1,l 0 G,(r e[d]<|eP g).nm,l 1 G⟩}
end
def U5:aK.underlying 227=ag (.slice 301):=b8
def U6:(aK.info? 301).map (λa=>(a.8,a.3,a.4))=ag (ag<|ci #[bY,J 0],2,32):=b8
def adM(h:Nat)(g:h=U b.1)(i:d_):∀(d:Nat) (j:bm),[k,s][d]? = ag j->aD (aO b<|aS #[k,s] i) (((M h 0):kC).add d)=ag j:=λd j a=>by
 subst g;have c:=du b<|aS #[k,s] i;generalize aO b (aS #[k,s] i)=l at c ⊢;generalize U b.1=h at c ⊢
 match d,a with
 | 0,a=>simp at a;subst a;simp[Addr.add,aD,c]
 | 1,a=>simp at a;subst a;simp[Addr.add,aD,c]
 | n+2,a=>simp at a
def eA(a:List ap):List ap:=a.map<|List.map gW
def rF:E (eA r)=E r:=by simp[eA]
def adN:eA (bh a r)=bh a (eA r):=by simp[eA,Ea]
def dv:List ap->ap->ia->ap×ia
 | [],a,b=>(a++[0],b)
 | c::d,a,b=>match kV (eA (c::d)) b with
  | some e=>(a++[aN<|49152+e,cO<|49152+e],b)
  | none=>dv d (a++(UInt8.ofNat (E c)::c))<|b++[(eA (c::d),E a)]
def y9{b:ia}(d:kV (eA (g::r)) b=ag a):dv (g::r) c b=(c++[aN<|49152+a,cO<|49152+a],b):=by rw[dv,d]
def ul{d:ia}(e:kV (eA (g::r)) d=ai):dv (g::r) c d=dv r (c++(UInt8.ofNat (E g)::g)) (d++[(eA (g::r),E c)]):=by rw[dv,e]
def gb.frozen(h:gb b a c k)(v:Nat):io b (M a v)=ao:=by unfold gb at h;exact tb
def gb.set0(h:gb b a c k)(v:ap):gb (a_ b ⟨a,0,ai⟩<|amz<|O v) a v k:=by unfold gb at *;exact H1
def gb.set1(h:gb b a c k)(v:bm):gb (a_ b ⟨a,1,ai⟩ v) a c v:=by unfold gb at *;exact H1
def Mt(c:Nat)(b:aQ)(v:bm)(e:Nat)(d:bm):gn c b v (a_ b ⟨c,e,ai⟩ d) v:=⟨cL.j9 d λ_ a=>a.1,λ_ a=>.inl a⟩
def un{i:ia}(j:gb f a c s)(l:gP f d a s i)(n:gn a b k f s)(v:a7 f m)(h:ap):gb (a_ m ⟨a,0,ai⟩<|amz<|O h) a h s/\gP (a_ m ⟨a,0,ai⟩<|amz<|O h) d a s i/\gn a b k (a_ m ⟨a,0,ai⟩<|amz<|O h) s :=
 ⟨(j.below v).set0 h,(l.below v).apX (j.below v) 0 _,(n.trans<|gn.Du v).trans<|Mt _ _ _ _ _⟩
def adO{e:Nat}{h:bm}{g:List<|bm×List ap×Nat}(o:∀c∈g,jB b (λi=>i=d\/ag i=bW k) c.1 c.2.1)(q:jB b (λi=>i=d\/ag i=bW k) h r)(n:gn d b k f s)(p:f.ownsRow a 301 2 s (E g+1)<|fA sB g++[h,J e]):gP f a d s (g.map (·.2)++[(r,e)]):=by
 refine⟨g++[(h,r,e)],by rw[kq];rfl,by rw[dE,rR];exact p,λc hy=>?_⟩;rcases lc.1 hy with hy|hy;{exact n.nm<|o c hy};{
 obtain rfl:c=_:=Il
 exact n.nm q}
def UJ: ∀ {c:ia},kV r c=ag a->a<16384
 | g::c,b=>by unfold kV at b;split at b;{rename_i d;simp at b;subst b;exact d.2};{exact UJ b}
def Mu{x:ia}{j bH bG:Nat}(a3:gb b a c s)(A:gP b d a s x)(hu:iy b j bH r)(cQ:E r<=bG)(bf:j≠a)(bO:ag j≠bW s)(cH:d<=U b.1)(cr:r≠[])(cL:E r<=300)(bz:∀i∈r,E i<=255)(cI:E c<=900000)(bx:∀e∈x,E e.1<=1000/\e.2<=1000000)(cJ:E x<=900000):bd aK 144 #[N a,bC j bH (E r) bG] b λe ba=>e=bg (bX #[])/\∃aa,gb ba a (dv r c x).1 aa/\gP ba d a aa (dv r c x).2/\gn a b s ba aa:=by
 have⟨i0,oI,hz0,hz1,hz2⟩:=jN zF;have⟨ca,cb,bR,cu,cw⟩:=jN U6;have⟨R,hR⟩:=bi<|dv r c x;rw[<- hR];have b_:=ae hR;have bc:=ae a3;have aW:=ae A;have aC:=ae hu;have bj:=ae bz;have b2:=ae bx;have:=a3.lt;have bF:=hu.1;clear hR a3 A hu bz bx;go_wp2;go_loopw [4,5] (λcy H wr=>∃k:Nat,H=J k/\k<=E r/\nE wr (U b.1) cy (amA k<|eA r)/\a7 b wr) λ_ H _=>E r-(intOf H).toNat;·exact⟨0,af,eb _,⟨jO _ _ _ _,aA⟩,dz _ _⟩
 ·(
 obtain⟨k,rfl,hk,Q,a1⟩:=hrel;have aT:=ae a1;have aB:=ae Q;have cz:=a1.4;clear a1 Q;by_cases u:k<E r;{
 have bA:=(aT.cell (p:=⟨j,bH+k,ai⟩) bF).trans (aC.2 k u);have a5:=V bj r[k]<|eP u;have cl:Hid (amA (k+1) (eA r)=amA k (eA r)++[r[k].map gW]):=by{rw[Hid,iH (by rw[rF];exact u)];simp[eA]};have cN:Hid (E (amA k<|eA r)=k):=by rw[Hid,jF,rF,uI hk]
 generalize r[k]=i at *;have bK:=ae<|Ty i wr G;have ay:(k:Int)<E r:=G;generalize cc:amA k (eA r)=bS at *;clear cc a5;go_wp2_with fail;refine bK.m ?_;intro K l;have bU:=ae l;have cs:=l.4;have fU:=ae<|jG aB.1 l;have:=V cN;clear l bK bA;go_wp2_with (at_builtin;go_loud (refine vL _ af (.tmp 14) (.tmp 20) 113 af (U b.1) 9 i0 (amz ⟨#[]⟩) 1 16 CS oI hz0 hz1 hz2 af bL _ (E bS) _ af (fU.alloc _) (M (U K.1) 0) 1 1 [aZ<|i.map gW] af af (En _ _ _) (λg hu=>Bw) m9 G cx ?_));intro aa w hown' hgrow Hx _;have bt:Hid (nE w (U b.1) aa (amA (k+1)<|eA r)/\a7 b w):=by{rw[Hid,V cl];exact PL};clear hown' hgrow Hx;go_wp2;exact⟨⟨k+1,dH,G,bt.1,bt.2⟩,ee⟩};{
 obtain rfl:k=E r:=G;have Q:=V aB;rw[oT (by rw[rF];exact cW _)]at Q;have bP:=ae Q;clear Q aB u hk;have ay:¬(E r:Int)<E r:=G;have⟨y,av,hlv,hlc,hbl,iW⟩:=vx (V bP) (λh=>cr<|by simpa [eA]using h);rw[rF]at hlv hlc;subst hlv;have bk:ag y≠bW s:=λe=>cj<|(aW.lt y<|bZ e).2
 have al:=ae<|cv bO bk;have bb:y≠a:=G;have an:Hid (gb wr a c s/\gP wr d a s x/\gn a b s wr s):=⟨bc.below aT,aW.below aT,gn.Du<|V aT⟩;have bT:=ae<|aC.below aT;have cE:=ae iW;have:=iW.1;clear bP bc aW aC iW bO bk;generalize wr=cD at *;go_wp2;go_loopw [6] (λH wr=>∃(k:Nat) (B:ap) (ax:bm) (v:ia),H=J k/\k<=E r/\Hid (dv (bh k r) B v=R/\gb wr a B ax/\gP wr d a ax v/\gn a cD s wr ax)/\E B<=900000+k*256/\E v<=900000+k/\Hid (∀e∈v,E e.1<=1000/\e.2<=1000000)) λH _=>E r-(intOf H).toNat;·exact⟨0,c,s,x,af,eb _,⟨bZ b_,an.1,an.2.1,gn.refl _ _ _⟩,G,G,b2⟩
 ·(
 obtain⟨k,B,ax,v,rfl,hk,az,b7,cG,bn⟩:=hrel;have⟨mq,BL,aY,dM⟩:=V az;obtain⟨a6,a8,rfl⟩:=aY.slice;have ch:=BL.cells;have:=dM.1.4;by_cases u:k<E r;{
 have bu:=bT.fr dM.1 ⟨bf,al.1⟩;have a0:=cE.fr dM.1 ⟨bb,al.2⟩;have bs:=bu.2 k u;have a5:=V bj r[k]<|eP u;have aI:=lA u;have bo:iy wr y k (bh k<|eA r):=⟨a0.1,λa4 a2=>by{have:=a0.2 (k+a4) (by rw[js]at a2;omega);rw[g8]at this;rw[BT];exact this}⟩;have aJ:jB wr (λbI=>bI=a\/ag bI=bW (aL a6 (E v) a8)) (bC y k (E r-k)<|av-k) (bh k<|eA r):=⟨y,k,av-k,by rw[js,rF],by rw[js,rF];omega,bo,λcp=>cp.elim bb λe=>(dM.2 y<|bZ e).elim (λe=>al.2<|bZ e) λe=>G⟩;have aj:=adK BL aY.ends aJ.nm (by rw[js,rF];omega) (V bn) G;have aw:Hid (dv (r[k]::bh (k+1) r) B v=R):=by rw[Hid,<- aI];exact mq
 have Z:Hid (eA (r[k]::bh (k+1) r)=bh k (eA r)):=by rw[Hid,<- aI,adN]
 generalize r[k]=i at *;have⟨F,z⟩:=dK<|kV (bh k<|eA r) v;rw[z]at aj;have⟨fi,I⟩:=dK<|A5 F;rw[I]at aj;have ad:=ae I;have Y:=ae z;have bM:=ae aj;have bD:=ae aJ;have bp:=ae<|cv BL<|cv aY dM;have ay:(k:Int)<E r:=G;clear I z aj aJ bo aI bu a0 BL aY mq az dM;go_wp2_with fail;refine bM.m ?_;intro K l;have⟨BL,aY,dM⟩:=V bp;have T:=BL.below l;have cs:=l.4;have aF:=T.lt;have⟨cS,d1⟩:=T.cells;have aX:=T.frozen;have aM:=(l.cell (p:=⟨j,bH+k,ai⟩) (by show j<U wr.1;omega)).trans bs;have t:=ae<|cv T<|cv (aY.below l)<|dM.trans<|gn.Du l;have aP:=ae<|(gn.Du (wb:=a) l).nm (V bD);have⟨q,Ku⟩:=bi<|E B;have bY:(O B).size=q:=by rw[de,Ku]
 rw[<- Ku]at b7;have aR:=ae Ku;clear BL aY dM T l bM bp bD bs ch Ku;cases F with
 | some n =>{
 have:=UJ<|V Y;have I:fi=(n:Int):=bZ ad;subst I;have ab:Hid (R=(B++[aN<|49152+n,cO<|49152+n],v)):=by rw[Hid,<- V aw];exact y9 (by rw[V Z];exact Y)
 have⟨p,ar⟩:=bi<|49152+n;rw[<- ar]at ab;have cB:p<65536:=G;have cR:am.wrap (49152+(n:Int))=(p:Int):=fT
 have:0<=(n:Int):=G;have b3:=ae<|qa p (bq K) cB;have:(O [aN p,cO p]).size=2:=af;have:O B++O [aN p,cO p]=O (B++[aN p,cO p]):=ua _ _;have b8:aD (bq K) (M a 0)=ag (aZ B):=cS;clear ar Y aw Z aP ad aM d1;go_wp2;go_region_with (go_at_call 83;refine b3.m ?_;intro w aq;have cm:=(aq.cell (p:=⟨a,0,ai⟩) aF).trans b8;have cn:=λL=>(vH<|aq.5 a aF).trans<|aX L);all_goals(
 have C:=ae<|un t.1 t.2.1 (an.2.2.trans t.2.2) (bN cd.drew aq)<|B++[aN p,cO p];clear aq cm cn;go_wp2;try simp only[Exit.inBlock,Exit.then]
 refine eh (BH af _ _ _) af ?_;rw[V ab];exact⟨af,_,C⟩)}
 | none =>{
 have I:fi = -1:=bZ ad;subst I;have ab:Hid (dv (bh (k+1) r) (B++(UInt8.ofNat (E i)::i)) (v++[(bh k<|eA r,E B)])=R):=by rw[Hid,<- V aw,ul (by rw[V Z];exact Y),V Z]
 have⟨bQ,QL,hrow,QM⟩:=t.2.1;have aH:E bQ=E v:=by rw[<- QL,fC]
 have aU:=ae<|cv QL QM;rw[aH]at hrow;have be:=ae hrow;have:¬av=k:=G;have bl:=t.2.1.ne t.1;clear QL hrow QM Y aw Z ad;go_wp2;go_region_law (first|(refine step_append_lies _ rfl (.tmp 50) (.tmp 60) 227 rfl d 301 ca _ 2 32 U5 cb bR cu cw rfl bL _ (List.length v) (bQ.flatMap sB) rfl (jG (V be) (cd.alloc bv _).drew) _ 1 1 [bC y k (r.length-k)<|av-k,J q] rfl rfl (λa4 g a2=>adM (U K.1) af _ a4 g a2) (λg hu=>by exact Ky) bL m9 G cx (U K.1+1) aA ?_;intro D P w bB hgrow bw cK;have W:gb w a B (aL a6 (List.length v) a8):=((hgrow.5 a cx bl).trans<|dT _ _ _ aF).trans t.1;have co:=W.frozen;have cA:=W.cells.2));all_goals(
 have ac:gn a K (aL a6 (List.length v) a8) w (bC D 0 (List.length v+1) P):=⟨⟨hgrow.1,hgrow.2,hgrow.3,cU aA hgrow.4,λL aN ar=>(hgrow.5 L cx ar.2).trans<|dT _ _ _ aN⟩,λL aN=>by{
 obtain rfl:D=L:=by simpa [bW]using aN
 exact bw.imp id λe=>G}⟩
 have a9:=adO aU.2 (V aP) ac (by rw[aH];exact bB);rw[aU.1]at a9;have X:=W.set1<|bC D 0 (List.length v+1) P;have bE:=a9.apX W 1<|bC D 0 (List.length v+1) P;have aV:=(t.2.2.trans ac).trans<|Mt a w _ 1<|bC D 0 (List.length v+1) P;have b9:=e8 bF<|cU cz aV.1.4;have b4:=(ev (a:=⟨j,bH+k,ai⟩) ((ac.trans<|Mt a w _ 1<|bC D 0 (List.length v+1) P).1.5 j G ⟨bf,λe=>t.2.2.2 j (bZ e) |>.elim (λe=>al.1<|bZ e) λe=>G⟩)).trans aM;generalize a_ w ⟨a,1,ai⟩ (aL (ag ⟨D,0,ai⟩) (List.length v+1) P)=o at *;have⟨y0,y1⟩:=X.cells;have bJ:=X.frozen;have br:=X.lt;have ah:=ae<|cv X<|cv bE aV;have⟨S,Kw⟩:=bi<|List.length i;have⟨g,hu⟩:=bi<|UInt8.ofNat S;have b0:(O i).size=S:=by rw[de,Kw]
 have cP:ck.wrap (S:Int)=(g.toNat:Int):=FN
 have b5:Hid (dv (bh (k+1) r) (B++g::i) (v++[(bh k<|eA r,q)])=R):=by rw[Hid,hu,Kw,V aR];exact ab
 have:S<=255:=G;have ce:aD (bq<|aO o<|aS #[ak ck g.toNat] 5) (M a 0)=ag (aZ B):=(ev (a:=⟨a,0,ai⟩) (dT o _ a br)).trans y0;have cf:aD (bq<|aO o<|aS #[ak ck g.toNat] 5) (M j<|bH+k)=ag (aZ i):=(ev (a:=⟨j,bH+k,ai⟩) (dT o _ j b9)).trans b4;have cg:∀L,io (bq<|aO o<|aS #[ak ck g.toNat] 5) (M a L)=ao:=λL=>(vH (a:=⟨a,L,ai⟩) (dT o _ a br)).trans (bJ L);have:¬9223372036854775807<q+1:=G;have:¬9223372036854775807<q+1+S:=G;have b1:(convert 58 9<|bC (U o.1) 0 1 1).run aK (bq<|aO o<|aS #[ak ck g.toNat] 5)=.ok (aZ [g]) (bq<|aO o<|aS #[ak ck g.toNat] 5):=AG (bq o) [g] 1 af Bu;have:(O [g]).size=1:=af;have:O B++O [g]=O (B++[g]):=ua _ _;have:O (B++[g])++O i=O (B++[g]++i):=ua _ _;have cT:(O<|B++[g]).size=q+1:=by rw[de,dE,<- V aR];rfl
 clear ac a9 W X bE aV bB hgrow bw co cA hu Kw ab aM cS d1 aX aU aP be t bl a5 aH;go_wp2;go_region;all_goals(
 have z:=un ah.1 ah.2.1 ah.2.2 cd (B++g::i);have au:=((dz _<|a_ o ⟨a,0,ai⟩<|amz<|O (B++g::i)).alloc bv<|aS #[ak ck g.toNat] 5).drew;have C:=ae<|cv (z.1.below au)<|cv (z.2.1.below au)<|z.2.2.trans<|gn.Du au;have cq:E (B++g::i)=q+1+S:=by rw[dE,<- V aR,ey,<- de i,b0];omega
 have cF:E (v++[(bh k<|eA r,q)])=E v+1:=aA;have b6:Hid (∀e∈v++[(bh k<|eA r,q)],E e.1<=1000/\e.2<=1000000):=λe A=>by{
 rcases lc.1 A with A|A;{exact bn e A};{
 obtain rfl:e=_:=by simpa using A
 exact⟨by show(bh k<|eA r).length<=1000;rw[js,rF];omega,by show q<=1000000;omega⟩}};clear z au;clear ah ce cf cg b1 y0 y1 bJ;go_wp2;exact⟨⟨k+1,_,_,_,dH,G,⟨b5,C.1,C.2.1,C.2.2⟩,by rw[cq];omega,by rw[cF];omega,b6⟩,ee⟩))}};{
 obtain rfl:k=E r:=G;have cC:Hid (R=(B++[0],v)):=by{rw[Hid,<- mq,w_];rfl};have ay:¬(E r:Int)<E r:=G;have aX:=BL.frozen;have C:=ae<|un BL aY (an.2.2.trans dM) cd<|B++[0];have:O B++⟨#[0]⟩=O (B++[0]):=ua B [0];have bY:(O B).size<=1000000:=m7
 have:ByteArray.size ⟨#[0]⟩=1:=af;clear BL aY dM mq az u;go_wp2;refine lG (v:=bX #[]) (by simp[dr,results144]) af ?_;rw[V cC];exact⟨af,_,C⟩})})
def af0(a:aQ)(b:d_)(c):(bq<|aO a<|aS #[] b).ownsRow (U a.1) b c (bC (U a.1) 0 0 0) 0 [] :=
 ⟨aA,.inr ⟨U a.1,0,#[],af,cW _,du a _,cW _,G,aA,aA⟩⟩
def af1:∀(b:List<|bm×List ap×Nat),(∀d∈b,d.1.oneCell'=aE)->∀c∈fA sB b,c.oneCell'=aE:=by intro b e c a;have⟨d,hz,a⟩:=xV.1 a;simp only[sB,gC,List.not_mem_nil,tf]at a;rcases a with rfl|rfl;{grind};{rfl}
def af2{J i}(z:gb b a c k)(Q:gP b J a k i)(aq:i≠[])(an:E i<=1000000):bd aK 146 #[N a] b λd t=>∃p B,d=bg (N p)/\U b.1<=p/\gb t p c B/\gP t (U b.1) p B i/\a7 b t:=by
 have⟨af5,af6,EX,hy1,hy2⟩:=jN U6;obtain⟨h,D,W,x⟩:=Q;have w:E h=E i:=by grind
 have ad:0<E i:=by grind
 have⟨ge,ce,cur,hv,hge,bP,hce,_,hsz,kP⟩:=W.2.resolve_left λal=>G;subst hv;have⟨c0,bA⟩:=z.cells;have X:=z.lt;have ab:=(ea.1 bP).1;have I:Hid (∀n r,(fA sB h)[n]? = ag r->aD (bq<|aO b<|aS #[] 301) (((M ge 0):kC).add n)=ag r):=by{intro n r R;rw[DR,g8];have ac:n<E h*2:=by{grind};rw[<- kP,uD ac]at R;have:(bq<|aO b<|aS #[] 301).1[ge]? = ag (aS cur 301):=(dT b _ ge ab).trans bP;grind[aD]};have F:=ae<|af1 h (λaj Z=>by have⟨_,_,_,d,_⟩:=x aj Z;rw[d];rfl);have y:=ae<|cv D x;rw[w]at hce bA;have aa:E (fA sB h)=E i*2:=by grind
 have H:=ae w;go_in;go_upto_region 1 with fail;go_region_law (first|(refine step_append_lies _ rfl (.tmp 7) (.tmp 11) 227 rfl b.heap.size 301 af5 _ 2 32 U5 af6 EX hy1 hy2 rfl bL _ 0 [] rfl (af0 b _ 2) _ i.length ce (h.flatMap sB) rfl aa (V I) (V F) ad (by omega) G aA (b.heap.size+1) aA ?_;intro e j g S l L ap;have:=(ev (a:=⟨a,0,ai⟩) ((l.5 a cx λd=>cj<|ih<|show ag a=ag (U b.1) from d).trans<|dT _ _ _ X)).trans c0));all_goals(have o:a7 b g:=⟨l.1,l.2,l.3,cU aA l.4,λA aN=>(l.5 A cx λd=>cj<|ih<|show ag A=ag (U b.1) from d).trans<|dT _ _ _ aN⟩;have:U b.1<=e:=L.elim (λd=>cj<|ih<|show ag (U b.1)=ag e from d) λd=>G;have C:=du g<|aS #[amz<|O c,aL (ag ⟨e,0,ai⟩) (E i) j] 229;have q:a7 g (aO g<|aS #[amz<|O c,aL (ag ⟨e,0,ai⟩) (E i) j] 229):=ct cd bv _;have T:g.ownsRow (U b.1) 301 2 (bC e 0 (E i) j) (E h) (fA sB h):=by{rw[V H];simpa using S};have K:Hid (gb (aO g<|aS #[amz<|O c,aL (ag ⟨e,0,ai⟩) (E i) j] 229) (U g.1) c (bC e 0 (E i) j)/\gP (aO g<|aS #[amz<|O c,aL (ag ⟨e,0,ai⟩) (E i) j] 229) (U b.1) (U g.1) (bC e 0 (E i) j) i/\a7 b (aO g<|aS #[amz<|O c,aL (ag ⟨e,0,ai⟩) (E i) j] 229)):=by{have u:=o.4;refine⟨C,⟨h,y.1,jG T q,λah Y=>?_⟩,bN o<|bV q u⟩;have⟨g',o',c',e1,e2,e3,e4⟩:=y.2 ah Y;have:=e3.1;exact⟨g',o',c',e1,e2,(e3.below o).below q,λP=>P.elim (λd=>G) λd=>cj<|ih<|show ag g'=ag e from d⟩};have u:=o.4;go_wp2;go_ret;exact⟨_,_,af,u,K⟩)
section
open Go
section
variable {P:Program} {Q:Exit->Act->World->Prop} {S:World->Prop}
def wR(P:Program)(e:Array Oper)(Q:Exit->lJ->aQ->Prop)(d:Nat)(a:Exit)(b:lJ)(c:aQ):Prop:=(a=lV/\wpOp P e Q d (Q lV) b c)\/(a≠lV/\Q a b c)
def Wh(a:List Oper)(b:Nat):Bool:=decide (E a=b+1)&&Region.sinkB .any (dl a) b&&(List.range<|b+1).all λc=>match a[c]? with
 | some d=>d.6.isNone&&d.5.all λe=>decide (e.1<c)
 | none=>ao
def Fm{h:Array Oper}{g:Exit}{c:lJ}(d:wR P h Q a g c b)(e:g≠lV):Q g c b:=d.elim (λd=>absurd d.1 e) λd=>d.2
def af3{e:List Oper}{g:Oper}(aN:d<a)(r:e[d]? = ag g)(hg:g.6=ai){o p:lJ->aQ->Prop}(l:∀c h,o c h->p c h){c:lJ}{h:aQ}(k:wpOp P (dl<|amA a e) (wR P (dl e) Q a) d o c h):wpOp P (dl e) Q d p c h:=by
 have y:(dl<|amA a e)[d]? = ag g:=by simp[aN,r]
 have z:(dl e)[d]? = ag g:=by simpa using r
 have t:∀i,Region.wanted g i=aE:=λi=>Kn
 unfold wpOp at k ⊢;simp only[y,t,pi]at k;simp only[z,t,pi];rcases k with k|⟨A,b,i,B⟩
 ·refine .inl ?_;unfold Oper.wp at k ⊢;generalize (execOp c.eval g).run P h=n at *;cases n with
  | ok b C =>
   cases b<;>simp only[Oper.upon]at k ⊢
   all_goals first
    | exact l _ _ k
    | exact k.elim
    | (refine k.mono λx u j=>?_
       cases x with
       | returned v=>exact l _ _ j
       | panicked q=>exact Fm j aA
       | outgrown=>obtain⟨b,i,j⟩:=j;exact⟨b,i,Fm j aA⟩)
    | exact λq w=>let ⟨v,u,n,s⟩:=k q w;⟨v,u,l _ _ n,s⟩
  | halt b C =>
   cases b<;>simp only[Oper.upon]at k ⊢
   all_goals first
    | exact Fm k aA
    | exact k.elim
 ·exact .inr ⟨A,b,i,Fm B aA⟩
section
variable {l:List Oper} {n:Nat} (hlen:l.length=n+1) (hgd : ∀ (i:Nat) (o:Oper),l[i]? = some o->o.guard=none/\∀ e∈o.after,e.on<i) (hsk:Region.sinkB .any l.toArray n=true)
theorem Nu{a:Array Bool}{i:Nat}:(a.push ao).getD i ao=a.getD i ao:=by by_cases b:i<U a;{simp[Lg,b,zS b]};{by_cases c:i=U a;{subst c;simp};{have:U a+1<=i:=G;simp[b,this]}}
theorem af4(a:Array Bool):(a.push ao).getD (U a) aE=ao:=aA
theorem IQ(a:Array Bool){i:Nat}(b:i<U a):(a.push ao).getD i aE=a.getD i aE:=by simp[Lg,b,zS b]
theorem Nw{a:Array Bool}(c:U a=n){i:Nat}(aN:i<n):i∈uX .any (dl l) (a.push ao) ↔ i∈uX .any (dl<|amA n l) a:=by
 rw[xe,xe,IQ a G];have b:(dl<|amA n l)[i]? = (dl l)[i]?:=by simp[aN]
 simp only[b,Nu]
include hlen hgd in
theorem af7{a:Array Bool}(q:U a=n)(k:uX .any (dl<|amA n l) a=[]):∀i,i<n->a.getD i aE=aE:=by
 intro i;induction i using Nat.strongRecOn with
 | _ i p =>{
 intro aN;cases h:a.getD i aE with
 | true=>rfl
 | false =>{obtain⟨o,c⟩:∃o,l[i]? = ag o:=⟨l[i],gw G⟩;have:i∈uX .any (dl<|amA n l) a:=xe.2 ⟨h,o,by simp[aN,c],λe j _=>by{have d:=(hgd i o c).2 e j;have b:=p e.1 d G;have g:e.1<U a:=G;simp[g]at b ⊢; exact b}⟩;rw[k]at this;cases this}}
include hlen hgd hsk in
theorem af8:∀(f:Nat) (a:Array Bool) (c:lJ) (d:aQ),U a=n->HeadInv .any (dl l) n (a.push ao)->wpAny P .any (dl<|amA n l) (wR P (dl l) Q n) f a c d->wpAny P .any (dl l) Q (f+1) (a.push ao) c d:=by
 have H:Region.chainB .any (dl l) n=aE:=by{rw[Region.chainB,uB];intro T O;have:=GN.1 O;simp at this;simp;left;omega};have I:∀(a:Array Bool),U a=n->(∀i,i<n->a.getD i aE=aE)->n∈uX .any (dl l) (a.push ao):=λa g q=>by{obtain⟨o,k⟩:∃o,l[n]? = ag o:=⟨l[n],gw G⟩;refine xe.2 ⟨by subst g;simp,o,by simpa using k,λe M _=>?_⟩;have j:=(hgd n o k).2 e M;have h:=q e.1 j;have K:e.1<U a:=G;rw[Nu];simp[K]at h ⊢; exact h};have J:∀(f:Nat) (a:Array Bool) (c:lJ) (d:aQ),U a=n->(∀i,i<n->a.getD i aE=aE)->wpOp P (dl l) Q n (Q lV) c d->wpOp P (dl l) Q n (wpAny P .any (dl l) Q f<|(a.push ao).setIfInBounds n aE) c d:=λf a c d g q b=>by{
 refine wpOp_mono (λA F x=>wpAny_done (R8.2 λi aN=>?_) x f) b;have⟨j,o,h,_⟩:=xe.1 aN;have t:i<n+1:=by have:=(ea.1 h).1;simpa [hlen]using this
 by_cases p:i=n;{subst p;have:i<U ((a.push ao).setIfInBounds i aE):=cx;simp[g]at j};{rw[getD_set_ne aE G,IQ a G,q i G]at j;cases j}};have D:∀(f:Nat) (a:Array Bool) (c:lJ) (d:aQ),U a=n->HeadInv .any (dl l) n (a.push ao)->(uX .any (dl<|amA n l) a=[]->wpOp P (dl l) Q n (Q lV) c d)->(uX .any (dl l) (a.push ao)=[]->Q lV c d)/\(n∈uX .any (dl l) (a.push ao)->wpOp P (dl l) Q n (wpAny P .any (dl l) Q f<|(a.push ao).setIfInBounds n aE) c d):=λf a c d g r N=>by{
 have z:(∀i,i<n->i ∉ uX .any (dl l) (a.push ao))->uX .any (dl<|amA n l) a=[]:=λb=>by{
 refine R8.2 λi aN=>?_;have⟨_,o,h,_⟩:=xe.1 aN;have t:i<n:=by have:=(ea.1 h).1;exact DA
 exact b i t<|(Nw g t).2 aN};refine⟨λu=>?_,λp=>?_⟩;{have j:=z (λi _ aN=>by rw[u]at aN;cases aN);have:=I a g<|af7 hlen hgd g j;rw[u]at this;cases this};{
 have q:∀i,i<n->a.getD i aE=aE:=λi aN=>by{
 cases L:a.getD i aE with
 | true=>rfl
 | false=>exact absurd p<|tail_waits hsk H (by simp[hlen]) r (n-i) i af aN (by rw[IQ a G];exact L) n bv};have j:=z (λi aN y=>by{have:=(xe.1 y).1;rw[IQ a G,q i aN]at this;cases this});exact J f a c d g q<|N j}};intro f;induction f with
 | zero =>{intro a c d g r b;have k:=D 0 a c d g r λ_=>(b.2).elim (λb=>b.2) λb=>absurd af b.1;refine⟨k.1,λi aN=>?_⟩;have t:i<n+1:=by{have⟨_,o,h,_⟩:=xe.1 aN;have:=(ea.1 h).1;simpa [hlen]using this};by_cases p:i=n;{subst p;exact k.2 aN};{have:=(Nw g<|show i<n by omega).1 aN;rw[b.1]at this;cases this}}
 | succ f R =>{
 intro a c d g r b;have k:=D (f+1) a c d g r λu=>(b.1 u).elim (λb=>b.2) λb=>absurd af b.1;refine⟨k.1,λi aN=>?_⟩;have⟨_,o,h,_⟩:=xe.1 aN;have t:i<n+1:=by{have:=(ea.1 h).1;simpa [hlen]using this};by_cases p:i=n;{subst p;exact k.2 aN};{
 have w:i<n:=G;have C:l[i]? = ag o:=by simpa using h
 have y:=(Nw g w).1 aN;have e:(a.push ao).setIfInBounds i aE=(a.setIfInBounds i aE).push ao:=by{apply Array.ext_getElem?;intro S;by_cases B:i=S;{subst B;rw[Array.getElem?_setIfInBounds_self_of_lt cx,Array.getElem?_push_lt cx];simp};{simp[Lg,B]}};refine af3 w C (hgd i o C).1 (λA F x=>?_)<|b.2 i y;rw[e];refine R (a.setIfInBounds i aE) A F (by simp[g]) ?_ x;rw[<- e];exact r.set aN w}}
end
def aku{g:Array Oper}{d:Option Nat}(h:∀b v c,Q (.panic b) (v.put d k) c->Q (.panic b) v c):∀b v c,wR P g Q a (.panic b) (v.put d k) c->wR P g Q a (.panic b) v c:=λb v c i=>.inr ⟨aA,h b v c<|Fm i aA⟩
def Fq{d:Array Oper}{e:Oper}{c:lJ}(i:d[a]? = ag e)(hg:e.6=ai)(h:e.wp P c b (Q lV) Q):wR P d Q a lV c b:=by
 refine .inl ⟨af,?_⟩;have j:∀g,Region.wanted e g=aE:=λg=>Kn
 simp only[wpOp,i,j,pi];exact .inl h
def ek{g:Region.Mode}{v:Array Oper}{o:List Oper}(n:Nat){h:Oper}{e:Array Bool}{c:lJ}{p:Array Bool}{j:lJ}(u:S b)(i:wpAnyH P g v (wR P (dl o) Q a) S d p j b)(aN:v[n]? = ag h:=by rfl)(y:Region.noSelect v=aE:=by kernel_rfl)(w:Region.free g v e n=aE:=by kernel_rfl)(x:(uX g v e).contains n=aE:=by kernel_rfl)(t:∀l c b,Q (.panic l) (c.put h.1 k) b->Q (.panic l) c b:=by exact λ_ _ _ i=>i)(A:YieldsIf P v S h k c:=by exact Or.inl ⟨dS,by intro b z;obtain⟨B,C⟩:=z;go_simp;first|done|with_reducible rfl⟩)(r:e.setIfInBounds n aE=p:=by exact DE)(q:c.put h.1 k=j:=by exact DE):wpAnyH P g v (wR P (dl o) Q a) S (d+1) e c b:=by subst r q;exact akt aN y w x (aku t) A u i
def Fr{y:List Oper}{h:lJ}(g:Nat)(w:P.follows .mixedOrders=aE)(j:Wh y g=aE)(r:S<|bq b)(p:S (bq b)->wpAnyH P .any (dl<|amA g y) (wR P (dl y) Q g) S g (Array.replicate g ao) h (bq b)):(Code.region a (dl y) aE).wp P Q h b:=by
 simp only[Wh,fx,sq]at j;obtain⟨⟨c,x⟩,t⟩:=j;have u:∀(d:Nat) (e:Oper),y[d]? = ag e->e.6=ai/\∀n∈e.5,n.1<d:=λd e l=>by{have:=(j_.1 l).1;have:=uB.1 t d<|GN.2 G;rw[l]at this;simp only[fx,Option.isNone_iff_eq_none,Array.all_eq_true',sq]at this;exact this};refine wp_region_any w ?_;have o:U (dl y)=g+1:=by simp[c]
 rw[o,ov];refine af8 c u x g (Array.replicate g ao) h _ aA ⟨by simp[c],λB C _ k=>?_,λz A q=>?_⟩<|wpAny_of_held _ _ _ _<|p r;{rw[Nu,getD_replicate_false]at k;cases k};{
 have:z=g:=by simp[c]at q;omega
 rw[this];have i:=af4<|Array.replicate g ao;rw[Array.size_replicate]at i;exact i}
end
end
section
open Go
def ZJ:aK.laidByTextLater (amA 6 Rows.machinesUptoRow.16) [.data,.data,.data,.data,.sentinel,.sentinel] aE:=Program.laidByTextLater_by_one 72 8 65 b8 b8 b8 b8 b8 b8 λ_ _=>b8
theorem ZK:Tryz.pinned.3.2.headLifts.contains "ownunsafe"=ao:=b8
def ZL:Tryz.pinned.3.2.listedFits Rows.machinesUptoRow.16=aE:=by unfold Program.listedFits;rw[ZK];kernel_rfl
theorem ZM:Tryz.pinned.3.2.pinnedFits "unicode/utf8.first"=aE:=b8
def ZN:Rows.machinesUptoRow.laidByTextAt .later Tryz.pinned [.data,.data,.data,.data,.sentinel,.sentinel,.pinned] aE:=OpenClaim.laidByTextAt_pinned af af ZJ af af af af (λc a b=>by
 simp only[Rows.machinesUptoRow,List.zip_cons_cons,List.zip_nil_right,List.mem_cons,List.mem_nil_iff,or_false]at a;rcases a with rfl|rfl|rfl|rfl|rfl|rfl|rfl<;>first|(cases b;done)|exact⟨ZM,b8⟩) ZL
end
end Go.Proofs.YtkkpahmoljiepaaGreatDoor
