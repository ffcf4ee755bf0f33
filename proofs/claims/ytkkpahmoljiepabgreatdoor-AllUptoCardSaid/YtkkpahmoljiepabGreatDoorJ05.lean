import Derived.Test.YtkkpahmoljiepabGreatDoorJ02
import Derived.Deep.AppendLies
import Derived.Test.YtkkpahmoljiepabGreatDoorCards
import Derived.SevenTiedAt
set_option maxRecDepth 1000000
set_option maxHeartbeats 12800000
set_option linter.all false
open Array renaming size->J
open Bool renaming false->ak,true->aD
open Decidable renaming decide->dC
open Eq renaming trans->cQ
open Go renaming Addr->gU,Calls->a_,Value->bk,World->aQ
open Go.Ending renaming returned->bh
open Go.Obj renaming cells->aZ
open Go.Proofs.Tryz renaming prog->aL
open Go.RowKit.Below renaming alloc->cf,mono->bN,trans->bC
open Go.Value renaming bool->aG,int->ag,ownBlock->bA,slice->aE,string->am
open Go.World renaming alloc->aN,alloc_heap_new->cW,cell?->aA,drew->bx
open List renaming drop->bi,flatMap->ex,length->E
open Option renaming none->af,some->ae
namespace Go.Proofs.YtkkpahmoljiepabGreatDoor
open Go.RowKit Go.Proofs.Tryz
variable{a c g n:Nat}{b f:World}{d h o w:ap}{e k r C:Value}{i S:List aK}{j:Int}{s:List ap}
variable{P:Prop}
def AO(c b:bk)(a:aK):bk:=.agg #[c,M a.aP,M a.type,aS a.data,b]
def xf(b:ap)(a:aK):Bool:=a.type==2 && ! dC (I 46 a.owner=I 46 b)
def W6{g}(o)(Q:lu b a d S)(L:E d<=900)(B:fG b e<|I 46 g.owner)(P:E g.owner<=900):a_ aL 159 #[bv a,AO e o g] b (cI (aG<|xf d g) b):=by
 let⟨l,V,ay,W,q,F,X,T⟩:=Q;have R:=(dK.1 q).1;let⟨c,i⟩:=bm<|aN b<|aZ #[e,ag .i64 g.aP,ag .i64 g.type,am<|D g.data,o] 98;have h:a6 b c:=i▸cf cc bo _
 have hnew:c.1[J b.1]? = ae (aZ #[e,ag .i64 g.aP,ag .i64 g.type,am<|D g.data,o] 98):=i▸cW b _
 have x:aA c (N (J b.1) 0)=ae e:=by exact lL
 have K:aA c (N (J b.1) 2)=ae (M g.type):=by exact lL
 have r:aA c (N a 0)=ae l:=by
  have:=(h.5 a R).trans q;unfold aA;rw[this];rfl
 have z:=(dK.1 hnew).1;have G:=O λH (y:a6 c H)=>rQ ((B.below h).below y) ((F.below h).below y) (nD P)<|nD L;have u:=O h;have t:Hid (xf d g=(g.type==2 && ! dC (I 46 g.owner=I 46 d))):=U;clear q F T B h hnew;generalize dC (I 46 g.owner=I 46 d)=dA at*;unfold AO;go_in;go_upto_region 1 with fail;rw[<-i];replace i:=O i;let:aA (bx c) (N (J b.1) 0)=ae e/\aA (bx c) (N a 0)=ae l:=bd x r
 go_region_held (λC=>aA C (N (J b.1) 0)=ae e/\aA C (N a 0)=ae l) (first|assumption|go_keep)
  (first|(go_at_call 93;go_loud (refine(G _ cc.drew).m λk j=>?_;have:aA k (N (J b.1) 0)=ae e/\aA k (N a 0)=ae l:=bd ((j.cell (p:=⟨J b.1,0,af⟩) z).trans x)<|(j.cell (p:=⟨a,0,af⟩) (g_ _ _ r)).trans r)))
 have DU:=(j.cell (p:=⟨J b.1,2,af⟩) z).trans K;have:aA k (N (J b.1) 2)=ae (M g.type):=DU;have w:Hid (a6 b k):=bC u<|(show a6 c k from(cU (J c.1) c).drew.trans j).mono u.4;clear j DU;cases A:(g.type==2)
 ·let n:=O A;go_wp2;go_ret;exact⟨e_ (by rw[t,n];rfl),w⟩
 ·let n:=O A;go_wp2;go_ret;exact⟨e_ (by rw[t,n];simp),w⟩
def mD(s:ap):ap:=(I 46 s).headD []
def JA(a h dA e g b uL c d:Bool):Bool:=if a&&h then ak else if dA then(if e then ak else g&&(!a||b))else !a || !uL||(c&&d)
def rS(c:ap)(a b:aK):Bool:=JA (xf c b) (mD b.owner==[42]) (dC<|I 46 a.owner=I 46 b.owner) (a.type==b.type&&(a.data==b.data||(a.aP:Int) != (b.aP:Int))) (b.type != 5) (a.type==2) (lR (I 46 a.owner)<|I 46 b.owner) (a.type==1) (!(mD a.owner==[42]))
def Rh(j:fG b e<|I 46 d):∃a ay g s,e=bL a ay (g+1) s/\g+1<=s/\aA b (N a ay)=ae (aS<|mD d):=by
 obtain⟨a,ay,i,rfl,c,v⟩:=j;let k:=nL 46 d;unfold mD;cases h:I 46 d with
 |nil=>exact absurd h k
 |cons n l=>{rw[h]at v c;have:=v.2 0 ax;rw[h8]at this;exact⟨a,ay,E l,i,U,by simpa using c,this⟩}
def W7(a b):((D a).toList==(D b).toList)=(a==b):=P3 a b
def Ri{au c}(q)(h)(aa:lu b a d i)(aJ:E d<=900)(r:fG b e<|I 46 au.owner)(Z:E au.owner<=900)(l:fG b k<|I 46 c.owner)(K:E c.owner<=900):a_ aL 96 #[bv a,AO e q au,AO k h c] b (cI (aG<|rS d au c) b):=by
 let⟨o,n⟩:=bm<|aN (aN b<|aZ #[e,ag .i64 au.aP,ag .i64 au.type,am<|D au.data,q] 98)<|aZ #[k,ag .i64 c.aP,ag .i64 c.type,am<|D c.data,h] 98;have aY:a6 b o:=n▸(cf cc bo _).alloc ax _
 have ab:o.1[J b.1]? = ae (aZ #[e,ag .i64 au.aP,ag .i64 au.type,am<|D au.data,q] 98):=by{rw [n];exact (dv _ _ _ ax).trans<|cW b _};have L:o.1[J b.1+1]? = ae (aZ #[k,ag .i64 c.aP,ag .i64 c.type,am<|D c.data,h] 98):=by{rw [n];have:=cW (aN b<|aZ #[e,ag .i64 au.aP,ag .i64 au.type,am<|D au.data,q] 98)<|aZ #[k,ag .i64 c.aP,ag .i64 c.type,am<|D c.data,h] 98;rwa [eE] at this};obtain ⟨S,Q,aV,aR,rfl,a3,B⟩:=Rh r;obtain ⟨T,R,aW,aT,rfl,a4,C⟩:=Rh l;have aI:=(dK.1 L).1
 have w:Hid (∀p,a6 o p->(aA p (N (J b.1) 0)=ae (bL S Q (aV+1) aR)/\aA p (N (J b.1) 1)=ae (M au.aP)/\aA p (N (J b.1) 2)=ae (M au.type)/\aA p (N (J b.1) 3)=ae (aS au.data))/\(aA p (N (J b.1+1) 0)=ae (bL T R (aW+1) aT)/\aA p (N (J b.1+1) 1)=ae (M c.aP)/\aA p (N (J b.1+1) 2)=ae (M c.type)/\aA p (N (J b.1+1) 3)=ae (aS c.data)/\aA p (N (J b.1+1) 4)=ae h)/\aA p (N S Q)=ae (aS<|mD au.owner)/\aA p (N T R)=ae (aS<|mD c.owner)):=λp g=>by{have aM:=(g.5 (J b.1) G).trans ab;have aO:=(g.5 (J b.1+1) aI).trans L;have W:=bC aY<|bN g aY.4;refine⟨⟨?_,?_,?_,?_⟩,⟨?_,?_,?_,?_,?_⟩,(W.cell<|g_ _ _ B).trans B,(W.cell<|g_ _ _ C).trans C⟩;all_goals first|(unfold World.cell?;rw[aM];rfl)|(unfold World.cell?;rw[aO];rfl)};have P:=O<|W6 h (aa.below aY) aJ (l.below aY) K;have ay:=O λp (g:a6 o p)=>rQ ((r.below aY).below g) ((l.below aY).below g) (nD Z)<|nD K;have az:=O λp (g:a6 o p)=>Eo ((r.below aY).below g) ((l.below aY).below g) (nD Z) (nD K)<|uK c.owner;have j:=O aY;have z:Hid (rS d au c=JA (xf d c) (mD c.owner==[42]) (dC<|I 46 au.owner=I 46 c.owner) (au.type==c.type&&(au.data==c.data||(au.aP:Int) != (c.aP:Int))) (c.type != 5) (au.type==2) (lR (I 46 au.owner)<|I 46 c.owner) (au.type==1) (!(mD au.owner==[42]))):=U;have:=IB<|mD c.owner;have:=IB<|mD au.owner;have a0:=W7 au.data c.data;clear ab L B C aa r l aY;generalize dC (I 46 au.owner=I 46 c.owner)=dA,lR (I 46 au.owner) (I 46 c.owner)=uL at*;generalize xf d c=cut,(mD c.owner==[42])=a1 at*;generalize (mD au.owner==[42])=C6 at*;generalize mD c.owner=a7 at*;generalize mD au.owner=a5 at*;unfold AO at*;go_in;go_wp2_with fail;rw[<-n];refine P.m ?_;intro aq H;have aX:=O<|w aq H;have u:=O H;let⟨⟨ah,ai,fa,fy⟩,⟨aj,al,an,ao,ap⟩,ac,ad⟩:=aX;clear H n P;cases cut<;>cases a1;case true.true=>(go_wp2;go_ret;exact⟨e_ (by rw[z];rfl),bC j<|bN u j.4⟩)
 all_goals(go_wp2_with fail;refine(ay aq u).m ?_;intro ar X;have t:=bC u<|bN X u.4;have A:=O t;have av:=O<|bC j<|bN t j.4;let⟨⟨ah,ai,fa,fy⟩,⟨aj,al,an,ao,ap⟩,ac,ad⟩:=w ar t;clear X t;cases dA;{go_wp2_with fail;refine(az ar A).m ?_;intro a2 Y;have x:=bC A<|bN Y A.4;have aK:=O<|bC j<|bN x j.4;let⟨⟨ah,ai,fa,fy⟩,⟨aj,al,an,ao,ap⟩,ac,ad⟩:=w a2 x;clear Y x;cases uL<;>cases F:(au.type==1)<;>cases C6;all_goals(let y:=O F;go_wp2;go_ret;exact⟨e_ (by rw[z,y];rfl),aK⟩)};{cases F:(au.type==c.type)<;>cases V:(au.data==c.data)<;>cases aC:((au.aP:Int) != (c.aP:Int))<;>cases aF:(c.type != 5)<;>cases aH:(au.type==2);all_goals(rw[V]at a0;let y:=O F;let aB:=O V;let aU:=O aC;let aP:=O aF;let aw:=O aH;go_wp2;go_ret;exact⟨e_ (by rw[z,y,aB,aU,aP,aw];rfl),av⟩)})
def ws(d:ap)(b:List aK)(a:Nat):Prop:=∀e:a<E b,lR (I 46 b[a].owner) (I 46 d)=aD/\¬(0<a/\b[a].type=6)/\∀c (g:c<E b),c≠a->rS d b[a] b[c]=aD
def tC(b:ap)(a:List aK):Prop:=(∃d:0<E a,a[0].type=6/\I 46 a[0].owner=I 46 b)/\i7 a (I 46 b) 2=aD/\∀c,ws b a c
def DV(c:ap)(d:List aK)(b:Ending):Prop:=∃a,b=bh (aG a)/\(a=aD↔tC c d)
def DW(c:¬tC d i):DV d i (bh<|aG ak):=⟨ak,U,by simp[c]⟩
def W8(c:tC d i):DV d i (bh<|aG aD):=⟨aD,U,by simp[c]⟩
structure Rj(w:World)(b o:Nat)(vo fL:Value)(r:aK):Prop where
 c0:w.cell? (N b o)=some vo
 c1:w.cell? (N b (o+1))=some (M r.aP)
 c2:w.cell? (N b (o+2))=some (M r.type)
 c3:w.cell? (N b (o+3))=some (aS r.data)
 c4:w.cell? (N b (o+4))=some fL
def Rk{g h j u l n o p q t i:gU}{y z A B D F w:bk}(S:a6 f b)(x:aA f g=ae e/\aA f h=ae k/\aA f j=ae r/\aA f u=ae y/\aA f l=ae z/\aA f n=ae A/\aA f o=ae B/\aA f p=ae C/\aA f q=ae D/\aA f t=ae F/\aA f i=ae w):aA b g=ae e/\aA b h=ae k/\aA b j=ae r/\aA b u=ae y/\aA b l=ae z/\aA b n=ae A/\aA b o=ae B/\aA b p=ae C/\aA b q=ae D/\aA b t=ae F/\aA b i=ae w:=by let c:∀(d:gU) (v:bk),aA f d=ae v->aA b d=ae v:=λd v x=>(S.cell<|g_ f d x).trans x;let⟨G,H,K,L,M,N,O,P,Q,R,I⟩:=x;exact⟨c _ _ G,c _ _ H,c _ _ K,c _ _ L,c _ _ M,c _ _ N,c _ _ O,c _ _ P,c _ _ Q,c _ _ R,c _ _ I⟩
def ER(h:P:=by first|rfl|go_num):P:=h
def L4(h:P:=by
 replace HT:=O HT;go_wp2;go_ret;exact⟨V Y9 (λh=>by
 have h1:=(MQ h).2.2 k hlk<|V MS;rw[<-V F7,V HT]at h1;cases h1),V hE⟩):P:=h
def L0(h:P:=by
 clear sg;go_wp2
 go_roundg (E rs-(i+1))
 case measure=>omega
 ·exact⟨i+1,by first|rfl|go_num,G,λj hj=>by
  by_cases um:j=i
  ·subst um;exact aeB
  ·exact bT j G,V MR⟩):P:=h
def W_{rs:List aK}(b0:lu b g d rs)(ax:tH d rs)(bt:0<E rs):a_ aL 41 #[bv g] b λch c=>DV d rs ch/\a6 b c:=by
 have bn:=O b0;obtain⟨K,a,ay,H,bK,b5,cH,b6⟩:=b0;have bD:=(dK.1 bK).1;have aP:=O ax;have an:=ax.1;have az:=ax.2.1;have ai:Hid (∀o,a6 b o->aA o (N g 0)=ae K/\aA o (N g 1)=ae (bL a ay (E rs) H)):=λo n=>by
  have:=(n.5 g bD).trans bK;constructor<;>(unfold aA;rw[this];rfl)
 have aO:Hid (∀o,a6 b o->∀k (aX:k<E rs),∃ad lr,Rj o a (ay+k*5) ad lr rs[k]/\fG o ad (I 46 rs[k].owner)/\(∃a7 bE aj,ad=aE a7 bE aj)/\∃a7 bE aj,lr=aE a7 bE aj):=λo n k aX=>by
  have⟨ad,lr,ac,cs,aF,ct,cu,b3,cv⟩:=(b6 k aX).below n;refine⟨ad,lr,⟨ac,cs,aF,ct,cu⟩,b3,?_,?_⟩
  ·obtain⟨ci,cr,aj,h,_⟩:=b3;exact⟨_,_,_,h⟩
  ·obtain⟨ci,cr,aj,h,_⟩:=cv;exact⟨_,_,_,h⟩
 have a2:Hid (∀o,a6 b o->fG o K (I 46 d)):=λo n=>b5.below n;have co:=ax.2.2 rs[0]<|ei bt;have cF:((E rs:Int)==0)=ak:=iQ
 have⟨a4,cE,u,r,_,_⟩:=V aO b cc 0 bt;rw[o7,h8]at u;have ac:=u.1;have aF:=u.3;have⟨A,Q⟩:=V ai b cc;have bX:=O r;clear bK b5 b6 ax u r;by_cases aH:rs[0].type=6
 ·have ba:(rs[0].type != 6)=ak:=by rw[bne_eq_false_iff_eq];exact aH
  have bb:=O aH;have bO:=O λo (n:a6 b o)=>rQ (bX.below n) (a2 o n) (nD co)<|nD an;have bR:=O λo (n:a6 b o)=>Ee 2 (bn.below n) (V aP) (a2 o n)<|nD an;have⟨cw,aU⟩:=bm<|rs[0].type;rw[<-aU]at aF ba;clear aH aU;go_in;go_upto_region 3 with fail;have C:bY (bx b) g 0 K/\bY (bx b) g 1 (bL a ay (E rs) H)/\bY (bx b) a ay a4:=⟨A,Q,ac⟩
  go_region_held (λc=>aA c (N g 0)=ae K/\aA c (N g 1)=ae (bL a ay (E rs) H)/\aA c (N a ay)=ae a4) (first|assumption|go_keep)
   (first|(go_at_call 93;go_loud (refine(bO _ cc.drew).m λa1 av=>?_;have R:bY a1 g 0 K/\bY a1 g 1 (bL a ay (E rs) H)/\bY a1 a ay a4:=⟨(av.cell (p:=⟨g,0,af⟩) bD).trans A,(av.cell (p:=⟨g,1,af⟩) bD).trans Q,(av.cell (p:=⟨a,ay,af⟩) (g_ _ _ ac)).trans ac⟩)))
  have bu:=(cU (J b.1) b).drew.trans av;have bf:=O bu;have bS:=O<|bR a1 bu;clear av bu R C;have bM:Hid (tC d rs->dC (I 46 rs[0].owner=I 46 d)=aD/\i7 rs (I 46 d) 2=aD):=λh=>⟨lx (by have⟨_,h1⟩:=h.1;exact h1.2),h.2.1⟩
  have b9:Hid (dC (I 46 rs[0].owner=I 46 d)=aD->i7 rs (I 46 d) 2=aD->(∀i,ws d rs i)->tC d rs):=λh1 ck cl=>⟨⟨bt,bb,oH h1⟩,ck,cl⟩
  generalize dC (I 46 rs[0].owner=I 46 d)=dA,i7 rs (I 46 d) 2=cn at*;go_wp2_with fail;refine bS.m λcG bZ=>?_;have aR:=O<|bC bf<|bN bZ bf.4;clear bZ bS bR bO;cases dA
  ·go_wp2;go_ret;exact⟨DW (λh=>by have:=(bM h).1;cases this),aR⟩
  cases cn
  ·go_wp2;go_ret;exact⟨DW (λh=>by have:=(bM h).2;cases this),aR⟩
  go_wp2
  go_loopg [5] (E rs) (λcj cx wr=>∃(i:Nat),cx=M i/\i+cj=E rs/\(∀j,j<i->ws d rs j)/\Hid (a6 b wr))
  ·exact⟨0,U,G,λj hj=>G,aR⟩
  ·obtain⟨i,rfl,cD,bQ,aw⟩:=hrel;have bT:=O bQ;have A:=V ai wr<|V aw;clear bQ bX ac aF bf aR;by_cases bz:i<E rs
   ·have cp:(i:Int)<E rs:=G;obtain⟨ad,lr,u,r,⟨x,z,y,rfl⟩,⟨L,P,wc,rfl⟩⟩:=V aO wr (V aw) i bz;have az:=aP.2.2 rs[i]<|ei bz;have⟨e,aY⟩:=bm<|rs[i];rw[<-aY]at u r az;obtain⟨al,bG,ce,cg,cB⟩:=u;have⟨w,aV⟩:=bm<|aN wr<|aZ #[(aE x z y),ag .i64 e.aP,ag .i64 e.type,am<|D e.data,(aE L P wc)] 98;have bq:=aV▸cf cc bo _
    have bB:=aV▸cW wr _
    have bU:=(dK.1 bB).1;have a0:=bC aw<|bN bq aw.4;have aM:Hid (∀o,a6 w o->Rj o (J wr.1) 0 (aE x z y) (aE L P wc) e):=λo n=>by
     have:=(n.5 (J wr.1) bU).trans bB;constructor<;>(unfold aA;rw[this];rfl)
    have Y:=O a0;have bF:Hid (∀o,a6 w o->fG o (aE x z y) (I 46 e.owner)):=λo n=>(r.below bq).below n;have bP:=O λo (n:a6 w o)=>Eo (bF o n) (a2 o<|bC a0<|bN n a0.4) (nD az) (nD an)<|uK d;have MQ:Hid (ws d rs i->lR (I 46 e.owner) (I 46 d)=aD/\¬(0<i/\e.type=6)/\∀k (aX:k<E rs),k≠i->rS d e rs[k]=aD):=λh=>aY▸h bz
    have bV:Hid ((lR (I 46 e.owner) (I 46 d)=aD/\¬(0<i/\e.type=6)/\∀k (aX:k<E rs),k≠i->rS d e rs[k]=aD)->ws d rs i):=λh _=>aY▸h
    have Y9:Hid (¬ws d rs i->DV d rs (bh<|aG ak)):=λh=>DW λcm=>h<|cm.2.2 i;clear bB bq r aY a0;go_upto_region 11 with fail;rw[<-aV];clear aV al bG ce cg cB;have b4:=V aM w cc;have al:=b4.1;have⟨A,Q⟩:=V ai w<|V Y;have C:bY (bx w) (J wr.1) 0 (aE x z y)/\bY (bx w) g 0 K:=bd al A
    have b7:=g_ _ _ A
    go_region_held (λc=>aA c (N (J wr.1) 0)=ae (aE x z y)/\aA c (N g 0)=ae K) (first|assumption|go_keep)
     (first|(go_at_call 95;go_loud (refine(bP _ cc.drew).m λbI aW=>?_;have R:aA bI (N (J wr.1) 0)=ae (aE x z y)/\aA bI (N g 0)=ae K:=bd ((aW.cell (p:=⟨J wr.1,0,af⟩) bU).trans al)<|(aW.cell (p:=⟨g,0,af⟩) b7).trans A)))
    have aT:=(cU (J w.1) w).drew.trans aW;have b1:=O aT;have bW:=O<|bC Y<|bN aT Y.4;have cq:=(aM bI aT).3;rw[fM]at cq;clear aW C R aT b4 al A Q bP;generalize lR (I 46 e.owner) (I 46 d)=uL,J wr.1=l at*;cases uL
    ·go_wp2;go_ret;exact⟨V Y9 (λh=>by have:=(MQ h).1;cases this),bW⟩
    by_cases b2:0<i
    case' neg=>have ca:¬0<(i:Int):=G
    case' pos=>have ca:0<(i:Int):=G
    ·by_cases T:e.type=6
     ·have b_:(e.type==6)=aD:=by rw[iE];exact T
      replace T:=O T;go_wp2;go_ret;exact⟨V Y9 λh=>(MQ h).2.1<|bd b2 T,bW⟩
     ·have b_:(e.type==6)=ak:=by rw[ju];exact T
      have bc:Hid (¬(0<i/\e.type=6)):=λh=>T h.2;clear T;go_wp2
      go_loopg [8] (E rs) (λbr bH bJ=>∃(k:Nat),bH=M k/\k+br=E rs/\(∀j (hj:j<E rs),j<k->j≠i->rS d e rs[j]=aD)/\Hid (a6 w bJ))
      ·exact⟨0,U,G,λj _ hj=>G,b1⟩
      ·obtain⟨k,rfl,cb,F,t⟩:=hrel;have sg:=bC Y<|bN t Y.4;have MR:=O sg;have⟨A,Q⟩:=V ai wr sg;replace F:=O F;by_cases hlk:k<E rs
       ·have a3:(k:Int)<E rs:=G;by_cases B:k=i
        ·have be:((k:Int)==i)=aD:=yv
         have MS:=O B;clear B sg;go_wp2;go_quiet (fail);go_wp2
         go_roundg (E rs-(k+1))
         case measure=>omega
         ·exact⟨k+1,ER,G,λj hj bw um=>V F j hj (cd<|V MS) um,jn (V t) nq⟩
        ·have be:((k:Int)==i)=ak:=iQ
         obtain⟨cA,cC,u,r,⟨aI,aC,aJ,rfl⟩,⟨aa,ab,Z,rfl⟩⟩:=V aO wr sg k hlk;have aB:=aP.2.2 rs[k]<|ei hlk;have⟨q,W⟩:=bm<|rs[k];rw[<-W]at u r aB;obtain⟨cS,bg,bj,hN,bl⟩:=u;have⟨bp,ao,aq,ar,au⟩:=V aM wr<|V t;rw[fM]at ao aq ar au;have ah:=Ri (aE L P wc) (aE aa ab Z) (bn.below sg.drew) an ((bF wr t).below cc.drew) az (r.below cc.drew) aB;have a5:=O ah;have F7:=O W;have MS:=O B;have C:aA (bx wr) (N l 0)=ae (aE x z y)/\aA (bx wr) (N l 1)=ae (M e.aP)/\aA (bx wr) (N l 2)=ae (M e.type)/\aA (bx wr) (N l 3)=ae (aS e.data)/\aA (bx wr) (N l 4)=ae (aE L P wc)/\aA (bx wr) (N g 1)=ae (bL a ay (E rs) H)/\aA (bx wr) (N a<|ay+k*5)=ae (aE aI aC aJ)/\aA (bx wr) (N a<|ay+k*5+1)=ae (M q.aP)/\aA (bx wr) (N a<|ay+k*5+2)=ae (M q.type)/\aA (bx wr) (N a<|ay+k*5+3)=ae (aS q.data)/\aA (bx wr) (N a<|ay+k*5+4)=ae (aE aa ab Z):=⟨bp,ao,aq,ar,au,Q,cS,bg,bj,hN,bl⟩
         clear B ah r W sg;go_wp2
         go_region_held (λc=>aA c (N l 0)=ae (aE x z y)/\aA c (N l 1)=ae (M e.aP)/\aA c (N l 2)=ae (M e.type)/\aA c (N l 3)=ae (aS e.data)/\aA c (N l 4)=ae (aE L P wc)/\aA c (N g 1)=ae (bL a ay (E rs) H)/\aA c (N a<|ay+k*5)=ae (aE aI aC aJ)/\aA c (N a<|ay+k*5+1)=ae (M q.aP)/\aA c (N a<|ay+k*5+2)=ae (M q.type)/\aA c (N a<|ay+k*5+3)=ae (aS q.data)/\aA c (N a<|ay+k*5+4)=ae (aE aa ab Z)) (first|assumption|go_keep)
          (first|(go_at_call 96;go_loud (refine a5.m λcz S=>?_;have R:=Rk S C)))
         have X:=(cU (J wr.1) wr).drew.trans S;have bs:=O<|bC t<|bN X t.4;have hE:=O<|bC MR<|bN X MR.4;clear S R C X;cases HT:rS d e q
         ·exact L4
         ·replace HT:=O HT;go_wp2
          go_roundg (E rs-(k+1))
          case measure=>omega
          ·exact⟨k+1,ER,G,λj hj bw um=>by
           by_cases a9:j=k
           ·subst a9;rw[<-V F7];exact HT
           ·exact F j hj G um,V bs⟩
       ·have a3:¬(k:Int)<E rs:=G;have aeB:=O<|V bV ⟨cy,bc,λj hj um=>V F j hj G um⟩;exact L0
    ·have bc:Hid (¬(0<i/\e.type=6)):=λh=>b2 h.1;go_wp2
     go_loopg [8] (E rs) (λbr bH bJ=>∃(k:Nat),bH=M k/\k+br=E rs/\(∀j (hj:j<E rs),j<k->j≠i->rS d e rs[j]=aD)/\Hid (a6 w bJ))
     ·exact⟨0,U,G,λj _ hj=>G,b1⟩
     ·obtain⟨k,rfl,cb,F,t⟩:=hrel;have a8:=O F;have sg:=bC Y<|bN t Y.4;have MR:=O sg;have⟨A,Q⟩:=V ai wr sg;clear F;by_cases hlk:k<E rs
      ·have a3:(k:Int)<E rs:=G;by_cases B:k=i
       ·have be:((k:Int)==i)=aD:=yv
        have MS:=O B;clear B sg;go_wp2;go_quiet (fail);go_wp2
        go_roundg (E rs-(k+1))
        case measure=>omega
        case rel=>exact⟨k+1,ER,G,λj hj bw um=>V a8 j hj (cd<|V MS) um,jn (V t) nq⟩
       ·have be:((k:Int)==i)=ak:=iQ
        obtain⟨cA,cC,u,r,⟨aI,aC,aJ,rfl⟩,⟨aa,ab,Z,rfl⟩⟩:=V aO wr sg k hlk;have aB:=aP.2.2 rs[k]<|ei hlk;have⟨q,W⟩:=bm<|rs[k];rw[<-W]at u r aB;obtain⟨cS,bg,bj,hN,bl⟩:=u;have⟨bp,ao,aq,ar,au⟩:=V aM wr<|V t;rw[fM]at ao aq ar au;have ah:=Ri (aE L P wc) (aE aa ab Z) (bn.below sg.drew) an ((bF wr t).below cc.drew) az (r.below cc.drew) aB;have a5:=O ah;have F7:=O W;have MS:=O B;have C:aA (bx wr) (N l 0)=ae (aE x z y)/\aA (bx wr) (N l 1)=ae (M e.aP)/\aA (bx wr) (N l 2)=ae (M e.type)/\aA (bx wr) (N l 3)=ae (aS e.data)/\aA (bx wr) (N l 4)=ae (aE L P wc)/\aA (bx wr) (N g 1)=ae (bL a ay (E rs) H)/\aA (bx wr) (N a<|ay+k*5)=ae (aE aI aC aJ)/\aA (bx wr) (N a<|ay+k*5+1)=ae (M q.aP)/\aA (bx wr) (N a<|ay+k*5+2)=ae (M q.type)/\aA (bx wr) (N a<|ay+k*5+3)=ae (aS q.data)/\aA (bx wr) (N a<|ay+k*5+4)=ae (aE aa ab Z):=⟨bp,ao,aq,ar,au,Q,cS,bg,bj,hN,bl⟩
        clear B ah r W sg;go_wp2
        go_region_held (λc=>aA c (N l 0)=ae (aE x z y)/\aA c (N l 1)=ae (M e.aP)/\aA c (N l 2)=ae (M e.type)/\aA c (N l 3)=ae (aS e.data)/\aA c (N l 4)=ae (aE L P wc)/\aA c (N g 1)=ae (bL a ay (E rs) H)/\aA c (N a<|ay+k*5)=ae (aE aI aC aJ)/\aA c (N a<|ay+k*5+1)=ae (M q.aP)/\aA c (N a<|ay+k*5+2)=ae (M q.type)/\aA c (N a<|ay+k*5+3)=ae (aS q.data)/\aA c (N a<|ay+k*5+4)=ae (aE aa ab Z)) (first|assumption|go_keep)
         (first|(go_at_call 96;go_loud (refine a5.m λcz S=>?_;have R:=Rk S C)))
        have X:=(cU (J wr.1) wr).drew.trans S;have bs:=O<|bC t<|bN X t.4;have hE:=O<|bC MR<|bN X MR.4;clear S R C X;cases HT:rS d e q
        ·exact L4
        ·replace HT:=O HT;go_wp2
         go_roundg (E rs-(k+1))
         case measure=>omega
         ·exact⟨k+1,ER,G,λj hj bw um=>by
          by_cases a9:j=k
          ·subst a9;rw[<-V F7];exact HT
          ·exact a8 j hj G um,V bs⟩
      ·have a3:¬(k:Int)<E rs:=G;have aeB:=O<|V bV ⟨cy,bc,λj hj um=>V a8 j hj G um⟩;exact L0
   ·have cp:¬(i:Int)<E rs:=G;have b8:=O<|V b9 cy cy λj hj=>V bT j G hj;go_wp2;go_ret;exact bd (W8<|V b8) aw
 ·have ba:(rs[0].type != 6)=aD:=by rw[yC];exact aH
  have bb:=O aH;have⟨cw,aU⟩:=bm<|rs[0].type;rw[<-aU]at aF ba;go_wp2;go_ret;refine⟨DW ?_,cU _ _⟩;rintro⟨⟨_,h,_⟩,_⟩;have:=V bb;rw[h]at this
  revert this;decide
def EG:aL.underlying 94=ae (.slice 98):=b6
def Jd:(aL.info? 98).map (λa=>(a.8,a.3,a.4))=ae (ae<|.agg #[bX,M 0,M 0,am ⟨#[]⟩,bX],5,80):=b6
def y9(c:aQ)(a ay b:Nat):bk:=(aA c<|N a<|ay+b*5+4).getD<|bX
def uy(e:aQ)(c ay:Nat)(d:bk)(b:List aK)(a:Nat):List bk:=[d,M (b[a]?.getD aK.zero).aP,M (b[a]?.getD aK.zero).type,aS (b[a]?.getD aK.zero).data,y9 e c ay a]
def zE(b:List aK)(d:List ap)(c:Int)(a:Nat):Bool:=dC (I 46 (b[a]?.getD aK.zero).owner=d)&&(b[a]?.getD aK.zero).type==c
def lS(d:List aK)(c:List ap)(b:Int)(a:Nat):List Nat:=(List.range a).filter<|zE d c b
def lp(b:List aK)(d:List ap)(c:Int):Nat->List Nat
 |0=>[]
 |a+1=>lp b d c a++if c≠255/\c≠(a:Int)then []else if a=0 then []else lS b d a (E b)
def QU(d c b a):lS d c b (a+1)=lS d c b a++if zE d c b a then [a]else []:=by unfold lS;rw[yS,qV];grind
def QV(d c b a):E (lS d c b a)<=a:=by grind[lS]
def QW(b c d):∀a,E (lp b c d a)<=a*E b
 |0=>by simp[lp]
 |a+1=>by rw[lp,dj,Nat.succ_mul];have:=QW b c d a;have e:=QV b c a<|E b;grind
def X9(l:a=J b.1){i}(d:TypeId):∀(g:Nat) (h:bk),[k,e,r,C,i][g]? = ae h->aA (aN b<|aZ #[k,e,r,C,i] d) (((N a 0):gU).add g)=ae h:=λg h n=>by
 subst l;exact World.news_of_block (cW b<|aZ #[k,e,r,C,i] d) g h n
def Nr(h:P:=by have bj:Hid (lS rs ns kn (i+1)=lS rs ns kn i):=by{have h3:=V MX;simp_all};clear hs;go_wp2;exact⟨⟨i+1,G,dd,⟨_,_,_,U⟩,by rw[V bj];assumption,bM⟩,dz⟩):P:=h
def X_{rs z h ns ay bq}(aC:b.1[a]? = ae (aZ #[bq,aE (ae ⟨c,ay,af⟩) (E rs) n] 96))(bT:E rs<=n)(br:tm b c ay rs)(aj:tH d rs)(a9:fG b e ns)(a5:E ns<=1000):a_ aL 207 #[bv a,e,M j,aE z h g] b λa0 aw=>(∃v,a0=bh v/\aw.ownsRow (J b.1) 98 5 v (E<|lp rs ns j 17) (ex (uy b c ay (aE z h g) rs)<|lp rs ns j 17))/\a6 b aw:=by
 have⟨be,bp,ba,bb,bc⟩:=im Jd;have ao:=(dK.1 aC).1;have aI:=O a9;have aR:=O br;have X:=O aC;have bf:=aj.2.1;have aV:=O aj;go_wp2;go_loopw [9,10] (λy k wr=>∃kn:Nat,1<=kn/\kn<=17/\k=M kn/\(∃bn x t,y=aE bn x t)/\wr.ownsRow (J b.1) 98 5 y (E<|lp rs ns j kn) (ex (uy b c ay (aE z h g) rs)<|lp rs ns j kn)/\a6 b wr) λ_ k _=>17-(intOf k).toNat;·(
 refine⟨1,G,G,U,⟨_,_,_,U⟩,?_,cU _ _⟩;have:lp rs ns j 1=[]:=by simp[lp]
 rw[this];exact bd U<|.inl (bd U U))
 ·(
 obtain⟨kn,bH,bu,rfl,⟨bz,bD,bB,rfl⟩,B,l⟩:=hrel;have H:=O B;have o:=O l;by_cases bK:kn<17;{
 have bg:(kn:Int)<17:=G;have:=QW rs ns j kn;have:kn*E rs<=17*3001:=Nat.mul_le_mul G bf;by_cases an:j≠255/\j≠(kn:Int);{
 have ah:(j != 255)=aD:=by grind
 have a2:(j != (kn:Int))=aD:=by grind
 have u:lp rs ns j (kn+1)=lp rs ns j kn:=by rw[lp,b8 an,kW]
 go_wp2;refine⟨⟨kn+1,G,G,dd,⟨_,_,_,U⟩,by rw[u];assumption,o⟩,dz⟩};{
 have u:lp rs ns j (kn+1)=lp rs ns j kn++lS rs ns kn (E rs):=by rw[lp,bV an,bV G]
 replace u:=O u;have bm:(j != 255)=ak\/((j != 255)=aD/\(j != (kn:Int))=ak):=by{grind};generalize lp rs ns j kn=p at*;rcases bm with ah|⟨ah,a2⟩;all_goals(
 go_wp2;go_loopw [9,11] (λy R aB=>∃i:Nat,i<=E rs/\R=M i/\(∃bn x t,y=aE bn x t)/\aB.ownsRow (J b.1) 98 5 y (E<|p++lS rs ns kn i) (ex (uy b c ay (aE z h g) rs)<|p++lS rs ns kn i)/\a6 b aB) λ_ R _=>E rs-(intOf R).toNat;·(refine⟨0,G,U,⟨_,_,_,U⟩,?_,o⟩;have:lS rs ns kn 0=[]:=U;rw[this,kW];assumption)
 ·(
 obtain⟨i,aO,rfl,⟨bE,bO,bF,rfl⟩,B,l⟩:=hrel;have H:=O B;have o:=O l;have bs:aA wr (N a 1)=ae (bL c ay (E rs) n):=by{have:=(l.5 a ao).trans X;unfold aA;simp_all};by_cases ar:i<E rs;{
 have aM:(i:Int)<E rs:=G;have⟨bP,lr,Z,bG,aa,ab,cB,fe,fJ⟩:=(V aR) i ar;have al:=aV.2.2 rs[i]<|ei ar;have Y:=O<|rQ (fe.below l) (aI.below l) (nD al) a5;have bt:Hid (uy b c ay (aE z h g) rs i=[aE z h g,M rs[i].aP,M rs[i].type,am<|D rs[i].data,lr]):=by{unfold Hid uy y9;simp_all};have MX:Hid (zE rs ns kn i=(dC (I 46 rs[i].owner=ns)&&rs[i].type==(kn:Int))):=by{unfold Hid zE;simp_all};have:=O<|QU rs ns kn i;obtain⟨W,K,T,rfl,_,_⟩:=fJ;obtain⟨aJ,aT,aU,rfl,_,_⟩:=fe;generalize aP:E (I 32 rs[i].data)=P at*;have S:∀(r:aQ),a6 b r->aA r (N c<|ay+i*5)=ae (bL aJ aT (E<|I 46 rs[i].owner) aU)/\aA r (N c<|ay+i*5+1)=ae (M rs[i].aP)/\aA r (N c<|ay+i*5+2)=ae (M rs[i].type)/\aA r (N c<|ay+i*5+3)=ae (am<|D rs[i].data)/\aA r (N c<|ay+i*5+4)=ae (bL W K P T)/\aA r (N a 1)=ae (bL c ay (E rs) n):=λr ai=>by{have k:∀(bn:gU) (v:bk),aA b bn=ae v->aA r bn=ae v:=λbn v ad=>(ai.cell<|g_ b bn ad).trans ad;refine⟨k _ _ Z,k _ _ bG,k _ _ aa,k _ _ ab,k _ _ cB,?_⟩;have:=(ai.5 a ao).trans X;unfold aA;simp_all};have bl:=O S;have cS:=(S wr l).1;clear Z bG aa ab cB S B l al aP;generalize rs[i]=au at*;go_wp2_with fail;refine Y.m ?_;intro F Q;have bM:=O<|bC o<|bN Q o.4;have aq:=O<|g6 (V H) Q;have:=V bl F<|V bM;clear Q Y cS bs;cases hs:dC<|I 46 au.owner=ns;{exact Nr};{
 cases bI:(au.type==(kn:Int));{exact Nr};{
 have bj:Hid (lS rs ns kn (i+1)=lS rs ns kn i++[i]):=by{have h3:=V MX;simp_all};clear hs;have bw:E (p++lS rs ns kn i)<=60000:=by{have:=QV rs ns kn i;rw[dj];omega};have:=bM.4;go_wp2_with (at_builtin;go_loud (refine sQ _ U (.tmp 66) (.tmp 68) 94 U (J b.1) 98 be (.agg #[bX,M 0,M 0,am ⟨#[]⟩,bX]) 5 80 EG bp ba bb bc U bW _ (E<|p++lS rs ns kn i) _ U (g6 (V aq)<|(cf cc bo _).alloc ax _) (N (J F.1+1) 0) 1 1 [aE z h g,M au.aP,M au.type,aS au.data,bL W K P T] U U (X9 ax _) (by intro bU aF;simp at aF;rcases aF with rfl|rfl|rfl|rfl|rfl<;>rfl) Ay G ct ?_));intro av az aH q a7 a3;have L:az.ownsRow b.heap.size 98 5 av (p++lS rs ns kn (i+1)).length ((p++lS rs ns kn (i+1)).flatMap<|uy b c ay (.slice z h g) rs):=by{rw[V bj,<-iz,dj,o3];have:[i].flatMap (uy b c ay (aE z h g) rs)=[aE z h g,M au.aP,M au.type,aS au.data,bL W K P T]:=by{assumption};simp_all};have ap:a6 b az:=⟨cQ q.1 bM.1,cQ q.2 bM.2,cQ q.3 bM.3,cJ ct q.4,λC a8=>by{
 refine(q.5 C ct λA=>?_).trans ?_;{
 obtain⟨_,⟨w,_⟩|⟨ac,aW,aX,w,bJ,_⟩⟩:=V aq;{rw[w]at A;cases A};{
 rw[w]at A;have:C=ac:=by simpa [bA]using A
 omega}};{exact(((cU (J F.1) F).alloc bo _).alloc ax _).5 C G |>.trans (bM.5 C a8)}}⟩
 have aY:=O ap;have a1:=O L;obtain⟨bR,bS,bQ,rfl⟩:∃bn x t,av=aE bn x t:=by{obtain⟨_,⟨w,_⟩|⟨ac,aW,aX,w,_⟩⟩:=L;{simp_all};simp_all};clear aH q a7 a3 L ap;go_wp2;exact bd (⟨i+1,G,dd,⟨_,_,_,U⟩,a1,aY⟩) dz}}};{have aM:¬(i:Int)<E rs:=G;have aK:i=E rs:=G;subst aK;go_wp2;refine⟨⟨kn+1,G,G,dd,⟨_,_,_,U⟩,by rw[V u];assumption,o⟩,dz⟩}))}};{have bg:¬(kn:Int)<17:=G;have a4:kn=17:=G;subst a4;go_wp2;go_ret;exact bd (⟨_,U,H⟩) o})
def EH(b:List aK)(c:ap)(a:Nat):aK:=(c,(b[a]?.getD aK.zero).aP,(b[a]?.getD aK.zero).type,(b[a]?.getD aK.zero).data)
def Yb(b:c∈lS i s j a):c<a:=by unfold lS at b;grind
def QX(d e g):∀c,∀b∈lp d e g c,b<E d
 |0,b,a=>by simp[lp]at a
 |c+1,b,a=>by rw[lp,i_]at a;rcases a with a|a;{exact QX d e g c b a};{split at a;{cases a};{split at a;{cases a};{exact Yb a}}}
def zH(d:ap)(e:List aK)(a:List ap)(h ay g:Nat)(v:bk):Prop:=
 (v=bX/\∀c,c+E (I 46 d)<E a->i7 e (bi c a) 2=ak) \/
 ∃b,b+E (I 46 d)<E a/\i7 e (bi b a) 2=aD/\(∀c,b<c->c+E (I 46 d)<E a->i7 e (bi c a) 2=ak)/\v=bL h (ay+b) (E a-b) (g-b)
def XR{bH}(g)(y:lu b a d i)(Q:tH d i)(T:gR b c bH s)(Z:E s<=g)(ap:E s<=1000)(ao:E (I 46 d)<=E s):a_ aL 206 #[bv a,bL c bH (E s) g] b λH aa=>(∃v,H=bh v/\zH d i s c bH g v)/\a6 b aa:=by
 have B:=O T;have F:=O y;let⟨ar,ai,ay,aj,ab,ac,av,aw⟩:=y;have:=O ab;have D:=O Q;obtain⟨C,W,V,rfl,aq,ad⟩:=ac;have:=uK d;have ah:aA b (N a 0)=ae (bL C W (E<|I 46 d) V):=by{unfold aA;grind};have:Hid (∀v,zH d i s c bH g v↔zH d i s c bH g v):=λ_=>Iff.rfl;have Y:Hid (∀v,v=aE af 0 0->(∀e,e+E (I 46 d)<E s->i7 i (bi e s) 2=ak)->zH d i s c bH g v):=λv j h=>.inl<|bd j h;have z:Hid (∀k,k+E (I 46 d)<E s->i7 i (bi k s) 2=aD->(∀e,k<e->e+E (I 46 d)<E s->i7 i (bi e s) 2=ak)->zH d i s c bH g (bL c (bH+k) (E s-k)<|g-k)):=λk j h L=>.inr ⟨k,j,h,L,U⟩;generalize al:E (I 46 d)=o at*;go_wp2;go_loopw [5] (λk wr=>∃n:Nat,n+o<=E s/\k=M ((n:Int)-1)/\(∀e,n<=e->e+o<E s->i7 i (bi e s) 2=ak)/\a6 b wr) λk _=>(intOf k+1).toNat;·exact⟨E s-o,G,by grind,λe j h=>G,cU _ _⟩
 ·(
 obtain⟨n,an,rfl,x,q⟩:=hrel;let t:=O x;let p:=O q;cases n with
 |zero=>{let:¬(0:Int)<=(((0:Nat):Int)-1):=G;let l:=O<|Y _ U λe R=>x e (dJ _) R;go_wp2;go_ret;exact bd (⟨_,U,l⟩) p}
 |succ k=>{let K:(((k+1:Nat):Int)-1)=(k:Int):=G;rw[K];let:0<=(k:Int):=G;let X:k<=E s:=G;let:¬g=k:=G;let A:=O (Ee 2 (F.below q) D (En (B.below q) Z k X)<|by grind);go_wp21;refine A.m λau P=>?_;let u:=O<|bC p<|bN P p.4;cases S:i7 i (bi k s) 2;{let l:Hid (∀e,k<=e->e+o<E s->i7 i (bi e s) 2=ak):=λe j h=>by{rcases Nat.lt_or_ge k e with w|w;{exact t e w h};{let:e=k:=G;simp_all}};go_wp2;exact⟨⟨k,G,dd,l,u⟩,by simp[intOf]⟩};{let l:=O<|z k G S λe j h=>t e j h;go_wp2;go_ret;exact bd (⟨_,U,l⟩) u}})
def p8(c:List aK)(a:List ap):Bool:=c.any λb=>lR (I 46 b.owner) a
def Jl(R:lu b a d i)(o:tH d i)(Q:fG b e s)(L:E s<=1000)(F:0<E s):a_ aL 113 #[bv a,e] b (cI (aG<|p8 i s) b):=by
 have z:=O Q;let⟨ah,B,ay,D,u,aj,al,Y⟩:=R;have S:=(dK.1 u).1;have A:=O Y;have w:=O u;have:=o.2.1;have C:=O o;go_wp2;go_loopw [5] (λk wr=>∃t:Nat,t<=E i/\k=M t/\(i.take t).any (λl=>lR (I 46 l.owner) s)=ak/\a6 b wr) λk _=>E i-(intOf k).toNat;·exact⟨0,dJ _,U,U,cU _ _⟩
 ·(obtain⟨t,ac,rfl,p,g⟩:=hrel;have X:=O p;have j:=O g;have an:aA wr (N a 1)=ae (bL B ay (E i) D):=by{have:=(g.5 a S).trans w;unfold aA;grind};by_cases h:t<E i;{have T:(t:Int)<E i:=G;let⟨ad,rw',Z,bG,aa,ab,cB,fe,fJ⟩:=(A t h).below g;have P:=C.2.2 i[t]<|ei h;have W:=O<|Rg h p;have x:Hid (lR (I 46 i[t].owner) s=aD->p8 i s=aD):=λH=>ni.2 ⟨i[t],ei h,H⟩;have y:=O<|Eo fe (z.below g) (nD P) L F;generalize i[t]=l at*;go_wp21;refine y.m λai K=>?_;let n:=O<|bC j<|bN K j.4;cases q:lR (I 46 l.owner) s;{let c:=O<|W q;go_wp2;exact bd (⟨t+1,G,dd,c,n⟩) dz};{let c:=O<|x q;go_wp2;go_ret;exact bd (e_ c.symm) n}};{let T:¬(t:Int)<E i:=G;let V:t=E i:=G;let c:Hid (p8 i s=ak):=by{have:=X;rw[V,jc]at this;exact this};go_wp2;go_ret;exact bd (e_ c.symm) j})
def yk:aL.underlying 92=ae (.slice 9):=b6
def XS:(aL.info? 9).map (λa=>(a.8,a.3,a.4))=ae (ae<|am ⟨#[]⟩,1,16):=b6
def pq(c:List aK)(b:List ap)(a:Nat):Nat->Option (List ap)
 |0=>af
 |f+1=>if p8 c (bi a b)then(if i7 c ([42]::bi a b) 255 then ae ([42]::bi a b)else af)else pq c b (a+1) f
def oo(b:List aK)(a:List ap):Option (List ap):=if p8 b a then ae a else pq b a 1 (E a-1)
def XT(b:aQ)(v:bk):Option (List ap)->Prop
 |none=>v=bX
 |some a=>fG b v a
def XU(v)(c:TypeId)(d:a<=J b.1):(aN b<|aZ #[v] c).ownsRow a c 1 (bL (J b.1) 0 1 1) 1 [v]:=
 ⟨U,.inr ⟨J b.1,1,#[v],U,d,cW b _,cO _,by unfold maxLen;omega,U,U⟩⟩
def XV{bH}(k)(h:gR b c bH s)(g):∀(a:Nat) (d:bk),((bi g s).map λq=>am<|D q)[a]? = ae d->aA (aN b k) (((N c<|bH+g):gU).add a)=ae d:=λa d j=>by
 have n:((N c<|bH+g):gU).add a=(N c<|bH+(g+a)):=by unfold Addr.add;grind
 rw[n];rw[sG,Ig]at j;cases i:s[g+a]? with
 |none=>grind
 |some r=>
  rw[i]at j;obtain⟨o,p⟩:=iW.1 i;have:=h.2 (g+a) o;rw[p]at this;have l:am (D r)=d:=by grind
  rw[<-l];exact(dR<|dv b k c h.1).trans this
def XW{bH}(g)(P:lu b a d i)(K:tH d i)(L:gR b c bH s)(y:E s<=g)(aW:E s<=999)(al:0<E s):a_ aL 208 #[bv a,bL c bH (E s) g] b λaj W=>(∃v,aj=bh v/\XT W v (oo i s))/\a6 b W:=by
 have⟨az,aK,av,aw,ay⟩:=im XS;have p:=O L;have H:=O P;have D:=O K;have t:=O<|Jl P K ⟨c,bH,g,U,y,L⟩ G al;go_in;go_wp21;refine t.m λa3 ao=>?_;have r:=O ao;have ac:Hid (oo i s=if p8 i s then ae s else pq i s 1 (E s-1)):=U;cases Z:p8 i s;{
 have u:Hid (oo i s=pq i s 1 (E s-1)):=by{grind};go_wp2;go_loopw [6] (λw wr=>∃k:Nat,1<=k/\k<=E s/\w=M k/\oo i s=pq i s k (E s-k)/\a6 b wr) λw _=>E s-(intOf w).toNat;·exact⟨1,G,G,U,u,r⟩
 ·(obtain⟨k,aO,a1,rfl,o,n⟩:=hrel;have ac:=O o;have q:=O n;by_cases aV:k<E s;{have aB:(k:Int)<E s:=G;have:¬g=k:=G;have aJ:E (bi k s)=E s-k:=il;have t:=O<|Jl (H.below n) (V D) (En (p.below n) y k G) G G;have aP:Hid (oo i s=if p8 i (bi k s)then(if i7 i ([42]::bi k s) 255 then ae ([42]::bi k s)else af)else pq i s (k+1) (E s-(k+1))):=by{have:E s-k=(E s-(k+1))+1:=G;rw[this,pq]at o;grind};go_wp21;refine t.m λX ap=>?_;have e:=O<|bC q<|bN ap q.4;cases Z:p8 i<|bi k s;{have C:Hid (oo i s=pq i s (k+1) (E s-(k+1))):=wg;go_wp2;exact bd (⟨k+1,G,G,dd,C,e⟩) dz};{have C:Hid (oo i s=if i7 i ([42]::bi k s) 255 then ae ([42]::bi k s)else af):=wg;have ai:=e.4;have ab:=O<|p.below e;go_wp2_with (at_builtin;go_loud (refine sQ _ U (.tmp 26) (.tmp 29) 92 U (J b.1) 9 az (am ⟨#[]⟩) 1 16 yk aK av aw ay U bW _ 1 [aS [42]] U (XU _ _ ai) (N c<|bH+k) (E s-k) (g-k) ((bi k s).map λaH=>aS aH) U ax (XV _ (V ab) k) (by intro a2 aM;obtain⟨a7,ba,rfl⟩:=kE.1 aM;rfl) Ay G ct ?_));intro z A aY l aX aT;have x:Hid (fG A z ([42]::bi k s)):=by{have au:lX A (J b.1) z ([42]::bi k s):=by{refine bd ?_<|⟨λh=>?_,λh=>yo⟩;{rw[dW,aJ,lU,Nat.add_comm,Bc];omega};simp_all};have⟨T,B,R,aC,a0,aF⟩:=sF au ax;exact⟨T,0,B,R,aC,aF⟩};have S:a6 b A:=⟨cQ l.1 e.1,cQ l.2 e.2,cQ l.3 e.3,cJ ct l.4,λT ar=>(l.5 T ct (λaq=>by simp[bA]at aq;omega)).trans<|(((cU (J X.1) X).alloc bo _).5 T G).trans<|e.5 T ar⟩;have F:=O S;have aa:=O<|Ee 255 (H.below S) (V D) (V x) ct;obtain⟨a8,a9,a5,rfl⟩:∃ad aI ah,z=aE ad aI ah:=by{have⟨T,aR,B,R,_⟩:=V x;simp_all};go_wp21;refine aa.m λa4 I=>?_;have Q:=O<|bC F<|bN I F.4;have:=O<|x.below I;cases aU:i7 i ([42]::bi k s) 255;{have j:Hid (oo i s=af):=wg;go_wp2;go_ret;exact⟨⟨_,U,by rw[V j];rfl⟩,Q⟩};{have j:Hid (oo i s=ae ([42]::bi k s)):=wg;go_wp2;go_ret;exact⟨⟨_,U,by rw[V j];assumption⟩,Q⟩}}};{have aB:¬(k:Int)<E s:=G;have j:Hid (oo i s=af):=by{have an:E s-k=0:=G;rw[an,pq]at o;grind};clear o n;go_wp2;go_ret;exact⟨⟨_,U,by rw[V j];rfl⟩,q⟩})};{have u:Hid (oo i s=ae s):=by{grind};go_wp2;go_ret;exact bd (⟨_,U,(V u)▸⟨c,bH,g,U,y,p.below r⟩⟩) r}
def zI(a:aK)(b:ap):aK:=(a.owner,min a.aP<|jF 86400 b,a.type,a.data)
def X2(C:ap){ay}(an:b.1[n]? = ae (aZ #[e,aE (ae ⟨g,ay,af⟩) (E i) a] 96))(ao:E i<=a)(aa:tm b g ay i)(Q:0<E i)(z:E w<=1000000)(Y:ft 86400 w=aD)(H:I 32 i[0].data=[d,h,o,w]):a_ aL 209 #[bv n] b λp x=>(∃j k lr,p=bh (bL j 0 1 1)/\J b.1<=j/\x.1[j]? = ae (aZ #[k,ag .i64 (zI i[0] w).aP,ag .i64 (zI i[0] w).type,am<|D (zI i[0] w).data,lr] 98)/\aA b (N g ay)=ae k/\aA b (N g<|ay+4)=ae lr)/\a6 b x:=by
 let aq:aA b (N n 1)=ae (bL g ay (E i) a):=by unfold aA;grind
 let⟨k,lr,B,bG,L,M,cB,fe,fJ⟩:=aa 0 Q;rw[H]at fJ;rw[o7,h8]at B bG L M cB;obtain⟨q,P,ah,rfl,ab,r⟩:=fJ;let Z:bY b q (P+3) (aS w):=r.2 3 ax;let X:=r.1;let:=λC=>(dR<|dv b C q X).trans Z;let A:=O λF=>xv w 86400 F z bW;obtain⟨ac,ad,aj,rfl,_,_⟩:=fe;let W:=O B;let y:=O cB;go_in;go_wp21;refine(A _).mono ?_;rintro p al ⟨⟨ai,rfl,l⟩,rfl⟩;replace l:=O l;rw[Y];go_wp2;go_ret;let R:∀t u,a6 b (aN (aN b t) u):=λt u=>(cf cc bo _).alloc ax _;have V:=l Y;subst V;let K:min ((i[0].aP:Nat):Int) ((jF 86400 w:Nat):Int)=((min i[0].aP (jF 86400 w):Nat):Int):=G;have T:∀(F:aQ) (C:Obj) (c:Nat),J F.1=c->(aN F C).1[c]? = ae C:=λF C c S=>by subst S;exact cW F C
 refine⟨⟨J b.1+1,_,_,U,G,?_,W,y⟩,R _ _⟩;rw[K];exact T _ _ _ ax
def fa:laidOutB aL=aD:=b6
def fy:mapsRowed aL=aD:=b6
def agv:(aL.stops==[])=aD:=b6
def aeX:(aL.stopKnobs==[])=aD:=b6
def aeY:aL.stopsHeard=aD:=b6
def agC:aL.mayEnter=aD:=b6
def bG:Rows.allUptoRow.wf (OpenSpec.ofChange (Rows.OpenSpec.upto Rows.allSpec).bare)=aD:=b6
def cB:Tryz.f3.4.all (aL.readableRec ·)=aD:=b6
def fe:namedTie aL Rows.allUptoRow.37 (Rows.OpenSpec.upto Rows.allSpec).bare.2=aD:=b6
def fJ:(Rows.allUptoRow.31==[])=aD:=dl
def mO:(Rows.allUptoRow.32==[])=aD:=dl
def tB:(Rows.allUptoRow.34==aL.inPlace 3)=aD:=b6
def yE:(Rows.allUptoRow.35==aL.unfollowed 3)=aD:=b6
def yF:(Rows.allUptoRow.36==aL.recurses 3)=aD:=b6
def Ka:(Rows.allUptoRow.37==aL.varsNamed 3)=aD:=b6
def ae2:(Rows.allUptoRow.38==(Tryz.f3.4.1++(Rows.OpenSpec.upto Rows.allSpec).bare.plain.varTypes aL).any (aL.mapsRec ·))=aD:=b6
def Kn:(Rows.allUptoRow.39==(Tryz.f3.4.1++(Rows.OpenSpec.upto Rows.allSpec).bare.plain.varTypes aL).any (aL.ifacesRec ·))=aD:=b6
def ae3:(Rows.allUptoRow.41==aL.mapsAmong Tryz.f3.5.1)=aD:=b6
def ae4:(Rows.allUptoRow.44==(Tryz.f3.4.1++(Rows.OpenSpec.upto Rows.allSpec).bare.plain.varTypes aL).any (aL.loopsFrom ·))=aD:=b6
def SQ:(Rows.allUptoRow.45==(Tryz.f3.4.1++(Rows.OpenSpec.upto Rows.allSpec).bare.plain.varTypes aL++Tryz.f3.5.1).any (aL.wideKeysFrom ·))=aD:=b6
def zC:(Rows.OpenSpec.upto Rows.allSpec).bare.2.all (aL.varReadable ·)=aD:=dl
def ae5:Tryz.f3.5.all (λa=>aL.readableRec a&&dC (a<aL.types.size))=aD:=b6
def agu:(Rows.allUptoRow.42==Tryz.f3.5.1.any (aL.ifacesRec ·))=aD:=b6
def DU:(Rows.allUptoRow.46==Tryz.f3.5.1.any (aL.loopsFrom ·))=aD:=b6
def ae6:(Rows.allUptoRow.51==aL.plainKeys)=aD:=b6
def ae7:Rows.allUptoRow.33.isNone=aD:=dl
def ae8:(Rows.allUptoRow.47==aL.liftsFinal)=aD:=b6
def ae9:(aL.make==ae Rows.allUptoRow.49)=aD:=b6
def LE:(Rows.allUptoRow.48==Rows.allUptoRow.pinnedBy)=aD:=dl
def GR:(Rows.allUptoRow.40==(Tryz.f3.4.1++(Rows.OpenSpec.upto Rows.allSpec).bare.plain.varTypes aL++Tryz.f3.5.1).any (aL.veiledRec ·))=aD:=b6
def ae_:Rows.allUptoRow.veiledFits aL Tryz.f3.4.1 (Tryz.f3.4.1++(Rows.OpenSpec.upto Rows.allSpec).bare.plain.varTypes aL++Tryz.f3.5.1)=aD:=b6
theorem afA:aL.mainIs = ae (aD, "cf7a838e52315a93ba8f40ffba8caac0487c2a026da9bbc928284e24d52ca460".toList):=by kernel_rfl
def afC:aD=aL.looks []:=b6
end Go.Proofs.YtkkpahmoljiepabGreatDoor
