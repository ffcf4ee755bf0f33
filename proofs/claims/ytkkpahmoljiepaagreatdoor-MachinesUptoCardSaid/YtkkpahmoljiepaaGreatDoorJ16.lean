import Derived.Test.YtkkpahmoljiepaaGreatDoorJ13
import Derived.Test.YtkkpahmoljiepaaGreatDoorJ15
set_option maxRecDepth 1000000
set_option maxHeartbeats 12800000
set_option linter.all false
open Array renaming size->U
open Bool renaming false->ao,true->aE
open Decidable renaming decide->dQ
open Eq renaming symm->bZ,trans->c_
open Go renaming Addr->kC,Calls->bd,Obj->nQ,Value->bm,World->aQ,maxLen->hC,results->dr
open Go.Calls renaming mono->gU
open Go.Ending renaming returned->bg
open Go.IntKind renaming i64->am,u8->ck
open Go.Obj renaming cells->aS
open Go.Proofs.Tryz renaming prog->aK
open Go.RowKit renaming Below->cB,Hid->ax
open Go.RowKit.Below renaming alloc->ct,mono->bV,setCell->fk,trans->bN
open Go.Value renaming agg->ci,bool->aG,iface->cV,int->ak,ownBlock->bW,slice->aL,string->amz,tuple->bX
open Go.World renaming alloc->aO,alloc_heap_new->du,cell?->aD,drew->bq,drewN->ef,setCell->a_
open Int renaming toNat->c7
open List renaming drop->bh,dropWhile->mt,filter->ed,flatMap->fA,length->E,map->b9,take->amA,takeWhile->iU
open Option renaming none->ai,some->ag
open Or renaming inl->bG,inr->bE
open UInt8 renaming toNat->be
namespace Go.Proofs.YtkkpahmoljiepaaGreatDoor
open Go.RowKit Go.Proofs.Tryz
variable{a d P:Nat}{b f m:World}{c g L:ap}{e k s F:Value}{i p:Int}{j q y:List D}{t H:Bool}{r:List ap}{B:Nat → Prop}{Q:List UInt8}
def sE(a m:Int)(b:Bool):Int:=if b=aE then bits .or am a m else a
def If{P:Prop}(h:P:=by rw[this]at hc;simp at hc):P:=h
def PQ{P:Prop}(h:P:=by unfold im at this;exact⟨λc hc=>If,λc hc=>If⟩):P:=h
def aeP{y r P Z x bA aa W X Y:Nat}{R S T:Option kC}{C D F ah I al:Int}{K A bo:Int}{z:ap}{o:ap×hi}(bH:d3 b)(cr:x<=3001)(cs:bA<=3001)(cu:aa<=3001){u:Nat}(aw:u=cond t (aa+1) aa)(ca:a<65536)(cJ:d<65536)(bS:sE (sT i al) 1024 H=(d:Int))(dd:E L<=900)(d7:E g<=300)(cb:Bool)(ac:cb=(dQ ((x:Int)<(r:Int))||dQ ((bA:Int)<(P:Int))))(bp:sE (d:Int) 512 cb=(y:Int))(bl:y<65536)(cZ:∀j l base ay,a7 b j->U b.1<=base->base<=U j.1->U b.1<=l->fX j l base (List.replicate 12 0++g) (jZ 12 L)->j.1[ay]? = ag (aS #[aL R r W,aL S P X,aL T Z Y] 41)->ay≠l->bd aK 137 #[N l,J<|bo-(E z:Int),bC ay 0 3 3] j λw B =>
   w=bg (bC (U j.1+3) 0 3 3)/\im B (U j.1+3) [(x:Int),bA,aa] 3/\fX B l base o.1 o.2/\dP l base j B)(cK:∀j,d3 j->bd aK 136 #[ir a i p C D F g L ah I t K A,J al] j (cQ (aZ z) j))(c0:∀j,bd aK 138 #[ir a i p C D F g L ah I t K A] j<|cQ (J bo) j)(eD:E z<=100)(en:bo<=2000)(eq:0<=bo)(cF:12<=E o.1)(cy:E o.1+E z<=5000):bd aK 73 #[ir a i p C D F g L ah I t K A,ci #[J al,aG H,aL R r W,aL S P X,aL T Z Y]] b λw B=>w=bg (aZ<|ew (jM a y 1 x bA u)++bh 12 (o.1++z))/\a7 b B:=by
 have dG:=ae cZ;have dL:=ae cK;have dM:=ae c0;have er:=de z;have eG:=jW<|bo-(E z:Int)
 clear cZ cK c0;have⟨iw,xR⟩:=bi<|aO (aO b<|aS #[ak am a,ak am i,ak am p,ak am C,ak am D,ak am F,amz<|O g,amz<|O L,ak am ah,ak am I,aG t,ak am K,ak am A] 137)<|aS #[ak am al,aG H,aL R r W,aL S P X,aL T Z Y] 43;have bB:a7 b iw:=by rw[xR];exact JZ
 have bt:iB iw (U b.1) a i p C D F g L ah I t K A:=by
  rw[xR];exact(dT _ _ _ aA).trans<|du b _
 have bL:gB iw (U b.1+1) (J al) (aG H) (aL R r W) (aL S P X) (aL T Z Y):=by
  rw[xR];have:=du (aO b<|aS #[ak am a,ak am i,ak am p,ak am C,ak am D,ak am F,amz<|O g,amz<|O L,ak am ah,ak am I,aG t,ak am K,ak am A] 137) (aS #[ak am al,aG H,aL R r W,aL S P X,aL T Z Y] 43)
  rwa [gd]at this
 have c8:=ae<|cv bB<|cv bt bL;have cO:=ae bH;have es:U b.1+2<=U iw.1:=by rw[xR];simp<;>omega
 clear bH bB bt bL;unfold ir;go_in;go_wp2_with fail;rw[<- xR];have dH:=ae xR;clear xR;refine(Sx _ _ _ _ _ _ _ _).mono ?_;rintro w ar ⟨rfl,bT⟩;obtain⟨bB,bt,bL⟩:=V c8;have bH:=V cO;have b6:=bt.kept<|bT.5 _ bt.lt;have b1:gB ar (U b.1+1) _ _ _ _ _:=(bT.5 _ G).trans bL;have bf:a7 b ar:=bN bB<|bV bT bB.4;have eF:=bT.4;obtain⟨d9,d_,ea,eb,ec⟩:=gB.cells b1;obtain⟨em,cS⟩:=bi<|sT i al;rw[<- cS]at bS ⊢;have di:=ae<|cv b6<|cv b1 bf;clear bB bt bL bH b6 b1 bf cS bT c8 ea eb ec;have et:U b.1+1<U ar.1:=G;have c1:=ae ac;have ee:=ae bp;have eh:=ae aw;clear ac bp aw
 go_upto_if 15 with fail
 go_cut []from 16 λQ=>Q=(aO ar<|aS #[ak am a,ak am d,ak am 0,ak am 0,ak am 0,ak am 0] 133)
 ·cases H with
  | true =>
   simp only[sE,pi]at bS;go_wp2;go_meet;rfl
  | false =>
   simp only[sE,GE,if_false]at bS;subst bS;go_wp2;go_meet;rfl
 case rest =>
 subst hcut;go_wp2_with fail;have dl:ax ((A7 (U b.1) (U ar.1) a i p C D F g L ah I t K A al (aG H) (aL R r W) (aL S P X) (aL T Z Y) [(a:Int),d,0,0,0,0]<|aO ar<|aS #[ak am a,ak am d,ak am 0,ak am 0,ak am 0,ak am 0] 133)/\a7 b (aO ar<|aS #[ak am a,ak am d,ak am 0,ak am 0,ak am 0,ak am 0] 133)/\U ar.1<U (aO ar<|aS #[ak am a,ak am d,ak am 0,ak am 0,ak am 0,ak am 0] 133).1):=by
  obtain⟨b6,b1,bf⟩:=V di;have bH:=V cO;have aI:=ct bf G<|aS #[ak am a,ak am d,ak am 0,ak am 0,ak am 0,ak am 0] 133;exact⟨⟨b6.kept<|dT _ _ _ G,(dT _ _ _ G).trans b1,du ar _,bH.below aI⟩,aI,aA⟩
 clear di d9 d_ bS dH;generalize (aO ar<|aS #[ak am a,ak am d,ak am 0,ak am 0,ak am 0,ak am 0] 133)=cX at *;refine(Va).mono ?_;rintro w ei ⟨rfl,⟨eH,co,cC⟩,bl⟩;obtain⟨da,bf,d8⟩:=V dl;have cc:=bl.4;have bk:=da.keep (λe aN=>bl.5 e aN) bl.4 G G;obtain⟨base,db⟩:=bi<|U cX.1;obtain⟨l,dn⟩:=bi<|U cX.1+1;have aI:a7 b ei:=bN bf<|bV bl G;rw[<- dn]at co ⊢;rw[<- db]at cC d8 cc;have ek:base<l:=G;have ce:=ae<|aeL a i p C D F g ah I t K A co cC bk.4 cc G G dd cx;unfold ir at ce;obtain⟨aM,aP,aR,aT,aU,aV,aW,aX,aY,a0,az,ww,pA⟩:=bk.1.cells;have dk:=ae<|cv bk aI;clear bk aI co cC bl da bf dl db dn;go_wp2_with fail;refine gU ce ?_;rintro w cI ⟨rfl,⟨dX,dI,bR,dq,dp⟩,bU⟩;obtain⟨bk,aI⟩:=V dk;have aJ:=bk.keep (λe aN=>bU.5 e aN) bU.4 G G;have bQ:a7 b cI:=bN aI<|bV bU G;have dN:=cU cc bU.4;clear aM aP aR aT aU aV aW aX aY a0 az ww pA;obtain⟨aM,aP,aR,aT,aU,aV,aW,aX,aY,a0,az,ww,pA⟩:=aJ.1.cells;obtain⟨bO,bP,aC,aF,aH⟩:=gB.cells aJ.2;have cf:=ae<|dL cI aJ.4;unfold ir at cf;have c9:ax (fX cI l base (List.replicate 12 0++g)<|jZ 12 L):=⟨dX,dI,bR,dq,dp⟩
 have dm:=ae<|cv aJ bQ;clear bR dq dp aJ bQ bk aI dk ce bU;go_wp2_with fail;refine cf.m ?_;intro n bF;have⟨aJ,bQ⟩:=V dm;have bR:=V c9;have b2:=aJ.keep (base:=base) (λe aN=>bF.5 e G) bF.4 G G;have b_:a7 b n:=bN bQ<|bV bF G;have cz:=bR.below bF;have eu:=cU dN bF.4;clear aM aP aR aT aU aV aW aX aY a0 az ww pA bO bP aC aF aH;obtain⟨aM,aP,aR,aT,aU,aV,aW,aX,aY,a0,az,ww,pA⟩:=b2.1.cells;obtain⟨bO,bP,aC,aF,aH⟩:=gB.cells b2.2;have c2:ax (∀j,bd aK 138 #[ci #[J a,J i,J p,J C,J D,J F,aZ g,aZ L,J ah,J I,aG t,J K,J A]] j<|cQ (J bo) j):=V dM;have cE:ax (∀j ay,a7 n j->j.1[ay]? = ag (aS #[aL R r W,aL S P X,aL T Z Y] 41)->U n.1<=ay->bd aK 137 #[N l,J<|bo-(E z:Int),bC ay 0 3 3] j λw B =>
   ∃aj,w=bg (bC aj 0 3 3)/\(aD B (M (U b.1) 0)=ag (J a)/\aD B (M (U b.1) 1)=ag (J i)/\aD B (M (U b.1) 2)=ag (J p)/\aD B (M (U b.1) 3)=ag (J C)/\aD B (M (U b.1) 4)=ag (J D)/\aD B (M (U b.1) 5)=ag (J F)/\aD B (M (U b.1) 6)=ag (aZ g)/\aD B (M (U b.1) 7)=ag (aZ L)/\aD B (M (U b.1) 8)=ag (J ah)/\aD B (M (U b.1) 9)=ag (J I)/\aD B (M (U b.1) 10)=ag (aG t)/\aD B (M (U b.1) 11)=ag (J K)/\aD B (M (U b.1) 12)=ag (J A)/\aD B (M (U b.1+1) 2)=ag (aL R r W)/\aD B (M (U b.1+1) 3)=ag (aL S P X)/\aD B (M (U b.1+1) 4)=ag (aL T Z Y))/\ax (U n.1<=aj/\im B aj [(x:Int),bA,aa] 3/\A7 (U b.1) (U ar.1) a i p C D F g L ah I t K A al (aG H) (aL R r W) (aL S P X) (aL T Z Y) [(a:Int),d,0,0,0,0] B/\a7 b B/\base<=U B.1/\fX B l base o.1 o.2)):=by
  intro j ay bD ej eE;have ex:=cz.lt;have d4:=b2.keep (base:=base) (λe aN=>bD.5 e G) bD.4 G G;have ey:=bD.4;refine(dG j l base ay (bN b_<|bV bD G) G G G (cz.below bD) ej G).mono ?_;rintro w B ⟨rfl,aq,eg,a2⟩;have cH:=d4.keep (base:=base) (λe aN=>a2.5 e G G<|bG aN) a2.4 G G;have dC:a7 b j:=bN b_<|bV bD G;have el:=a2.4;obtain⟨aM,aP,aR,aT,aU,aV,aW,aX,aY,a0,az,ww,pA⟩:=cH.1.cells;obtain⟨_,_,aC,aF,aH⟩:=gB.cells cH.2;refine⟨U j.1+3,af,⟨aM,aP,aR,aT,aU,aV,aW,aX,aY,a0,az,ww,pA,aC,aF,aH⟩,G,aq,cH,bN dC<|show cB (U b.1) j B from⟨a2.1,a2.2,a2.3,a2.4,λe aN=>a2.5 e G G<|bG G⟩,G,eg⟩
 have dF:=ae<|cv b2 b_;have d5:aD (bq n) (M (U b.1) 0)=ag (J a)/\aD (bq n) (M (U b.1) 1)=ag (J i)/\aD (bq n) (M (U b.1) 2)=ag (J p)/\aD (bq n) (M (U b.1) 3)=ag (J C)/\aD (bq n) (M (U b.1) 4)=ag (J D)/\aD (bq n) (M (U b.1) 5)=ag (J F)/\aD (bq n) (M (U b.1) 6)=ag (aZ g)/\aD (bq n) (M (U b.1) 7)=ag (aZ L)/\aD (bq n) (M (U b.1) 8)=ag (J ah)/\aD (bq n) (M (U b.1) 9)=ag (J I)/\aD (bq n) (M (U b.1) 10)=ag (aG t)/\aD (bq n) (M (U b.1) 11)=ag (J K)/\aD (bq n) (M (U b.1) 12)=ag (J A)/\aD (bq n) (M (U b.1+1) 2)=ag (aL R r W)/\aD (bq n) (M (U b.1+1) 3)=ag (aL S P X)/\aD (bq n) (M (U b.1+1) 4)=ag (aL T Z Y):=⟨aM,aP,aR,aT,aU,aV,aW,aX,aY,a0,az,ww,pA,aC,aF,aH⟩
 clear bR aJ bQ dm c9 b2 b_ cz cf bF;have dZ:=ae<|cv ca<|cv cJ<|cv cF<|cv cy<|cv cr<|cv cs cu;clear ca cJ cF cy cr cs cu dd d7;go_wp2_with fail
 go_region_held (λB=>aD B (M (U b.1) 0)=ag (J a)/\aD B (M (U b.1) 1)=ag (J i)/\aD B (M (U b.1) 2)=ag (J p)/\aD B (M (U b.1) 3)=ag (J C)/\aD B (M (U b.1) 4)=ag (J D)/\aD B (M (U b.1) 5)=ag (J F)/\aD B (M (U b.1) 6)=ag (aZ g)/\aD B (M (U b.1) 7)=ag (aZ L)/\aD B (M (U b.1) 8)=ag (J ah)/\aD B (M (U b.1) 9)=ag (J I)/\aD B (M (U b.1) 10)=ag (aG t)/\aD B (M (U b.1) 11)=ag (J K)/\aD B (M (U b.1) 12)=ag (J A)/\aD B (M (U b.1+1) 2)=ag (aL R r W)/\aD B (M (U b.1+1) 3)=ag (aL S P X)/\aD B (M (U b.1+1) 4)=ag (aL T Z Y)) (first|assumption|go_keep)
  (first
   | (go_at_call 138;go_loud (refine(c2 _).mono ?_;rintro w eJ ⟨rfl,bn⟩;have dD:=aeM bn fN))
   | (go_at_call 137;refine(cE _ _ ((bN cd.drew bn).alloc bn.4 _) (du _ _) bn.4).mono ?_;rintro w br ⟨aj,rfl,cP,cq⟩)
   | (go_at_call 137;refine(cE _ _ ((ct cd bv _).drew.trans<|bV bn aA) ((bn.5 _ aA).trans<|du n _) bv).mono ?_;rintro w br ⟨aj,rfl,cP,cq⟩))
 all_goals
  rename_i d2;obtain⟨ca,cJ,cF,cy,cr,cs,cu⟩:=V dZ;clear d2 cP bn dD cE c2 dF d5 aM aP aR aT aU aV aW aX aY a0 az ww pA bO bP aC aF aH;obtain⟨ez,aq,bx,bI,dO,bK⟩:=V cq;have a5:=aq.cell 0 aA;have a6:=aq.cell 1 aA;have a8:=aq.cell 2 aA;simp only[e9,fw]at a5 a6 a8;obtain⟨bO,bP,aC,aF,aH⟩:=gB.cells bx.2;have cR:=ae<|cv aq<|cv bx<|cv bI bK;clear aq bx bI bK cq;go_upto_region 8 with fail
  go_cut [57]from 42 λv Q=>v=aG cb/\ax (∃m,Q=ef br m)
  case first =>
   by_cases dg:(x:Int)<(r:Int)
   ·have ac:=V c1;have cG:=mL dg;rw[cG,Lj]at ac;subst ac;go_quiet (fail);go_wp2_with fail;go_meet;exact⟨af,_,af⟩
   ·have ac:=V c1;have cG:=gD dg;rw[cG,zG]at ac;by_cases dh:(bA:Int)<(P:Int)
    ·have cp:=mL dh;rw[cp]at ac;subst ac;go_quiet (fail);go_wp2_with fail;go_meet;exact⟨af,_,af⟩
    ·have cp:=gD dh;rw[cp]at ac;subst ac;go_quiet (fail);go_wp2_with fail;go_meet;exact⟨af,_,af⟩
  case rest =>
  obtain⟨rfl,c3⟩:=hcut;obtain⟨nq,rfl⟩:=V c3;clear c3;have bj:a7 br (ef br nq):=kv cd nq;obtain⟨aq,bx,bI,bK⟩:=V cR;have k:=bx.keep (base:=base) (λe aN=>bj.5 e G) bj.4 G G;have ad:im (ef br nq) aj [(x:Int),bA,aa] 3:=(bj.5 aj aq.lt).trans aq;have a4:=bK.below bj;have a3:a7 b (ef br nq):=bN bI<|bV bj bI.4;have bM:=cU dO bj.4;clear aq bx bI bK cR a5 a6 a8 bO bP aC aF aH bj;generalize ef br nq=an at *;have a5:=ad.cell 0 aA;have a6:=ad.cell 1 aA;have a8:=ad.cell 2 aA;simp only[e9,fw]at a5 a6 a8;have b3:=k.3.cell 2 aA;have b4:=k.3.cell 3 aA;have b5:=k.3.cell 4 aA;have a1:=k.3.cell 5 aA;simp only[e9,fw]at b3 b4 b5 a1;have bY:=k.3.frozen;have dR:aj≠U ar.1:=G;have dA:=k.3.cell 1 aA;simp only[e9,fw]at dA;have bp:=V ee;have ba:∀e,e≠U ar.1->(a_ an ⟨U ar.1,1,ai⟩<|ak am y).1[e]? = an.1[e]?:=λe aN=>dJ _ _ _ _ aN;have c4:(∀ab,an.1[U ar.1]?≠ag (aS ab 5 (0,0)))/\∀ab,an.1[U ar.1]?≠ag (aS ab 343 (0,0)):=by
   have:=k.3;unfold im at this;exact⟨λc hc=>If,λc hc=>If⟩
  have b7:U (a_ an ⟨U ar.1,1,ai⟩<|ak am y).1=U an.1:=oF
  have cg:ax (A7 (U b.1) (U ar.1) a i p C D F g L ah I t K A al (aG H) (aL R r W) (aL S P X) (aL T Z Y) [(a:Int),y,0,0,0,0] (a_ an ⟨U ar.1,1,ai⟩<|ak am y)/\fX (a_ an ⟨U ar.1,1,ai⟩<|ak am y) l base o.1 o.2/\a7 b (a_ an ⟨U ar.1,1,ai⟩<|ak am y)/\im (a_ an ⟨U ar.1,1,ai⟩<|ak am y) aj [(x:Int),bA,aa] 3/\base<=U (a_ an ⟨U ar.1,1,ai⟩<|ak am y).1):=by
   obtain⟨d0,dS,d1⟩:=k.4;exact⟨⟨k.1.kept<|ba _ G,(ba _ G).trans k.2,k.3.set 1 y,⟨by rw[b7];exact d0,dS,(ev<|ba 0 G).trans d1⟩⟩,(CC (I1 a4) c4 G ba).msg,bN a3 ⟨af,af,af,by rw[b7];exact cW _,λe aN=>ba e G⟩,(ba aj dR).trans ad,by rw[b7];exact bM⟩
  have b8:=ae<|cv k<|cv a4<|cv a3<|cv ad bM;clear k a4 a3 ad ba c4 b7 a5 a6 a8 b3 b4 b5 a1 bM
  go_upto_if 57 with fail
  go_cut []from 58 λQ=>ax<|A7 (U b.1) (U ar.1) a i p C D F g L ah I t K A al (aG H) (aL R r W) (aL S P X) (aL T Z Y) [(a:Int),y,0,0,0,0] Q/\fX Q l base o.1 o.2/\a7 b Q/\im Q aj [(x:Int),bA,aa] 3/\base<=U Q.1
  case first =>
   cases cb with
   | true =>
    simp only[sE,pi]at bp;clear b8;go_wp2_with fail;go_meet;exact cg
   | false =>
    simp only[sE,GE,if_false]at bp;rw[bp]at b8;clear cg;go_wp2_with fail;go_meet;exact b8
  case rest =>
  obtain⟨k,a4,a3,ad,bM⟩:=V hcut;clear cg b8 dA bY bp hcut;generalize wc=bs at *;have a5:=ad.cell 0 aA;have a6:=ad.cell 1 aA;have a8:=ad.cell 2 aA;simp only[e9,fw]at a5 a6 a8;have b3:=k.3.cell 2 aA;have b4:=k.3.cell 3 aA;have b5:=k.3.cell 4 aA;have a1:=k.3.cell 5 aA;simp only[e9,fw]at b3 b4 b5 a1;have bY:=k.3.frozen;have cM:=ae<|cv k<|cv a4 a3;clear k a4 a3 ad;go_wp2_with fail
  go_region
  generalize bc:bq (a_ (a_ (a_ (a_ bs ⟨U ar.1,2,ai⟩<|ak am 1) ⟨U ar.1,3,ai⟩<|ak am x) ⟨U ar.1,4,ai⟩<|ak am bA) ⟨U ar.1,5,ai⟩<|ak am aa)=q;have cL:ax (iB q (U b.1) a i p C D F g L ah I t K A/\im q (U ar.1) [(a:Int),y,1,x,bA,aa] 133/\fX q l base o.1 o.2/\a7 b q/\base<=U q.1):=by
   obtain⟨k,a4,a3⟩:=V cM;have d6:=(((k.3.set 2 1).set 3 x).set 4 bA).set 5 aa;have cA:∀e,e≠U ar.1->q.1[e]? = bs.1[e]?:=λe aN=>by{
    rw[<- bc];exact(dJ _ _ _ _ aN).trans<|(dJ _ _ _ _ aN).trans<|(dJ _ _ _ _ aN).trans<|dJ _ _ _ _ aN}
   have df:U q.1=U bs.1:=by rw[<- bc];simp[a_,World.drew]
   have cD:(∀ab,bs.1[U ar.1]?≠ag (aS ab 5 (0,0)))/\∀ab,bs.1[U ar.1]?≠ag (aS ab 343 (0,0)):=by
    have:=k.3;exact PQ
   refine⟨k.1.kept<|cA _ G,bc▸d6,(CC (I1 a4) cD G cA).msg,?_,by rw[df];exact bM⟩
   ·refine bN a3 (show cB (U b.1) bs q from⟨bc▸af,bc▸af,bc▸af,by rw[df];exact cW _,λe aN=>cA e G⟩)
  clear a5 a6 a8 b3 b4 b5 a1 bY cM;clear bc;obtain⟨cT,au,b0,bu,ch⟩:=V cL;obtain⟨_,_,_,_,_,_,_,_,_,_,az,_,_⟩:=cT.cells;have a1:=au.cell 5 aA;simp only[e9,fw]at a1;have bY:=au.frozen;have cj:∀e,e≠U ar.1->(a_ q ⟨U ar.1,5,ai⟩<|ak am u).1[e]? = q.1[e]?:=λe aN=>dJ _ _ _ _ aN;have bb:U (a_ q ⟨U ar.1,5,ai⟩<|ak am u).1=U q.1:=oF
  have cl:ax (im (a_ q ⟨U ar.1,5,ai⟩<|ak am u) (U ar.1) [(a:Int),y,1,x,bA,u] 133/\fX (a_ q ⟨U ar.1,5,ai⟩<|ak am u) l base o.1 o.2/\a7 b (a_ q ⟨U ar.1,5,ai⟩<|ak am u)/\base<=U (a_ q ⟨U ar.1,5,ai⟩<|ak am u).1):=by
   have cD:(∀ab,q.1[U ar.1]?≠ag (aS ab 5 (0,0)))/\∀ab,q.1[U ar.1]?≠ag (aS ab 343 (0,0)):=by
    have:=au;exact PQ
   refine⟨aeO au u,(CC (I1 b0) cD G cj).msg,?_,by rw[bb];exact ch⟩;exact bN bu (show cB (U b.1) q (a_ q ⟨U ar.1,5,ai⟩<|ak am u)from⟨af,af,af,by rw[bb];exact cW _,λe aN=>cj e G⟩)
  have cm:=ae<|cv au<|cv b0<|cv bu ch;have aw:=V eh;clear au b0 bu ch cL cT cj bb
  go_upto_if 74 with fail
  go_cut []from 75 λQ=>ax<|im Q (U ar.1) [(a:Int),y,1,x,bA,u] 133/\fX Q l base o.1 o.2/\a7 b Q/\base<=U Q.1
  case first =>
   cases t with
   | true =>
    have eA:(aa:Int)+1=(u:Int):=by simp only[cond]at aw;omega
    clear aw cm;go_wp2_with fail;go_meet;exact cl
   | false =>
    simp only[cond]at aw;subst aw;clear cl;go_wp2_with fail;go_meet;exact cm
  case rest =>
  have eB:u<=3002:=by cases t<;>simp only[cond]at aw<;>omega
  clear aw cl cm a1 bY;have cn:=hcut;clear hcut;generalize wc=q at *;have bb:U q.1=U q.1:=af;obtain⟨av,bz,a9,eC⟩:=V cn;have dU:=bz.lt;have hnew:=du q<|aS #[cV 224<|amz<|O z] 297;rw[bb]at hnew;have dB:ax (bd aK 139 #[N l,bC (U q.1) 0 1 1] (aO q<|aS #[cV 224<|amz<|O z] 297) λw B=>w=bg (bX #[])/\fX B l base (o.1++ew [eI z]) o.2/\dP l base (aO q<|aS #[cV 224<|amz<|O z] 297) B) :=
   E5 (U q.1) 1 [eI z] (aO q<|aS #[cV 224<|amz<|O z] 297) (bz.below<|ct cd bv _) cx
   (λf dc=>by simp at dc;subst dc;exact lD _) (by rw[gd,bb];omega) (by rw[bb]at dU;omega) (bE λab h=>FW)
   (λdj cw=>by
    match dj,cw with
    | 0,_=>unfold aD; rw[hnew];rfl
    | dj+1,cw=>simp at cw) aA aA (by
     simp only[ew,eI,l5,D_,mw];omega)
  clear hnew av bz a9;go_wp2_with fail;refine gU dB ?_;rintro w bJ ⟨rfl,cY,c5⟩;obtain⟨au,b0,bu,dV⟩:=V cn;have aB:=(dP.vz<|ct cd bv _).trans c5;have av:im bJ (U ar.1) [(a:Int),y,1,x,bA,u] 133:=(aB.5 _ G G<|bG G).trans au;have a9:a7 b bJ:=bN bu (show cB (U b.1) q bJ from⟨aB.1,aB.2,aB.3,aB.4,λe aN=>aB.5 e G G<|bG G⟩);have dW:=cU dV aB.4;rw[show ew [eI z]=z by simp[ew,eI]]at cY;obtain⟨eo,ep,bz,c6,_⟩:=cY;have dt:=av.cell 0 aA;have dv:=av.cell 1 aA;have dw:=av.cell 2 aA;have dx:=av.cell 3 aA;have dy:=av.cell 4 aA;have dz:=av.cell 5 aA;simp only[e9,fw]at dt dv dw dx dy dz;have cN:ax (bd aK 131 #[N l,ci #[J a,J y,J 1,J x,J bA,J u]] bJ λw B=>w=bg (aZ<|ew (jM a y 1 x bA u)++bh 12 (o.1++z))/\Lp l base bJ B) :=
   U0 1 x bA u bz c6 dW (by simp only[dE];omega) (by simp only[dE];omega) ca bl G G G G
  have dK:=ae a9;clear au b0 bu bz c6 c5 aB av a9 dB cn;go_wp2_with fail;refine gU cN ?_;rintro w ds ⟨rfl,bw⟩;have a9:=V dK;have dY:ax (a7 b ds):=bN a9 (show cB (U b.1) bJ ds from⟨bw.1,bw.2,bw.3,bw.4,λe aN=>bw.5 e G G<|bG G⟩);clear bw a9 cN dt dv dw dx dy dz;go_wp2;go_ret;exact⟨af,dY⟩
def fK(c:ap)(d:List D)(a:ap)(b g:Int)(h:Bool)(e:Int):(Int×Bool×List D×List D)×List D :=
 if h=aE/\e≠0 then((16,ao,[],[]),[])else if g≠1\/vr b=ao\/a=[]then((5,ao,[],[]),[])else(lx c d b a,tY c d b a)
def adF(a:fI c=aE):fZ [] c=ao:=by have d:=(jp a).1;have e:c≠[]:=λb=>by{subst b;exact absurd af<|d []<|by simp[xg]};rw[fZ,DQ];refine⟨by grind,?_⟩;simp[Lib.hasSuffix]
def Hu(c b a):E3 c b (ci #[J a,aG ao,bY,bY,bY]) (a,ao,[],[]) [] :=
 ⟨_,_,_,af,jO _ _ _ _,jO _ _ _ _,jO _ _ _ _,wV _,wV _,wV _⟩
def adG{ay}(h)(g:jJ c j)(n:iL b a c d ay P<|cq j)(q:d3 b)(t:Q=[]\/h9 Q)(r:E Q<=260):bd aK 69 #[N a,aZ Q,J h] b λo i=>(∃v,o=bg v/\E3 i (U b.1) v (if Q=[]then(5,ao,[],[])else lx c j h Q) (if Q=[]then []else tY c j h Q))/\a7 b i:=by by_cases e:Q=[];{subst e;have:=(jp g.1).2;exact(U9 n aA G<|adF g.1).m λi p=>⟨⟨_,af,Hu _ _ _⟩,p⟩};{rw[bJ e,bJ e];exact acV g n q (t.resolve_left e) r}
def J6{P:Prop}(h:P:=by simp[dr,results74,go_sem]):P:=h
def adH{ay aw h W X Y Z aa ab al g}(ar:jJ h j)(aP:iL b a h d ay aw<|cq j)(aH:d3 b)(aJ:Q=[]\/h9 Q)(aI:E Q<=260):bd aK 74 #[ir W X Y Z aa ab c Q i p t al g,N a] b λo q=>(∃v,o=bg v/\E3 q (U b.1) v (fK h j Q i p t g).1 (fK h j Q i p t g).2)/\a7 b q:=by
 have az:=ae λe (ac:a7 b e)=>adG i ar (aP.below ac) (aH.below ac) aJ aI;have I:=ae<|adD i;have⟨fO,sH⟩:=bi (aS #[ak am W,ak am X,ak am Y,ak am Z,ak am aa,ak am ab,amz<|O c,amz<|O Q,ak am i,ak am p,aG t,ak am al,ak am g] 137:nQ);have⟨eV,pT⟩:=bi (aS #[ak am 0,aG ao,aL ai 0 0,aL ai 0 0,aL ai 0 0] 43:nQ);unfold ir;by_cases aC:t=aE/\g≠0;{
 have n:fK h j Q i p t g=((16,ao,[],[]),[]):=by grind[fK]
 rw[n];have w:(g != 0)=aE:=by grind
 have aM:=aC.1;subst aM;go_wp2;refine eh (v:=ci #[ak am 16,aG ao,aL ai 0 0,aL ai 0 0,aL ai 0 0]) J6 af ⟨⟨_,af,Hu _ _ _⟩,(ct cd bv _).alloc aA _⟩};by_cases aF:p≠1;{
 have n:fK h j Q i p t g=((5,ao,[],[]),[]):=by unfold fK;grind
 rw[n];have:(p != 1)=aE:=by grind
 have an:t=ao\/(t=aE/\(g != 0)=ao):=by{grind};rcases an with rfl|⟨rfl,w⟩;all_goals(go_wp2;refine eh (v:=ci #[ak am 5,aG ao,aL ai 0 0,aL ai 0 0,aL ai 0 0]) J6 af ⟨⟨_,af,Hu _ _ _⟩,(ct cd bv _).alloc aA _⟩)};obtain rfl:p=1:=BR aF;have an:t=ao\/(t=aE/\(g != 0)=ao):=by{grind};cases ad:vr i with
 | false =>{
 have n:fK h j Q i 1 t g=((5,ao,[],[]),[]):=by unfold fK;grind
 rw[n];have u:ax (∀e:aQ,bd aK 140 #[J i] e λo q=>o=bg (aG ao)/\q=e):=λe=>by have:=V I e;rw[ad]at this;exact this
 rcases an with rfl|⟨rfl,w⟩;all_goals(go_in;go_wp2_with fail;refine(u _).m ?_;rintro aU rfl;go_wp2;refine eh (v:=ci #[ak am 5,aG ao,aL ai 0 0,aL ai 0 0,aL ai 0 0]) J6 af ⟨⟨_,af,Hu _ _ _⟩,(ct cd bv _).alloc aA _⟩)}
 | true =>{
 have n:fK h j Q i 1 t g=(if Q=[]then(5,ao,[],[])else lx h j i Q,if Q=[]then []else tY h j i Q):=by{grind[fK]};rw[n];have u:ax (∀e:aQ,bd aK 140 #[J i] e λo q=>o=bg (aG aE)/\q=e):=λe=>by have:=V I e;rw[ad]at this;exact this
 generalize (if Q=[]then(5,ao,[],[])else lx h j i Q)=k,(if Q=[]then []else tY h j i Q)=H at *;rcases an with rfl|⟨rfl,w⟩;all_goals(have x:Hid (a7 b<|(b.alloc fO).alloc eV):=(ct cd bv _).alloc aA _;have aR:ax (gB (aO (aO b fO) eV) (U b.1+1) (J 0) (aG ao) (bY) (bY)<|bY):=by{have:=du (aO b fO) eV;rw[gd]at this;rw[gB,ax,this,pT]};go_in;go_wp2_with fail;refine(u _).m ?_;rintro aU rfl;go_wp2_with fail;rw[<- sH,<- pT];refine(az _ x).mono ?_;rintro o aV ⟨⟨v,rfl,aW,aX,aY,rfl,r,fz,gg,y,z,A⟩,T⟩;have aN:U (aO (aO b fO) eV).1=U b.1+2:=aA;have B:gB aV (U b.1+1) (J 0) (aG ao) (bY) (bY) (bY):=(T.5 (U b.1+1) G).trans<|V aR;have F:=bN x<|bV T x.4;obtain⟨K,P,rfl⟩:=r.slice;obtain⟨L,R,rfl⟩:=fz.slice;obtain⟨M,S,rfl⟩:=gg.slice;rw[aN]at r fz gg;have av:=ae<|cv r<|cv fz<|cv gg<|cv y<|cv z A;have:=gB.cells B;have:=gB.frozen B;have aq:=ae B;have aT:=ae F;go_wp2;have ap:=((((aq.set0<|J k.1).set1<|aG k.2.1).set2<|aL K (E k.2.2.1) P).lM<|aL L (E k.2.2.2) R).o6<|aL M (E H) S;have⟨n0,n1,n2,n3,n4⟩:=ap.cells;have⟨r,fz,gg,y,z,A⟩:=V av;have F:=V aT;have au:∀ {v:bm} {ah:List D} {e:aQ} (aj:Nat) (C:bm),ec e (U b.1+2) v ah->ec (a_ e ⟨U b.1+1,aj,ai⟩ C) (U b.1+2) v ah:=λaj C aB=>aB.ri (k:=U b.1+1) (i:=aj) G C;refine eh (v:=ci #[ak am k.1,aG k.2.1,aL K (E k.2.2.1) P,aL L (E k.2.2.2) R,aL M (E H) S]) ?_ af ⟨⟨_,af,_,_,_,af,?_,?_,?_,y,z,A⟩,?_⟩;{simp[dr,results74,go_sem,n0,n1,n2,n3,n4]};{exact(au 4 _<|au 3 _<|au 2 _<|au 1 _<|au 0 _ r).base G};{exact(au 4 _<|au 3 _<|au 2 _<|au 1 _<|au 0 _ fz).base G};{exact(au 4 _<|au 3 _<|au 2 _<|au 1 _<|au 0 _ gg).base G};{exact((((fk F (p:=⟨U b.1+1,0,ai⟩) aA _).setCell (p:=⟨U b.1+1,1,ai⟩) aA _).setCell (p:=⟨U b.1+1,2,ai⟩) aA _).setCell (p:=⟨U b.1+1,3,ai⟩) aA _).setCell (p:=⟨U b.1+1,4,ai⟩) aA _})}
def af9{v}(d:ts b a e v):xH b a e (b9 lj v):=by rw[xH,fC,nu];exact d
def af_{a:D}{b:List Nat}(l:E a.owner<=300)(n:a.type=1)(k:a.aP<4294967296)(c:E a.data<=3000)(o:ER a.data b)(x:oq b≠[])(t:E (oq b)<=1000)(d:∀f∈oq b,f.Ok):pH a (b9 lj<|oq b) where
 own:=l
 typ:=G
 aP:=k
 data:=λr g=>by
  refine(ad1 g n c o).mono ?_;rintro w z ⟨⟨v,rfl,p⟩,h⟩;exact⟨⟨v,af,af9 p⟩,h⟩
 ok:=λy u q _ _ _ f i=>by
  obtain⟨e,j,rfl⟩:=lZ.1 i;exact qt (d e j)
 ne:=by simp_all
 few:=by grind
def aga{k:D}(x:E k.owner<=300)(y:k.type=6)(r:k.aP<4294967296)(o:E k.data<=3000){e:ap}(z:jl 32 (O k.data)=[O g,O c,O L,O e])(n:Lib.parseUintB 64 L=.ok a)(A:Lib.parseUintB 64 e=.ok d)(t:E g<=300)(p:E c<=300)(u:E L<=3000)(w:E e<=3000):pH k (xI g c a d) where
 own:=x
 typ:=G
 aP:=r
 data:=λC q=>adv q y o z n A u w
 ok:=λH F B l h j f i=>by
  simp only[xI,gC,uf,tf]at i;rcases i with rfl|rfl|rfl|rfl|rfl|rfl|rfl
  ·exact Cz t l h j
  ·exact Cz p l h j
  ·exact qt<|B5<|tI _ G
  ·exact qt<|B5 G
  ·exact qt<|B5 G
  ·exact qt<|B5 G
  ·exact qt (B5<|tI _ G)
 ne:=by simp[xI]
 few:=by simp[xI]
def agb{a:D}(g:E a.owner<=300)(h:a.type=16)(e:a.aP<4294967296)(c:E a.data<=3000):pH a (y7 a.data) where
 own:=g
 typ:=G
 aP:=e
 data:=λj d=>ad6 d h c
 ok:=λp k i l n o f b=>by
  simp only[y7,gC,uf,tf]at b;rcases b with rfl|rfl
  ·exact qt<|vv _
  ·exact qt (lD _)
 ne:=by simp[y7]
 few:=by simp[y7]
def agc{b:D}(p:E b.owner<=300)(q:b.type=15)(l:b.aP<4294967296)(e:E b.data<=3000)(r:jl 32 (O b.data)=[O g,O c])(t:Lib.parseUintB 64 g=.ok a)(n:E g<=3000)(h:E c<=300):pH b (xJ a c) where
 own:=p
 typ:=G
 aP:=l
 data:=λw i=>ad7 i q e r t n
 ok:=λy x u j k o f d=>by
  simp only[xJ,gC,uf,tf]at d;rcases d with rfl|rfl
  ·exact qt<|nM _<|tI _ G
  ·exact Cz h j k o
 ne:=by simp[xJ]
 few:=by simp[xJ]
def Wi{a:D}(k:E a.owner<=300)(b:a.type=2\/a.type=5)(i:a.aP<4294967296)(e:E a.data<=300):pH a [tZ a.data] where
 own:=k
 typ:=G
 aP:=i
 data:=λn c=>by
  rcases b with b|b
  ·exact UO c b bL bL bL bL G
  ·exact UO c b bL bL bL bL G
 ok:=λp o l g h j f d=>by
  simp only[gC,uf,tf]at d;subst d;exact Cz e g h j
 ne:=aA
 few:=aA
structure l_(h1 h2:ap)(S:ap)(es:ia)(l:ap)(ps:hi):Prop where
 same:∃t,S=h1++t/\l=h2++t
 pl:es.filter (λe=>decide (e.2<16384))=ps.map (λp=>(cJ p.1,p.2))
def NY{x}: ∀ {e:ia} {a:hi},ed (λd=>dQ<|d.2<16384) e=b9 (λc=>(cJ c.1,c.2)) a->kV (cJ x) e=lh a x
 | [],a,b=>by
  have:a=[]:=by simp_all
  rw[this];rfl
 | d::e,a,b=>by
  by_cases j:d.2<16384;{
  rw[zK<|by grind]at b;cases a with
  | nil=>grind
  | cons c a =>{rw[nr]at b;obtain⟨h,i⟩:=D7 b;have l:=NY (x:=x) i;unfold kV lh;rw[h,l];by_cases k:c.1=x;{grind};{rw[bJ λg=>k<|CN g.1,bJ<|by grind]}}};{rw[BS<|by grind]at b;unfold kV;rw[bJ λg=>j g.2];exact NY b}
section
variable {h1 h2 S:ap} {es:ia} {l:ap} {ps:hi} (h:l_ h1 h2 S es l ps)
include h
theorem l_.app(a):l_ h1 h2 (S++a) es (l++a) ps:=by obtain⟨b,rfl,rfl⟩:=h.1;exact⟨⟨b++a,aA,aA⟩,h.2⟩
theorem l_.len(a:E h1=E h2):E S=E l:=by obtain⟨b,rfl,rfl⟩:=h.1;grind
theorem l_.find(a):kV (cJ a) es=lh ps a:=NY h.2
theorem l_.auV(b:E h1=E h2)(a):l_ h1 h2 S (es++[(cJ a,E S)]) l (qr ps a<|E l):=by refine⟨h.1,?_⟩;rw[qr,tG,h.2,h.len b];grind
theorem l_.hit(g:Q≠[])(e:eA r=cJ Q)(d:lh ps Q=ag a):l_ h1 h2 (dv r S es).1 (dv r S es).2 (jd (ei Q) l ps).1 (jd (ei Q) l ps).2:=by
 cases r with
 | nil=>exact absurd (bZ e)<|It Q
 | cons k j =>{have c:=h.find Q;rw[d,<- e]at c;rw[y9 c,qG g,E6 d];exact h.app _}
end
structure s8(x:ap):Prop where
 ne:h9 x
 p:(80:UInt8) ∉ x
 low:∀c∈x,gW c=c
def ahi(a:∀b∈c,gW b=b):b9 gW c=c:=by have:b9 gW c=b9 id c:=pt a;simp_all
def XH(a:∀b∈c,gW b=b):eA (I 46 c)=I 46 c:=by unfold eA;have:b9 (List.map gW) (I 46 c)=b9 id (I 46 c):=pt λg e=>ahi λb d=>a b<|(HN _ c bv g e).2 b d;simp_all
def s8.aiV(b:s8 c):eA (I 46 c)=cJ c:=by rw[XH b.3,ux b.2]
def BY(q:E c=E g):∀(f:Nat) (a:ap) (o:ap) (i:ia) (k:ap) (e:hi),E a<=f->s8 a->l_ c g o i k e->l_ c g (dv (I 46 a) o i).1 (dv (I 46 a) o i).2 (jd (ei a) k e).1 (jd (ei a) k e).2
 | 0,a,o,i,k,e,D,b,j=>by have:a=[]:=iM G;subst this;exact absurd af (b.1 []<|by simp[xg])
 | f+1,a,o,i,k,e,D,b,j=>by
  have w:a≠[]:=λl=>by{subst l;exact absurd af<|b.1 []<|by simp[xg]};have n:=j.find a;cases r:lh e a with
  | some L=>exact j.hit w b.aiV r
  | none =>{
  rw[r]at n;rw[qG w,E7 r];rcases pe 46 a with⟨u,F⟩|⟨t,h,x,y,l⟩;case inr =>(
  have J:s8 h:=⟨λH K=>b.1 H<|by grind,λC=>b.2<|by grind,λz C=>b.3 z<|by grind⟩;have p:=b.aiV;rw[l]at p;rw[l,ul<|by grind,p];have d:=(j.auV q a).app<|pU a;have A:pU a=UInt8.ofNat (E t)::t:=by unfold pU;rw[x,MD h y]
  have B:jA a=h:=by rw[x];exact yC h y
  rw[B];rw[A]at d ⊢;exact BY q f h _ _ _ _ (by grind) J d)
  case inl =>(have p:=b.aiV;rw[F]at p ⊢;rw[<- p]at n;rw[ul n,Ay u,rg,p];have d:=((j.auV q a).app<|pU a).app [0];unfold pU at d ⊢;rw[ME u]at d ⊢;exact d)}
def ahj{a}(b:te a=aE):gW a=a:=by unfold te Gq at b;unfold gW;grind
def XI{star}(b:(je star c).isSome=aE):∀a∈c,gW a=a:=by
 intro j k;unfold je at b;split at b;{
 rename_i p;have r:∀(d:List ap) (h:Nat),mm star h d=aE->∀i∈d,∀a∈i,gW a=a:=by{
 intro d;induction d with
 | nil=>simp
 | cons l d q =>{
 intro h b i g;rw[mm,fx]at b;rcases gC.1 g with rfl|g;{
 intro a e;have:=b.1;rw[tB,vY]at this;rcases this with this|this;{rw[lL,fx,uB]at this;exact ahj<|this.2 a e};{
 simp only[fx,jy]at this;rw[this.1.2]at e;obtain rfl:a=42:=by grind
 rfl}};grind}};rcases LZ _ c j bv k with b|⟨d,n,o⟩;{rw[b];rfl};grind};grind
def DU(a:fI c=aE):s8 c where
 ne:=(jp a).1
 p:=Iz a
 low:=XI (star:=ao) (by rw[vT];exact a)
def ahk(a:kr c=aE):s8 c where
 ne:=(x_ a).1
 p:=IC a
 low:=XI (star:=aE) (by rw[EA];exact a)
def eS(a:D):List jK :=
 if a.type=1 then(oq<|b9 ki<|I 46 a.data).map lj
 else if a.type=16 then y7 a.data
 else if a.type=15 then xJ (ki<|iF a 0) (iF a 1)
 else if a.type=6 then xI (iF a 0) (iF a 1) (ki<|iF a 2) (ki<|iF a 3)
 else [tZ a.data]
def XJ(g:a<=4294967295):∀(c:ap) (b v:Nat),b<=a->oy a b c=ag v->Lib.parseUintM (2 ^ 64-1) b c=.ok v
 | [],b,v,_,m=>by simp[oy]at m;rw[m];rfl
 | i::h,b,v,j,m=>by unfold oy at m;split at m;{rename_i d;split at m;{rename_i e;simp only[rN,fx,sq]at d;unfold Lib.parseUintM;rw[b7 G,bJ G,bJ G,zR b 10];exact XJ g h _ v e m};grind};grind
def Ji{m}(d:m<=4294967295)(b:fY m c=aE):Lib.parseUintB 64 c=.ok (ki c):=by
 have a:=(zc d b).1;have⟨v,hv⟩:=Option.isSome_iff_exists.1 a;have e:ki c=v:=by grind[ki,kZ]
 rw[e];unfold rX at hv;cases c with
 | nil=>cases hv
 | cons g h =>{simp only at hv;split at hv;{cases hv};{rw[Lib.parseUintB,bJ aA];exact XJ G _ 0 v G hv}}
structure De(r:D):Prop where
 own:r.owner.length<=300
 aP:r.aP<4294967296
 dat:eG r.type (I 32 r.data)=true
 len:r.data.length<=3000
def XK{a:D}:jl 32 (O a.data)=b9 O (I 32 a.data):=by
 have c:=tK 32<|O a.data;have d:(O a.data).1.1=a.data:=by simp[O]
 rw[d]at c;rw[<- c,nu];have:∀b∈jl 32 (O a.data),(O ∘ λb=>b.1.1) b=id b:=λb _=>by simp[O]
 rw[pt this,zM]
def t_{P:Prop}(h:P:=by grind[iF]):P:=h
def FE{h}(e:De h):pH h (eS h):=by
 have g:=x9 e.3;have i:=e.3;rcases g with g|g|g|g|g|g;all_goals rw[g]at i
 all_goals unfold eS
 {rw[b7 g];have⟨a,dM,hall,hl4⟩:=NX i;have p:=vf dM;refine af_ e.1 g e.2 e.4 ?_ ?_ ?_ ?_;{rw[ER,p,nu];exact pt λk j=>Ji (m:=255) G (uB.1 hall k j)};{rw[oq,p];intro q;simp_all};{grind[oq]};{intro f w;obtain⟨y,_,rfl⟩:=lZ.1 w;exact vv _}};{rw[bJ G,bJ G,bJ G,bJ G];have⟨a,dM,hp⟩:=xD (t:=2) (bG af) i;have:=(jp hp).2;exact Wi e.1 (bG g) e.2 (by rw[vf dM];omega)};{rw[bJ G,bJ G,bJ G,bJ G];have⟨a,dM,hp⟩:=xD (t:=5) (bE af) i;have:=(jp hp).2;exact Wi e.1 (bE g) e.2 (by rw[vf dM];omega)};{
 rw[bJ G,bJ G,bJ G,b7 g];have⟨a,b,c,d,dM,Oy,qF,q,hdd⟩:=E_ i;have n:iF h 0=a:=t_
 have o:iF h 1=b:=t_
 have r:iF h 2=c:=t_
 have u:iF h 3=d:=t_
 have l:=λk j=>cU (qE 32 _ h.data bv k j) e.4;have:=(jp Oy).2;have x:=(jp qF).2;rw[n,o,r,u];exact aga e.1 g e.2 e.4 (by rw[XK,dM];rfl) (Ji (m:=4294967295) G q) (Ji (m:=86400) G hdd) G G (l c<|by grind) (l d<|by grind)};{
 rw[bJ G,bJ G,b7 g];have⟨a,b,dM,ha,qF⟩:=Fa i;have n:iF h 0=a:=t_
 have o:iF h 1=b:=t_
 have l:=λk j=>cU (qE 32 _ h.data bv k j) e.4;have x:=(jp qF).2;rw[n,o];exact agc e.1 g e.2 e.4 (by rw[XK,dM];rfl) (Ji (m:=65535) G ha) (l a<|by grind) G};{rw[bJ G,b7 g];exact agb e.1 g e.2 e.4}
def Xz:∀(a:List oz) (b:ap) (c:hi),gX (b9 lj a) b c=(b++fA (·.out) a,c)
 | [],b,c=>by simp[gX]
 | f::a,b,c=>by rw[nr,HE];show gX (b9 lj a) (b++f.4) c=_;rw[Xz a,l5,jI]
def XA:∀(a:List Nat),fA (·.out) (oq a)=b9 UInt8.ofNat a
 | []=>af
 | b::a=>by show _::fA (·.out) (oq a)=_;rw[XA a];rfl
def QQ{P:Prop}(h:P:=by
 have h0:iF r 0=r.data:=by rw[iF,dM,vf dM];rfl
 rw[h0];exact BY hl _ r.data S es l ps bv (DU<|(vf dM)▸hp) e):P:=h
def XB{h1 h2 S es l ps}(hl:E h1=E h2){r}(p:De r)(e:l_ h1 h2 S es l ps):l_ h1 h2 (ff (f_ r) S es).1 (ff (f_ r) S es).2 (gX (eS r) l ps).1 (gX (eS r) l ps).2:=by
 have g:=x9 p.3;have h:=p.3;rcases g with g|g|g|g|g|g;all_goals rw[g]at h
 all_goals unfold eS f_
 {rw[b7 g,b7 g,Xz,XA,nu];exact e.app _};{
 rw[bJ G,bJ G,bJ G,bJ G,bJ G,bJ G,bJ G,bJ G];have⟨a,dM,hp⟩:=xD (t:=2) (bG af) h;exact QQ};{
 rw[bJ G,bJ G,bJ G,bJ G,bJ G,bJ G,bJ G,bJ G];have⟨a,dM,hp⟩:=xD (t:=5) (bE af) h;exact QQ};{
 rw[bJ G,bJ G,bJ G,b7 g,bJ G,bJ G,bJ G,b7 g];have⟨a,b,c,d,dM,Oy,qF,hc,hdd⟩:=E_ h;have k:iF r 0=a:=t_
 have n:iF r 1=b:=t_
 have q:iF r 2=c:=t_
 have u:iF r 3=d:=t_
 rw[k,n,q,u];have:=(zc (m:=4294967295) G hc).2;have:=(zc (m:=86400) G hdd).2;have i:=BY hl _ a S es l ps bv (DU Oy) e;have j:=BY hl _ b _ _ _ _ bv (DU qF) i;have o:=j.app<|g9 (ki c)++g9 3600++g9 600++g9 86400++g9 (ki d);rw[xI,Ef G,Ef G];simp only[HE,Vn,lj,tZ,uO];simp only[jI]at o ⊢;exact o};{
 rw[bJ G,bJ G,b7 g,bJ G,bJ G,b7 g];have⟨a,b,dM,ha,qF⟩:=Fa h;have k:iF r 0=a:=t_
 have n:iF r 1=b:=t_
 rw[k,n];have:=(zc (m:=65535) G ha).2;have i:=e.app [aN<|ki a,cO<|ki a];have j:=BY hl _ b _ _ _ _ bv (DU qF) i;rw[xJ,Ef G];exact j};{rw[bJ G,b7 g,bJ G,b7 g];have i:=e.app (UInt8.ofNat (E r.data)::r.data);simp only[y7,HE,Vn,lj,nL,eI,jI];exact i}
def ahm(b a c)(k:a+2<=E b):xF b a c=amA a b++[aN c,cO c]++bh (a+2) b:=by
 have h:=bZ<|lP a b;have g:E (amA a b)=a:=by grind
 obtain⟨d,i⟩:∃d,bh a b=d::bh (a+1) b:=⟨b[a],lA G⟩;obtain⟨e,j⟩:∃e,bh (a+1) b=e::bh (a+2) b:=⟨b[a+1],lA G⟩;rw[i,j]at h;unfold xF;conv=>lhs;rw[h]
 rw[vC _ _ G,g,sm,kH,vC _ _ G,g,GT,lp,kH,jI];rfl
def l_.put{d h j}(i:l_ g d c h L j)(l:E g=E d)(a)(n:E g<=a)(e):l_ g d (amA a c++e++bh (a+2) c) h (amA a L++e++bh (a+2) L) j:=by obtain⟨k,rfl,rfl⟩:=i.1;refine⟨⟨amA (a-E g) k++e++bh (a+2-E g) k,?_,?_⟩,i.2⟩;{rw[List.take_append,oT n,List.drop_append,D8 G];simp};{rw[List.take_append,oT G,List.drop_append,D8 G,l];simp}
def XC:∀(g:List ap) (a:ap) (b:ia),E a<=E (dv g a b).1
 | [],a,b=>by simp[dv]
 | c::d,a,b=>by
  cases e:kV (eA (c::d)) b with
  | some h=>rw[y9 e];simp
  | none =>{rw[ul e];have:=XC d (a++(UInt8.ofNat (E c)::c))<|b++[(eA (c::d),E a)];grind}
def NZ:∀(e:wd) (a:ap) (b:ia),E a<=E (ff e a b).1
 | [],a,b=>cW _
 | .inl d::c,a,b=>by have:=NZ c (a++d) b;rw[dE]at this;show E a<=E (ff c (a++d) b).1;omega
 | .inr g::c,a,b=>cU (XC _ a b)<|NZ c _ _
def ahq{b e d}(k:E c=E g){a}(A:De a){ls}(K:(∃w,lh d a.owner=ag w/\a.owner≠[]/\eA ls=cJ a.owner)\/(s8 a.owner/\ls=I 46 a.owner))(t:l_ c g L b e d):l_ c g (nG a ls L b).1 (nG a ls L b).2 (ka a (eS a) e d).1 (ka a (eS a) e d).2:=by have o:l_ c g (dv ls L b).1 (dv ls L b).2 (jd (ei a.owner) e d).1 (jd (ei a.owner) e d).2:=by{rcases K with⟨w,C,H,p⟩|⟨p,rfl⟩;{exact t.hit H p C};{exact BY k _ a.owner L b e d bv p t}};have j:(nG a ls L b).1=amA (E (ly a (dv ls L b).1)-2) (ff (f_ a) (ly a (dv ls L b).1) (dv ls L b).2).1++[aN<|E (ff (f_ a) (ly a (dv ls L b).1) (dv ls L b).2).1-E (ly a (dv ls L b).1),cO<|E (ff (f_ a) (ly a (dv ls L b).1) (dv ls L b).2).1-E (ly a (dv ls L b).1)]++bh (E<|ly a (dv ls L b).1) (ff (f_ a) (ly a (dv ls L b).1) (dv ls L b).2).1:=af;have M:(nG a ls L b).2=(ff (f_ a) (ly a (dv ls L b).1) (dv ls L b).2).2:=af;rw[j,M];generalize dv ls L b=h at o ⊢;have J:ka a (eS a) e d=xG (eS a) ((jd (ei a.owner) e d).1++[aN<|c7 a.type,cO<|c7 a.type]++[aN 1,cO 1]++g9 a.aP) (jd (ei a.owner) e d).2:=af;rw[J];generalize jd (ei a.owner) e d=q at o ⊢;have i:=((o.app [aN<|c7 a.type,cO<|c7 a.type]).app [aN 1,cO 1]).app<|g9 a.aP;have F:ly a h.1=(h.1++[aN<|c7 a.type,cO<|c7 a.type]++[aN 1,cO 1]++g9 a.aP)++[0,0]:=af;rw[F];unfold xG;generalize h.1++[aN<|c7 a.type,cO<|c7 a.type]++[aN 1,cO 1]++g9 a.aP=n at i ⊢;generalize q.1++[aN<|c7 a.type,cO<|c7 a.type]++[aN 1,cO 1]++g9 a.aP=r at i ⊢;have l:=XB k A<|i.app [0,0];have u:=NZ (f_ a) (n++[0,0]) h.2;generalize ff (f_ a) (n++[0,0]) h.2=N at l u ⊢;generalize gX (eS a) (r++[0,0]) q.2=x at l ⊢;have B:E (n++[0,0])=E n+2:=aA;have y:=i.len k;have z:=l.len k;have D:E c<=E n:=by{obtain⟨O,rfl,_⟩:=i.1;simp};rw[B]at u ⊢;rw[ahm x.1 (E r) _ G,GR,z,<- y];exact l.put k (E n) D _
def aji{o h j k:Int}{l n a d:Int}:bd aK 138 #[ir p o h i j k c g l n aE a d] b (cQ (J<|min (max a 512) 1232) b):=by unfold ir;go_wp2;go_ret;refine⟨?_,ct cd bv _⟩;rfl
def ajj(e:Nat){d:aQ->Prop}(i:List jK)(p:∀k,a7 b k->d k)(w:Cx (U b.1) (U b.1+1) d)(l:∀f∈i,f.Ok (U b.1) (U b.1+1) d)(y:qh (U b.1) b a i)(t:E i<=e)(q:E i<=1000000)(r:E (gX i [] []).1<=50000)(g:E (gX i [] []).2<=20000):bd aK 199 #[bC a 0 (E i) e] b (cQ (aZ (gX i [] []).1) b):=by have u:=du b<|aS #[aL ai 0 0,aL ai 0 0] 283;have h:a7 b (aO b<|aS #[aL ai 0 0,aL ai 0 0] 283):=ct cd bv _;have n:=ae<|MH e [] [] (p _ h) w ⟨_,_,u,jO _ _ _ _,jO _ _ _ _⟩ aA (λB g=>by cases g) l (y.tg (base:=U b.1+1) (dP.vz h)) t q r g;go_in;go_wp21;refine gU n ?_;rintro z J ⟨rfl,⟨D,I,o,j,_⟩,c⟩;have:=o.cells.1;have:=yc j;have aT:=ae<|(ct cd bv _).trans ⟨c.1,c.2,c.3,c.4,λx A=>c.5 x cx G<|bG G⟩;obtain⟨C,H,F,rfl⟩:=qk j;go_wp2;go_ret;exact BD
def Bf(a:Nat)(b:UInt8):List jK:=[tZ [],lj<|gs 41,lj<|gs 1232,lj<|nL b,lj<|eI [0,0,0],HI a 0 []]
def xU(a:UInt8):ap:=[0,0,41,4,208,a,0,0,0,0,0]
def OG{c:UInt8}:gX (Bf a c) [] []=(xU c,[]):=by
 have b:ei ([]:ap)=[]:=by first|rfl|simp[ei]|decide
 simp[gX,Bf,tZ,b,jd,lj,gs,nL,eI,HI,xG,xF,aN,cO,xU]
def Dz{P:Prop}(h:P:=by unfold aD; rw[h1];rfl):P:=h
def Zo(i c:Nat)(h:UInt8)(p:d3 b)(l:0<U b.1)(h1:b.1[i]? = ag (aS #[cV 291<|amz ⟨#[]⟩,cV 284<|ak .u16 41,cV 284<|ak .u16 1232,cV 292<|ak ck<|be h,cV 224<|amz ⟨#[0,0,0]⟩,cV 293<|aL (ag ⟨c,0,ai⟩) 0 0] 297))(j:b.1[c]? = ag (aS #[] 297)):bd aK 199 #[bC i 0 6 6] b (cQ (aZ<|xU h) b):=by
 have:=(ea.1 h1).1;have q:=(ea.1 j).1;have n:Cx (U b.1) (U b.1+1) (λd=>d3 d/\qh (U b.1) d c []):=λd r a o=>⟨a.1.tg o G l,a.2.tg o⟩;have:=ajj 6 (Bf c h) (λd k=>⟨p.below k,G,⟨_,_,(k.5 c q).trans j,bL,bL⟩,λg hj=>Di⟩) n (λf e=>?_) ⟨G,⟨_,_,h1,bL,bL⟩,λg hj=>?_⟩ (by simp[Bf]) (by simp[Bf]) (by rw[OG];simp[xU]) (by rw[OG];simp);{rw[OG]at this;exact this};{simp only[Bf,gC,uf,tf]at e;rcases e with rfl|rfl|rfl|rfl|rfl|rfl;{exact Cz aA (λ_ a=>a.1) G l};{exact qt<|nM _ G};{exact qt<|nM _ G};{exact qt<|vv _};{exact qt<|lD _};{exact UM n (λ_ a=>a.2) (λf e=>by cases e) aA aA}};{
 match g,hj with
 | 0,_=>exact Dz
 | 1,_=>exact Dz
 | 2,_=>exact Dz
 | 3,_=>exact Dz
 | 4,_=>exact Dz
 | 5,_=>exact Dz
 | g+6,hj=>simp[Bf]at hj;omega}
def ajk{o q r t:Int}{z k C l n:Int}{e:UInt8}(u:d3 b)(D:n=0\/n=2\/n=3\/n=5\/n=16)(y:ax<|e=UInt8.ofNat (c7 n/16)):bd aK 136 #[ir i o p q r t c g z k aE C l,J n] b (cQ (aZ<|xU e) b):=by have B:∀h,a7 b (aO b h):=λh=>ct cd bv _;have a:ax (∀A,a7 b A->d3 A):=λA w=>u.below w;unfold ir;rcases D with rfl|rfl|rfl|rfl|rfl<;>(go_in;go_wp2_with fail;refine(Zo (b.heap.size+1+1) (b.heap.size+1) e (a _<|((B _).alloc aA _).alloc hV _) aA ?_ ?_).mono ?_;{obtain rfl:=V y;have:=λd=>du<|aO (aO b d)<|aS #[] 297;simp only[gd]at this;exact this _ _};{have:=λd=>du (aO b d)<|aS #[] 297;simp only[gd]at this;exact(dT _ _ _ aA).trans<|this _};rintro F G ⟨rfl,x⟩;have j:=ae<|(((B _).alloc aA _).alloc hV _).trans<|bV x hV;go_wp2;go_ret;exact⟨af,j⟩)
def Jz{b}: ∀(c:List<|List D) (aH:my),E (jU i b a c aH).2=E aH.2
 | [],_=>af
 | d::c,aH=>by unfold jU;split;{rfl};{split;{rfl};{rw[Jz c];simp}}
def YU{h}: ∀(d:List<|List D) (aH:my) (c:Nat),(∀size∈aH.2,size<=c)->∀size∈(jU i h a d aH).2,size<=c+(b9 (·.length) d).sum
 | [],_,_,e=>λsize b=>cU (e size b)<|Ee _ _
 | g::d,aH,c,e=>by unfold jU;split;{grind};{split;{grind};{intro size b;have:=YU d _ (c+E g) (λsize b=>by{rcases K2 b with b|b;{grind};{rw[b,jw];by_cases aN:a<E aH.2;{simp_all};grind}}) size b;grind}}
def YV{size:Int}{aV i}: ∀(c:List<|List D) (aH:my) (b:Nat),(∀a∈c,∀g∈a,pH g<|aV g)->size<=b->E aH.1.1<=b->E aH.1.1<=E (jU size aV i c aH).1.1/\E (jU size aV i c aH).1.1<=b
 | [],_,_,_,_,d=>⟨cW _,d⟩
 | a::c,aH,b,e,h,d=>by unfold jU;split;{omega};{split;{grind};{rename_i k l;have n:=(CA aV a (e a aA) aH.1.1 aH.1.2).1;have:=YV (size:=size) (aV:=aV) (i:=i) c { aH with S:=eD aV a aH.1.1 aH.1.2,cs:=aH.2.set i (aH.2.getD i 0+E a) } b (λj o=>e j<|by grind) h (by grind);grind}}
def ajl(a):(b9 (·.length) (b9 (·.2)<|dw dj a)).sum<=E a:=by have b:=Nf a<|E<|dw dj a;unfold oj at b;grind
def YW{c}: ∀(a:Nat) (b:List<|List D) (aH:my),E (mQ i c a b aH).2=E aH.2
 | _,[],_=>af
 | a,d::b,aH=>by unfold mQ;rw[YW (a+1) b,Jz]
def YX{h}: ∀(g:Nat) (c:List<|List D) (aH:my) (b:Nat),(∀a∈aH.2,a<=b)->∀a∈(mQ i h g c aH).2,a<=b+(b9 (·.length) c).sum
 | _,[],_,_,d=>λa e=>cU (d a e)<|Ee _ _
 | g,size::c,aH,b,d=>by unfold mQ;intro a e;have:=YX (g+1) c _ _ (YU _ aH b d) a e;have j:=ajl size;grind
def OH{size:Int}{aV}: ∀(i:Nat) (b:List<|List D) (aH:my) (a:Nat),(∀c∈b,∀d∈c,pH d<|aV d)->size<=a->E aH.1.1<=a->E aH.1.1<=E (mQ size aV i b aH).1.1/\E (mQ size aV i b aH).1.1<=a
 | _,[],_,_,_,_,e=>⟨cW _,e⟩
 | i,c::b,aH,a,g,h,e=>by unfold mQ;have l:=YV (size:=size) (aV:=aV) (i:=i) (b9 (·.2)<|dw dj c) aH a (λp o d n=>by{obtain⟨k,j,rfl⟩:=lZ.1 o;exact g c aA d<|Ng j n}) h e;have q:=OH (i+1) b _ a (λk j=>g k<|by grind) h l.2;omega
def sc(a:Bool)(b:Int):Int:=if a=aE then min (max b 512) 1232 else 512
def sx(a:Bool)(b:Int):ap:=if a=aE then xU (UInt8.ofNat<|c7 b/16)else []
def xt(a:Bool)(i h:Int)(g d:ap)(c e b:List D):my:=mQ (sc a i-(E (sx a h):Int)) eS 0 [c,e,b] ⟨(List.replicate 12 0++g,jZ 12 d),[0,0,0],ao⟩
def C3(a:my)(b c:List D):Bool:=dQ (((a.2.getD 0 0:Nat):Int)<(E b:Int))||dQ (((a.2.getD 1 0:Nat):Int)<(E c:Int))
def OI(a:Nat)(c:Int)(b d:Bool):Int:=sE (sE (sT a c) 1024 b) 512 d
def Bi(l j:Nat)(a k:Bool)(i b:Int)(h g:ap)(c d e:List D):ap :=
 ew (jM l (c7<|OI j b k<|C3 (xt a i b h g c d e) c d) 1 ((xt a i b h g c d e).2.getD 0 0) ((xt a i b h g c d e).2.getD 1 0)<|cond a ((xt a i b h g c d e).2.getD 2 0+1)<|(xt a i b h g c d e).2.getD 2 0)++bh 12 ((xt a i b h g c d e).1.1++sx a b)
def ajm(g h c j k l q p o d r e)(a)(n:d3 b)(t:i=0\/i=2\/i=3\/i=5\/i=16):bd aK 136 #[ir g h c j k l q p o d a r e,J i] b (cQ (aZ<|sx a i) b):=by
 cases a with
 | false=>exact al4
 | true =>{exact ajk n t af}
def ajn(g h i j k l p o n d b e a c):bd aK 138 #[ir g h i j k l p o n d a b e] c (cQ (J<|sc a b) c):=by
 cases a with
 | false=>exact al3
 | true=>exact aji
def OJ(h:kN b e j)(c:d3 b):∃d v a ay,e=aL d (E j) v/\Cm e a ay j/\gr b a ay j:=by rcases h with⟨rfl,rfl⟩|⟨a,ay,g,rfl,i,k⟩;{exact⟨none,0,0,0,rfl,.inl ⟨rfl,rfl⟩,c.1,λn l=>by grind⟩};{exact⟨_,_,a,ay,af,bE ⟨g,af,i⟩,k⟩}
def ajo{a}(b:E a=3):a=[a.getD 0 0,a.getD 1 0,a.getD 2 0]:=by
 match a,b with
 | [c,d,e],_=>rfl
def FA(c:List D):Prop:=∀b∈dw dj c,∀(s:ap) (a:hi),jV a->E s<=1300->E a<=E s+300->E (eD eS b.2 s a).1<=50000/\E (eD eS b.2 s a).2<=20000/\E (eD eS b.2 s a).2<=E (eD eS b.2 s a).1+300
structure C4(l:List D):Prop where
 rr:∀r∈l,pH r (eS r)
 set:FA l
 len:l.length<=1000
def ajp{M N au aC aF ah S}(ar:d3 b)(aR:a<65536)(aT:kN b e j)(aU:kN b k q)(aV:kN b s y)(o:C4 j)(Q:C4 q)(A:C4 y)(a7:E c<=300)(aB:E g<=300)(a8:E (jZ 12 c)<=300)(aY:S=0\/S=2\/S=3\/S=5\/S=16)(av:sE (sT d S) 1024 H=(P:Int))(ay:P<65536)(aX:∀aW,∃h:Nat,sE P 512 aW=(h:Int)/\h<65536):bd aK 73 #[ir a d M N p au g c aC aF t i ah,ci #[J S,aG H,e,k,s]] b (cQ (aZ<|Bi a d t H i S g c j q y) b):=by
 obtain⟨Y,al,ac,T,rfl,aH,D⟩:=OJ aT ar;obtain⟨Z,an,ad,aM,rfl,aI,u⟩:=OJ aU ar;obtain⟨aa,aq,ae,V,rfl,aJ,I⟩:=OJ aV ar;have a2:E (sx t S)<=11:=by unfold sx;split<;>simp[xU]
 have a0:sc t i<=1232/\512<=sc t i:=by unfold sc;omega
 have aP:E ((List.replicate 12 0++g,jZ 12 c):ap×hi).1=12+E g:=by grind
 have⟨F,hF⟩:=dK<|xt t i S g c j q y;have W:E F.2=3:=hF▸YW _ _ _
 have a5:∀w∈F.2,w<=3000:=λw B=>by{rw[<- hF]at B;have:=YX 0 [j,q,y] _ 0 (λw B=>by grind) w B;have:=o.3;have M:=Q.3;have N:=A.3;grind};have a3:12+E g<=E F.1.1/\E F.1.1<=1300:=by{rw[<- hF,<- aP];exact OH 0 [j,q,y] ⟨(List.replicate 12 0++g,jZ 12 c),[0,0,0],ao⟩ 1300 (λa9 R L C=>by{simp only[gC,uf,tf]at R;rcases R with rfl|rfl|rfl;{exact o.rr L C};{exact Q.rr L C};{exact A.rr L C}}) G (by grind)};have K:∀l,F.cs.getD l 0<=3000:=λl=>by{rw[jw];by_cases aN:l<E F.2;{simp_all};grind};have⟨h,hb2,aOw⟩:=aX<|C3 F j q;have:=ajo W;have ab:Bi a d t H i S g c j q y=ew (jM a h 1 (F.2.getD 0 0) (F.2.getD 1 0)<|cond t (F.2.getD 2 0+1)<|F.2.getD 2 0)++bh 12 (F.1.1++sx t S):=by{grind[Bi,OI]};rw[ab];have:=K 0;have:=K 1;have:=K 2;refine aeP ar G G G af aR ay av G aB (C3 F j q) af hb2 aOw ?_ (λz aw=>ajm _ _ _ _ _ _ _ _ _ _ _ _ _ aw aY) (λz=>ajn _ _ _ _ _ _ _ _ _ _ _ _ _ z) G G G G G;intro z ba a6 a1 x r aj a4 X az aA;have:=ar.1;have O:=ahK (sc t i-(E (sx t S):Int)) eS j q y (List.replicate 12 0++g,jZ 12 c) X (aeN c G) (ar.below x) aj G G az aA (λl aN=>by{
 have:=o.3;have:=Q.3;have:=A.3;match l,aN with
 | 0,_=>exact⟨Y,_,al,j,ac,T,af,af,aH,D.below x,e8 D.1 r,cj D.1,G,o.1,af,o.2⟩
 | 1,_=>exact⟨Z,_,an,q,ad,aM,af,af,aI,u.below x,e8 u.1 r,cj u.1,G,Q.1,af,Q.2⟩
 | 2,_=>exact⟨aa,_,aq,y,ae,V,af,af,aJ,I.below x,e8 I.1 r,cj I.1,G,A.1,af,A.2⟩}) G G (by grind)
 rw[show mQ (sc t i-(E (sx t S):Int)) eS 0 [j,q,y] ⟨(List.replicate 12 0++g,jZ 12 c),[0,0,0],ao⟩=F from hF]at O;refine gU O ?_;grind
abbrev e7:=bm×bm×D×List ap
variable{R:List e7}
def kA(a:e7):List bm:=[a.1,J a.2.2.1.aP,J a.2.2.1.type,aZ a.2.2.1.data,a.2.1]
def o_(b:List<|List e7)(a:e7):List (List e7):=match b.getLast? with
 | some (c::d)=>if c.2.2.2=a.2.2.2/\c.2.2.1.type=a.2.2.1.type then b.dropLast++[(c::d)++[a]]else b++[[a]]
 | _=>b++[[a]]
def i6(a:List e7):List (List e7):=a.foldl o_ []
def ah2(c:a<E R):i6 (amA (a+1) R)=o_ (i6<|amA a R) R[a]:=by rw[i6,iH c,zL];rfl
def ah3{a}:o_ [] a=[[a]]:=rfl
def XD(c){b}(d){a}(e:b.2.2.2=a.2.2.2/\b.2.2.1.type=a.2.2.1.type):o_ (c++[b::d]) a=c++[(b::d)++[a]]:=by grind[o_]
def XE(c){b}(d){a}(e:¬(b.2.2.2=a.2.2.2/\b.2.2.1.type=a.2.2.1.type)):o_ (c++[b::d]) a=(c++[b::d])++[[a]]:=by grind[o_]
def ah4{c d}(a:R∈o_ c d):R∈c\/R=[d]\/∃e∈c,R=e++[d]:=by unfold o_ at a;split at a;{rename_i i h g;split at a;{rcases lc.1 a with a|a;{exact bG<|(List.dropLast_sublist c).subset a};grind};grind};grind
def N0:∀(g:List e7) (e:List<|List e7) (c:e7->Prop) (d:Nat),(∀b∈e,(∀a∈b,c a)/\E b<=d)->(∀a∈g,c a)->∀b∈g.foldl o_ e,(∀a∈b,c a)/\E b<=d+E g
 | [],e,c,d,h,_=>h
 | a::g,e,c,d,h,k=>by have p:=N0 g (o_ e a) c (d+1) (λb j=>by{rcases ah4 j with i|i|⟨n,i,o⟩;{grind};{grind};grind}) (λl q=>k l<|by grind);grind
def FF(b)(d:R∈i6 b):∀c∈R,c∈b:=(N0 b [] (·∈b) 0 (λR e=>by cases e) (λc g=>g) R d).1
def ah5{a}(c:a∈i6 R):E a<=E R:=by have:=(N0 R [] (·∈R) 0 (λa d=>by cases d) (λg e=>e) a c).2;omega
def jq(d:aQ)(v:bm)(b:List e7):Prop:=(v=bY/\b=[])\/∃c ay e,v=bC c ay (E b) e/\E b<=e/\c<U d.1 /\
 ∀a (g:a<E b),aD d (M c<|ay+a*5)=ag b[a].1/\aD d (M c<|ay+a*5+1)=ag (J b[a].2.2.1.aP)/\aD d (M c<|ay+a*5+2)=ag (J b[a].2.2.1.type)/\aD d (M c<|ay+a*5+3)=ag (amz<|O b[a].2.2.1.data)/\aD d (M c<|ay+a*5+4)=ag b[a].2.1
def jq.below(a:jq b e R)(k:a7 b f):jq f e R:=by rcases a with a|⟨o,ay,n,p,q,r,l⟩;{exact .inl a};{have v:∀(g:Addr) (i:Value),b.cell? g=ag i->aD f g=ag i:=λg i a=>(k.cell<|i8 b g a).trans a;exact bE ⟨o,ay,n,p,q,e8 r k.4,λd c=>⟨v _ _ (l d c).1,v _ _ (l d c).2.1,v _ _ (l d c).2.2.1,v _ _ (l d c).2.2.2.1,v _ _ (l d c).2.2.2.2⟩⟩}
def FG:∀(c:List e7) (a:Nat) (d:a<E c) (b:Nat),b<5->(fA kA c)[a*5+b]? = (kA c[a])[b]?
 | [],a,d,_,_=>by grind
 | g::c,0,_,b,e=>by rw[l5,rW,g8,GI<|by assumption];rfl
 | g::c,a+1,d,b,e=>by
  have h:a<E c:=by grind
  rw[l5,uC (by show 5<=_;omega)];have:(a+1)*5+b-E (kA g)=a*5+b:=by show(a+1)*5+b-5=_;omega
  rw[this,FG c a h b e];rfl
def Jj(n:b.ownsRow a 119 5 e (E R)<|fA kA R):jq b e R:=by rcases n.2 with⟨rfl,o⟩|⟨g,k,t,rfl,u,i,l,w,x,r⟩;{exact .inl ⟨rfl,iM o⟩};{refine .inr ⟨g,0,k,rfl,l,(ea.1 i).1,λd p=>?_⟩;have v:∀c,c<5->aD b (M g<|0+d*5+c)=(kA R[d])[c]?:=by{intro c q;have h:=FG R d p c q;rw[<- r,uD G]at h;rw[g8,<- h];grind[aD]};exact⟨v 0 G,v 1 G,v 2 G,v 3 G,v 4 G⟩}
structure qD(w:World)(base:Nat)(v:Value)(ps:List (Value×List e7)):Prop where
 own:w.ownsRow base 115 1 v ps.length (ps.map (·.1))
 yf:∀p∈ps,w.ownsRow base 119 5 p.1 p.2.length (p.2.flatMap kA)/\p.2≠[]
 aiZ:ps.Pairwise λp q=>p.1.ownBlock≠q.1.ownBlock
 aw:∀p∈ps,p.1.ownBlock≠v.ownBlock
def qD.nil(c b):qD c b (bY) []:=⟨jO c b _ 1,λd a=>(by cases a),.nil,λd a=>(by cases a)⟩
def qD.below{i g}(v:qD b a e g)(c:a7 b i):qD i a e g:=⟨jG v.1 c,λh d=>⟨jG (v.2 h d).1 c,(v.2 h d).2⟩,v.3,v.4⟩
def Df(e:aQ)(g:Nat)(v:bm)(a:List<|List e7):Prop:=(v=bY/\a=[])\/∃b h,v=bC b 0 (E a) h/\E a<=h/\b<U e.1/\g<=b/\∀c (j:c<E a),a[c]≠[]/\∃d,aD e (M b c)=ag d/\jq e d a[c]/\∀i,bW d=ag i->g<=i
def QU{P:Prop}(h:P:=by rcases h with h|⟨g,ay,cap,h1,h2,h3,h4⟩;{exact .inl h};{have hb:=hf.5 g h3<|hp g (by rw[h1];rfl);have:∀(o:Nat) (u:bm),aD w (M g o)=ag u->aD w' (M g o)=ag u:=λo u hu=>(ev (a:=⟨g,o,ai⟩) hb).trans hu;refine bE ⟨g,ay,cap,h1,h2,e8 h3 hf.4,λj hj=>?_⟩;simp_all}):P:=h
def jq.fr{p w w'}(h:jq w e R)(hf:cL p w w')(hp:∀g,bW e=ag g->p g):jq w' e R:=by exact QU
def Df.fr{p h}(o:Df b d e h)(g:cL p b f)(k:∀v,d<=v->p v):Df f d e h:=by rcases o with o|⟨c,q,r,t,i,j,w⟩;{exact .inl o};{refine .inr ⟨c,q,r,t,e8 i g.size,j,λl x=>?_⟩;have⟨hn,u,hu,hr,hk⟩:=w l x;exact⟨hn,u,(ev (a:=⟨c,l,ai⟩) (g.5 c i<|k c j)).trans hu,hr.fr g λv y=>k v<|hk v y,hk⟩}
def qD.at{d a}(v:qD f d e a):Df f d e (b9 (·.2) a):=by
 rcases v.1.2 with⟨rfl,u⟩|⟨k,j,r,rfl,n,i,t,w,x,q⟩;{exact bG ⟨af,by grind⟩};{
 refine bE ⟨k,j,aA,by grind,(ea.1 i).1,n,λb g=>?_⟩;rw[fC]at g;have c:=v.2 a[b]<|eP g;rw[rS];refine⟨c.2,a[b].1,?_,Jj c.1,λp o=>(c.1.lt p o).1⟩;have l:(b9 (·.1) a)[b]? = ag a[b].1:=by grind
 rw[<- q,uD G]at l;grind[aD]}
section
variable {w w2 w3:World} {base:Nat} {v vl u v':Value} {ps:List (Value×List e7)} {gl:List e7} {x:e7}
theorem qD.aMg{go cap}(b:qD w base v<|ps++[(vl,gl)])(k:v=bC go 0 (E ps+1) cap)(j:w.grownBy w2<|bW vl)(y:w2.ownsRow base 119 5 v' (E gl+1)<|fA kA gl++kA x)(C:bW v'=bW vl\/bW v'=ag (U w.1)):qD (a_ w2 ⟨go,E ps,ai⟩ v') base v (ps++[(v',gl++[x])])/\∀n,n<=base->cB n w w2->cB n w (a_ w2 ⟨go,E ps,ai⟩ v'):=by
 have B:(vl,gl)∈ps++[(vl,gl)]:=aA;have q:=b.4 _ B;have e:=b.1.kept j<|bE<|Ne.symm q;have u:=b.1.lt;rw[dE,kq]at e;have l:bW v=ag go:=by rw[k];rfl
 have:=u go l;have h:=K_ (g:=go) (n:=E ps+1) (cap:=cap) (by rw[k]at e;exact e) (E ps) v';have r:(b9 (·.1) ps++[(vl,gl)].map (·.1)).set (E ps) v'=b9 (·.1) (ps++[(v',gl++[x])]):=by{simp};rw[r]at h;have o:=pL.1 b.3;have z:=λp a=>o.2.2 p a (vl,gl) aA;have:∀(c:bm×List e7),c∈ps++[(vl,gl)]->bW c.1≠ag (U w.1):=λc A d=>by{have:=((b.2 c A).1.lt _ d).2;omega}
 have G:bW v'≠bW v:=λd=>by{grind};have F:∀p∈ps,bW p.1≠bW v':=λp a d=>by{grind};refine⟨⟨?_,?_,?_,?_⟩,?_⟩;{grind};{intro p a;rcases lc.1 a with a|a;{have i:=b.2 p (by grind);exact⟨(i.1.kept j<|bE<|z p a).kept h.2<|bE<|l▸b.4 p (by grind),i.2⟩};{simp only[BU]at a;subst a;refine⟨?_,aA⟩;have:=y.kept h.2 (bE<|by grind);grind}};{grind};{intro p a;rcases lc.1 a with a|a;{exact b.4 p<|by grind};grind};{intro n D t;exact fk t (p:=⟨go,E ps,ai⟩) (by grind) _}
theorem qD.au7(c:qD w base v ps)(n:a7 w w2)(i:w2.ownsRow base 119 5 u 1<|kA x)(j:bW u=ag (U w.1))(h:w2.grownBy w3<|bW v)(q:w3.ownsRow base 115 1 v' (E ps+1) (b9 (·.1) ps++[u]))(l:bW v'=bW v\/bW v'=ag (U w2.1)):qD w3 base v' (ps++[(u,[x])]):=by
 have:=c.1.lt;have:=(i.lt _ j).2;have:=λb a o d=>((c.2 b a).1.lt o d).2;have k:bW u≠bW v:=λd=>by grind
 have p:∀b∈ps,bW b.1≠bW v':=λb a d=>by{rcases l with e|e;{exact c.aw b a<|d.trans e};grind};refine⟨?_,?_,?_,?_⟩;{grind};{intro b a;rcases lc.1 a with a|a;{have g:=c.2 b a;exact⟨(jG g.1 n).kept h<|bE<|c.4 b a,g.2⟩};{simp only[BU]at a;subst a;refine⟨?_,aA⟩;have:=i.kept h<|bE k;assumption}};{refine pL.2 ⟨c.3,.cons (λ_ c=>by cases c) .nil,λb a t r=>?_⟩;grind};grind
end
def XF:aK.underlying 231=ag (.slice 115):=b8
def ah6:(aK.info? 115).map (λa=>(a.8,a.3,a.4))=ag (ag<|bY,1,24):=b8
def XG(j:a=U b.1)(i:TypeId):∀(g:Nat) (d:bm),[e][g]? = ag d->aD (aO b<|aS #[e] i) (((M a 0):kC).add g)=ag d:=λg d c=>by
 have h:=du b<|aS #[e] i;rw[<- j]at h
 match g,c with
 | 0,c=>simp at c;subst c;simp[Addr.add,aD,h]
 | k+1,c=>grind
def ah7(d:aQ)(o:a=U d.1){g}(n:TypeId):∀(c:Nat) (h:bm),[s,F,k,e,g][c]? = ag h->aD (aO d<|aS #[s,F,k,e,g] n) (((M a 0):kC).add c)=ag h:=λc h j=>by
 have b:=du d<|aS #[s,F,k,e,g] n;rw[<- o]at b
 match c,j with
 | 0,j=>simp at j;subst j;simp[Addr.add,aD,b]
 | 1,j=>simp at j;subst j;simp[Addr.add,aD,b]
 | 2,j=>simp at j;subst j;simp[Addr.add,aD,b]
 | 3,j=>simp at j;subst j;simp[Addr.add,aD,b]
 | 4,j=>simp at j;subst j;simp[Addr.add,aD,b]
 | p+5,j=>grind
def mj(a:List ap):Nat:=(a.map λb=>E b+1).sum
def zf:mj (c::r)=E c+1+mj r:=dS
def zg:∀a:List ap,E a<=mj a
 | []=>cW _
 | c::b=>by have:=zg b;rw[zf,ey];omega
def Jk:∀(f:Nat) (a:ap),E a<=f->mj (I 46 a)=E a+1
 | f,a,c=>by
  rcases pe 46 a with⟨g,b⟩|⟨h,d,e,g,b⟩;{rw[b];rfl};{
  match f,c with
  | 0,c=>grind
  | f+1,c =>{rw[b,zf,Jk f d<|by grind,e];grind}}
def zh:∀(b:List ap) (a:ap) (es:ia),E a<=E (dv b a es).1/\E (dv b a es).1<=E a+mj b+2/\E es<=E (dv b a es).2/\E (dv b a es).2<=E es+E b
 | [],a,es=>by simp[dv];omega
 | c::d,a,es=>by
  cases e:kV (eA (c::d)) es with
  | some g=>rw[y9 e];simp
  | none =>{rw[ul e,zf];have:=zh d (a++(UInt8.ofNat (E c)::c))<|es++[(eA (c::d),E a)];grind}
def Jl:∀(g:List ap) (d:ap) (b:ia),E d+mj g<=1000000->E g<=1000->(∀a∈b,E a.1<=1000/\a.2<=1000000)->∀a∈(dv g d b).2,E a.1<=1000/\a.2<=1000000
 | [],d,b,_,_,e=>e
 | l::j,d,b,k,h,e=>by
  cases i:kV (eA (l::j)) b with
  | some n=>rw[y9 i];exact e
  | none =>{rw[ul i];rw[zf]at k;rw[ey]at h;refine Jl j _ _ (by grind) G λa c=>?_;rcases lc.1 c with c|c;{grind};{simp only[BU]at c;subst c;exact⟨by rw[rF,ey];exact h,G⟩}}
def oO:wd->Nat
 | []=>0
 | .inl b::a=>E b+oO a
 | .inr c::a=>E c+3+oO a
def Jn:∀(g:wd) (a:ap) (b:ia),E a<=E (ff g a b).1/\E (ff g a b).1<=E a+oO g/\E (ff g a b).2<=E b+oO g
 | [],a,b=>by simp[ff,oO]
 | .inl e::c,a,b=>by have:=Jn c (a++e) b;rw[dE]at this;show _<=E (ff c (a++e) b).1/\E (ff c (a++e) b).1<=E a+(E e+oO c)/\E (ff c (a++e) b).2<=E b+(E e+oO c);omega
 | .inr d::c,a,b=>by have h:=zh (I 46 d) a b;have i:=Jn c (dv (I 46 d) a b).1 (dv (I 46 d) a b).2;have j:=Jk _ d bv;have k:=zg<|I 46 d;show _<=E (ff c (dv (I 46 d) a b).1 (dv (I 46 d) a b).2).1/\E (ff c (dv (I 46 d) a b).1 (dv (I 46 d) a b).2).1<=E a+(E d+3+oO c)/\E (ff c (dv (I 46 d) a b).1 (dv (I 46 d) a b).2).2<=E b+(E d+3+oO c);omega
def NE:∀(h:wd) (a:ap) (b:ia),E a+oO h<=900000->oO h<=900->(∀c∈b,E c.1<=1000/\c.2<=1000000)->∀c∈(ff h a b).2,E c.1<=1000/\c.2<=1000000
 | [],a,b,_,_,d=>d
 | .inl k::i,a,b,e,g,d=>by simp only[oO]at e g;exact NE i (a++k) b (by grind) G d
 | .inr j::i,a,b,e,g,d=>by simp only[oO]at e g;have l:=Jk _ j bv;have n:=zg<|I 46 j;have o:=zh (I 46 j) a b;exact NE i _ _ G G<|Jl _ a b G G d
structure DW(x:e7):Prop where
 dat:eG x.2.2.1.type (I 32 x.2.2.1.data)=true
 aP:x.2.2.1.aP<4294967296
 len:x.2.2.1.data.length<=3000
 ne:x.2.2.2≠[]
 lab:∀y∈x.2.2.2,y.length<=255
 sum:mj x.2.2.2<=300
def Pa{P:Prop}(h:P:=by have:=(jp hp).2;rw[bJ G,bJ G,bJ G,bJ G];simp[oO,iF,dM];omega):P:=h
def XL{h}(g:eG h.type (I 32 h.data)=aE):oO (f_ h)<=300:=by
 have e:=x9 g;rcases e with e|e|e|e|e|e;all_goals rw[e]at g
 all_goals unfold f_
 {have⟨a,dM,hall,hl4⟩:=NX g;rw[b7 e,vf dM];simp[oO,hl4]};{have⟨a,dM,hp⟩:=xD (t:=2) (bG af) g;exact Pa};{have⟨a,dM,hp⟩:=xD (t:=5) (bE af) g;exact Pa};{have⟨a,b,c,d,dM,Oy,qF,_,_⟩:=E_ g;have:=(jp Oy).2;have:=(jp qF).2;rw[bJ G,bJ G,bJ G,b7 e];simp[oO,iF,dM,g9];omega};{have⟨a,b,dM,_,qF⟩:=Fa g;have:=(jp qF).2;rw[bJ G,bJ G,b7 e];simp[oO,iF,dM];omega};{have⟨a,dM,hl⟩:=XQ g;rw[bJ G,b7 e,vf dM];simp[oO];omega}
def ah9{a}(e:DW a)(b c):E b<=E (nG a.2.2.1 a.2.2.2 b c).1/\E (nG a.2.2.1 a.2.2.2 b c).1<=E b+700/\E (nG a.2.2.1 a.2.2.2 b c).2<=E c+700/\(E b<=500000->(∀d∈c,E d.1<=1000/\d.2<=1000000)->∀d∈(nG a.2.2.1 a.2.2.2 b c).2,E d.1<=1000/\d.2<=1000000):=by
 have:=zh a.2.2.2 b c;have:=e.6;have:=zg a.2.2.2;have:=XL e.1;have:=Jn (f_ a.2.2.1) (ly a.2.2.1 (dv a.2.2.2 b c).1) (dv a.2.2.2 b c).2;have:E (ly a.2.2.1 (dv a.2.2.2 b c).1)=E (dv a.2.2.2 b c).1+10:=by simp[ly,g9]
 have g:E (nG a.2.2.1 a.2.2.2 b c).1=E (ff (f_ a.2.2.1) (ly a.2.2.1 (dv a.2.2.2 b c).1) (dv a.2.2.2 b c).2).1:=by{show(_++_++_:ap).length=_;grind};have h:(nG a.2.2.1 a.2.2.2 b c).2=(ff (f_ a.2.2.1) (ly a.2.2.1 (dv a.2.2.2 b c).1) (dv a.2.2.2 b c).2).2:=af;rw[g,h];exact⟨G,G,G,λj i=>NE _ _ _ G G<|Jl _ b c G G i⟩
def k_(d:List e7)(c:ap)(es:ia):ap×ia:=d.foldl (λa b=>nG b.2.2.1 b.2.2.2 a.1 a.2) (c,es)
def ah_(e:a<E R)(c d):k_ (amA (a+1) R) c d=nG R[a].2.2.1 R[a].2.2.2 (k_ (amA a R) c d).1 (k_ (amA a R) c d).2:=by rw[k_,iH e,zL];rfl
def X7:∀(c:List e7),(∀d∈c,DW d)->∀(a:ap) (b:ia),E a<=E (k_ c a b).1/\E (k_ c a b).1<=E a+700*E c/\E (k_ c a b).2<=E b+700*E c/\(E a+700*E c<=500000->(∀e∈b,E e.1<=1000/\e.2<=1000000)->∀e∈(k_ c a b).2,E e.1<=1000/\e.2<=1000000)
 | [],_,a,b=>⟨cW _,cW _,cW _,λ_ g=>g⟩
 | d::c,g,a,b=>by have i:=ah9 (g d aA) a b;have j:=X7 c (λh l=>g h<|by grind) (nG d.2.2.1 d.2.2.2 a b).1 (nG d.2.2.1 d.2.2.2 a b).2;have k:k_ (d::c) a b=k_ c (nG d.2.2.1 d.2.2.2 a b).1 (nG d.2.2.1 d.2.2.2 a b).2:=af;grind
def aia{a b}:(o_ a b).flatten=a.flatten++[b]:=by
 unfold o_;split;{
 rename_i e d j;split;{
 have i:a=a.dropLast++[e::d]:=by{
 have c:a≠[]:=λg=>by grind
 have h:=KT c;grind};grind};{simp}};{simp}
def X8:∀(b:List e7) (a:List<|List e7),(b.foldl o_ a).flatten=a.flatten++b
 | [],a=>by simp
 | c::b,a=>by rw[GH,X8 b,aia,jI];rfl
def O4(a):(i6 a).flatten=a:=by rw[i6,X8];rfl
def aib(a b):E (o_ a b)<=E a+1:=by grind[o_]
def X9:∀(b:List e7) (a:List<|List e7),E (b.foldl o_ a)<=E a+E b
 | [],a=>cW _
 | c::b,a=>by have d:=X9 b<|o_ a c;have e:=aib a c;grind
def aic(a):E (i6 a)<=E a:=by have:=X9 a [];simpa [i6]using this
def NF:∀(d:wd) (a:ap) (es:ia),E es<=E (ff d a es).2
 | [],a,es=>cW _
 | .inl c::b,a,es=>NF b (a++c) es
 | .inr e::b,a,es=>cU (zh (I 46 e) a es).2.2.1<|NF b _ _
def X_:∀(c:List e7) (a:ap) (es:ia),E es<=E (k_ c a es).2
 | [],a,es=>cW _
 | b::c,a,es=>cU (cU (zh b.2.2.2 a es).2.2.1<|NF (f_ b.2.2.1) _ _)<|X_ c (nG b.2.2.1 b.2.2.2 a es).1 (nG b.2.2.1 b.2.2.2 a es).2
structure s9 where
 S:ap
 es:ia
 cs:List Nat
 tc:Bool
 full:Bool
def pc(c d b:Nat):List (List e7)->s9->s9
 | [],aH=>aH
 | a::e,aH=>if aH.5=aE then aH else if c<E (k_ a aH.1 aH.2).1+d then { aH with tc:=dQ<|b<2,full:=aE }
  else pc c d b e { aH with S:=(k_ a aH.1 aH.2).1,es:=(k_ a aH.1 aH.2).2,cs:=aH.3.set (b+1) (aH.3.getD (b+1) 0+E a) }
def NG{b aH}(g:aH.5=aE):pc a d P b aH=aH:=by
 cases b with
 | nil=>rfl
 | cons e b=>grind[pc]
def Yb{e aH}(g:aH.5=ao)(h:a<E (k_ R aH.1 aH.2).1+d):pc a d P (R::e) aH = { aH with tc:=dQ<|P<2,full:=aE }:=by grind[pc]
def Yc{e aH}(g:aH.5=ao)(h:¬a<E (k_ R aH.1 aH.2).1+d):pc a d P (R::e) aH=pc a d P e { aH with S:=(k_ R aH.1 aH.2).1,es:=(k_ R aH.1 aH.2).2,cs:=aH.3.set (P+1) (aH.3.getD (P+1) 0+E R) }:=by
 conv=>lhs;unfold pc
 grind
def tV(b c:Nat):Nat->List (List e7)->s9->s9
 | _,[],aH=>aH
 | a,d::e,aH=>tV b c (a+1) e<|pc b c a (i6 d) aH
def gJ:ap:=[116,119,101,108,118,101,32,98,121,116,101,115]
def NH(a:Nat):ap:=[0,0,41]++[aN 1232,cO 1232]++[UInt8.ofNat<|a/16,0,0,0,0,0]
def zj(a:Bool)(b:Nat):Nat:=if a=aE then max 512 (min b 1232)else 512
def qK(a:Bool)(b:Nat):ap:=if a=aE then NH b else []
def Dg(e:ap)(d:List ap)(a:Bool)(g b:Nat)(c:List<|List e7):s9 :=
 tV (zj a g) (E<|qK a b) 0 c ⟨gJ++e,(dv d gJ []).2,[1,0,0,E (qK a b)/11],ao,ao⟩
def Bs(s e:ap)(d:List ap)(b:Bool)(g a:Nat)(h:Bool)(c:List<|List e7):ap :=
 qi s h (Dg e d b g a c).4 a (Dg e d b g a c).3++bh 12 (Dg e d b g a c).1++qK b a
def aid{l}(g:gb b a c e)(p:gP b d a e l)(t:E c<=900000):bd aK 144 #[N a,bY] b λo k=>o=bg (bX #[])/\∃j,gb k a (dv [] c l).1 j/\gP k d a j (dv [] c l).2/\gn a b e k j:=by
 have n:=ae<|un g p (gn.refl _ _ _) cd<|c++[0];have:=g.cells;have:=g.frozen;have:O c++⟨#[0]⟩=O (c++[0]):=ua c [0];have r:(O c).size<=1000000:=m7
 have:ByteArray.size ⟨#[0]⟩=1:=af;go_wp2;go_loopw [4,5] (λq i wr=>q=bY/\i=J 0/\wr=b) λ_ _ _=>0;·simp
 ·(
 obtain⟨rfl,rfl,h⟩:=hrel;have v:=bZ h;subst v;go_wp2;go_loopw [6] (λi wr=>i=J 0/\wr=b) λ_ _=>0;·simp
 ·(obtain⟨rfl,h⟩:=hrel;have v:=bZ h;subst v;go_wp2;exact lG (v:=bX #[]) (by simp[dr,results144]) af ⟨af,_,n⟩))
def FH(e:aQ)(d:bm)(a:List ap):Prop:=(a=[]/\d=bY)\/(a≠[]/\∃c b,d=bC c 0 (E a) b/\E a<=b/\iy e c 0 a)
def aie(i){d}(C:FH f k r)(u:a7 f b)(F:U f.1<=a)(J:∀q,bW e=ag q->U f.1<=q)(o:gb b a g e)(n:gP b i a e d)(t:i<=U b.1)(z:E r<=300)(B:∀D∈r,E D<=255)(l:E g<=900000)(y:∀c∈d,E c.1<=1000/\c.2<=1000000)(x:E d<=900000):bd aK 144 #[N a,k] b λc h=>c=bg (bX #[])/\∃j,gb h a (dv r g d).1 j/\gP h i a j (dv r g d).2/\gn a b e h j:=by rcases C with⟨rfl,rfl⟩|⟨A,I,H,rfl,w,p⟩;{exact aid o n l};{have:=p.1;exact Mu o n (p.below u) w G (λc=>by grind) t A z B l y x}
def aif{es cs}(r:gP b a d e es)(o:im b P cs 3)(p)(aN:p<E cs)(B):gP (a_ b ⟨P,p,ai⟩<|ak am B) a d e es:=by
 obtain⟨C,t,k,u⟩:=r;have y:bW e≠ag P:=λg=>by{
 rcases k.2 with⟨rfl,_⟩|⟨c,j,F,rfl,_,q,_⟩;{cases g};{
 have:c=P:=by simpa [bW]using g
 rw[this,o]at q;grind}};refine⟨C,t,El k (row:=ag P) ⟨af,af,af,aA,λA _ x=>tJ b (M P p) A _ λg=>x<|by rw[g]⟩ (bE y),λD z=>?_⟩;have⟨c,ay,j,e1,e2,e3,e4⟩:=u D z;refine⟨c,ay,j,e1,e2,⟨e8 e3.1 aA,λh w=>?_⟩,e4⟩;have l:=e3.2 h w;have:=o.cell p aN;by_cases n:c=P;{
 subst n;have:ay+h≠p:=λg=>by grind
 refine Eq.trans ?_ l;grind[aD,a_]};{exact(ev (a:=⟨c,ay+h,ai⟩) (tJ b (M P p) c _ n)).trans l}
def Yd(e d)(i:d=E e)(h:E e<=hC)(g:b.1[a]? = ag (aS ((e.map λc=>ak ck<|be c).toArray) 5)):(convert 58 9<|bC a 0 d d).run aK b=.ok (aZ e) b:=by subst i;exact yc (base:=0) ⟨aA,bE ⟨a,E e,(e.map λc=>ak ck<|be c).toArray,af,eb _,g,cW _,h,aA,by rw[uJ];exact oT aA⟩⟩
def Ks{P:Prop}(h:P:=by exact⟨ai,0,by rw[h,h0];rfl⟩):P:=h
def aig(aw:jq b e R)(bD:∀ah∈R,gG b ah.1 ah.2.2.2/\gG b ah.2.1 (I 32 ah.2.2.1.data)/\E ah.2.2.2<=1000)(cJ:E R<=1000):bd aK 145 #[e] b λF bU=>∃aB,F=bg aB/\Df bU (U b.1) aB (i6 R)/\a7 b bU:=by
 have⟨cp,cz,cm,cn,co⟩:=jN LY;have⟨j0,hj0,EX,hy1,hy2⟩:=jN ah6;obtain⟨cM,cN,y⟩:∃a Y,e=aL a (E R) Y:=by
  rcases aw with⟨h,h0⟩|⟨g,ay,cap,h,_⟩
  ·exact Ks
  ·exact⟨_,_,h⟩
 have a9:=ae aw;have ba:=ae bD;clear aw bD;subst y;go_wp2
 go_loopw [3,4] (λbR bf wr=>∃(c:Nat) (ab:List<|bm×List e7),bf=ak am c/\c<=E R/\E ab<=c/\(∃a Y,bR=aL a (E ab) Y)/\ax (qD wr (U b.1) bR ab)/\ax (b9 (·.2) ab=i6 (amA c R))/\ax (a7 b wr)) λ_ bf _=>E R-c7 (intOf bf)
 ·exact⟨0,[],af,G,aA,⟨ai,0,af⟩,qD.nil _ _,af,dz _ _⟩
 ·obtain⟨c,ab,rfl,aN,cg,⟨bP,aR,rfl⟩,z,Q,D⟩:=hrel;by_cases av:c<E R
  ·have cr:(c:Int)<E R:=G;rcases V a9 with⟨_,h0⟩|⟨g,ay,cap,y,cH,cK,bS⟩
   ·rw[h0]at av;simp at av
   obtain⟨rfl,-,rfl⟩:=np y;have⟨A,bA,c2,c3,cD⟩:=bS c av;have⟨n1,n2,n3⟩:=V ba R[c]<|eP av;have al:=ae<|ah2 av;have⟨ah,aw⟩:=dK<|R[c]
   rw[aw]at A bA c2 c3 cD n1 n2 n3 al;obtain⟨cO,cI,v,d⟩:=ah;simp only at A bA c2 c3 cD n1 n2 n3;have cu:=ae n1;obtain⟨r,bH,q,rfl,_,_⟩:=n1;obtain⟨eE,p,lU,rfl,_,_⟩:=n2;generalize bO:E (I 32 v.data)=o at *;have aP:ax (∀u,a7 b u->aD u ⟨g,ay+c*5,ai⟩=ag (aL (ag ⟨r,bH,ai⟩) (E d) q)/\aD u ⟨g,ay+c*5+1,ai⟩=ag (ak am v.aP)/\aD u ⟨g,ay+c*5+2,ai⟩=ag (ak am v.type)/\aD u ⟨g,ay+c*5+3,ai⟩=ag (amz<|O v.data)/\aD u ⟨g,ay+c*5+4,ai⟩=ag (aL (ag ⟨eE,p,ai⟩) o lU)):=λu ar =>
    have w:∀(a:kC) (e:bm),aD b a=ag e->aD u a=ag e:=λa e h=>(ar.cell<|i8 b a h).trans h
    ⟨w _ _ A,w _ _ bA,w _ _ c2,w _ _ c3,w _ _ cD⟩
   clear A bA c2 c3 cD aw bS y a9;have b8:=D.4;rcases si ab with rfl|⟨ac,⟨bn,l⟩,bJ⟩
   ·have A:=V aP wr<|V D;have X:ax (i6 (amA (c+1) R)=[[(aL (ag ⟨r,bH,ai⟩) (E d) q,aL (ag ⟨eE,p,ai⟩) o lU,v,d)]]):=by
     rw[ax,V al,<- V Q];rfl
    clear aP al bO;have P:=z.1;have:E ([]:List<|bm×List e7)<=1000:=by first|omega|simp
    go_wp2_with (at_builtin;go_loud (refine vL _ af (.tmp 60) (.tmp 66) 231 af (U b.1) 115 j0 (aL ai 0 0) 1 24 XF hj0 EX hy1 hy2 af bL _ (E ([]:List<|bm×List e7)) _ af (jG P<|(ct cd bv _).alloc aA _) ⟨U wr.1+1,0,ai⟩ 1 1 [aL (ag ⟨U wr.1,0,ai⟩) 1 1] af af (XG aA _) (λa0 hu=>Bw) m9 G cx ?_));intro aB aT N j bc M;have aM:(aO (aO wr<|aS #[aL (ag ⟨r,bH,ai⟩) (E d) q,ak am v.aP,ak am v.type,amz<|O v.data,aL (ag ⟨eE,p,ai⟩) o lU] 119)<|aS #[aL (ag ⟨U wr.1,0,ai⟩) 1 1] 115).ownsRow (U b.1) 119 5 (aL (ag ⟨U wr.1,0,ai⟩) 1 1) 1 (kA (aL (ag ⟨r,bH,ai⟩) (E d) q,aL (ag ⟨eE,p,ai⟩) o lU,v,d)) :=
     (World.ownsRow_lit wr #[aL (ag ⟨r,bH,ai⟩) (E d) q,ak am v.aP,ak am v.type,amz<|O v.data,aL (ag ⟨eE,p,ai⟩) o lU] 1 G m9 af).alloc _
    have H:=(((dz (U wr.1) wr).alloc bv<|aS #[aL (ag ⟨r,bH,ai⟩) (E d) q,ak am v.aP,ak am v.type,amz<|O v.data,aL (ag ⟨eE,p,ai⟩) o lU] 119).alloc aA<|aS #[aL (ag ⟨U wr.1,0,ai⟩) 1 1] 115)
    have aC:=kX P;have aJ:=ae (z.au7 H aM af j N<|by simpa using M);have aI:=ae<|bN D<|(bV H b8).trans ⟨j.1,j.2,j.3,j.4,λw bC=>j.5 w (cj H.4) λF=>cj<|(aC w<|bZ F).1⟩;obtain⟨bp,aU,rfl⟩:∃a Y,aB=aL a (E ([]:List<|bm×List e7)+1) Y:=by
     rcases N.2 with⟨_,h0⟩|⟨g,Z,aH,y,_⟩
     ·omega
     ·exact⟨_,_,y⟩
    clear N j bc M aM H aC P;go_wp2;exact⟨⟨c+1,_,dH,G,aA,⟨bp,aU,aA⟩,aJ,by rw[V X];rfl,aI⟩,ee⟩
   ·rw[se]at bJ;subst bJ;have C:(bn,l)∈ac++[(bn,l)]:=aA;obtain⟨go,b0⟩:∃go,bP=ag ⟨go,0,ai⟩:=by
     rcases z.1.2 with⟨_,h0⟩|⟨g,Z,aH,y,_⟩
     ·simp at h0
     ·exact⟨g,(np y).1⟩
    subst b0;obtain⟨x,B,bY⟩:∃x B,bn=aL (ag ⟨x,0,ai⟩) (E l) B:=by
     rcases(z.2 _ C).1.2 with⟨_,h0⟩|⟨g,Z,aH,y,_⟩
     ·exact absurd (iM h0) (z.2 _ C).2
     ·exact⟨g,Z,y⟩
    subst bY;have⟨i,ft⟩:=bi<|E ac;have aa:E (ac++[(aL (ag ⟨x,0,ai⟩) (E l) B,l)])=i+1:=by rw[dE,ft];rfl
    have cL:i+1<=aR:=by
     rcases z.1.2 with⟨_,h0⟩|⟨g,Z,aH,y,_,_,bl,_⟩
     ·simp at h0
     ·have:=(np y).2.2;rw[aa]at bl;omega
    rw[aa]at cg;have:E l<=B:=by
     rcases(z.2 _ C).1.2 with⟨_,h0⟩|⟨g,Z,aH,y,_,_,bl,_⟩
     ·exact absurd (iM h0) (z.2 _ C).2
     ·have:=(np y).2.2;have:E l<=Z:=bl;omega
    have T:ax (qD wr (U b.1) (aL (ag ⟨go,0,ai⟩) (i+1) aR)<|ac++[(aL (ag ⟨x,0,ai⟩) (E l) B,l)]):=by rw[ax,<- aa];exact z
    rw[aa];obtain⟨aj,aZ,n⟩:∃aj aZ,l=aj::aZ:=by
     cases l with
     | nil=>exact absurd af (z.2 _ C).2
     | cons aj aZ=>exact⟨aj,aZ,af⟩
    have cF:0<E l:=by rw[n];simp
    have aV:l∈i6 (amA c R):=by rw[<- V Q];simp
    have a3:=zP<|FF _ aV aj (by rw[n];simp);have:E l<=c:=cU (ah5 aV) (by rw[jF];omega);obtain⟨bk,-,bM⟩:=V ba aj a3;have bu:=ae bk;obtain⟨cP,cG,an,S⟩:=aj;simp only at bk bM bu;obtain⟨b1,cA,aU,rfl,-,-⟩:=bk;have a5:ax (∀u,a7 wr u->aD u ⟨go,i,ai⟩=ag (aL (ag ⟨x,0,ai⟩) (E l) B)/\aD u ⟨x,0,ai⟩=ag (aL (ag ⟨b1,cA,ai⟩) (E S) aU)/\aD u ⟨x,2,ai⟩=ag (ak am an.type)):=λu ar=>by
     have w:∀(a:kC) (e:bm),aD wr a=ag e->aD u a=ag e:=λa e h=>(ar.cell<|i8 wr a h).trans h;have bF:=T.1;rw[aa]at bF;have aq:=nz bF i G;have bx:=nz (T.2 _ C).1 0 (by show 0<E l*5;omega);have bz:=nz (T.2 _ C).1 2 (by show 2<E l*5;omega);rw[kq,uC (by rw[fC,ft];exact cW _),fC,<- ft,sm]at aq;simp only[n,l5]at bx bz;exact⟨w _ _ aq,w _ _ bx,w _ _ bz⟩
    have bT:=ae λu (ar:a7 b u)=>up (bu.below ar) (cu.below ar) bM n3;have a1:ax (S=d/\an.type=v.type->i6 (amA (c+1) R)=b9 (·.2) ac++[l++[(aL (ag ⟨r,bH,ai⟩) (E d) q,aL (ag ⟨eE,p,ai⟩) o lU,v,d)]]):=λh=>by
     rw[V al,<- V Q,kq,n];exact XD _ _ h
    have a6:ax (¬(S=d/\an.type=v.type)->i6 (amA (c+1) R)=b9 (·.2) (ac++[(aL (ag ⟨x,0,ai⟩) (E l) B,l)])++[[(aL (ag ⟨r,bH,ai⟩) (E d) q,aL (ag ⟨eE,p,ai⟩) o lU,v,d)]]):=λh=>by
     rw[V al,<- V Q,n,kq];exact XE _ _ h
    have:=(T.1.lt go af).2;have:=((T.2 _ C).1.lt x af).2;have⟨k0,k1,k2⟩:=V a5 wr cd;have⟨A,bA,c2,c3,cD⟩:=V aP wr<|V D;have cS:aD (bq wr) ⟨go,i,ai⟩=_:=k0;have b_:aD (bq wr) ⟨x,0,ai⟩=_:=k1;have ca:aD (bq wr) ⟨g,ay+c*5,ai⟩=_:=A;have cC:am.wrap (((i+1:Nat):Int)-1)=(i:Int):=fT
    have cE:am.wrap ((i:Int)+1-1)=(i:Int):=fT
    have:0<=(i:Int):=G;have:(i:Int)<((i+1:Nat):Int):=G;have:0<(E l:Int):=G;have:=ae<|cv n<|cv aV a3;have az:=ae<|cv ft aa;clear n aV a3 ft aa z al Q k0 k1 k2 A bA c2 c3 cD bO;go_wp2;go_region_with (go_at_call 117;refine(bT _ D.drew).m ?_;intro k bB)
    all_goals
     have aF:a7 wr k:=(cd.drew).trans bB;have W:=ae<|bN D<|bV aF D.4;have:=aF.4;have aY:=ae<|T.below aF;have⟨k0,k1,k2⟩:=V a5 k aF;have⟨A,bA,c2,c3,cD⟩:=V aP k<|V W;clear bB aF T bT cS b_ ca a5 aP D;simp only[List.getElem_toArray,fw,e9,Act.put,mK,kH,lp];by_cases ad:S=d/\an.type=v.type
     ·have X:=ae<|a1 ad;have cl:(an.type==v.type)=aE:=by simp[ad.2]
      rw[mL ad.1];clear a1 a6 ad;go_wp2;go_quiet (fail);have J:=kv (dz (U k.1) k) nq;have L:=ae<|aY.below J;have aW:=ae<|bN W<|bV J W.4;have bj:aD (ef k nq) ⟨go,i,ai⟩=ag (aL (ag ⟨x,0,ai⟩) (E l) B):=k0;have b4:aD (ef k nq) ⟨g,ay+c*5,ai⟩=ag (aL (ag ⟨r,bH,ai⟩) (E d) q):=A;have b5:aD (ef k nq) ⟨g,ay+c*5+1,ai⟩=ag (ak am v.aP):=bA;have b6:aD (ef k nq) ⟨g,ay+c*5+2,ai⟩=ag (ak am v.type):=c2;have b7:aD (ef k nq) ⟨g,ay+c*5+3,ai⟩=ag (amz<|O v.data):=c3;have b2:aD (ef k nq) ⟨g,ay+c*5+4,ai⟩=ag (aL (ag ⟨eE,p,ai⟩) o lU):=cD;have ch:=J.4;clear J A bA c2 c3 cD k0 k1 k2 aY W;generalize ef k nq=t at *;go_wp2;have br:=L.4 _ C;have bs:=(L.2 _ C).1;have ap:=az.2;have K:=L.1;rw[ap]at K;have bQ:=Gg K i;have bb:ag go≠bW (aL (ag ⟨x,0,ai⟩) (E l) B):=λF=>br<|bZ F;have b3:aD (bq<|aO t<|aS #[aL (ag ⟨r,bH,ai⟩) (E d) q,ak am v.aP,ak am v.type,amz<|O v.data,aL (ag ⟨eE,p,ai⟩) o lU] 119) ⟨go,i,ai⟩=ag (aL (ag ⟨x,0,ai⟩) (E l) B):=(ev (a:=⟨go,i,ai⟩) (dT t _ go G)).trans bj;have a8:=ae bs;have bo:=ae λcy=>dT t cy go G;clear K bs br
      go_region_law (first|(refine step_append_lies _ rfl (.tmp 52) (.tmp 57) 115 rfl b.heap.size 119 cp _ 5 80 HJ cz cm cn co rfl bL _ l.length (l.flatMap kA) rfl (jG (V a8) (cd.alloc bv _).drew) _ 1 1 (kA (.slice (some ⟨r,bH,none⟩) d.length q,.slice (some ⟨eE,p,none⟩) o lU,v,d)) rfl rfl (λcq a0 ce=>ah7 t af _ cq a0 ce) (λa0 hu=>by simp[kA]at hu;rcases hu with rfl|rfl|rfl|rfl|rfl<;>rfl) bL m9 G cx (U t.1+1) aA ?_;intro bw bt aT bI j M cf;have cb:=(vH (a:=⟨go,i,ai⟩) ((j.5 go cx bb).trans<|bo _)).trans bQ;have cs:=(ev (a:=⟨go,i,ai⟩) ((j.5 go cx bb).trans<|bo _)).trans bj))
      all_goals
       have aX:=(L.below ((dz (U t.1) t).alloc bv _).drew).aMg (go:=go) (cap:=aR) (by rw[<- az.1]) j bI (M.imp (λh=>bZ h) (λh=>by rw[h];simp;rfl));rw[<- az.1]at aX;have a2:=(ct aW G<|aS #[aL (ag ⟨r,bH,ai⟩) (E d) q,ak am v.aP,ak am v.type,amz<|O v.data,aL (ag ⟨eE,p,ai⟩) o lU] 119).drew;have cc:=(a8.lt x af).1;have au:World.grownBy _ aT (ag x):=j;have bK:cB (U b.1) (bq<|aO t<|aS #[aL (ag ⟨r,bH,ai⟩) (E d) q,ak am v.aP,ak am v.type,amz<|O v.data,aL (ag ⟨eE,p,ai⟩) o lU] 119) aT:=⟨au.1,au.2,au.3,au.4,λw bC=>au.5 w (cj a2.4) λF=>absurd (ih F) G⟩
       have aJ:=ae aX.1;have aI:=ae<|bN a2<|aX.2 _ bv bK;clear aX a2 bK cc bI au j M cf cb cs L aW a8 bo b3 bQ bb;generalize a_ aT ⟨go,i,ai⟩ (aL (ag ⟨bw,0,ai⟩) (E l+1) bt)=cQ at *;go_wp2;exact⟨⟨c+1,ac++[(aL (ag ⟨bw,0,ai⟩) (E l+1) bt,l++[(aL (ag ⟨r,bH,ai⟩) (E d) q,aL (ag ⟨eE,p,ai⟩) o lU,v,d)])],dH,G,by rw[dE,<- az.1];simp;omega,⟨ag ⟨go,0,ai⟩,aR,by rw[dE,<- az.1];rfl⟩,aJ,by rw[V X,kq];rfl,aI⟩,ee⟩
     ·have X:=ae<|a6 ad;have cw:dQ (S=d)=ao\/(dQ (S=d)=aE/\(an.type==v.type)=ao):=by
       by_cases aq:S=d
       ·right;exact⟨mL aq,by simpa using λh=>ad ⟨aq,h⟩⟩
       ·exact bG<|gD aq
      clear a1 a6 ad;have ap:=az.2;rcases cw with a4|⟨a4,cl⟩
      all_goals
       rw[a4];clear a4;go_wp2;go_quiet (fail);have J:=kv (dz (U k.1) k) nq;have L:=ae<|aY.below J;have aW:=ae<|bN W<|bV J W.4;have bj:aD (ef k nq) ⟨go,i,ai⟩=ag (aL (ag ⟨x,0,ai⟩) (E l) B):=k0;have b4:aD (ef k nq) ⟨g,ay+c*5,ai⟩=ag (aL (ag ⟨r,bH,ai⟩) (E d) q):=A;have b5:aD (ef k nq) ⟨g,ay+c*5+1,ai⟩=ag (ak am v.aP):=bA;have b6:aD (ef k nq) ⟨g,ay+c*5+2,ai⟩=ag (ak am v.type):=c2;have b7:aD (ef k nq) ⟨g,ay+c*5+3,ai⟩=ag (amz<|O v.data):=c3;have b2:aD (ef k nq) ⟨g,ay+c*5+4,ai⟩=ag (aL (ag ⟨eE,p,ai⟩) o lU):=cD;have ch:=J.4;clear J A bA c2 c3 cD k0 k1 k2 aY W;generalize ef k nq=t at *;have K:=L.1;rw[ap]at K;replace K:=ae K;have P:=V K;go_wp2_with (at_builtin;go_loud (refine vL _ af (.tmp 60) (.tmp 66) 231 af (U b.1) 115 j0 (aL ai 0 0) 1 24 XF hj0 EX hy1 hy2 af bL _ (i+1) _ af (jG P<|(ct cd bv _).alloc aA _) ⟨U t.1+1,0,ai⟩ 1 1 [aL (ag ⟨U t.1,0,ai⟩) 1 1] af af (XG aA _) (λa0 hu=>Bw) m9 G cx ?_));intro aB aT N j bc M;have aM:(aO (aO t<|aS #[aL (ag ⟨r,bH,ai⟩) (E d) q,ak am v.aP,ak am v.type,amz<|O v.data,aL (ag ⟨eE,p,ai⟩) o lU] 119)<|aS #[aL (ag ⟨U t.1,0,ai⟩) 1 1] 115).ownsRow (U b.1) 119 5 (aL (ag ⟨U t.1,0,ai⟩) 1 1) 1 (kA (aL (ag ⟨r,bH,ai⟩) (E d) q,aL (ag ⟨eE,p,ai⟩) o lU,v,d)) :=
        (World.ownsRow_lit t #[aL (ag ⟨r,bH,ai⟩) (E d) q,ak am v.aP,ak am v.type,amz<|O v.data,aL (ag ⟨eE,p,ai⟩) o lU] 1 G m9 af).alloc _
       have H:=(((dz (U t.1) t).alloc bv<|aS #[aL (ag ⟨r,bH,ai⟩) (E d) q,ak am v.aP,ak am v.type,amz<|O v.data,aL (ag ⟨eE,p,ai⟩) o lU] 119).alloc aA<|aS #[aL (ag ⟨U t.1,0,ai⟩) 1 1] 115)
       have aC:=kX P;have aJ:=ae (L.au7 H aM af j (by rw[ap];simpa using N)<|by simpa using M);have aI:=ae<|bN aW<|(bV H G).trans ⟨j.1,j.2,j.3,j.4,λw bC=>j.5 w (cj H.4) λF=>cj<|(aC w<|bZ F).1⟩;obtain⟨bp,aU,rfl⟩:∃a Y,aB=aL a (i+1+1) Y:=by
        rcases N.2 with⟨_,h0⟩|⟨g,Z,aH,y,_⟩
        ·omega
        ·exact⟨_,_,y⟩
       clear N j bc M aM H aC P;go_wp2;exact⟨⟨c+1,_,dH,G,by rw[dE,ap];simp;omega,⟨bp,aU,by rw[dE,ap];rfl⟩,aJ,by rw[V X,kq];rfl,aI⟩,ee⟩
  ·obtain rfl:c=E R:=G;have cr:¬(E R:Int)<E R:=G;have X:ax (Df wr (U b.1) (aL bP (E ab) aR)<|i6 R):=by
    have:=z.at
    rw[V Q,ld]at this;exact this
   clear av z Q ba a9;go_wp2;go_ret;exact⟨_,af,X,D⟩
structure Dh(w0 W:World)(cb lb ab:Nat)(rc:Int)(aa:Bool)(va vu vd:Value)(cs:List Nat):Prop where
 c:im W cb (cs.map λn:Nat=>(n:Int)) 3
 l:W.heap[lb]? = some (.cells #[va,vu,vd] 115)
 a:gz W ab rc aa va vu vd
 b:a7 w0 W
 hc:w0.heap.size<=cb
 hl:w0.heap.size<=lb
 ha:w0.heap.size<=ab
 ne:lb≠cb/\ab≠cb
section
variable {w0 W:World} {cb lb ab:Nat} {rc:Int} {aa:Bool} {va vu vd:Value} {cs:List Nat} (h:Dh w0 W cb lb ab rc aa va vu vd cs)
include h
theorem Dh.below(a:a7 W b):Dh w0 b cb lb ab rc aa va vu vd cs :=
 ⟨(a.5 cb h.1.lt).trans h.1,(a.5 lb (ea.1 h.2).1).trans h.2,h.3.kept<|a.5 ab h.3.lt,bN h.4<|bV a h.4.4,h.5,h.6,h.7,h.8⟩
theorem Dh.set(d n:Nat)(aN:d<E cs):Dh w0 (a_ W ⟨cb,d,ai⟩<|ak am (n:Int)) cb lb ab rc aa va vu vd (cs.set d n) where
 c:=by rw[GK];exact h.1.set d n
 l:=(tJ W (M cb d) lb _ h.8.1).trans h.2
 a:=h.3.kept (tJ W (M cb d) ab _ h.8.2)
 b:=fk h.4 (p:=⟨cb,d,ai⟩) h.5 _
 hc:=h.5
 hl:=h.6
 ha:=h.7
 ne:=h.8
end
structure we(w0 W:World)(cb lb ab wb:Nat)(rc:Int)(aa:Bool)(va vu vd:Value)(v:Value)(aH:s9)(n:Nat):Prop where
 wr:gb W wb aH.S v
 ow:gP W w0.heap.size wb v aH.es
 aw:Dh w0 W cb lb ab rc aa va vu vd aH.cs
 ajb:w0.heap.size<=wb
 sl:aH.S.length<=1300
 el:aH.es.length<=300+700*n
 Wp:∀e∈aH.es,e.1.length<=1000/\e.2<=1000000
 cl:aH.cs.length=4
 cn:∀c∈aH.cs,c<=2+n
 lo:12<=aH.S.length
def we.below{i:Nat}{k:bm}{aH:s9}{n:Nat}(l:we b f a i d P p t k e s F aH n)(v:a7 f m):we b m a i d P p t k e s F aH n :=
 ⟨l.1.below v,l.2.below v,l.3.below v,l.4,l.5,l.6,l.7,l.8,l.9,l.10⟩
def we.mono{o:Nat}{aH:s9}{h m:Nat}(v:we f b a P d o i t e s k F aH h)(r:h<=m):we f b a P d o i t e s k F aH m :=
 ⟨v.1,v.2,v.3,v.4,v.5,cU v.6 G,v.7,v.8,λp q=>cU (v.9 p q) G,v.10⟩
def ahX{h:ia}(v:gP b a P e h)(p:d<=a):gP b d P e h:=by obtain⟨t,n,g,o⟩:=v;refine⟨t,n,⟨g.1,?_⟩,o⟩;rcases g.2 with v|⟨l,i,j,k,q,r⟩;{exact bG v};{exact bE ⟨l,i,j,k,cU p q,r⟩}
def ahY(v:a7 b f)(c:gn a f e m k)(n:U b.1<=a)(i:∀l,bW e=ag l->U b.1<=l):a7 b m :=
 ⟨c_ c.1.1 v.1,c_ c.1.2 v.2,c_ c.1.3 v.3,cU v.4 c.1.4,λl h=>(c.1.5 l (e8 h v.4) ⟨G,λj=>by have:=i l<|bZ j;omega⟩).trans<|v.5 l h⟩
def Jo(a:List<|List e7)(b:Nat):E (amA b a).flatten<=E a.flatten:=by
 conv=>rhs;rw[<- lP b a]
 rw[List.flatten_append,dE];omega
def ahZ{b:List<|List e7}(c:a<E b):E (amA (a+1) b).flatten=E (amA a b).flatten+b[a].length:=by rw[iH c,List.flatten_append,dE];simp
def ah0:bd aK 83 #[J 1232] b (cQ (aZ [aN 1232,cO 1232]) b):=qa 1232 b G
def P6{P:Prop}(h:P:=by
 cases hf:aH.5
 ·exact absurd ⟨h1,hf⟩ hc
 ·rfl):P:=h
def P3{P:Prop}(h:P:=by simp only[gC,uf,tf]at hc;rcases hc with rfl|rfl|rfl|rfl<;>omega):P:=h
def Ih{P:Prop}(h:P:=by rw[<- V WA];exact O4 iw):P:=h
def Kt{P:Prop}(h:P:=by exact(dT (aO w fO) eV (U w.1) aA).trans<|du w fO):P:=h
def ah1{cq:Int}{cZ:bm}{j l:List e7}{w:aQ}(fD:12<=E c)(gx:E c<=2000000)(L:FH w k r)(fh:E g<=1000)(dB:mj r<=300)(db:∀n∈r,E n<=255)(f9:d<4096)(bK:a<65536)(cJ:jq w s R)(cy:jq w F j)(cK:jq w cZ l)(eb:∀n∈R++(j++l),gG w n.1 n.2.2.2/\gG w n.2.1 (I 32 n.2.2.1.data))(di:∀n∈R++(j++l),DW n)(ey:E R<=100)(fm:E j<=100)(fg:E l<=100)(bk:R++(j++l)≠[]->r≠[]):bd aK 78 #[aZ c,ci #[aZ g,k,J i,J cq,aG t,J a,J p],ci #[J d,aG H,s,F,cZ]] w λe w'=>e=bg (aZ<|Bs c g r t a d H [R,j,l])/\a7 w w':=by
 obtain⟨aa,ad,eq⟩:∃cY B,s=aL cY (E R) B:=by rcases cJ with⟨h,e⟩|⟨_,_,_,h,_⟩;exact⟨ai,0,by rw[h,e];rfl⟩;exact⟨_,_,h⟩
 obtain⟨Z,al,fi⟩:∃cY B,F=aL cY (E j) B:=by rcases cy with⟨h,e⟩|⟨_,_,_,h,_⟩;exact⟨ai,0,by rw[h,e];rfl⟩;exact⟨_,_,h⟩
 obtain⟨ac,ah,er⟩:∃cY B,cZ=aL cY (E l) B:=by rcases cK with⟨h,e⟩|⟨_,_,_,h,_⟩;exact⟨ai,0,by rw[h,e];rfl⟩;exact⟨_,_,h⟩
 obtain⟨bD,bQ,bP,f6⟩:∃cY bn B,k=aL cY bn B:=by rcases L with⟨_,h⟩|⟨_,_,_,h,_⟩<;>exact⟨_,_,_,h⟩
 have eE:=ae L;have ge:=ae cJ;have fj:=ae cy;have ep:=ae cK;have cG:=ae eb;have dO:=ae di;have fe:=ae db;have ga:=ae bk;clear L cJ cy cK eb di db bk;subst eq fi er f6;have⟨fO,sH⟩:=bi (aS #[amz<|O g,aL bD bQ bP,ak am i,ak am cq,aG t,ak am a,ak am p] 144:nQ)
 have⟨eV,pT⟩:=bi (aS #[ak am d,aG H,aL aa (E R) ad,aL Z (E j) al,aL ac (E l) ah] 123:nQ)
 have cw:ax (a7 w<|aO (aO w fO) eV):=(ct cd bv _).alloc aA _;have d9:U (aO (aO w fO) eV).1=U w.1+2:=aA;have c8:(aO (aO w fO) eV).1[U w.1]? = ag (aS #[amz<|O g,aL bD bQ bP,ak am i,ak am cq,aG t,ak am a,ak am p] 144):=by
  rw[<- sH];exact Kt
 have c9:gz (aO (aO w fO) eV) (U w.1+1) d H (aL aa (E R) ad) (aL Z (E j) al) (aL ac (E l) ah):=by
  have:=du (aO w fO) eV;rw[gd]at this;unfold gz;rw[this,pT]
 have b0:=ae c8;have bs:=ae c9;clear c8 c9;have⟨D,avm⟩:=bi<|zj t a;have⟨G9,avn⟩:=bi<|qK t d;have aq:=ae<|cv avm avn;clear avm avn;go_in
 go_upto_if 20 with fail
 rw[<- sH,<- pT];have⟨w1,hw1⟩:=dK<|aO (aO w fO) eV
 rw[hw1]at cw d9 b0 bs ⊢;have:U w.1+2<=U w1.1:=G;clear hw1 sH pT d9
 go_cut [7,8]from 21 to 33 λa5 f5 f_=>a5=J D/\f5=aZ G9/\ax (a7 w1 f_)
 ·have cA:=V b0;have fX:aD w1 (M (U w.1) 5)=ag (J a):=by simp[aD,cA]
  have aM:=bs.cells.1;cases t with
  | false =>
   have aW:D=512/\G9=[]:=by rw[aq.1,aq.2];exact pf
   clear cA fX aM;go_wp2;go_meet
   ·exact⟨by rw[aW.1];rfl,by rw[aW.2];rfl,dz _ _⟩
  | true =>
   have aW:((D:Nat):Int)=max 512 (min (a:Int) 1232)/\G9=NH d:=by
    rw[aq.1,aq.2];refine⟨?_,af⟩;show((max 512 (min a 1232):Nat):Int)=_;omega
   have dC:aD (bq w1) (M (U w.1+1) 0)=ag (J d):=aM;have⟨u,hu⟩:=bi<|UInt8.ofNat<|d/16
   have⟨cF,Dp⟩:=bi<|d/16;have:(d:Int)/16=(cF:Int):=G;have gy:ck.wrap (cF:Int)=(be u:Int):=FN
   have:=jW (cF:Int)
   have b8:G9=[0,0,41]++[aN 1232,cO 1232]++[u,0,0,0,0,0]:=by rw[aW.2,hu];rfl
   have:=ae b8;have dV:=aW.1;have eQ:=ae dV;have:(convert 58 9<|bC (U w1.1) 0 6 6).run aK (bq<|aO w1<|aS #[ak ck<|be u,ak ck 0,ak ck 0,ak ck 0,ak ck 0,ak ck 0] 5)=.ok (aZ [u,0,0,0,0,0]) (bq<|aO w1<|aS #[ak ck<|be u,ak ck 0,ak ck 0,ak ck 0,ak ck 0,ak ck 0] 5):=Yd [u,0,0,0,0,0] 6 af Bu<|du w1 _;have eR:aD (bq<|aO w1<|aS #[ak ck<|be u,ak ck 0,ak ck 0,ak ck 0,ak ck 0,ak ck 0] 5) (M (U w.1+1) 0)=ag (J d):=(ev (a:=⟨U w.1+1,0,ai⟩) (dT w1 _ (U w.1+1) G)).trans aM;have:(O [u,0,0,0,0,0]).size=6:=af;have:(O [aN 1232,cO 1232]).size=2:=af;have:ByteArray.size ⟨#[0,0,41]⟩=3:=af;have bM:(⟨#[0,0,41]⟩:ByteArray)++O [aN 1232,cO 1232]=O [0,0,41,aN 1232,cO 1232]:=af;have:(O [0,0,41,aN 1232,cO 1232]).size=5:=af;have bO:O [0,0,41,aN 1232,cO 1232]++O [u,0,0,0,0,0]=O G9:=by rw[b8];exact qM
   clear cA hu Dp aW b8 dV;go_wp2;go_region_with (go_at_call 83;refine(ah0).m ?_;intro au T;have:=(T.cell (p:=⟨U w.1+1,0,ai⟩) (by show U w.1+1<_;simp;omega)).trans (by first|exact dC|exact eR);have:(convert 58 9<|bC (U au.1) 0 6 6).run aK (aO au<|aS #[ak ck<|be u,ak ck 0,ak ck 0,ak ck 0,ak ck 0,ak ck 0] 5)=.ok (aZ [u,0,0,0,0,0]) (aO au<|aS #[ak ck<|be u,ak ck 0,ak ck 0,ak ck 0,ak ck 0,ak ck 0] 5):=AG au [u,0,0,0,0,0] 6 af Bu;try have:=Yd [u,0,0,0,0,0] 6 af Bu<|(T.5 (U w1.1) aA).trans<|du w1 _)
   all_goals
    go_wp2;go_meet
    ·refine⟨fE (ak am)<|bZ eQ,af,?_⟩
     first
      | exact(cd.drew).trans<|ct T T.4 _
      | exact((ct cd bv _).drew).trans<|bV T aA
 ·obtain⟨rfl,rfl,dP⟩:=hcut;generalize wc=au at *;have T:=V dP;have:=T.4;have b1:au.1[U w.1]? = _:=(T.5 (U w.1) G).trans<|V b0;have ej:aD au (M (U w.1) 1)=ag (aL bD bQ bP):=by simp[aD,b1]
  have en:=bs.kept<|T.5 (U w.1+1) G;have eg:=ae b1;have em:=ae en;have br:=bN cw<|bV T G;have b_:=ae br;have⟨z,dm⟩:=bi<|E G9;have:(O G9).size=z:=by rw[de,dm]
  have gl:z<=11:=by
   rw[dm,aq.2];unfold qK;split
   ·exact cW _
   ·simp
  have gm:512<=D/\D<=1232:=by
   rw[aq.1];unfold zj;split<;>omega
  have⟨Rx,Fo⟩:=bi (aS #[amz<|O gJ,aL ai 0 0] 229:nQ)
  have eS:=dB;have eB:=cU (zg r) dB;have dX:gb (aO au Rx) (U au.1) gJ (bY):=by unfold gb;rw[du,Fo]
  have a6:a7 au (aO au Rx):=ct cd bv _;have dD:=ae<|aie (U w.1) (V eE) (bN br<|bV a6 br.4) G (λY aP=>by cases aP) dX (gP.nil _ _ _) cx eB (V fe) bL (λe bf=>by cases bf) aA;have f7:=ae dm;have eT:aD (aO au<|aS #[amz ⟨#[116,119,101,108,118,101,32,98,121,116,101,115]⟩,aL ai 0 0] 229) (M (U w.1) 1)=ag (aL bD bQ bP):=(ev (a:=⟨U w.1,1,ai⟩) (dT au _ (U w.1) G)).trans ej;clear T en b1 br dm eS dP cw b0 bs;go_wp2_with fail;have dF:aS #[amz ⟨#[116,119,101,108,118,101,32,98,121,116,101,115]⟩,aL ai 0 0] 229=Rx:=bZ Fo;rw[dF];refine dD.m ?_;rintro q ⟨cX,bu,dG,aJ⟩;have fF:=aJ.1.4;rw[gd]at fF;have bU:=λY aP=>(aJ.1.5 Y cx ⟨G,λe=>by cases e⟩).trans<|a6.5 Y aP;have dI:=(bU (U w.1) G).trans<|V eg;have fW:aD q (M (U w.1) 0)=ag (aZ g):=by simp[aD,dI]
  have c6:=em.kept<|bU (U w.1+1) G;have dU:=bN b_ ⟨c_ aJ.1.1 a6.1,c_ aJ.1.2 a6.2,c_ aJ.1.3 a6.3,G,λY aP=>bU Y<|cj b_.4⟩;have ca:=un bu dG (gn.refl _ _ _) cd<|gJ++g;have fG:∀Y,bW cX=ag Y->U w.1+2<=Y:=λY aP=>by
   rcases aJ.2 Y aP with h|h
   ·cases h
   ·rw[gd]at h;omega
  have b7:=c6.kept (w':=a_ q ⟨U au.1,0,ai⟩<|amz<|O<|gJ++g) (tJ q (M (U au.1) 0) (U w.1+1) _ (by show U w.1+1≠U au.1;omega));have cr:=fk dU (p:=⟨U au.1,0,ai⟩) (by show U w.1<=U au.1;omega) (aZ<|gJ++g);have fN:(⟨#[116,119,101,108,118,101,32,98,121,116,101,115]⟩:ByteArray)++O g=O (gJ++g):=ua gJ g;have ff:ByteArray.size ⟨#[116,119,101,108,118,101,32,98,121,116,101,115]⟩=12:=af;have eU:(O g).size<=1000:=by rw[de];exact fh
  have fz:=bu.frozen;have OW:=bu.cells;have⟨aM,a1,a2,a3,a4⟩:=b7.cells;have⟨A,avt⟩:=bi<|z/11
  have ec:(z:Int)/11=(A:Int):=G;have fK:=jW (A:Int)
  have fL:(z:Int).tdiv 11=(A:Int):=by rw[Int.tdiv_eq_ediv_of_nonneg G];exact ec
  have cT:ax (E ((dv r gJ []).2)<=300/\∀e∈(dv r gJ []).2,E e.1<=1000/\e.2<=1000000):=by
   have h1:=zh r gJ [];refine⟨by simp at h1;omega,Jl r gJ [] (by show 12+mj r<=1000000;omega) G λe bf=>by cases bf⟩
  have dk:ax (∀(C Q:nQ),C=aS #[ak am 1,ak am 0,ak am 0,ak am A] 3->Q=aS #[aL aa (E R) ad,aL Z (E j) al,aL ac (E l) ah] 115 ->
    we w (aO (aO (a_ q ⟨U au.1,0,ai⟩<|amz<|O<|gJ++g) C) Q) (U q.1) (U q.1+1) (U w.1+1) (U au.1) d H (aL aa (E R) ad) (aL Z (E j) al) (aL ac (E l) ah) cX ⟨gJ++g,(dv r gJ []).2,[1,0,0,A],ao,ao⟩ 0):=λC Q a9 ba=>by
   have bK:U (a_ q ⟨U au.1,0,ai⟩<|amz<|O<|gJ++g).1=U q.1:=aA;have aC:cB (U (a_ q ⟨U au.1,0,ai⟩<|amz<|O<|gJ++g).1) (a_ q ⟨U au.1,0,ai⟩<|amz<|O<|gJ++g) (aO (aO (a_ q ⟨U au.1,0,ai⟩<|amz<|O<|gJ++g) C) Q):=(ct cd bv _).alloc aA _;refine⟨ca.1.below aC,ca.2.1.below aC,⟨?_,?_,b7.kept<|aC.5 _ (by rw[bK];omega),bN cr<|bV aC cr.4,G,G,G,G,G⟩,G,by show(gJ++g).length<=1300;rw[dE];show 12+E g<=1300;omega,cT.1,cT.2,af,λB hc=>?_,by show 12<=E (gJ++g);rw[dE];show 12<=12+E g;omega⟩
   ·have h1:(aO (aO (a_ q ⟨U au.1,0,ai⟩<|amz<|O<|gJ++g) C) Q).1[U q.1]? = ag C:=by
     have h0:=du (a_ q ⟨U au.1,0,ai⟩<|amz<|O<|gJ++g) C;rw[bK]at h0;exact(dT (aO (a_ q ⟨U au.1,0,ai⟩<|amz<|O<|gJ++g) C) Q (U q.1) aA).trans h0
    unfold im;rw[h1,a9];rfl
   ·have:=du (aO (a_ q ⟨U au.1,0,ai⟩<|amz<|O<|gJ++g) C) Q;rw[gd,bK]at this;rw[this,ba]
   ·exact P3
  clear bu dG aJ bU dI c6 ca b7 dU cr dX a6 dD eg em b_ cT dF Fo fL;have:A<=1:=G;replace avt:=ae avt;have bw:∀(C:nQ) (b:Nat),aD (aO (a_ q ⟨U au.1,0,ai⟩<|amz<|O<|gJ++g) C) (M (U w.1+1) b)=aD (a_ q ⟨U au.1,0,ai⟩<|amz<|O<|gJ++g) (M (U w.1+1) b):=λC b=>ev (a:=⟨U w.1+1,b,ai⟩) (dT _ _ (U w.1+1) cx);have fn:=(bw (aS #[ak am 1,ak am 0,ak am 0,ak am A] 3) 2).trans a2;have fo:=(bw (aS #[ak am 1,ak am 0,ak am 0,ak am A] 3) 3).trans a3;have fp:=(bw (aS #[ak am 1,ak am 0,ak am 0,ak am A] 3) 4).trans a4;clear bw aM a1 a2 a3 a4;go_wp2;have⟨C,a9⟩:=bi (aS #[ak am 1,ak am 0,ak am 0,ak am A] 3:nQ)
  have⟨Q,ba⟩:=bi (aS #[aL aa (E R) ad,aL Z (E j) al,aL ac (E l) ah] 115:nQ)
  rw[<- a9,<- ba];have dJ:=ae<|dk C Q a9 ba;have:U q.1+2<=U (aO (aO (a_ q ⟨U au.1,0,ai⟩<|amz<|O<|gJ++g) C) Q).1:=aA;clear dk fn fo fp a9 ba;generalize aO (aO (a_ q ⟨U au.1,0,ai⟩<|amz<|O<|gJ++g) C) Q=f8 at *;have⟨cb,hcb⟩:=bi<|U q.1;have⟨ST0,Ww⟩:=bi (⟨gJ++g,(dv r gJ []).2,[1,0,0,A],ao,ao⟩:s9)
  have⟨ab,hab⟩:=bi<|U w.1+1;rw[<- hcb,<- hab,<- Ww]at dJ;have dR:ax (Dg g r t a d [R,j,l]=tV D z 0 [R,j,l] ST0):=by
   unfold Dg;rw[ax,<- aq.1,<- aq.2,<- V f7,<- V avt,<- Ww]
  have⟨FIN,Oh⟩:=dK<|tV D z 0 [R,j,l] ST0
  have fu:=ae Oh;rw[Oh]at dR;rw[<- hcb,<- hab];have dc:(aG ao)=aG ST0.4/\(aG ao)=aG ST0.5:=by rw[Ww];exact pf
  have c4:=ae dc;have:U w.1+3<=cb/\cb+2<=U f8.1:=G;have:U w.1<=ab/\ab<cb:=G;have eD:ax (R++(j++l)≠[]->ST0.2≠[]):=λh=>by
   have L:=V ga h;rw[Ww];show(dv r gJ []).2≠[];cases r with
   | nil=>exact absurd af L
   | cons n cM =>
    rw[ul dS];intro bf;have:=(zh cM (gJ++(UInt8.ofNat (E n)::n))<|[]++[(eA (n::cM),E gJ)]).2.2.1;rw[bf]at this;simp at this
  clear Ww hcb hab Oh dc OW fW ej eT fz fN ff eU ec fK fG;have co:∀b,b<3->∃(cY:Option kC) (bn Y:Nat) (n:List e7),[aL aa (E R) ad,aL Z (E j) al,aL ac (E l) ah][b]? = ag (aL cY bn Y)/\[R,j,l].drop b=n::[R,j,l].drop (b+1)/\jq w (aL cY bn Y) n/\E n<=100/\(∀c0∈n,c0∈R++(j++l))/\bn=E n:=λb aN=>by
   match b,aN with
   | 0,_=>exact⟨aa,_,ad,R,af,af,ge,ey,λc0 W=>by simp[W],af⟩
   | 1,_=>exact⟨Z,_,al,j,af,af,fj,fm,λc0 W=>by simp[W],af⟩
   | 2,_=>exact⟨ac,_,ah,l,af,af,ep,fg,λc0 W=>by simp[W],af⟩
  replace co:=ae co
  go_loopw [9,11,12,14] (λc2 cP cz X wr=>∃(b P:Nat) (v:bm) (aH:s9),c2=N P/\cP=aG aH.4/\cz=aG aH.5/\X=J b/\b<=3/\ax (we w wr cb (cb+1) ab P d H (aL aa (E R) ad) (aL Z (E j) al) (aL ac (E l) ah) v aH<|100*b)/\ax (tV D z b ([R,j,l].drop b) aH=FIN)/\ax (R++(j++l)≠[]->aH.2≠[])/\cb+2<=U wr.1) λ_ _ _ X _=>3-c7 (intOf X)
  ·exact⟨0,U au.1,cX,ST0,af,c4.1,c4.2,af,G,dJ,fu,eD,G⟩
  ·obtain⟨b,P,v,aH,rfl,rfl,rfl,rfl,aN,cR,bA,aB,gv⟩:=hrel;by_cases da:b<3
   ·have ez:(b:Int)<3:=G;obtain⟨fP,go,fQ,iw,ar,cu,d7,fM,bb,rfl⟩:=V co b da;have o:=V cR;have d3:aD wr (M (cb+1) b)=ag (aL fP (E iw) fQ):=by
     have:=o.3.2;unfold aD;rw[this]
     match b,da,ar with
     | 0,_,ar=>simpa using ar
     | 1,_,ar=>simpa using ar
     | 2,_,ar=>simpa using ar
    have d8:=d7.below o.3.4;have dh:=ae (aig d8 (λn aF=>⟨(cG n<|bb n aF).1.below o.3.4,(cG n<|bb n aF).2.below o.3.4,by
     have h1:=(dO n<|bb n aF).6;have bF:=zg n.2.2.2;omega⟩) G)
    have eW:=ae bb;have ea:=ae cu;clear o d7 d8 ar cu bb;go_wp2_with fail;refine gU dh ?_;rintro e el ⟨fU,rfl,bx,aC⟩;have:=aC.4;have dL:=ae<|cR.below aC;have⟨GS,Wy⟩:=dK<|i6 iw
    rw[Wy]at bx;obtain⟨gp,eX,bJ⟩:∃cY B,fU=aL cY (E GS) B:=by
     rcases bx with⟨h,h0⟩|⟨cH,gq,h,_⟩
     ·exact Ks
     ·exact⟨_,_,h⟩
    subst bJ;have ek:=ae bx;have WA:=ae Wy;have gh:E GS<=100:=by rw[<- Wy];exact cU (aic iw) fM
    have⟨ST1,Oi⟩:=dK<|pc D z b GS aH
    have dM:=ae Oi;have fZ:ax (tV D z (b+1) ([R,j,l].drop<|b+1) ST1=FIN):=by
     have:=V bA;rw[V ea,tV,Wy,Oi]at this;exact this
    have⟨sb,BG⟩:=bi<|U wr.1;rw[<- BG]at ek;have:cb+2<=sb/\sb<=U el.1:=G;clear bx aC dh cR bA ea Wy Oi d3 BG;generalize wr=gi at *;go_wp2
    go_loopw [9,11,12,16] (λc2 cP cz X wr=>∃(Y P:Nat) (v:bm) (aH:s9),c2=N P/\cP=aG aH.4/\cz=aG aH.5/\X=J Y/\Y<=E GS/\ax (we w wr cb (cb+1) ab P d H (aL aa (E R) ad) (aL Z (E j) al) (aL ac (E l) ah) v aH<|100*b+E (amA Y GS).flatten)/\ax (pc D z b (bh Y GS) aH=ST1)/\ax (R++(j++l)≠[]->aH.2≠[])/\ax (cL (λaj=>aj≠cb) el wr)) λ_ _ _ X _=>E GS-c7 (intOf X)
    ·exact⟨0,P,v,aH,af,af,af,af,G,dL.mono G,dM,aB,cL.refl _ _⟩
    ·clear dL aB dM;obtain⟨Y,P,v,aH,rfl,rfl,rfl,rfl,aP,cR,bR,aB,aX⟩:=hrel;have:=aX.4;by_cases hc:Y<E GS/\aH.5=ao
     ·obtain⟨aV,b4⟩:=hc;have:(Y:Int)<E GS:=G;have eY:=ek.fr aX λaj L=>G;rcases eY with⟨_,h0⟩|⟨dn,gB,bJ,d3,eZ,gj,ei⟩
      ·rw[h0]at aV;simp at aV
      obtain⟨rfl,-,rfl⟩:=np bJ;have⟨avy,u,hu,VI,NM⟩:=ei Y aV;have cC:=lA aV;have cc:=ahZ aV;have cI:=Jo GS<|Y+1;rw[show GS.flatten=iw from Ih]at cI;have cD:=Jo GS Y;rw[show GS.flatten=iw from Ih]at cD;have bT:=λc0 W=>V eW c0<|FF iw (by rw[V WA];exact eP aV) c0 W;have⟨cH,hg⟩:=dK<|GS[Y]
      rw[hg]at avy VI cC cc bT;obtain⟨f2,f3,bz⟩:∃cY B,u=aL cY (E cH) B:=by
       rcases VI with⟨h,h0⟩|⟨_,_,_,h,_⟩
       ·exact Ks
       ·exact⟨_,_,h⟩
      subst bz;have bk:=V aB (λh=>by
       cases cH with
       | nil=>exact avy af
       | cons c0 cM=>have:=bT c0 aA;rw[h]at this;cases this)
      have o:=V cR;have fy:=o.6;have dg:=ae<|af2 o.1 o.2 bk G;have dj:=ae<|cv hu<|cv VI NM;have dN:=ae bT;have df:=ae cC;have ce:=ae<|cv cc cI;have:E cH<=100:=G;clear ei hu VI NM bT cC cc cI o bJ fy bk hg;go_wp2_with fail;refine gU dg ?_;rintro e bS ⟨K,bo,rfl,fJ,bl,cf,bB⟩;have eF:=cR.below bB;have dp:ax (gb bS K aH.1 bo/\gP bS (U w.1) K bo aH.2):=⟨bl,ahX cf cR.3.4.4⟩
      have dq:=ae λaj L=>(cf.lt aj L).1;have fv:=ae bB;have:=bB.4;have eo:=cR.3.4.4;have ds:=ae λc0 W=>V dO c0<|dN c0 W;clear bl cf bB eF dg;generalize wr=eG at *;go_wp2
      go_loopw [18] (λX wr=>∃(x:Nat) (aI:bm),X=J x/\x<=E cH/\ax (gb wr K (k_ (amA x cH) aH.1 aH.2).1 aI/\gP wr (U w.1) K aI (k_ (amA x cH) aH.1 aH.2).2/\gn K bS bo wr aI)) λX _=>E cH-c7 (intOf X)
      ·exact⟨0,bo,af,G,by rw[tH];exact dp.1,by rw[tH];exact dp.2,gn.refl _ _ _⟩
      ·obtain⟨x,aI,rfl,d0,aR⟩:=hrel;have av:=ahY (V fv) aR.2.2 fJ<|V dq;have:=av.4;have eH:=(av.cell (p:=⟨dn,Y,ai⟩) eZ).trans dj.1;have:Y<eX:=G;have a8:=ae av;have:=cU cR.3.4.4 av.4;have d_:∀aj,bW aI=ag aj->U eG.1<=aj:=λaj L=>by
        rcases aR.2.2.2 aj L with h|h
        ·exact dq aj h
        ·omega
       have aw:=X7 (amA x cH) (λc0 W=>V ds c0<|zP W) aH.1 aH.2;have ex:E (amA x cH)<=100:=by rw[jF];omega
       have eI:=cR.5;have eJ:=cR.6;by_cases a0:x<E cH
       ·have eK:(x:Int)<E cH:=G;have eL:=dj.2.1.below av;rcases eL with⟨_,h0⟩|⟨gu,ay,gt,bz,gf,gg,dt⟩
        ·rw[h0]at a0;simp at a0
        obtain⟨rfl,-,rfl⟩:=np bz;have⟨cS,d1,d2,iZ,d4⟩:=dt x a0;have⟨n1,n2⟩:=V cG cH[x]<|dN cH[x]<|eP a0;have az:=V ds cH[x]<|eP a0;have dl:=ae<|ah_ a0 aH.1 aH.2;have⟨n,aF⟩:=dK<|cH[x]
        rw[aF]at cS d1 d2 iZ d4 n1 n2 az dl;obtain⟨gI,gs,fY,fS⟩:=n;simp only at cS d1 d2 iZ d4 n1 n2;obtain⟨fs,gF,gE,rfl,f4,b5⟩:=n1;obtain⟨ft,gH,gM,rfl,fH,cg⟩:=n2;have:=b5.1;have:=cg.1;have cE:=bN cR.3.4<|bV av eo;have c5:=ae<|ahp aR.1 aR.2.1 (b5.below cE) f4 G (λe=>cj<|d_ fs<|bZ e) (cg.below cE) fH G (λe=>cj<|d_ ft<|bZ e) G az.4 (cU (zg fS) az.6) az.5 az.1 az.2 az.3 G (aw.2.2.2 G cR.7) G;have dw:=ae aR.2.2;generalize gD:E (I 32 fY.data)=gr at *;clear dt aF az aw b5 cg cE av bz;go_wp2_with fail;refine c5.m ?_;rintro c1 ⟨a5,bM,bO,eh⟩;have eM:ax (gb c1 K (k_ (amA (x+1) cH) aH.1 aH.2).1 a5/\gP c1 (U w.1) K a5 (k_ (amA (x+1) cH) aH.1 aH.2).2/\gn K bS bo c1 a5):=by rw[ax,V dl];exact⟨bM,bO,dw.trans eh⟩
        clear bM bO eh c5 dw;go_wp2;exact⟨⟨x+1,a5,dH,G,eM⟩,ee⟩
       ·obtain rfl:x=E cH:=G;have eK:¬(E cH:Int)<E cH:=G;have bc:=V aR;rw[oT bv]at bc aw ex;have⟨AX,abZ⟩:=dK<|k_ cH aH.1 aH.2
        rw[abZ]at bc aw;have:=bc.1.cells;have ch:=ae bc;have⟨aY,hnl⟩:=bi<|E AX.1;have:(O AX.1).size=aY:=by rw[de,hnl]
        have:aY<=80000:=G;have:=jW<|(aY:Int)+z
        have eN:=ae<|aw.2.2.2 G cR.7;have eC:=ae aw.2.2.1;have eO:=ae aw.1;have e0:ax (E aH.2<=E AX.2):=by rw[ax,<- abZ];exact X_ cH aH.1 aH.2
        have b6:=ae hnl;have cl:=ae abZ;clear bc hnl abZ aw av;by_cases dY:D<aY+z
        ·have et:(D:Int)<aY+z:=G;have fq:ax (ST1 = { aH with tc:=dQ<|b<2,full:=aE }):=by
          have:=V bR;rw[V df,Yb b4 (by rw[V cl,<- V b6];exact dY)]at this;exact bZ this
         have e1:=ae<|(cR.below a8).mono (m:=100*b+E (amA (Y+1) GS).flatten) (cj ce.1);have b2:=ae<|aX.trans<|cL.zY<|V a8;have e2:am.wrap ((Y:Int)+1)=((Y+1:Nat):Int):=fT
         go_wp2;refine⟨⟨Y+1,P,v,{ aH with tc:=dQ<|b<2,full:=aE },af,fE aG<|decide_eq_decide.2 G,af,dH,G,?_,?_,aB,b2⟩,ee⟩
         ·have h:=V e1;exact⟨h.1,h.2,h.3,h.4,h.5,h.6,h.7,h.8,h.9,h.10⟩
         ·rw[ax,NG af];exact bZ fq
        ·have et:¬(D:Int)<aY+z:=G;have aU:=cR.below a8;have bI:=aU.8;have aT:b+1<E aH.3:=G;have⟨y,hcc⟩:=bi<|aH.3[b+1];have:y<=1000:=by
          have:=aU.9 y (by rw[hcc];exact eP aT);have:=ce.2;have:=Jo GS Y;rw[show GS.flatten=iw from Ih]at this;omega
         have dZ:aD wr (M cb<|b+1)=ag (J y):=by
          have:=aU.3.1.cell (b+1) (by rw[fC];exact aT);rw[rS]at this;rw[hcc];exact this
         have dx:=aU.3.1.frozen<|b+1;have fr:ax (pc D z b (bh (Y+1) GS) { aH with S:=AX.1,es:=AX.2,cs:=aH.3.set (b+1) (y+E cH) }=ST1):=by
          have:=V bR;rw[V df,Yc b4 (by rw[V cl,<- V b6];exact dY),V cl]at this;rw[ax,<- this,hcc,jw,gw aT];rfl
         have e2:am.wrap ((Y:Int)+1)=((Y+1:Nat):Int):=fT
         have e3:=jW<|(b:Int)+1
         have:0<=(b:Int)+1:=G;have:(b:Int)+1<4:=G;have:c7 ((b:Int)+1)=b+1:=G;have:b+1<4:=G;have:=jW<|(y:Int)+E cH
         have dy:=ae aU;have ew:=ae hcc;have fR:aD (bq wr) (M cb<|b+1)=ag (J y):=dZ;have e4:aD (bq wr) (M dn Y)=ag (aL f2 (E cH) f3):=eH;have gc:(bq wr).frozen? (M cb<|b+1)=ao:=dx;clear aU hcc eI eJ;go_wp2
         go_region
         all_goals
          have h:=V dy;have fx:((y+E cH:Nat):Int)=(y:Int)+(E cH:Int):=G;have cm:=h.3.set (b+1) (y+E cH) aT;rw[fx]at cm;have bp:cB (U (a_ wr ⟨cb,b+1,ai⟩<|ak am<|(y:Int)+E cH).1) (a_ wr ⟨cb,b+1,ai⟩<|ak am<|(y:Int)+E cH) (bq<|a_ wr ⟨cb,b+1,ai⟩<|ak am<|(y:Int)+E cH):=cd.drew;have bl:gb (a_ wr ⟨cb,b+1,ai⟩<|ak am<|(y:Int)+E cH) K AX.1 aI:=(tJ wr (M cb<|b+1) K _ (by show K≠cb;omega)).trans ch.1;have d5:=aif ch.2.1 h.3.1 (b+1) (by rw[fC];exact aT)<|(y:Int)+E cH;have e5:ax (we w (bq<|a_ wr ⟨cb,b+1,ai⟩<|ak am<|(y:Int)+E cH) cb (cb+1) ab K d H (aL aa (E R) ad) (aL Z (E j) al) (aL ac (E l) ah) aI { aH with S:=AX.1,es:=AX.2,cs:=aH.3.set (b+1) (y+E cH) } (100*b+E (amA (Y+1) GS).flatten)):=by
           have ar:=V eC;have cu:=ce.1;have:=h.6;refine⟨bl.below bp,d5.below bp,cm.below bp,G,by show E AX.1<=1300;rw[<- V b6];omega,by show E AX.2<=_;omega,eN,by show(aH.3.set _ _).length=4;rw[rU];exact bI,λB hc=>?_,by show 12<=E AX.1;have:=h.10;have:=V eO;omega⟩;have bH:=hc;rcases K2 bH with bH|bH
           ·have:=h.9 B bH;omega
           ·have:=h.9 y (by rw[V ew];exact eP aT);omega
          have b2:=ae<|((aX.trans<|cL.zY<|V a8).trans<|cL.j9 (a:=⟨cb,b+1,ai⟩) _ λ_ L=>L).trans (cL.zY bp);have fl:ax (R++(j++l)≠[]->AX.2≠[]):=λaF fB=>by
           have:=V aB aF;have dd:=(V e0)
           rw[fB]at dd;exact this (iM<|by simpa using dd)
          clear h cm bp bl d5 dy cR aX a8 aR ch dZ dx fR e4 gc;generalize bq (a_ wr ⟨cb,b+1,ai⟩<|ak am<|(y:Int)+E cH)=gK at *;go_wp2;exact⟨⟨Y+1,K,aI,{ aH with S:=AX.1,es:=AX.2,cs:=aH.3.set (b+1) (y+E cH) },af,af,by rw[b4],dH,G,e5,fr,fl,b2⟩,ee⟩
     ·have bj:ST1=aH:=by
       have h:=V bR;by_cases h1:Y<E GS
       ·have bF:aH.5=aE:=by
         exact P6
        rw[NG bF]at h;exact bZ h
       ·rw[D8 G]at h;exact bZ h
      have fV:¬(Y:Int)<E GS\/((Y:Int)<E GS/\aH.5=aE):=by
       by_cases h1:Y<E GS
       ·right;refine⟨G,?_⟩;exact P6
       ·left;omega
      have cD:=Jo GS Y;rw[show GS.flatten=iw from Ih]at cD;have e6:=ae<|cR.mono (m:=100*(b+1)) G;have e_:ax (tV D z (b+1) ([R,j,l].drop<|b+1) aH=FIN):=by rw[ax,<- bj];exact fZ
      have e3:am.wrap ((b:Int)+1)=((b+1:Nat):Int):=fT
      clear bj hc cR bR aX;rcases fV with h1|⟨h1,bF⟩
      all_goals
       go_wp2;exact⟨⟨b+1,P,v,aH,af,af,by first|rfl|rw[bF],dH,G,e6,e_,aB,G⟩,ee⟩
   ·obtain rfl:b=3:=G;have ez:¬(3:Int)<3:=G;have bj:aH=FIN:=V bA;have o:=V cR;have bI:=o.8;have fa:=o.10;have fb:=o.5;have⟨aM,a1,_,_,_⟩:=o.3.3.cells;have f0:=o.1.cells.1;have fI:=o.1.lt;have:=o.3.3.lt;have dA:=o.3.1.lt;have b3:ax (∀bt,a7 wr bt->bd aK 75 #[aZ c,aG H,aG aH.4,J d,bC cb 0 4 4] bt (cQ (aZ<|qi c H aH.4 d aH.3) bt)):=λbt dW =>
     TB H aH.4 4 fD G f9 bI (λB hc=>cj<|o.9 B hc) (e8 dA dW.4) (λx d0=>(dW.cell (p:=⟨cb,x,ai⟩) dA).trans (by
      have:=o.3.1.cell x (by rw[fC];exact d0);rw[rS]at this;exact this))
    have⟨HD,ab0⟩:=bi<|qi c H aH.4 d aH.3
    rw[<- ab0]at b3;have c3:E HD=12:=by
     rw[ab0];unfold qi;rw[dE,dE,jF,Ly,bI];simp;omega
    have eu:ax (Bs c g r t a d H [R,j,l]=HD++bh 12 aH.1++G9):=by
     unfold Bs;rw[ax,V dR,<- bj,<- aq.2,<- ab0]
    have:(O HD).size=12:=by rw[de,c3]
    have⟨an,BB⟩:=bi<|E aH.1;have:(O aH.1).size=an:=by rw[de,BB]
    have gA:(O aH.1).extract 12 an=O (bh 12 aH.1):=by
     have:=B8 aH.1 12 an;rw[this,BB,oT (by rw[js];exact cW _)]
    have:(O<|bh 12 aH.1).size=an-12:=by rw[de,js,BB]
    have bM:O HD++O (bh 12 aH.1)=O (HD++bh 12 aH.1):=ua _ _;have gN:(O<|HD++bh 12 aH.1).size=an:=by rw[de,dE,js,c3];omega
    have bO:O (HD++bh 12 aH.1)++O G9=O (HD++bh 12 aH.1++G9):=ua _ _;have:12<=(an:Int):=G;have:12<=an:=G;have:an<=1300:=G;have:¬9223372036854775807<12+(an-12):=G;have:¬9223372036854775807<an+z:=G;have fc:aD (bq wr) (M P 0)=ag (aZ aH.1):=f0;have dC:aD (bq wr) (M ab 0)=ag (J d):=aM;have:aD (bq wr) (M ab 1)=ag (aG H):=a1;have cn:=ae o.3.4;clear o bj ab0 BB cR bA aB fa fb;go_wp2;go_region_with (go_at_call 75;refine(b3 _ cd.drew).m ?_;intro gL cN;have f1:=(cN.cell (p:=⟨P,0,ai⟩) fI).trans fc)
    all_goals
     have fd:=bN cn<|((dz (U wr.1) wr).drew.trans cN).mono cn.4;have d6:=V eu;rw[jI]at d6;clear b3 cn cN f1;simp only[List.getElem_toArray,fw,e9,Act.put,mK,kH,lp];go_wp2;go_ret;rw[d6];exact⟨af,fd⟩
def ahL(b c a):bd aK 117 #[aL b 0 c,bY] a λd g=>d=bg (aG aE)/\g=a:=by
 go_wp2;go_loopw [5] (λe wr=>e=J 0/\wr=a) λ_ _=>0;·simp
 ·(obtain⟨rfl,rfl⟩:=hrel;go_wp2;go_ret;simp)
def ahM(j:gG b e r)(p:E r<=1000):bd aK 119 #[e,bY] b λi k=>i=bg (aG aE)/\k=b:=by obtain⟨n,ay,g,rfl,o,l⟩:=j;have:=l.1;have:¬(E r:Int)<0:=G;have c:=ae λd a=>ahL d a b;generalize E r=h at *;by_cases q:g=h;all_goals(go_in;go_wp21;refine(c _ _).m ?_;rintro v rfl;go_wp2;go_ret;simp)
def ahN(p:nS b a g j)(d:wZ g j):bd aK 143 #[N a,bY] b λn t=>(∃r:Bool,n=bg (aG r))/\a7 b t:=by
 obtain⟨x,c,ay,l,u,z,A,w⟩:=p;have:=(ea.1 u).1;have B:aD b (M a 1)=ag (bC c ay (E j) l):=by unfold aD; grind
 have i:=ae w;have:=d.2.1;have k:=ae d;go_wp2;go_loopw [5] (λq wr=>q=J 0/\wr=b) λ_ _=>0;·simp
 ·(obtain⟨rfl,rfl⟩:=hrel;by_cases e:0<E j;{have⟨ro,rw',c0,bA,c2,c3,cD,fB,gE⟩:=(V i) 0 e;have o:=k.2.2 j[0]<|eP e;have h:=ae<|ahM fB<|pQ o;rw[rW,jn]at c0;go_wp21;refine h.m ?_;rintro y rfl;go_wp2;go_ret;exact⟨⟨aE,af⟩,dz _ _⟩};{have:¬0<(E j:Int):=G;go_wp2;go_ret;exact⟨bG af,dz _ _⟩})
structure qL(vb:Option Nat)(n:Nat)(w w':World):Prop where
 os:w'.os=w.os
 tape:w'.tape=w.tape
 output:w'.output=w.output
 size:w.heap.size<=w'.heap.size
 block:∀k,k<w.heap.size->some k≠vb->w'.heap[k]? = w.heap[k]?
 cell:∀g,vb=some g->∀ay,(∀j,j<n->ay≠j*5)->w'.cell? (M g ay)=w.cell? (M g ay)
def qL.refl(c b a):qL c b a a:=⟨af,af,af,cW _,λ_ _ _=>af,λ_ _ _ _=>af⟩
section
variable {vb:Option Nat} {n:Nat} {w A C:World}
def qL.below(b:qL vb n w A)(d:a7 A C)(k:∀c,vb=ag c->c<U w.1):qL vb n w C :=
 ⟨c_ d.1 b.1,c_ d.2 b.2,c_ d.3 b.3,cU b.4 d.4,λh g i=>(d.5 h<|e8 g b.4).trans<|b.5 h g i,
  λc e ay j=>(ev (a:=⟨c,ay,ai⟩) (d.5 c<|e8 (k c e) b.4)).trans (b.6 c e ay j)⟩
def qL.set(a:qL vb n w A){b}(d:vb=ag b)(k:P<n)(i):qL vb n w (a_ A ⟨b,P*5,ai⟩ i) :=
 ⟨a.1,a.2,a.3,cU a.4 aA,λh l e=>(tJ A (M b<|P*5) h i λp=>e<|by grind).trans<|a.5 h l e,
  λj o ay g=>by
   obtain rfl:b=j:=ih<|(bZ d).trans o;refine Eq.trans ?_<|a.6 b d ay g;have:ay≠P*5:=g P k;unfold aD a_
   grind⟩
def qL.aMD(g:qL vb n w A)(o:∀e,vb=ag e->∀d,d<n->∃b m j,aD w (M e<|d*5)=ag (aL b m j)){ay i}(c:aD w (M a ay)=ag (amz i)):aD A (M a ay)=ag (amz i):=by by_cases h:ag a=vb;{refine(g.6 a (bZ h) ay λd l k=>?_).trans c;grind};{exact(ev (a:=⟨a,ay,ai⟩) (g.5 a (i8 w (M a ay) c) h)).trans c}
def qL.nm(c:qL vb n w A)(o:∀a,vb=ag a->∀b,b<n->∃g m h,aD w (M a<|b*5)=ag (aL g m h))(p:gG w e r):gG A e r:=by obtain⟨a,ay,i,j,k,d⟩:=p;exact⟨a,ay,i,j,k,e8 d.1 c.4,λb l=>c.aMD o<|d.2 b l⟩
def qL.row(h:qL vb n w A)(i:jq w e R)(c:(∀b,bW e=ag b->vb≠ag b)\/R=[]\/n=0):jq A e R:=by rcases i with i|⟨b,ay,t,l,x,o,y⟩;{exact .inl i};{refine .inr ⟨b,ay,t,l,x,e8 o h.size,λr k=>?_⟩;have z:(ag b≠vb\/n=0)->∀(d:Nat) (j:bm),aD w (M b d)=ag j->aD A (M b d)=ag j:=λg d j q=>by{by_cases p:ag b=vb;{rcases g with g|g;{simp_all};{exact(h.cell b p.symm d λr k=>G).trans q}};{exact(ev (a:=⟨b,d,ai⟩) (h.5 b o p)).trans q}};have:=y r k;have g:ag b≠vb\/n=0:=by{rcases c with c|c|c;{exact .inl λu=>c b (by rw[l];rfl)<|bZ u};{rw[c]at k;simp at k};omega};simp_all}
end
def mR(a:bm×bm×D):e7:=(a.1,a.2.1,a.2.2,cJ a.2.2.owner)
def FI{a:List<|bm×bm×D}:fA kA (b9 mR a)=fA tX a:=by rw[List.flatMap_map];rfl
def s_(c:bm)(b:List ap)(a:e7):e7:=if cJ a.2.2.1.owner=eA b then(c,a.2.1,a.2.2.1,b)else a
def lS(d:bm)(c:List ap)(b:List e7)(a:Nat):List e7:=b9 (s_ d c) (amA a b)++bh a b
def NI:E (lS e r R a)=E R:=by grind[lS]
def NJ(d c)(e:a<E R):(lS d c R a)[a]? = ag R[a]:=by grind[lS]
def Yh(d c)(e:a<E R):lS d c R (a+1)=(lS d c R a).set a (s_ d c R[a]):=by
 unfold lS;have g:E (b9 (s_ d c)<|amA a R)=a:=by grind
 rw[iH e,kq,lA e,vC _ _ G,g,sm,kH,jI];rfl
def ahO(d)(e:a<E R)(j:cJ R[a].2.2.1.owner≠eA r):lS d r R (a+1)=lS d r R a:=by
 have i:s_ d r R[a]=R[a]:=by grind[s_]
 rw[Yh d r e,i];have g:=NJ d r e;have h:a<E (lS d r R a):=by grind
 rw[gw h]at g;rw[<- ih g,List.set_getElem_self]
def ahP:b9 (·.2.2.1) (lS e r R a)=b9 (·.2.2.1) R:=by rw[lS,kq,nu];have:b9 ((·.2.2.1) ∘ s_ e r) (amA a R)=b9 (·.2.2.1) (amA a R):=pt λb _=>by{show(s_ e r b).2.2.1=b.2.2.1;grind[s_]};simp_all
def ahR:lS e r R (E R)=b9 (s_ e r) R:=by simp[lS]
def ahS:lS e r R 0=R:=rfl
def Yi:∀(b:List e7) (a:Nat) (e:a<E b) (c:bm),(fA kA b).set (a*5) c=fA kA (b.set a (c,b[a].2))
 | d::b,0,_,c=>af
 | d::b,a+1,e,c=>by
  have g:a<E b:=by grind
  rw[l5,vC _ _ (by show 5<=_;omega),lp,l5];have:(a+1)*5-E (kA d)=a*5:=by show(a+1)*5-5=_;omega
  rw[this,Yi b a g c];rfl
def ahU(b)(j:a<E R)(d:cJ R[a].2.2.1.owner=eA r):((fA kA<|lS b r R a).set (a*5) b)=fA kA (lS b r R<|a+1):=by
 have o:s_ b r R[a]=(b,R[a].2.1,R[a].2.2.1,r):=by grind[s_]
 have l:a<E (lS b r R a):=by rw[NI];exact j
 have k:=NJ b r j;rw [gw l] at k;have n:=ih k;rw [Yh b r j,o];rw [Yi (lS b r R a) a l b,n]
 have p:∀(g:List e7) (e:Nat) (h i:e7),kA h=kA i->fA kA (g.set e h)=fA kA (g.set e i):=by{
 intro g;induction g with
 | nil=>simp
 | cons u g t =>{
 intro e h i q;cases e with
 | zero=>grind
 | succ e=>grind}};exact p _ _ _ _ af
def ahV{w w'}(h:jq w e R)(hf:cL B w w')(hp:∀g,bW e=ag g->B g):jq w' e R:=by exact QU
def N1(j:gG b e r)(o:0<E r)(p:gz b a i t (bY) (bY)<|bY)(n:cL (λq=>q≠a) b f):gG f e r:=by obtain⟨g,ay,h,k,l,d⟩:=j;exact⟨g,ay,h,k,l,d.fr n<|MU d o p⟩
def Yj{xs:List e7}(g:b.ownsRow a 119 5 e (E xs)<|fA kA xs)(h:0<E xs):∃c,bW e=ag c/\aD b (M c 2)=ag (J xs[0].2.2.1.type):=by rcases g.2 with⟨_,n⟩|⟨c,j,k,rfl,o,d,l,p,q,i⟩;{omega};{refine⟨c,af,?_⟩;have v:=FG xs 0 h 2 G;rw[<- i,uD G]at v;rw[aD,d];simpa [kA]using v}
structure ahW(w':World)(v:Value)(q:Int×Bool×List D×List D)(add:List D)(qn:List ap)(t:Bool)(va vu vd:Value)(xa cH xd:List e7):Prop where
 v:v=.agg #[J q.1,.bool q.2.1,va,vu,vd]
 ra:jq w' va xa
 eH:jq w' vu cH
 aTP:jq w' vd xd
 ma:xa.map (·.2.2.1)=q.2.2.1
 mu:cH.map (·.2.2.1)=q.2.2.2
 md:xd.map (·.2.2.1)=add
 la:∀x∈xa,x.2.2.2=if t=false/\cJ x.2.2.1.owner=eA qn then qn else cJ x.2.2.1.owner
 Fp:∀x∈cH++xd,x.2.2.2=cJ x.2.2.1.owner
 nm:∀x∈xa++(cH++xd),gG w' x.1 x.2.2.2/\gG w' x.2.1 (I 32 x.2.2.1.data)
def OV(k:aQ)(c:Ending)(d:Int×Bool×List D×List D)(a:List D)(e:List ap):Prop:=∃v g h j i l b n,c=bg v/\ahW k v d a e g h j i l b n
def QN{P:Prop}(h:P:=by simp[dr,results77,go_sem,n0,n1,n2,n3,n4]):P:=h
def QB{P:Prop}(h:P:=by exact ⟨this.1.nm.below zo,this.2.nm.below zo,af⟩):P:=h
def aio{y:Nat}{u:ap}{b6 br:Int}{w:aQ}(c4:nS b a c j)(b2:a7 b w)(cr:jJ c j)(bM:iy w d 0 r)(ei:E r<=y)(d3:r≠[])(cT:cJ u=eA r)(cl:h9 u)(dy:E u<=260)(cg:∀dA∈r,E dA<=255)(em:E r<=300)(cP:(lx c j i u).2.2.2≠[]->(∀aJ∈(lx c j i u).2.2.1,aJ.type=5)/\∀aJ∈(lx c j i u).2.2.2,aJ.type≠5):bd aK 77 #[N a,ci #[aZ L,bC d 0 (E r) y,J i,J p,aG t,J b6,J br]] w λe ds=>OV ds e (lx c j i u) (tY c j i u) r/\a7 w ds:=by
 have⟨i0,oI,hz0,hz1,hz2⟩:=jN zF;have⟨fO,sH⟩:=bi (aS #[amz<|O L,aL (ag ⟨d,0,ai⟩) (E r) y,ak am i,ak am p,aG t,ak am b6,ak am br] 144:nQ);have⟨eV,pT⟩:=bi (aS #[ak am 0,aG ao,aL ai 0 0,aL ai 0 0,aL ai 0 0] 123:nQ);have aV:ax (a7 w<|aO (aO w fO) eV):=(ct cd bv _).alloc aA _;have c0:U (aO (aO w fO) eV).1=U w.1+2:=aA;have a6:ax ((aO (aO w fO) eV).1[U w.1]? = ag (aS #[amz<|O L,aL (ag ⟨d,0,ai⟩) (E r) y,ak am i,ak am p,aG t,ak am b6,ak am br] 144)):=by{rw[ax,<- sH];exact Kt};have b1:ax (gz (aO (aO w fO) eV) (U w.1+1) 0 ao (bY) (bY)<|bY):=by{have:=du (aO w fO) eV;rw[gd]at this;rw[gz,ax,this,pT]};have cK:=ae c4;have aU:=ae cr;have cs:=ae cg;have Q:=ae<|cv cT<|cv cl dy;have b_:=ae cP;have dq:=ae λdF (ad:a7 w dF)=>bN b2<|bV ad b2.4;have bo:=ae bM;have de:=bM.1;clear c4 cr cg cT cl dy cP b2 bM;go_wp2;rw[<- sH,<- pT];have⟨w1,hw1⟩:=dK<|aO (aO w fO) eV;rw[hw1]at aV c0 a6 b1 ⊢;have:U w.1+2<=U w1.1:=G;clear hw1 sH pT c0;go_loopw [5,6] (λd5 al wr=>∃k:Nat,al=J k/\k<=E r/\nE wr (U w1.1) d5 (amA k<|eA r)/\a7 w1 wr) λ_ al _=>E r-c7 (intOf al);·exact⟨0,af,eb _,⟨jO _ _ _ _,aA⟩,dz _ _⟩
 ·(
 obtain⟨k,rfl,hk,aB,ad⟩:=hrel;have aT:=ae ad;have bb:=ae aB;have:=ad.4;have bF:wr.1[U w.1]? = _:=(ad.5 (U w.1) G).trans<|V a6;have a4:aD wr (M (U w.1) 1)=ag (bC d 0 (E r) y):=by simp[aD,bF]
 have d_:aD wr (M (U w.1) 2)=ag (J i):=by simp[aD,bF]
 clear ad aB bF;by_cases a1:k<E r;{
 have bA:aD wr (M d k)=ag (amz<|O r[k]):=by{have av:=bo.2 k a1;rw[g8]at av;exact((bN aV<|bV aT G).cell (p:=⟨d,k,ai⟩) de).trans av};have d4:=V cs r[k]<|eP a1;have dG:ax (amA (k+1) (eA r)=amA k (eA r)++[r[k].map gW]):=by{rw[ax,iH (by rw[rF];exact a1)];simp[eA]};have cN:ax (E (amA k<|eA r)=k):=by rw[ax,jF,rF,uI hk]
 generalize r[k]=dA at *;have dl:=ae<|Ty dA wr G;have dB:(k:Int)<E r:=G;generalize dV:amA k (eA r)=dD at *;clear dV d4;go_wp2_with fail;refine dl.m λek aX=>?_;have bU:=ae aX;have:=aX.4;have fU:=ae<|jG bb.1 aX;have:=V cN;clear aX dl bA a4 d_;go_wp2_with (at_builtin;go_loud (refine vL _ af (.tmp 18) (.tmp 25) 113 af (U w1.1) 9 i0 (amz ⟨#[]⟩) 1 16 CS oI hz0 hz1 hz2 af bL _ (E dD) _ af (fU.alloc _) (M (U ek.1) 0) 1 1 [aZ<|b9 gW dA] af af (En _ _ _) (λex hu=>Bw) m9 G cx ?_));intro ej o hown' hgrow Hx _;have cO:ax (nE o (U w1.1) ej (amA (k+1)<|eA r)/\a7 w1 o):=by{rw[ax,V dG];exact PL};clear hown' hgrow Hx;go_wp2;exact⟨⟨k+1,dH,G,cO.1,cO.2⟩,ee⟩};{
 obtain rfl:k=E r:=G;have aB:=V bb;rw[oT (by rw[rF];exact cW _),<- Q.1]at aB;have dB:¬(E r:Int)<E r:=G;obtain⟨bB,bT,rfl,bK,eq,bQ⟩:=vx aB<|It u;have dx:=ae bQ;have dI:=HA u;have b5:=bN aV<|bV aT G;have b8:=ae b5;have ch:=ae<|Ux i (lx c j i u) (V cK) (dq wr b5) (λ_ _ h=>h) (λ_ _ h=>h) (V aU)<|bG ⟨bB,0,bT,u,af,λh=>h,bQ,bK,Q.2.1,Q.2.2,af⟩;have:((E (cJ u):Int)==0)=ao:=by simp[It u]
 clear aB bb a1 hk bQ b5 cs;go_wp2_with fail;refine gU ch ?_;rintro e o ⟨⟨v,rfl,c3⟩,aw⟩;have⟨RES,ab5⟩:=bi<|lx c j i u;have⟨AD,ajx⟩:=bi<|tY c j i u;have cU:MT j (lx c j i u)=AD:=by rw[ajx];rfl
 rw [cU,<- ab5] at c3;rw [<- ab5] at b_;have aR:=ae<|cv ab5 ajx;obtain ⟨ey,eB,ez,rfl,d7,dP,d8,cX⟩:=c3;obtain ⟨x,dk,bl,cp⟩:=d7;obtain ⟨l,cy,u1,u2⟩:=dP;obtain ⟨B,dj,bw,cH⟩:=d8;have:=aw.4;have cR:=bN b8<|bV aw b8.4;have aF:=ae cR
 have a3:∀ {v:bm} {n:Nat} {xs:List bm},o.ownsRow (U wr.1) 119 5 v n xs->∃df bs,v=aL df n bs:=λh=>by{rcases h.2 with⟨h,av⟩|⟨g,eo,bu,h,_⟩;{exact⟨ai,0,by rw[h,av]⟩};{exact⟨_,_,h⟩}};have⟨aa,ca,Bk⟩:=a3 bl;have⟨ab,cb,ajd⟩:=a3 u1;have⟨ac,cc,Gj⟩:=a3 bw;have dc:=ae<|(aw.5 (U w.1) G).trans<|(aT.5 (U w.1) G).trans<|V a6;have dd:ax (gz o (U w.1+1) 0 ao (bY) (bY)<|bY):=(aw.5 (U w.1+1) G).trans<|(aT.5 (U w.1+1) G).trans<|V b1;have a9:=ae<|dx.below aw;have aj:=ae<|cv dk<|cv bl cp;have X:=ae<|cv cy<|cv u1 u2;have aI:=ae<|cv dj<|cv bw cH;have cm:=ae cX;clear dk bl cp cy u1 u2 dj bw cH cX aw cR ch aT aV b8 a6 b1 dx ab5 ajx cU a3;subst Bk ajd Gj;obtain⟨ah,Y,aq,ar⟩:=RES;simp only at *;go_wp2_with fail;have⟨OP,OO⟩:=bi (aS #[ak am ah,aG Y,aL aa (E x) ca,aL ab (E l) cb,aL ac (E B) cc] 123:nQ);rw[<- OO];have aY:a7 o (aO o OP):=ct cd bv _;have co:ax (gz (aO o OP) (U o.1) ah Y (aL aa (E x) ca) (aL ab (E l) cb)<|aL ac (E B) cc):=by{rw[gz,ax,du,OO]};have:U (aO o OP).1=U o.1+1:=aA;have bR:=ae aY;have cI:=bN aF<|bV aY aF.4;have cz:E (cJ u)<=1000:=by rw[Q.1,rF];omega
 have cf:=ae<|L6 (cK.below<|dq _ cI) (ID<|V aU) ⟨bB,0,bT,af,bK,a9.below aY⟩ cz dI;clear aY cI;generalize aO o OP=eC at *;refine cf.m λz a0=>?_;have zo:=bN bR<|bV a0 bR.4;have⟨q,ht⟩:=bi<|sA j<|cJ u;rw[<- ht];clear ht;have:=a0.4;have cA:ax (gz z (U o.1) ah Y (aL aa (E x) ca) (aL ab (E l) cb)<|aL ac (E B) cc):=(a0.5 (U o.1) G).trans<|V co;have el:=ae<|(zo.5 (U w.1) G).trans<|V dc;have ea:ax (gz z (U w.1+1) 0 ao (bY) (bY)<|bY):=(zo.5 (U w.1+1) G).trans<|V dd;have dJ:=ae<|a9.below zo;have aW:=ae<|bN aF<|bV zo aF.4;have⟨iw,xR⟩:=bi<|b9 mR x;have aP:E iw=E x:=by rw[xR,fC]
 have a5:ax (z.ownsRow (U wr.1) 119 5 (aL aa (E x) ca) (E x)<|fA kA iw):=by rw[ax,xR,FI];exact jG aj.2.1 zo
 have az:ax (∀dA∈iw,gG z dA.1 (cJ dA.2.2.1.owner)/\gG z dA.2.1 (I 32 dA.2.2.1.data)/\dA.2.2.2=cJ dA.2.2.1.owner):=λdA b4=>by{rw[xR]at b4;obtain⟨P,T,rfl⟩:=lZ.1 b4;have:=aj.2.2 P T;exact⟨this.1.nm.below zo,this.2.nm.below zo,af⟩};have bj:ax (b9 (·.2.2.1) iw=aq):=by rw[ax,xR,nu];exact aj.1
 have bp:ax (jq z (aL ab (E l) cb) (b9 mR l)/\jq z (aL ac (E B) cc) (b9 mR B)/\(∀dA∈b9 mR l++b9 mR B,gG z dA.1 (cJ dA.2.2.1.owner)/\gG z dA.2.1 (I 32 dA.2.2.1.data)/\dA.2.2.2=cJ dA.2.2.1.owner)/\b9 (·.2.2.1) (b9 mR l)=ar/\b9 (·.2.2.1) (b9 mR B)=AD):=by{
 have dh:z.ownsRow (U wr.1) 119 5 (aL ab (E l) cb) (E<|b9 mR l) (fA kA<|b9 mR l):=by rw[FI,fC];exact jG X.2.1 zo
 have di:z.ownsRow (U wr.1) 119 5 (aL ac (E B) cc) (E<|b9 mR B) (fA kA<|b9 mR B):=by rw[FI,fC];exact jG aI.2.1 zo
 refine ⟨Jj dh,Jj di,λdA b4=>?_,by rw [nu]; exact X.1,by rw [nu]; exact aI.1⟩;rcases lc.1 b4 with b4 | b4;{obtain ⟨P,T,rfl⟩:=lZ.1 b4;have:=X.2.2 P T;exact QB};{obtain ⟨P,T,rfl⟩:=lZ.1 b4;have:=aI.2.2 P T;exact QB}};have R:ax ((∀ g,bW (aL aa (E x) ca)=ag g->U wr.1<=g/\g<U o.1)/\(∀ g,bW (aL ab (E l) cb)=ag g->U wr.1<=g/\g<U o.1)/\(∀ g,bW (aL ac (E B) cc)=ag g->U wr.1<=g/\g<U o.1)):=⟨kX aj.2.1,kX X.2.1,kX aI.2.1⟩
 have cn:ax (bW (aL ab (E l) cb)≠bW (aL aa (E x) ca)\/b9 mR l=[]\/x=[]):=by{by_cases H:l=[];{exact bE<|bG (by rw[H];rfl)};by_cases Z:x=[];{exact bE<|bE Z};refine bG λK=>?_;have dL:ar≠[]:=λe=>H (by have:=X.1;rw[e]at this;simpa using this);have⟨t1,t2⟩:=V b_ dL;have bS:=yq.2 Z;have ba:=yq.2 H;obtain⟨g,bz,c6⟩:=Yj (xs:=b9 mR x) (by rw[FI,fC];exact aj.2.1) (by rw[fC];exact bS);obtain⟨cQ,aH,c8⟩:=Yj (xs:=b9 mR l) (by rw[FI,fC];exact X.2.1) (by rw[fC];exact ba);have dC:=ih<|(bZ bz).trans<|(bZ K).trans aH;rw[dC]at c6;rw[c6]at c8;have cC:((b9 mR x)[0]'(by rw[fC];exact bS)).2.2.1.type=((b9 mR l)[0]'(by rw[fC];exact ba)).2.2.1.type:=by{have:=ih c8;simpa using this};rw[rS,rS]at cC;refine t2 l[0].2.2 ?_ ?_;{rw[<- X.1];exact Ec<|eP ba};{refine(Eq.symm cC).trans<|t1 x[0].2.2 ?_;rw[<- aj.1];exact Ec<|eP bS}};have bt:ax (∀g,bW (aL aa (E x) ca)=ag g->∀W,W<E x->∃df m bs,aD z (M g<|W*5)=ag (aL df m bs)):=λg C W cY=>by{have dU:aa=ag (M g 0):=by{rcases a5.2 with⟨h,_⟩|⟨cQ,cG,bu,h,_⟩;{rw[h]at C;cases C};{have H:=(np h).1;rw[H]at C ⊢;simp[bW]at C;rw[C]}};have cZ:=V a5;rw[dU]at cZ;have ay:=nz cZ (W*5) G;have b4:=FG iw W G 0 G;rw[jn]at b4;rw[b4]at ay;have⟨g2,o2,c2,aH,_,_⟩:=(az iw[W]<|eP _).1;exact⟨_,_,_,c_ ay<|fE ag aH⟩};have dR:=ae (cv af af:(aq=aq/\ar=ar));have⟨n,hn⟩:=bi<|E x;rw[<- hn]at cA a5 R cn bt aP cm ⊢;have dM:ax (x=[]->n=0):=λh=>by rw[hn,h];rfl
 clear hn cf aj X aI co bR aF dc dd a9 a0 zo xR OO dR b_;have er:n<=1000:=by{have h:=(A4 (V aU) i 9 aE ao [] u Q.2.1 Q.2.2 (λaJ bO=>by cases bO)<|eb _).2.2.1;have e:kw c (cq j) i 9 aE ao [] u=(ah,Y,aq,ar):=bZ aR.1;rw[e]at h;have Z:=fE List.length<|V bj;rw[fC,aP]at Z;simp only at h;omega};generalize wr=dv at *;go_wp2;go_loopw [9] (λal wr=>∃b3:Nat,al=J b3/\b3<=n/\(q=aE->b3=0)/\ax (wr.ownsRow (U dv.1) 119 5 (aL aa n ca) n (fA kA<|lS (bC d 0 (E r) y) r iw b3)/\qL (bW<|aL aa n ca) n z wr)) λal _=>n-c7 (intOf al);·exact⟨0,af,eb _,λ_=>af,by rw[lS,tH,sk];exact a5,qL.refl _ _ _⟩
 ·(
 obtain⟨b3,rfl,aN,cw,bx⟩:=hrel;have⟨hown,oY⟩:=V bx;have dg:wr.1[U o.1]? = z.1[U o.1]?:=oY.5 _ G λe=>cj<|(R.1 _<|bZ e).2;have⟨p0,p1,fz,gg,p4⟩:=(cA.kept dg).cells;have dS:∀g,bW (aL aa n ca)=ag g->g<U z.1:=λg C=>cj<|(R.1 g C).2
 have dn:wr.1[U w.1]? = z.1[U w.1]?:=oY.5 _ G λe=>cj<|(R.1 _<|bZ e).1;have a4:aD wr (M (U w.1) 1)=ag (bC d 0 (E r) y):=by simp[aD,dn,V el]
 have:=oY.4;by_cases ay:b3<n/\q=ao;{
 obtain⟨d2,rfl⟩:=ay;clear cw;have aC:b3<E iw:=G;obtain⟨g,dN⟩:∃g,aa=ag ⟨g,0,ai⟩:=by{rcases hown.2 with⟨_,av⟩|⟨g,cG,bu,h,_⟩;{omega};{exact⟨g,(np h).1⟩}};subst dN;have:=R.1 g af;have ep:n<=ca:=by{rcases hown.2 with⟨_,av⟩|⟨cQ,cG,bu,h,_,_,bD,_⟩;{omega};{have:=(np h).2.2;omega}};have bI:aD wr (M g<|b3*5)=ag iw[b3].1:=by{
 have H:=nz hown (b3*5) G;have Z:b3<E (lS (bC d 0 (E r) y) r iw b3):=by rw[NI];exact aC
 have bD:=FG _ b3 Z 0 G;have cS:=NJ (bC d 0 (E r) y) r aC;rw[gw Z]at cS;rw[jn,ih cS]at bD;rw[H,bD];rfl};have dZ:=Gg hown<|b3*5;have dm:=V az iw[b3]<|eP aC;have c5:=oY.nm (V bt) dm.1;have c9:=oY.nm (V bt) ⟨bB,0,bT,af,bK,dJ⟩;have cM:E (cJ iw[b3].2.2.1.owner)<=1000:=by{have h:=(A4 (V aU) i 9 aE ao [] u Q.2.1 Q.2.2 (λaJ bO=>by cases bO)<|eb _).1;have e:kw c (cq j) i 9 aE ao [] u=(ah,Y,aq,ar):=bZ aR.1;rw[e]at h;have H:=(h iw[b3].2.2.1<|(V bj)▸Ec (eP aC)).2;have Z:=pN 46 iw[b3].2.2.1.owner;rw[uw];omega};have bc:=ae<|up c5 c9 cM cz;have dp:ax (cJ iw[b3].2.2.1.owner≠cJ u->lS (bC d 0 (E r) y) r iw (b3+1)=lS (bC d 0 (E r) y) r iw b3):=λh=>ahO _ aC<|Q.1▸h;have ce:ax (cJ iw[b3].2.2.1.owner=cJ u->((fA kA<|lS (bC d 0 (E r) y) r iw b3).set (b3*5)<|bC d 0 (E r) y)=fA kA (lS (bC d 0 (E r) y) r iw<|b3+1)):=λh=>ahU _ aC<|Q.1▸h;obtain⟨en,et,es,cu,_,_⟩:=c5;have:(b3:Int)<n:=G;rw[cu]at bc bI;generalize E (cJ iw[b3].2.2.1.owner)=ol,cJ iw[b3].2.2.1.owner=d9 at *;clear dm c9 cM cu hown oY dg dn p0 p1 gg p4;go_wp2_with fail;refine bc.m λdt au=>?_;have⟨hown,oY⟩:=V bx;have bn:=jG hown au;have cD:=oY.below au dS;have:=(au.cell (p:=⟨U w.1,1,ai⟩) (by show U w.1<_;omega)).trans a4;have:aD dt (M g<|b3*5)=_:=(au.cell (p:=⟨g,b3*5,ai⟩) F0).trans bI;have:=Gg bn<|b3*5;have:aD dt (M (U o.1) 2)=_:=(au.cell (p:=⟨U o.1,2,ai⟩) (by show U o.1<_;omega)).trans fz;have cE:=ae bn;have cF:=ae cD;clear hown oY bn cD au bc bx a4 bI dZ fz;by_cases aM:d9=cJ u;{have bf:=ae<|ce aM;rw[mL aM];clear aM ce dp;go_wp2;have c1:=K_ (V cE) (b3*5)<|bC d 0 (E r) y;rw[V bf]at c1;exact⟨⟨b3+1,dH,G,(λh=>by cases h),c1.1,cF.set af d2 _⟩,ee⟩};{have bf:=ae<|dp aM;rw[gD aM];go_wp2;exact⟨⟨b3+1,dH,G,(λh=>by cases h),(V bf)▸cE,cF⟩,ee⟩}};{
 have eg:wr.1[U w.1+1]? = z.1[U w.1+1]?:=oY.5 _ G (λe=>by have:=(R.1 _<|bZ e).1; omega);have bH:=ea.kept eg;obtain ⟨eu,dh,di,ev,ew⟩:=bH.cells;have:=bH.frozen;have dX:=bN aW ⟨oY.1,oY.2,oY.3,oY.4,λk hk=>oY.5 k (by have:=aW.4; omega) (λe=>by have:=(R.1 _<|bZ e).1; omega)⟩
 have dY:ax (∃an,jq wr (aL aa n ca) an/\b9 (·.2.2.1) an=aq/\(∀dA∈an,dA.2.2.2=if q=ao/\cJ dA.2.2.1.owner=eA r then r else cJ dA.2.2.1.owner)/\∀dA∈an,gG wr dA.1 dA.2.2.2/\gG wr dA.2.1 (I 32 dA.2.2.1.data)):=by{
 refine⟨lS (bC d 0 (E r) y) r iw b3,Jj (by rw[NI,aP];exact hown),by rw[ahP];exact bj,?_⟩;cases q with
 | true =>{rw[cw af,ahS];refine⟨λdA b4=>?_,λdA b4=>?_⟩;{rw[bJ aA];exact(az dA b4).2.2};{have h:=V az dA b4;rw[h.2.2];exact⟨oY.nm (V bt) h.1,oY.nm (V bt) h.2.1⟩}}
 | false =>{have d0:b3=E iw:=by{rw[aP];exact Nat.le_antisymm aN<|Nat.le_of_not_lt λh=>ay ⟨h,af⟩};rw[d0,ahR];have dO:=oY.nm (V bt) ⟨d,0,y,af,ei,e8 bo.1 aW.4,λW cY=>(aW.cell (p:=⟨d,0+W,ai⟩) de).trans (bo.2 W cY)⟩;refine⟨λdA b4=>?_,λdA b4=>?_⟩;{obtain⟨P,T,rfl⟩:=lZ.1 b4;have h:=V az P T;unfold s_;by_cases K:cJ P.2.2.1.owner=eA r;{rw[b7 K,b7 ⟨af,K⟩]};{rw[bJ K,bJ λh=>K h.2];exact h.2.2}};{obtain⟨P,T,rfl⟩:=lZ.1 b4;have h:=V az P T;unfold s_;by_cases K:cJ P.2.2.1.owner=eA r;{rw[b7 K];exact⟨dO,oY.nm (V bt) h.2.1⟩};{rw[bJ K,h.2.2];exact⟨oY.nm (V bt) h.1,oY.nm (V bt) h.2.1⟩}}}};have dW:ax (jq wr (aL ab (E l) cb) (b9 mR l)/\jq wr (aL ac (E B) cc) (b9 mR B)/\∀dA∈b9 mR l++b9 mR B,dA.2.2.2=cJ dA.2.2.1.owner/\gG wr dA.1 dA.2.2.2/\gG wr dA.2.1 (I 32 dA.2.2.1.data)):=by{have⟨bz,aH,e3,_,_⟩:=V bp;refine⟨oY.row bz ?_,oY.row aH<|bG λg C=>V cm g C,λdA b4=>?_⟩;{rcases V cn with h|h|h;{exact .inl λg C K=>h<|c_ C<|bZ K};{exact bE<|bG h};{exact bE<|bE<|dM h}};{have h:=e3 dA b4;rw[h.2.2];exact⟨af,oY.nm (V bt) h.1,oY.nm (V bt) h.2.1⟩}};have db:=ae dX;have da:=ae bH;have d6:¬(b3:Int)<n\/((b3:Int)<n/\q=aE):=by{by_cases H:b3<n;{right;refine⟨G,?_⟩;cases q;{exact absurd ⟨H,af⟩ ay};{rfl}};{left;omega}};rcases d6 with H|⟨H,eD⟩;all_goals(go_wp2;have a8:=(((((da.set0 ah).set1 Y).set2<|aL aa n ca).lM<|aL ab (E l) cb).o6<|aL ac (E B) cc);have S:cL (λk=>k≠U w.1+1) wr (a_ (a_ (a_ (a_ (a_ wr ⟨U w.1+1,0,ai⟩<|ak am ah) ⟨U w.1+1,1,ai⟩<|aG Y) ⟨U w.1+1,2,ai⟩<|aL aa n ca) ⟨U w.1+1,3,ai⟩<|aL ab (E l) cb) ⟨U w.1+1,4,ai⟩<|aL ac (E B) cc) := (((((cL.j9 (A:=wr) (a:=⟨U w.1+1,0,ai⟩) _ λ_ h=>h).trans (cL.j9 (a:=⟨U w.1+1,1,ai⟩) _ λ_ h=>h)).trans (cL.j9 (a:=⟨U w.1+1,2,ai⟩) _ λ_ h=>h)).trans (cL.j9 (a:=⟨U w.1+1,3,ai⟩) _ λ_ h=>h)).trans (cL.j9 (a:=⟨U w.1+1,4,ai⟩) _ λ_ h=>h));have bk:=bN db ⟨S.1,S.2,S.3,S.4,λk hk=>S.5 k (cj db.4) G⟩;revert a8 S bk;generalize a_ _ _ _=dw;intro a8 S bk;have⟨n0,n1,n2,n3,n4⟩:=a8.cells;have⟨an,f1,f2,f3,f4⟩:=V dY;have⟨g1,g2,g3⟩:=V dW;refine eh (v:=ci #[ak am ah,aG Y,aL aa n ca,aL ab (E l) cb,aL ac (E B) cc]) QN af ⟨⟨_,q,aL aa n ca,aL ab (E l) cb,aL ac (E B) cc,an,b9 mR l,b9 mR B,af,?_⟩,bk⟩;rw[<- aR.1,<- aR.2];have bP:∀ {v:bm} {xs:List e7},jq wr v xs->(∀g,bW v=ag g->U dv.1<=g/\g<U o.1)->jq dw v xs:=λh ad=>ahV h S λg C=>cj<|(ad g C).1;have a2:∀ {v:bm} {b0:List ap},gG wr v b0->0<E b0->gG dw v b0:=λh d1=>N1 h d1 (V da) S;have ec:∀dA∈an,0<E dA.2.2.2:=λdA b4=>by{rw[f3 dA b4];split;{exact yq.2 d3};{exact HA _}};refine⟨af,bP f1 R.1,bP g1 R.2.1,bP g2 R.2.2,f2,bp.2.2.2.1,bp.2.2.2.2,f3,λdA b4=>(g3 dA b4).1,λdA b4=>?_⟩;rcases lc.1 b4 with b4|b4;{exact⟨a2 (f4 dA b4).1<|ec dA b4,a2 (f4 dA b4).2<|E2 32 _⟩};{have h:=g3 dA b4;exact⟨a2 h.2.1<|h.1▸HA _,a2 h.2.2<|E2 32 _⟩})})})
def aip{P y h w}(an:nS b a c P)(I:a7 b w)(aa:jJ c P):bd aK 77 #[N a,ci #[aZ Q,bY,J p,J i,aG t,J y,J h]] w λk R=>OV R k (5,ao,[],[]) [] []/\a7 w R:=by
 have⟨fO,sH⟩:=bi (aS #[amz<|O Q,aL ai 0 0,ak am p,ak am i,aG t,ak am y,ak am h] 144:nQ);have⟨eV,pT⟩:=bi (aS #[ak am 0,aG ao,aL ai 0 0,aL ai 0 0,aL ai 0 0] 123:nQ);have l:ax (a7 w<|aO (aO w fO) eV):=(ct cd bv _).alloc aA _;have al:U (aO (aO w fO) eV).1=U w.1+2:=aA;have aB:(aO (aO w fO) eV).1[U w.1]? = ag (aS #[amz<|O Q,aL ai 0 0,ak am p,ak am i,aG t,ak am y,ak am h] 144):=by{rw[<- sH];exact Kt};have aw:aD (aO (aO w fO) eV) (M (U w.1) 1)=ag (bY):=by simp_all
 have ay:aD (aO (aO w fO) eV) (M (U w.1) 2)=ag (J p):=by simp_all
 have H:ax (gz (aO (aO w fO) eV) (U w.1+1) 0 ao (bY) (bY)<|bY):=by{have:=du (aO w fO) eV;rw[gd]at this;unfold gz;rw[ax,this,pT]};have D:=ae an;have B:=ae aa;have u:=ae λZ (aj:a7 w Z)=>bN I<|bV aj I.4;go_wp2;rw[<- sH,<- pT];have⟨w1,hw1⟩:=dK<|aO (aO w fO) eV;rw[hw1]at l al aw ay H ⊢;have:U w.1+2<=U w1.1:=G;go_loopw [5,6] (λar K wr=>ar=bY/\K=J 0/\wr=w1) λ_ _ _=>0;·simp
 ·(
 obtain⟨rfl,rfl,r⟩:=hrel;have e:=bZ r;subst e;have Y:=ae<|Ux p (0,ao,[],[]) (V D) (u w1 l) (λ_ _ n=>n) (λ_ _ n=>n) (V B)<|bE ⟨af,af⟩;go_wp2_with fail;refine gU Y ?_;rintro k L ⟨⟨v,rfl,aN,aR,aP,rfl,au,ab,av,_⟩,o⟩;obtain⟨aC,bA,rfl⟩:=au.slice;obtain⟨aF,aI,rfl⟩:=ab.slice;obtain⟨aH,aJ,rfl⟩:=av.slice;have ad:=bN l<|bV o G;have:=o.4;have aq:ax (gz L (U w.1+1) 0 ao (bY) (bY)<|bY):=(o.5 (U w.1+1) G).trans<|V H;have C:=ae ad;go_wp2_with fail;have⟨OP,OO⟩:=bi (aS #[ak am 5,aG ao,aL ai 0 0,aL ai 0 0,aL ai 0 0] 123:nQ);rw[<- OO];have F:a7 L (aO L OP):=ct cd bv _;have X:gz (aO L OP) (U L.1) 5 ao (bY) (bY) (bY):=by unfold gz;rw[du,OO]
 have az:gz (aO L OP) (U w.1+1) 0 ao (bY) (bY) (bY):=(F.5 (U w.1+1) G).trans<|V aq;have j:=bN C<|bV F C.4;have W:=ae<|ahN (D.below<|u _ j)<|ID<|V B;refine gU W ?_;rintro k A ⟨⟨aM,rfl⟩,q⟩;have ac:gz A (U L.1) 5 ao (bY) (bY) (bY):=(q.5 (U L.1) aA).trans X;have z:gz A (U w.1+1) 0 ao (bY) (bY) (bY):=(q.5 (U w.1+1) cx).trans az;have ah:=ae<|bN j<|bV q j.4;have:=ac.cells;have:=z.cells;have:=z.frozen;have ap:=ae z;go_wp2;go_loopw [9] (λK wr=>K=J 0/\wr=A) λ_ _=>0;·simp
 ·(obtain⟨rfl,r⟩:=hrel;have e:=bZ r;subst e;go_wp2;have d:=(((((ap.set0 5).set1 ao).set2<|bY).lM<|bY).o6<|bY);have g:=(((((fk ah (p:=⟨U w.1+1,0,ai⟩) aA (J 5)).setCell (p:=⟨U w.1+1,1,ai⟩) aA (aG ao)).setCell (p:=⟨U w.1+1,2,ai⟩) aA (bY)).setCell (p:=⟨U w.1+1,3,ai⟩) aA (bY)).setCell (p:=⟨U w.1+1,4,ai⟩) aA (bY));revert d g;generalize a_ _ _ _=aT;intro d g;have⟨n0,n1,n2,n3,n4⟩:=d.cells;refine eh (v:=ci #[ak am 5,aG ao,aL ai 0 0,aL ai 0 0,aL ai 0 0]) QN af ⟨⟨_,aE,bY,bY,bY,[],[],[],af,?_⟩,g⟩;exact⟨af,bG ⟨af,af⟩,bG ⟨af,af⟩,bG ⟨af,af⟩,af,af,af,λS T=>(by cases T),λS T=>(by cases T),λS T=>by cases T⟩))
structure mA(T:ap)(r:D):Prop where
 own:r.owner=T\/s8 r.owner
 ab8:r.owner.length<=255
 aNL:r.owner≠[]
 aP:r.aP<=86400
 dat:eG r.type (I 32 r.data)=true
 len:r.data.length<=3000
def mA.wr{b}(a:mA c b):De b:=⟨cU a.2 G,zQ a.4 G,a.5,a.6⟩
def XS(a:h9 c):c≠[]:=λb=>by
 subst b;exact absurd af (a []<|by simp[xg])
section
variable {o:ap} {rs:List D} (hz:jJ o rs) {T:ap}
include hz
theorem Ov{b}(c:b∈rs):mA T b:=by have a:=hz.2 b c;have d:=x_ a.1;exact⟨bE<|ahk a.1,G,XS d.1,a.2,a.3,a.4⟩
theorem XT(h:h9 c)(g:E c<=255)(e:c=T\/s8 c){a}(d:a∈rs):mA T (h6 c a):=by have b:=hz.2 a d;exact⟨e,g,XS h,b.2,b.3,b.4⟩
theorem Je:∀b∈lr o (cq rs),mA T b/\b.type=6:=by intro b e;obtain⟨g,c,rfl⟩:=lZ.1 e;rw[CP]at c;have⟨hm,hp⟩:=jo.1 c;have a:=Ov hz (T:=T) hm;have d:g.type=6:=by{grind};exact⟨⟨a.1,a.2,a.3,cU (Nat.min_le_left _ _) a.4,a.5,a.6⟩,d⟩
omit hz in
theorem aiq{a}(h0:a∈hM rs c i):a∈rs:=by exact PY
theorem XU(l:h9 c)(B:E c<=255)(A:c=T\/s8 c)(g first k)(p:∀a∈j,mA T a/\a.type=5):(∀a∈(gO o (cq rs) g first k j c).2.2.1,mA T a)/\(∀a∈(gO o (cq rs) g first k j c).2.2.2.1,mA T a/\(a.type=2\/a.type=6))/\((gO o (cq rs) g first k j c).2.2.2.1≠[]->∀a∈(gO o (cq rs) g first k j c).2.2.1,a.type=5)/\∀x,(gO o (cq rs) g first k j c).2.2.2.2=ag x->fI x=aE/\∀a∈(gO o (cq rs) g first k j c).2.2.1,a.type=5:=by
 cases h:fZ c o with
 | false =>{grind[gO]}
 | true =>{
 by_cases q:E (fV o (cq rs) c)=0;{
 have r:=iM q;cases C:(er (cq rs) c).2 with
 | false =>{rw[MJ h r C];exact⟨λa b=>(p a b).1,λa b=>⟨(Je hz a b).1,bE (Je hz (T:=T) a b).2⟩,λ_ a b=>(p a b).2,aA⟩}
 | true =>{
 by_cases w:(g=5\/g=255)\/kj o (cq rs) c=ai;{rw[MK h r C w];have J:∀a∈mi g (er (cq rs) c).1,mA T a:=by{rcases E0 hz l g with d|⟨s,d⟩;{grind};{rw[d];intro a b;obtain⟨I,G,rfl⟩:=lZ.1 b;exact XT hz l B A<|aiq G}};refine⟨λa b=>?_,λa b=>?_,λd a b=>?_,aA⟩;{grind};{have i:=b;split at i;{grind};{exact⟨(Je hz a i).1,bE (Je hz (T:=T) a i).2⟩}};{have F:=d;split at F;{grind};{rename_i H;have L:mi g (er (cq rs) c).1=[]:=by{have M:ed (me g) (dw dj (er (cq rs) c).1)=[]:=by{rw[sj];intro n u q;exact H<|pr.2 ⟨n,u,q⟩};grind[mi,oZ]};grind}}};{
 have y:=λd=>w<|bG<|bG d;have D:=λd=>w<|bG<|bE d;cases t:kj o (cq rs) c with
 | none=>grind
 | some a =>{
 have⟨I,hm0,e,h50,hp⟩:=Hy hz l t;by_cases z:E j=8;{rw[Hw h r t y D z];simp};{
 rw[EZ h r t y D z];have K:∀n∈j++[a],mA T n/\n.type=5:=by{
 intro n u;rcases lc.1 u with d|d;{grind};{
 obtain rfl:n=a:=by grind
 rw[e];exact⟨XT hz l B A hm0,h50⟩}};grind}}}}};{rw[Hv h q];refine⟨λa b=>(p a b).1,λa b=>?_,λ_ a b=>(p a b).2,aA⟩;have i:=b;refine⟨Ov hz<|Ut hz l h a i,bG ?_⟩;rcases Ix (rz hz) l h with⟨_,d⟩|⟨N,_,_,d,_⟩;{grind};{rw[d]at i;have:=(jo.1 i).2;grind}}}
theorem Ow(e):∀(f:Nat) (first c:Bool) (d:List D) (b:ap),h9 b->E b<=255->(b=T\/s8 b)->(∀a∈d,mA T a/\a.type=5)->(∀a∈(kw o (cq rs) e f first c d b).2.2.1,mA T a)/\(∀a∈(kw o (cq rs) e f first c d b).2.2.2,mA T a/\(a.type=2\/a.type=6))/\((kw o (cq rs) e f first c d b).2.2.2≠[]->∀a∈(kw o (cq rs) e f first c d b).2.2.1,a.type=5)
 | 0,first,c,d,b,k,j,h,i=>by
  have g:=XU hz k j h e first c i
  exact⟨g.1,g.2.1,g.2.2.1⟩
 | f+1,first,c,d,b,k,j,h,i=>by
  have g:=XU hz k j h e first c i
  unfold kw;generalize gO o (cq rs) e first c d b=u at g
  obtain⟨y,r,w,x,t⟩:=u;cases t with
  | none=>grind
  | some n =>{obtain⟨l,q⟩:=g.2.2.2 n af;exact Ow e f ao r w n (jp l).1 (cU (jp l).2 G) (bE<|DU l) λa p=>⟨g.1 a p,q a p⟩}
omit hz in
theorem XW(b):∀(c:List D) (s:List ap),s.contains b=ao->E (gN c b 1)+E (ed (λa=>s.contains a.owner) c)<=E (ed (λa=>(s++[b]).contains a.owner) c)
 | [],s,_=>by simp[gN]
 | a::c,s,d=>by have e:=XW b c s d;unfold gN at e ⊢;have g:(s++[b]).contains a.owner=(s.contains a.owner||a.owner==b):=by{grind};grind
omit hz in
theorem Ox(c):∀(b:List D) (s:List ap×List D),E s.2<=E (ed (λg=>s.1.contains g.owner) rs)->E (b.foldl (qp rs c) s).2<=E rs
 | [],s,a=>cU a<|vA _ _
 | d::b,s,a=>by
  refine Ox c b _ ?_;unfold qp;split;{
  split;{exact a};{
  rename_i i;have e:s.1.contains (jm d.data)=ao:=by grind
  have h:=XW (jm d.data) rs s.1 e;grind}};omega
omit hz in
theorem XY(e first c d b):∃a:Nat,a<=16/\(gO o (cq rs) e first c d b).1=(a:Int):=by
 unfold gO;split;{
 cases first
 {exact⟨0,G,af⟩};{exact⟨5,G,af⟩}};{
 split;{grind};{
 split;{split;{exact⟨2,G,af⟩};grind};{
 show ∃a:Nat,a<=16/\nh o (cq rs) b=(a:Int);unfold nh;repeat' split
 all_goals first|exact⟨0,G,af⟩|exact⟨3,G,af⟩}}}
omit hz in
theorem XZ(d):∀(f:Nat) (first a:Bool) (b:List D) (c:ap),∃g:Nat,g<=16/\(kw o (cq rs) d f first a b c).1=(g:Int)
 | 0,first,a,b,c=>XY d first a b c
 | f+1,first,a,b,c=>by
  have e:=XY (o:=o) (rs:=rs) d first a b c
  unfold kw;generalize gO o (cq rs) d first a b c=k at e
  obtain⟨p,i,l,n,j⟩:=k;cases j with
  | none=>exact e
  | some h=>exact XZ d f ao i l h
theorem X0(d):∀(e:List D) (s:List ap×List D),(∀a∈s.2,mA T a)->∀a∈(e.foldl (qp rs d) s).2,mA T a
 | [],s,b=>b
 | h::e,s,b=>by refine X0 d e _ ?_;unfold qp;split;{split;{exact b};{show ∀a∈(if d.any (λg=>g.owner==jm h.data&&g.type==1)then s.2 else s.2++gN rs (jm h.data) 1),mA T a;split;{exact b};{intro a c;rcases lc.1 c with c|c;{grind};{exact Ov hz (jo.1 c).1}}}};omega
end
structure Bb(q:(Int×Bool×List D×List D)×List D)(qn:List ap)(t:Bool)(xa cH xd:List e7):Prop where
 ma:xa.map (·.2.2.1)=q.1.2.2.1
 mu:cH.map (·.2.2.1)=q.1.2.2.2
 md:xd.map (·.2.2.1)=q.2
 la:∀x∈xa,x.2.2.2=if t=false/\cJ x.2.2.1.owner=eA qn then qn else cJ x.2.2.1.owner
 Fp:∀x∈cH++xd,x.2.2.2=cJ x.2.2.1.owner
def uT(g:ap)(h:List D)(m b:ap):Prop :=
 if E m<12\/128<=be (m.getD 2 0) then b=[]
 else if(m.getD 2 0).toNat/8%16≠0 then b=qi m ao ao 4 [0,0,0,0]
 else match gZ m with
  | none=>b=qi m ao ao 1 [0,0,0,0]
  | some (n,a,i,e,c,o,d)=>∃p k j l,Bb (fK g h (c8 a) i e c d) a p k j l/\b=Bs m n a c o (c7 (fK g h (c8 a) i e c d).1.1) (fK g h (c8 a) i e c d).1.2.1 [k,j,l]
def X3:∀ {f:Nat} {s:ap} {b e:List ap} {g:ap},nI f s b=ag (e,g)->mj e+E g+1=mj b+E s/\((∀c∈b,c≠[]/\E c<=63)->∀c∈e,c≠[]/\E c<=63)
 | 0,_,_,_,_,a=>by cases a
 | f+1,[],_,_,_,a=>by cases a
 | f+1,d::s,b,e,g,a=>by unfold nI at a;split at a;{grind};{rename_i h;split at a;{cases a};{rename_i n;have o:be d≠0:=λa=>h<|vG a;obtain⟨i,j⟩:=X3 a;have k:mj (b++[amA (be d) s])=mj b+(be d+1):=by{have l:be d<=E s:=G;unfold mj;grind};grind}}
def CY{i}(n:gZ c=ag (g,r,a,d,t,P,i)):mj r<=254/\(∀b∈r,b≠[]/\E b<=63)/\E g<=259/\a<65536/\d<65536/\P<65536/\i<256/\g=g:=by
 have p:∀(s:ap) (h:Nat),cG s h<65536:=λs h=>by{have q:=gY<|s.getD h 0;have j:=gY<|s.getD (h+1) 0;unfold cG;omega};unfold gZ at n;split at n;{cases n};{
 cases k:nI (E c+1) (bh 12 c) []with
 | none=>grind
 | some b =>{have u:=b;rw[k]at n;have⟨k1,k2⟩:=X3 k;have o:mj ([]:List ap)=0:=af;rw[o,js]at k1;simp only at n;split at n;{cases n};{rename_i e;split at n;{split at n;{have:=ih n;simp only[Ge]at this;obtain⟨rfl,rfl,rfl,rfl,rfl,rfl,rfl⟩:=this;exact⟨G,k2 (λb l=>by cases l),by grind,p _ _,p _ _,G,G,af⟩};grind};{split at n;{cases n};{have:=ih n;simp only[Ge]at this;obtain⟨rfl,rfl,rfl,rfl,rfl,rfl,rfl⟩:=this;exact⟨G,k2 (λb l=>by cases l),by grind,p _ _,p _ _,p _ _,gY _,af⟩}}}}}
def Jp(b c a):Lib.join (b::c::a) [46]=b++46::Lib.join (c::a) [46]:=by rfl
def X4:∀(a:List ap),Lib.join a [46]=iz 46 a
 | []=>af
 | [c]=>by rw[Lib.join_one];rfl
 | c::d::b=>by rw[Jp,X4 (d::b)];rfl
def Pm{P:Prop}(h:P:=by intro hc;have⟨c,_,hcc⟩:=lZ.1 hc;unfold lN at hcc;split at hcc;{have:=fE UInt8.toNat hcc;rw[rJ]at this;grind};{split at hcc;{grind};simp_all}):P:=h
def CZ(j:r≠[]):cJ (c8 r)=eA r:=by have h:I 46 (c8 r)=b9 mn r:=by{rw[c8,X4,MW 46 _ (by simp_all) λe i=>?_];obtain⟨k,_,rfl⟩:=lZ.1 i;exact Pm};rw[cJ,h,nu];refine pt λe _=>?_;show(mn e).map ut=b9 gW e;rw[mn,nu];refine pt λc _=>?_;show ut (lN c)=gW c;unfold lN gW;by_cases b:65<=be c/\be c<=90;{rw[b7 b,b7 b];rw[ut,bJ];intro g;have:=fE UInt8.toNat g;rw[rJ]at this;grind};{rw[bJ b,bJ b];by_cases d:be c=46;{rw[b7 d];exact(vG<|show be c=be (46:UInt8) from d).symm ▸ af};{rw[bJ d];rw[ut,bJ];intro g;simp_all}}
def Bc:∀(b:List ap),b≠[]->E (c8 b)+1=mj b
 | [a],_=>by have:c8 [a]=mn a:=Lib.join_one _ _;rw[this,D4];rfl
 | a::d::c,_=>by have g:=Bc (d::c) aA;have e:c8 (a::d::c)=mn a++46::c8 (d::c):=Jp _ _ _;rw[e,zf,<- g,dE,ey,D4];omega
def Fx{a}(e:a≠[])(h:∀d∈a,d≠[]):h9 (c8 a):=λd c=>by
 have b:=Et<|c8 a;rw[CZ e]at b;rw[<- b]at c;obtain⟨j,g,rfl⟩:=lZ.1 c;obtain⟨k,i,rfl⟩:=lZ.1 g
 simp_all
def ais:mj (cJ c)=E c+1:=by have b:=Jk _ c bv;unfold cJ mj;unfold mj at b;rw[nu,<- b];congr 1;refine pt λa _=>?_;show(b9 ut a).length+1=_;rw[fC]
def C0(i:jJ c j)(B:mj r<=254)(y:∀z∈r,z≠[])(a g:Int)(h:Bool)(e:Int):(∃q:Nat,q<=16/\(fK c j (c8 r) a g h e).1.1=(q:Int))/\(∀d∈(fK c j (c8 r) a g h e).1.2.2.1++((fK c j (c8 r) a g h e).1.2.2.2++(fK c j (c8 r) a g h e).2),mA (c8 r) d/\r≠[])/\E (fK c j (c8 r) a g h e).1.2.2.1<=100/\E (fK c j (c8 r) a g h e).1.2.2.2<=100/\E (fK c j (c8 r) a g h e).2<=100:=by
 unfold fK;split;{exact⟨⟨16,G,af⟩,λd b=>(by cases b),aA,aA,aA⟩};{
 split;{exact⟨⟨5,G,af⟩,λd b=>(by cases b),aA,aA,aA⟩};{
 rename_i w;have x:=λrs=>w<|bE<|bE rs;have k:r≠[]:=λrs=>by subst rs;exact x af
 have l:=Fx k y;have C:=Bc r k;have n:=Ow i (T:=c8 r) a 9 aE ao [] (c8 r) l G (bG af) (λd b=>by cases b);have o:=XZ (o:=c) (rs:=j) a 9 aE ao [] (c8 r);have p:=A4 i a 9 aE ao [] (c8 r) l G (λd b=>by cases b)<|eb _;have t:=X0 i (T:=c8 r) (lx c j a<|c8 r).2.2.1 ((lx c j a<|c8 r).2.2.1++(lx c j a<|c8 r).2.2.2) ([],[]) (λd b=>by cases b);have u:=Ox (rs:=j) (lx c j a<|c8 r).2.2.1 ((lx c j a<|c8 r).2.2.1++(lx c j a<|c8 r).2.2.2) ([],[]) aA;have A:=Ad i;refine⟨o,λd b=>⟨?_,k⟩,cU p.2.2.1 G,cU p.2.2.2 G,cU u G⟩;rcases lc.1 b with b|b;{exact n.1 d b};{rcases lc.1 b with b|b;{exact(n.2.1 d b).1};{exact t d b}}}}
def X5(z:jJ c y)(F:mj r<=254)(q:∀a∈r,a≠[]/\E a<=63){n:Int}{g K:List e7}(h:Bb (fK c y (c8 r) i p t n) r H R g K):(∀a∈R++(g++K),DW a)/\(R++(g++K)≠[]->r≠[])/\E R<=100/\E g<=100/\E K<=100:=by obtain⟨_,J,u,w,x⟩:=C0 z F (λa h=>(q a h).1) i p t n;have o:∀a∈R++(g++K),mA (c8 r) a.2.2.1/\r≠[]:=λa d=>J _ (by{rw[<- h.1,<- h.2,<- h.3,<- kq,<- kq];exact Ec d});have k:∀a∈R++(g++K),a.2.2.2=r\/a.2.2.2=cJ a.2.2.1.owner:=λa d=>by{rcases lc.1 d with b|b;{rw[h.la a b];split;{exact .inl rfl};{exact .inr rfl}};{exact .inr<|h.Fp a b}};refine⟨λa d=>?_,λb=>?_,by rw[<- h.1,fC]at u;exact u,by rw[<- h.2,fC]at w;exact w,by rw[<- h.3,fC]at x;exact x⟩;{obtain⟨j,B⟩:=o a d;have C:=j.2;refine⟨j.5,zQ j.4 G,j.6,?_,?_,?_⟩;{rcases k a d with b|b;{rw[b];exact B};{rw[b];exact It _}};{rcases k a d with b|b;{rw[b];exact λA l=>cU (q A l).2 G};{rw[b];intro A l;obtain⟨L,I,rfl⟩:=lZ.1 l;rw[fC];exact cU (qE 46 _ _ bv L I) C}};{rcases k a d with b|b;{rw[b];omega};{rw[b,ais];omega}}};{obtain⟨a,d⟩:=List.exists_mem_of_ne_nil _ b;exact(o a d).2}
def aiu(w:jJ c j){A:Nat}(K:gZ g=ag (L,r,a,P,t,A,d))(y:12<=E g)(T:E g<=2000000){l o:List e7}(V:FH b e r)(x:Bb (fK c j (c8 r) a P t d) r H R l o)(m:jq b k R)(B:jq b s l)(S:jq b F o)(n:∀h∈R++(l++o),gG b h.1 h.2.2.2/\gG b h.2.1 (I 32 h.2.2.1.data)):bd aK 78 #[aZ g,ci #[aZ L,e,J (a:Int),J (P:Int),aG t,J (A:Int),J (d:Int)],ci #[J (fK c j (c8 r) a P t d).1.1,aG (fK c j (c8 r) a P t d).1.2.1,k,s,F]] b λp W=>p=bg (aZ<|Bs g L r t A (c7 (fK c j (c8 r) a P t d).1.1) (fK c j (c8 r) a P t d).1.2.1 [R,l,o])/\a7 b W:=by obtain⟨u,q,X,_,_,C,_,_⟩:=CY K;obtain⟨M,N,O,z,Q⟩:=X5 w u q x;obtain⟨Z,Y,p⟩:=(C0 w u (λh x=>(q h x).1) a P t d).1;rw[p,vi];exact ah1 y T V G G (λh x=>cU (q h x).2 G) G C m B S n M O z Q N
def Oz(q:jq b e R)(o:gz b a i t (bY) (bY)<|bY)(n:cL (λc=>c≠a) b f):jq f e R:=by
 rcases q with q|⟨d,ay,x,y,z,l,A⟩;{exact bG q};{
 refine bE ⟨d,ay,x,y,z,e8 l n.4,λp C=>?_⟩;obtain⟨G,H,I,r,J⟩:=A p C;have B:d≠a:=by{
 rintro rfl;obtain⟨v,bA,u,w,cD⟩:=o.cells;generalize ay+p*5+3=F at r;match F,r with
 | 0,r=>rw[v]at r;cases r
 | 1,r=>rw[bA]at r;cases r
 | 2,r=>rw[u]at r;cases r
 | 3,r=>rw[w]at r;cases r
 | 4,r=>rw[cD]at r;cases r
 | L+5,r =>{rw[aD,o]at r;simp at r}};have c:∀(K:Nat) (j:bm),co b d K j->co f d K j:=λK j D=>(ev (a:=⟨d,K,ai⟩) (n.5 d l B)).trans D;exact⟨c _ _ G,c _ _ H,c _ _ I,c _ _ r,c _ _ J⟩}
def X6(d:Nat)(k:d<4096)(j:12<=E c)(n:E c<=2000000)(h:b.1[a]? = ag (aS #[ak am 0,ak am 0,ak am 0,ak am 0] 3)):bd aK 75 #[aZ c,aG ao,aG ao,J d,bC a 0 4 4] b (cQ (aZ<|qi c ao ao d [0,0,0,0]) b):=by
 have g:im b a [0,0,0,0] 3:=h;refine TB ao ao 4 j G k af (λl hc=>?_) g.lt λm i=>?_;{exact P3};{
 have e:m<4:=i;have:=g.cell m e;match m,e,this with
 | 0,_,this=>exact this
 | 1,_,this=>exact this
 | 2,_,this=>exact this
 | 3,_,this=>exact this}
def zu{P:Prop}(h:P:=by simp[aD,I7]):P:=h
def aiv(m:ap)(cm:nS b a c j)(bO:a7 b f)(b4:jJ c j)(a2:E m<=2000000):bd aK 28 #[N a,aZ m] f λh H=>(∃q,h=bg (aZ q)/\uT c j m q)/\a7 f H:=by
 have:=de m;by_cases dl:E m<12
 ·have c2:(E m:Int)<12:=G;go_wp2;go_ret;exact⟨⟨[],af,by rw[uT,b7<|bG dl]⟩,dz _ _⟩
 have aT:12<=E m:=G;have c2:¬(E m:Int)<12:=G;have cR:2<E m:=G;have⟨L,hc⟩:=bi<|m[2]
 have bt:∀d:2<(O m).size,(O m)[2]=L:=λd=>bZ hc;have ah:m.getD 2 0=L:=by rw[hc,jw,gw cR];rfl
 have:(2:Int)<(E m:Int):=G;clear hc;by_cases cK:128<=be L
 ·have cH:(128:Int)<=(be L:Int):=G;go_wp2;go_ret;exact⟨⟨[],af,by unfold uT;rw[b7<|bE (by rw[ah];exact cK)]⟩,dz _ _⟩
 have cH:¬(128:Int)<=(be L:Int):=G;obtain⟨bP,cE⟩:=bi<|be L/8%16;have:(be L:Int)/8%16=(bP:Int):=G;have⟨ON,ajF⟩:=bi (aS #[ak am 0,ak am 0,ak am 0,ak am 0] 3:nQ)
 have bf:(aO f ON).1[U f.1]? = ag (aS #[ak am 0,ak am 0,ak am 0,ak am 0] 3):=by rw[du,ajF]
 have a0:a7 f (aO f ON):=ct cd bv _;by_cases dy:bP=0
 case neg =>
  have:((bP:Int) != 0)=aE:=cx;have az:=ae<|X6 4 G aT a2 bf;have aq:ax (uT c j m<|qi m ao ao 4 [0,0,0,0]):=by
   rw[uT,ax,bJ (by rw[ah];omega),b7 (by rw[ah];omega)]
  have aH:=ae a0;clear bf a0 cE ah;go_in;go_wp2_with fail;rw[<- ajF];refine gU az ?_;rintro h k ⟨rfl,X⟩;have y:=ae<|bN aH<|bV X aH.4;clear X az aH;go_wp2;go_ret;exact⟨⟨_,af,aq⟩,y⟩
 have bo:=ae<|aiG (aO f ON) aT a2;have aq:ax (∀q,(match gZ m with
   | none=>q=qi m ao ao 1 [0,0,0,0]
   | some (cw,e,a9,aW,i,cD,aV)=>∃z w r x,Bb (fK c j (c8 e) a9 aW i aV) e z w r x/\q=Bs m cw e i cD (c7 (fK c j (c8 e) a9 aW i aV).1.1) (fK c j (c8 e) a9 aW i aV).1.2.1 [w,r,x])->uT c j m q):=λq d=>by
  unfold uT;rw[bJ (by rw[ah];omega),bJ (by rw[ah];omega)];exact d
 have aH:=ae a0;have bI:=ae bf;have b_:=ae cm;have dm:=ae λl (bB:a7 f l)=>bN bO<|bV bB bO.4;have aI:=ae b4;have:U (aO f ON).1=U f.1+1:=aA;clear bf a0 cE ah cm bO b4;go_in;go_wp2_with fail;rw[<- ajF];refine gU bo ?_;rintro h k ⟨⟨av,a6,a9,aW,i,cD,aV,dA,rfl,⟨aa,ac,ab,rfl⟩,aB⟩,X⟩;have:=X.4;have aX:=bN aH<|bV X G;cases R:gZ m with
 | none =>
  rw[R]at aB;have cM:=aB;subst cM;have c5:=ae (aq (qi m ao ao 1 [0,0,0,0])<|by rw[R]);have az:ax (∀p:nQ,bd aK 75 #[aZ m,aG ao,aG ao,J 1,bC (U f.1) 0 4 4] (aO k p) λh H=>h=bg (aZ<|qi m ao ao 1 [0,0,0,0])/\cB (U (aO k p).1) (aO k p) H):=λp =>
   X6 1 G aT a2 ((dT k p (U f.1) G).trans<|(X.5 (U f.1) G).trans<|V bI)
  have y:=ae aX;clear aB R aq bo X aX bI;go_wp2_with fail;refine(az _).mono ?_;rintro h cF ⟨rfl,Y⟩;have aM:=ae<|(ct y y.4 _).trans<|bV Y (by have:=y.4;simp;omega);clear Y az y;go_wp2;go_ret;exact⟨⟨_,af,c5⟩,aM⟩
 | some n =>
  obtain⟨cw,e,cu,g,dB,al,o⟩:=n;rw[R]at aB;obtain⟨rfl,rfl,rfl,rfl,rfl,rfl,rfl,bQ⟩:=aB;obtain⟨cn,co,c6,cp,c9,da,db,_⟩:=CY R;have b5:FH k (aL aa ac ab) e:=by
   by_cases a5:e=[]
   ·exact bG ⟨a5,bQ.2.2 a5⟩
   ·obtain⟨au,ar,cW,cX,_,cY⟩:=vx bQ a5;exact bE ⟨a5,au,ar,cW,cX,cY⟩
  have bj:=ae b5;have:=ae R;have⟨fO,sH⟩:=bi (aS #[amz<|O av,aL aa ac ab,ak am cu,ak am g,aG i,ak am al,ak am o] 144:nQ)
  have aR:ax (∀(a6 ba bc bb:bm) (z:Bool) (w r x:List e7) (l:aQ),FH l a6 e->Bb (fK c j (c8 e) cu g i o) e z w r x->jq l ba w->jq l bc r->jq l bb x->(∀n∈w++(r++x),gG l n.1 n.2.2.2/\gG l n.2.1 (I 32 n.2.2.1.data))->bd aK 78 #[aZ m,ci #[aZ av,a6,J (cu:Int),J (g:Int),aG i,J (al:Int),J (o:Int)],ci #[J (fK c j (c8 e) cu g i o).1.1,aG (fK c j (c8 e) cu g i o).1.2.1,ba,bc,bb]] l λh H =>
    (∃q,h=bg (aZ q)/\uT c j m q)/\a7 l H):=λa6 ba bc bb z w r x l W bw ce bx bz c0=>by
   refine(aiu (V aI) R aT a2 W bw ce bx bz c0).mono ?_;rintro h H ⟨rfl,bB⟩;exact⟨⟨_,af,V aq _<|R▸⟨z,w,r,x,bw,af⟩⟩,bB⟩
  have bD:∀l:aQ,jq l (bY) []:=λl=>bG ⟨af,af⟩;have y:=ae aX;have ad:=ae<|cv cn<|cv co cp;clear R bQ b5 X aX aq bo bI cn co c6 c9 da db cp
  -- an aUy alone
  have aN:ax (∀a8:Int,fK c j (c8 e) cu g i o=((a8,ao,[],[]),[])->∀p:nQ,p=aS #[ak am a8,aG ao,aL ai 0 0,aL ai 0 0,aL ai 0 0] 123->bd aK 78 #[aZ m,ci #[aZ av,aL aa ac ab,J (cu:Int),J (g:Int),aG i,J (al:Int),J (o:Int)],ci #[J a8,aG ao,bY,bY,bY]] (aO (aO k fO) p) λh H =>
    (∃q,h=bg (aZ q)/\uT c j m q)/\cB (U (aO (aO k fO) p).1) (aO (aO k fO) p) H):=λa8 F p dx=>by
   have:=V aR (aL aa ac ab) (bY) (bY) (bY) ao [] [] []<|aO (aO k fO) p;rw[F]at this;refine this ?_ ⟨af,af,af,λn t=>(by cases t),λn t=>by cases t⟩ (bD _) (bD _) (bD _) (λn t=>by cases t);have di:a7 k (aO (aO k fO) p):=(ct cd bv _).alloc aA _;rcases V bj with⟨u,C⟩|⟨u,au,ar,C,aJ,h⟩
   ·exact bG ⟨u,C⟩
   ·exact bE ⟨u,au,ar,C,aJ,h.below di⟩
  have aP:ax (∀(p:nQ) (l:aQ),cB (U (aO (aO k fO) p).1) (aO (aO k fO) p) l->a7 f l):=λp l aY=>by
   have W:=(ct y y.4 fO).alloc (by have:=y.4;simp;omega) p;exact bN W<|bV aY W.4
  by_cases P:i=aE/\(o:Int)≠0
  ·have F:fK c j (c8 e) cu g i o=((16,ao,[],[]),[]):=by rw[fK,b7 P]
   have ay:=ae<|aN 16 F;have bU:((o:Int) != 0)=aE:=by simpa using P.2
   have c4:=P.1;subst c4;clear P F aN aR;go_wp2_with fail;rw[<- sH];refine(ay _ af).mono ?_;rintro h cF ⟨⟨q,rfl,Q⟩,Y⟩;have aM:=ae<|aP _ _ Y;have aC:=ae Q;clear Y Q ay aP;go_wp2;go_ret;exact⟨⟨_,af,aC⟩,aM⟩
  have cr:i=ao\/(i=aE/\((o:Int) != 0)=ao):=by
   cases i
   ·exact bG af
   ·refine bE ⟨af,?_⟩;by_cases a4:(o:Int)=0
    ·rw[a4];rfl
    ·exact absurd ⟨af,a4⟩ P
  by_cases aj:((g:Int)≠1\/vr (cu:Int)=ao)
  ·have F:fK c j (c8 e) cu g i o=((5,ao,[],[]),[]):=by
    rw[fK,bJ P,b7 (by rcases aj with d|d;exact bG d;exact bE<|bG d)]
   have ay:=ae<|aN 5 F;have cN:((g:Int) != 1)=aE\/(((g:Int) != 1)=ao/\((cu:Int)==0)=aE)\/(((g:Int) != 1)=ao/\((cu:Int)==0)=ao/\((cu:Int)==41)=aE)\/(((g:Int) != 1)=ao/\((cu:Int)==0)=ao/\((cu:Int)==41)=ao/\(249:Int)<=(cu:Int)/\(cu:Int)<=254):=by
    by_cases W:(g:Int)=1
    ·right;have bu:((g:Int) != 1)=ao:=cx;have Z:=aj.resolve_left λd=>d W;unfold vr at Z;by_cases bw:(cu:Int)=0
     ·exact bG ⟨bu,cx⟩
     ·right;have cc:((cu:Int)==0)=ao:=cx;by_cases ce:(cu:Int)=41
      ·exact bG ⟨bu,cc,cx⟩
      ·right;have cQ:((cu:Int)==41)=ao:=cx;have bx:((cu:Int) != 0)=aE:=cx;have bz:((cu:Int) != 41)=aE:=cx;rw[bx,bz]at Z;simp only[yn,DQ,Ei]at Z;exact⟨bu,cc,cQ,G,G⟩
    ·exact bG cx
   clear P F aN aR aj;rcases cr with rfl|⟨rfl,bU⟩
   all_goals
    rcases cN with aF|⟨aF,aU⟩|⟨aF,aU,bp⟩|⟨aF,aU,bp,b8,cT⟩
    all_goals
     go_wp2_with fail;rw[<- sH];refine(ay _ af).mono ?_;rintro h cF ⟨⟨q,rfl,Q⟩,Y⟩;have aM:=ae<|aP _ _ Y;have aC:=ae Q;clear Y Q ay aP;go_wp2;go_ret;exact⟨⟨_,af,aC⟩,aM⟩
  have cg:=BR λd=>aj<|bG d;have Z:vr (cu:Int)=aE:=by
   cases d:vr (cu:Int)
   ·exact absurd (bE d) aj
   ·rfl
  have F:fK c j (c8 e) cu g i o=if c8 e=[]then((5,ao,[],[]),[])else(lx c j cu<|c8 e,tY c j cu<|c8 e):=by
   rw[fK,bJ P];by_cases a3:c8 e=[]
   ·rw[b7<|bE<|bE a3,b7 a3]
   ·rw[bJ (by rintro(d|d|d);exact d cg;rw[Z]at d;cases d;exact a3 d),bJ a3]
  have cJ:(((g:Int) != 1)=ao/\((cu:Int)==0)=ao/\((cu:Int)==41)=ao/\¬(249:Int)<=(cu:Int))\/(((g:Int) != 1)=ao/\((cu:Int)==0)=ao/\((cu:Int)==41)=ao/\(249:Int)<=(cu:Int)/\¬(cu:Int)<=254):=by
   simp only[vr,fx,BF,vY,sq]at Z;have ca:((g:Int) != 1)=ao:=cx;have bt:((cu:Int)==0)=ao:=cx;have cb:((cu:Int)==41)=ao:=cx;by_cases d:(249:Int)<=(cu:Int)
   ·exact bE ⟨ca,bt,cb,d,G⟩
   ·exact bG ⟨ca,bt,cb,d⟩
  have b0:ax (∀l,a7 k l->bd aK 77 #[N a,ci #[aZ av,aL aa ac ab,J (cu:Int),J (g:Int),aG i,J (al:Int),J (o:Int)]] l λh H=>OV H h (fK c j (c8 e) cu g i o).1 (fK c j (c8 e) cu g i o).2 e/\a7 l H):=λl aY=>by
   have cq:=V dm l<|bN y<|bV aY y.4;rcases V bj with⟨u,C⟩|⟨u,au,ar,C,aJ,h⟩
   ·rw[F,u,C];exact aip (V b_) cq<|V aI
   ·have cl:=Bc e u;have:=zg e;have c3:c8 e≠[]:=λh=>by
     have W:=ad.2.1;cases e with
     | nil=>exact u af
     | cons n z =>
      rw[h,zf]at cl;have:=(W n aA).1;have:E n≠0:=λd=>this<|iM d;simp at cl;omega
    have cj:=Fx u λn t=>(ad.2.1 n t).1;have ch:=Ow (V aI) (T:=c8 e) cu 9 aE ao [] (c8 e) cj (by have:=ad.1;omega) (bG af) (λcy bF=>by cases bF);rw[F,bJ c3,C];exact aio (V b_) cq (V aI) (h.below aY) aJ u (CZ u) cj (by have:=ad.1;omega) (λn t=>cU (ad.2.1 n t).2 G) (by have:=ad.1;omega) λd=>⟨ch.2.2 d,λcy bF=>by have:=(ch.2.1 cy bF).2;omega⟩
  have⟨eV,pT⟩:=bi (aS #[ak am 0,aG ao,aL ai 0 0,aL ai 0 0,aL ai 0 0] 123:nQ)
  have cf:a7 k (aO (aO k fO) eV):=(ct cd bv _).alloc aA _;have b6:(aO (aO k fO) eV).1[U k.1]? = ag (aS #[amz<|O av,aL aa ac ab,ak am cu,ak am g,aG i,ak am al,ak am o] 144):=by
   rw[<- sH];exact(dT (aO k fO) eV (U k.1) aA).trans<|du k fO
  have b3:gz (aO (aO k fO) eV) (U k.1+1) 0 ao (bY) (bY) (bY):=by
   have:=du (aO k fO) eV;rw[gd]at this;rw[gz,this,pT]
  have cS:=ae<|b0 _ cf;have dn:=ae b6;have cI:=ae b3;have:U (aO (aO k fO) eV).1=U k.1+2:=aA;have cO:ax (∀z w r x,Bb (fK c j (c8 e) cu g i o) e z w r x->∀n∈w++(r++x),DW n):=λz w r x t=>(X5 (V aI) ad.1 ad.2.1 t).1;generalize fK c j (c8 e) cu g i o=aw at *;clear P aj F b0 aN cf b6 b3 aP cg Z;rcases cr with rfl|⟨rfl,bU⟩
  all_goals
   rcases cJ with⟨aF,aU,bp,b8⟩|⟨aF,aU,bp,b8,cT⟩
   all_goals
    go_wp2_with fail;rw[<- sH,<- pT];refine gU cS ?_;rintro h B ⟨⟨v,z,ba,bc,bb,w,r,x,rfl,Q⟩,a1⟩;obtain⟨a4,cz,cA,cC,df,dg,dh,dc,dd,cs⟩:=Q;have bR:∀ {v:bm} {dp:List e7},jq B v dp->∃u dj L,v=aL u dj L:=λd=>by
     rcases d with⟨d,_⟩|⟨_,_,_,d,_⟩<;>exact⟨_,_,_,d⟩
    obtain⟨bk,bK,bA,rfl⟩:=bR cz;obtain⟨bl,bL,br,rfl⟩:=bR cA;obtain⟨bn,bM,bs,rfl⟩:=bR cC;have:=a1.4;have S:=cI.kept<|a1.5 (U k.1+1) G;have I7:=(a1.5 (U k.1) G).trans<|V dn;have:aD B (M (U k.1) 0)=ag (aZ av):=zu
    have:aD B (M (U k.1) 1)=ag (aL aa ac ab):=zu
    have:aD B (M (U k.1) 2)=ag (J cu):=zu
    have:aD B (M (U k.1) 3)=ag (J g):=zu
    first
     | have dk:aD B (M (U k.1) 4)=ag (aG ao):=by simp[aD,I7]
     | have dk:aD B (M (U k.1) 4)=ag (aG aE):=by simp[aD,I7]
    have:aD B (M (U k.1) 5)=ag (J al):=zu
    have:aD B (M (U k.1) 6)=ag (J o):=zu
    obtain⟨dD,dE,dF,dG,dH⟩:=S.cells;have:=S.frozen;have K:cL (λbH=>bH≠U k.1+1) B (a_ (a_ (a_ (a_ (a_ B ⟨U k.1+1,0,ai⟩<|ak am aw.1.1) ⟨U k.1+1,1,ai⟩<|aG aw.1.2.1) ⟨U k.1+1,2,ai⟩<|aL bk bK bA) ⟨U k.1+1,3,ai⟩<|aL bl bL br) ⟨U k.1+1,4,ai⟩<|aL bn bM bs) :=
     (((((cL.j9 (A:=B) (a:=⟨U k.1+1,0,ai⟩) _ λ_ d=>d).trans (cL.j9 (a:=⟨U k.1+1,1,ai⟩) _ λ_ d=>d)).trans (cL.j9 (a:=⟨U k.1+1,2,ai⟩) _ λ_ d=>d)).trans (cL.j9 (a:=⟨U k.1+1,3,ai⟩) _ λ_ d=>d)).trans (cL.j9 (a:=⟨U k.1+1,4,ai⟩) _ λ_ d=>d))
    have bT:Bb aw e z w r x:=⟨df,dg,dh,dc,dd⟩
    have b2:=
     ((((dz (U k.1) k).alloc bv fO).alloc aA eV).trans<|bV a1 G).trans ⟨K.1,K.2,K.3,K.4,λbH Z=>K.5 bH G G⟩
    have cP:=ae (aR (aL aa ac ab) (aL bk bK bA) (aL bl bL br) (aL bn bM bs) z w r x _ (by
     rcases V bj with⟨u,C⟩|⟨u,au,ar,C,aJ,h⟩
     ·exact bG ⟨u,C⟩
     ·exact bE ⟨u,au,ar,C,aJ,h.below b2⟩) bT (Oz cz S K) (Oz cA S K) (Oz cC S K) λn t=>⟨N1 (cs n t).1 (yq.2 (cO _ _ _ _ bT n t).4) S K,N1 (cs n t).2 (E2 32 _) S K⟩)
    have cG:=((((S.set0 aw.1.1).set1 aw.1.2.1).set2<|aL bk bK bA).lM<|aL bl bL br).o6<|aL bn bM bs;obtain⟨dq,ds,dt,dv,dw⟩:=cG.cells;have b1:=ae<|bN y<|bV b2 y.4;have:=ae<|cv dq<|cv ds<|cv dt<|cv dv dw;subst a4;go_wp2_with fail;refine gU cP ?_;rintro h dC ⟨⟨q,rfl,Q⟩,cZ⟩;have c1:=ae<|bN b1<|bV cZ b1.4;have aC:=ae Q;go_wp2;go_ret;exact⟨⟨_,af,aC⟩,c1⟩
def OK(a b:Nat)(c:a<9223372036854775808)(d:b<9223372036854775808):bits .and am (a:Int) (b:Int)=((a &&& b:Nat):Int):=by have:a &&& b<2 ^ 63:=zQ Nat.and_le_left G;show am.wrap ((BitVec.ofInt 64 (a:Int) &&& BitVec.ofInt 64 (b:Int)).toNat:Int)=_;rw[Lh,yv a G,yv b G];generalize a &&& b=e at *;rw[wL];omega
def ud(a b:Nat):Nat:=(32768 ||| (a &&& 30976)) ||| (b &&& 15)
def C5(a b):ud a b<65536:=by have c:a &&& 30976<2 ^ 16:=zQ Gb G;have d:b &&& 15<2 ^ 16:=zQ Gb G;exact Eg (Eg G c) d
def JA(b:Nat)(d:a<65536)(e:b<65536):sT (a:Int) (b:Int)=(ud a b:Int):=by
 have c:a &&& 30976<2 ^ 16:=zQ Gb G;have:b &&& 15<2 ^ 16:=zQ Gb G;have:32768 ||| (a &&& 30976)<2 ^ 16:=Eg G c
 rw[sT,show bits .and am (a:Int) 30976=((a &&& 30976:Nat):Int)from OK a 30976 G G,show bits .and am (b:Int) 15=((b &&& 15:Nat):Int)from OK b 15 G G,show bits .or am 32768 ((a &&& 30976:Nat):Int)=((32768 ||| (a &&& 30976):Nat):Int)from DZ 32768 _ G G];exact DZ _ _ G G
def tM(a m:Nat)(b:Bool):Nat:=if b=aE then a ||| m else a
def OL(b:a<65536)(c:d<65536):tM a d t<65536:=by unfold tM;split;{exact Eg (n:=16) G G};omega
def JB(m:Nat)(b)(d:a<65536)(c:m<65536):sE (a:Int) (m:Int) b=(tM a m b:Int):=by unfold sE tM;split;{exact DZ a m G G};{rfl}
def OM(s a):cG s a<65536:=by have:=gY<|s.getD a 0;have:=gY<|s.getD (a+1) 0;unfold cG;omega
def ajq(a:12<=E c):AA c=([cG c 0,cG c 2,cG c 4,cG c 6,cG c 8,cG c 10],aE):=by
 match c,a with
 | b::m::g::h::i::j::k::l::n::o::d::e::p,_ =>{simp only[AA,pz,Bd,cG,List.getD_cons_zero,List.getD_cons_succ,DP,zR]}
def PG{P:Prop}(h:P:=by intro s;show(pz k _ (fj s aE).2.2).2.2=aE;rw[akF];grind):P:=h
def YY:∀(k:Nat) (s:ap) (a:Bool),E s<2*k->(pz k s a).2.2=aE
 | 0,_,_,b=>by omega
 | k+1,s,a,b=>by
  show(pz k (fj s a).2.1 (fj s a).2.2).2.2=aE
  match s,b with
  | [],_=>
   have c:∀k s,(pz k s aE).2.2=aE:=by
    intro k;induction k with
    | zero=>intro s;rfl
    | succ k e=>exact PG
   exact c k _
  | [d],_ =>
   have c:∀k s,(pz k s aE).2.2=aE:=by
    intro k;induction k with
    | zero=>intro s;rfl
    | succ k e=>exact PG
   exact c k _
  | d::g::s,b=>exact YY k s a (by grind)
def aiR(g:E c<12):∃a b m d e f:Nat,AA c=([a,b,m,d,e,f],ao):=by have:=YY 6 c ao G;refine⟨_,_,_,_,_,_,Eh af ?_⟩;show(!(pz 6 c ao).2.2)=ao;grind
def JC(a:Int):Prop:=a=0\/a=2\/a=3\/a=5\/a=16
def YZ(b c g first d e a):JC (gO b (cq c) g first d e a).1:=by
 unfold gO;split;{
 cases first
 {exact bG af};{exact bE<|bE<|bE<|bG af}};{
 split;{exact bG af};{
 split;{split;{exact bE<|bG af};{exact bG af}};{
 show JC (nh b (cq c) a);unfold nh;repeat' split
 all_goals first|exact bG af|exact bE (bE<|bG af)|exact .inr (.inl rfl)|exact .inr<|.inr<|.inr<|.inl rfl}}}
def Y0(d e g):∀(f:Nat) (first a:Bool) (b:List D) (c:ap),JC (kw d (cq e) g f first a b c).1
 | 0,first,a,b,c=>YZ d e g first a b c
 | f+1,first,a,b,c=>by
  have h:=YZ d e g first a b c
  unfold kw;generalize gO d (cq e) g first a b c=l at h
  obtain⟨p,j,n,o,k⟩:=l;cases k with
  | none=>exact h
  | some i=>exact Y0 d e g f ao j n i
def aiS(c d b a g h e):JC (fK c d b a g h e).1.1:=by unfold fK;split;{exact bE<|bE<|bE<|bE af};{split;{exact bE<|bE<|bE<|bG af};{exact Y0 c d a 9 aE ao [] b}}
def aiT{b}(h:gZ c=ag (g,r,a,d,t,P,b)):cG c 4=1/\cG c 6=0/\cG c 8=0/\cG c 10=if t=aE then 1 else 0:=by unfold gZ at h;grind
def oP(e:ap)(g:List D)(m i:ap):Prop :=
 if E m<12\/cG m 2 &&& 32768≠0 then i=[]
 else if cG m 2 &&& 30720≠0 then i=ew (jM (cG m 0) (ud (cG m 2) 4) 0 0 0 0)
 else match gZ m with
  | none=>i=ew (jM (cG m 0) (ud (cG m 2) 1) 0 0 0 0)
  | some (j,a,h,d,b,k,c)=>i=Bi (cG m 0) (cG m 2) b (fK e g (c8 a) h d b c).1.2.1 k (fK e g (c8 a) h d b c).1.1 j (c8 a) (fK e g (c8 a) h d b c).1.2.2.1 (fK e g (c8 a) h d b c).1.2.2.2 (fK e g (c8 a) h d b c).2
def Y1(g:ap)(h:List D)(m:ap):Prop:=∀i a e c d j b,gZ m=ag (i,a,e,c,d,j,b)->FA (fK g h (c8 a) e c d b).1.2.2.1/\FA (fK g h (c8 a) e c d b).1.2.2.2/\FA (fK g h (c8 a) e c d b).2/\E (jZ 12<|c8 a)<=300
def Y2(b:Nat)(c:a<65536)(d:b<65536):(bits .and am (a:Int) (b:Int) != 0)=dQ (a &&& b≠0):=by rw[OK a b G G];grind
def Pv{P:Prop}(h:P:=by rintro e w' ⟨rfl,hb⟩;exact⟨⟨_,af,by unfold oP;grind⟩,hb⟩):P:=h
def aiU{ay aq}(V:jJ c j)(av:iL b a c d ay aq<|cq j)(X:d3 b)(aI:E g<=2000000)(aj:Y1 c j g):bd aK 27 #[N a,amz<|O g] b λe w'=>(∃T,e=bg (amz<|O T)/\oP c j g T)/\a7 b w':=by
 have k:=amv g b G;by_cases aa:E g<12;{have⟨i,b',c0,bA,c2,c3,n⟩:=aiR aa;rw[n]at k;exact(YP (bG af) k).m λw' hb=>⟨⟨[],af,by unfold oP;grind⟩,hb⟩};rw[ajq G]at k;have r:=OM g 2;have aN:=OM g 0;have an:=Y2 32768 r G;have t:=Y2 30720 r G;by_cases C:cG g 2 &&& 32768≠0;{rw[mL C]at an;exact(YP (bE ⟨af,an⟩) k).m λw' hb=>⟨⟨[],af,by unfold oP;grind⟩,hb⟩};rw[gD C]at an;have:¬(E g<12\/cG g 2 &&& 32768≠0):=λq=>q.elim aa C;by_cases W:cG g 2 &&& 30720≠0;{rw[mL W]at t;exact(aiw aN (C5 _ _) (JA 4 r G) an t k).m λw' hb=>⟨⟨_,af,by unfold oP;grind⟩,hb⟩};rw[gD W]at t;have Y:=λx=>aiB g (cG g 0) (cG g 2) x G G;cases A:gZ g with
 | none =>{refine(aiy aN (C5 _ _) (JA 1 r G) an t k λx=>(Y x).mono ?_).mono ?_;{rintro e w' ⟨q,hb⟩;unfold Be at q;grind};{exact Pv}}
 | some al =>{obtain⟨K,S,w,p,l,Q,o⟩:=al;have:=aiT A;have⟨o1,o2,o3,o4,ig,ij,ik,_⟩:=CY A;have⟨s1,s2,s3,s4⟩:=aj K S w p l Q o A;have⟨_,a2,a3,a4,a5⟩:=C0 V o1 (λR F=>(o2 R F).1) w p l o;have H:=aiS c j (c8 S) w p l o;have aJ:E (c8 S)<=254:=by{by_cases n:S=[];{subst n;assumption};{have:=Bc S n;omega}};have aw:c8 S=[]\/h9 (c8 S):=by{by_cases n:S=[];{subst n;exact bG af};{exact bE<|Fx n λR F=>(o2 R F).1}};have⟨Ck,aww⟩:=dK<|fK c j (c8 S) w p l o;rw[aww]at a2 a3 a4 a5 H s1 s2 s3;obtain⟨⟨aC,h,B,I⟩,z⟩:=Ck;simp only at a2 a3 a4 a5 H s1 s2 s3;have az:C4 B:=⟨λu Z=>FE (a2 u<|by grind).1.wr,s1,G⟩;have aA:C4 I:=⟨λu Z=>FE (a2 u<|by grind).1.wr,s2,G⟩;have aB:C4 z:=⟨λu Z=>FE (a2 u<|by grind).1.wr,s3,G⟩;have aH:∃m:Nat,m<65536/\aC=(m:Int):=by{grind};obtain⟨m,au,rfl⟩:=aH;have ar:sE (sT (cG g 2:Nat) (m:Int)) 1024 h=(tM (ud (cG g 2) m) 1024 h:Int):=by{rw[JA m r au];exact JB 1024 h (C5 _ _) G};have D:tM (ud (cG g 2) m) 1024 h<65536:=OL (C5 _ _) G;refine(ajh a w p Q o l K (c8 S) (Bi (cG g 0) (cG g 2) l h Q m K (c8 S) B I z) (λx ab ac ad ae ah=>ab=J m/\ac=aG h/\kN x ad B/\kN x ae I/\kN x ah z) an t k (λx=>(Y x).mono ?_) (λx y=>?_) λx ab ac ad ae ah y ap=>?_).mono ?_;{rintro e w' ⟨q,hb⟩;unfold Be at q;grind};{refine(adH V (av.below y) (X.below y) aw G).mono ?_;rintro e w' ⟨⟨v,rfl,aM,aP,aR,rfl,L,M,P,_⟩,hb⟩;rw[aww]at *;exact⟨⟨_,_,_,_,_,af,af,af,L.rv,M.rv,P.rv⟩,hb⟩};{obtain⟨rfl,rfl,L,M,P⟩:=ap;exact ajp (X.below y) aN L M P az aA aB G G s4 H ar D λaF=>⟨_,JB 512 aF D G,OL D G⟩};{exact Pv}}
def OQ(d)(c)(i:a<256):(256*d+a) &&& (256*c)=256*(d &&& c):=by have g:=Nat.and_div_two_pow (a:=256*d+a) (b:=256*c) (n:=8);have h:=Nat.and_mod_two_pow (a:=256*d+a) (b:=256*c) (n:=8);rw[show(2 ^ 8:Nat)=256 from af,show(256*d+a)/256=d by omega,show 256*c/256=c by omega]at g;rw[show(2 ^ 8:Nat)=256 from af,show 256*c%256=0 by omega,Nat.and_zero]at h;omega
def OR(a b d c)(i:b<256)(h:c<256):(256*a+b) ||| (256*d+c)=256*(a ||| d)+(b ||| c):=by have e:=Nat.or_div_two_pow (a:=256*a+b) (b:=256*d+c) (n:=8);have g:=Nat.or_mod_two_pow (a:=256*a+b) (b:=256*d+c) (n:=8);rw[show(2 ^ 8:Nat)=256 from af,show(256*a+b)/256=a by omega,show(256*d+c)/256=d by omega]at e;rw[show(2 ^ 8:Nat)=256 from af,show(256*a+b)%256=b by omega,show(256*d+c)%256=c by omega]at g;omega
def aiW:∀a:Nat,a<17->a &&& 15=a%16:=by decide +kernel
def aiX(b)(e:a<256)(g:d<17):ud (256*b+a) d=256*(128 ||| (b &&& 121))+d%16:=by rw[ud,aiW d g,show(30976:Nat)=256*121 from af,OQ b 121 e];have c:=OR 128 0 (b &&& 121) 0 G G;simp only[jn,Nat.or_self]at c;rw[show(32768:Nat)=256*128 from af,c];have:=OR (128 ||| (b &&& 121)) 0 0 (d%16) G G;grind
def aiY:∀a:Nat,a<256->(128 ||| (a &&& 121)=uc a ao ao/\(128 ||| (a &&& 121)) ||| 4=uc a aE ao/\(128 ||| (a &&& 121)) ||| 2=uc a ao aE/\((128 ||| (a &&& 121)) ||| 4) ||| 2=uc a aE aE):=by decide +kernel
def Y3(b)(c)(e:a<256)(d):tM (256*b+a) (256*c) d=256*(if d=aE then b ||| c else b)+a:=by unfold tM;split;{have:=OR b a c 0 e G;grind};{rfl}
def ai0(b c)(h:a<256)(g:d<256)(i:P<17):tM (tM (ud (256*a+d) P) 1024 b) 512 c=256*uc a b c+P%16:=by have:=aiY a h;rw[aiX a g i,show(1024:Nat)=256*4 from af,Y3 _ 4 G b,show(512:Nat)=256*2 from af,Y3 _ 2 G c];grind
def Y4(r:12<=E c)(d g e i bA j k)(w:e<17):ew (jM (cG c 0) (tM (tM (ud (cG c 2) e) 1024 d) 512 g) i bA j k)=qi c d g e [i,bA,j,k]:=by
 match c,r with
 | a::b::m::h::l,_ =>{
 have:=gY b;have t:=gY m;have u:=gY h;have q:cG (a::b::m::h::l) 2=256*be m+be h:=af;have p:cG (a::b::m::h::l) 0=256*be a+be b:=af;rw[q,p,ai0 d g t u w];have cS:aN (256*be a+be b)=a:=by rw[aN,show(256*be a+be b)/256=be a by omega];simp
 have n:cO (256*be a+be b)=b:=by{simp[cO]};have o:aN (256*uc (be m) d g+e%16)=UInt8.ofNat (uc (be m) d g):=by grind[aN]
 have iZ:cO (256*uc (be m) d g+e%16)=UInt8.ofNat (e%16):=by{simp[cO]};simp only[ew,jM,gs,l5,D_,cS,n,o,iZ,pO];rfl}
def Y5(e:12<=E c)(a b bA m d)(g:a<17):ew (jM (cG c 0) (ud (cG c 2) a) b bA m d)=qi c ao ao a [b,bA,m,d]:=Y4 e ao ao a b bA m d g
def Yp:∀a:Nat,a<256->((a &&& 128≠0 ↔ 128<=a)/\(a &&& 120≠0 ↔ a/8%16≠0)):=by decide +kernel
def Yq(m):cG m 2 &&& 32768≠0 ↔ 128<=be (m.getD 2 0):=by have a:=gY<|m.getD 2 0;have b:=gY<|m.getD 3 0;have:=(Yp _ a).1;show(256*be (m.getD 2 0)+be (m.getD 3 0)) &&& (256*128)≠0 ↔ _;rw[OQ _ 128 b,<- this];omega
def Ys(m):cG m 2 &&& 30720≠0 ↔ be (m.getD 2 0)/8%16≠0:=by have a:=gY<|m.getD 2 0;have b:=gY<|m.getD 3 0;have:=(Yp _ a).2;show(256*be (m.getD 2 0)+be (m.getD 3 0)) &&& (256*120)≠0 ↔ _;rw[OQ _ 120 b,<- this];omega
def pq(b a:e7):Bool:=dQ<|b.2.2.2=a.2.2.2/\b.2.2.1.type=a.2.2.1.type
def xu:Nat->List e7->List (List e7)
 | 0,_=>[]
 | _+1,[]=>[]
 | f+1,a::b=>(a::iU (pq a) b)::xu f (mt (pq a) b)
def ai1:xu a []=[]:=by cases a<;>rfl
def OT:∀(f:Nat) (c:List e7) (d:List<|List e7) (a:e7) (b:List e7),E c<=f->c.foldl o_ (d++[a::b])=d++[a::(b++iU (pq a) c)]++xu f (mt (pq a) c)
 | f,[],d,a,b,_=>by simp[ai1]
 | f+1,e::c,d,a,b,j=>by
  have i:E c<=f:=by grind
  rw[GH];by_cases h:a.2.2.2=e.2.2.2/\a.2.2.1.type=e.2.2.1.type;{have g:pq a e=aE:=mL h;rw[XD d b h,g_,OT (f+1) c d a (b++[e]) G,GP g,List.dropWhile_cons_of_pos g,jI b [e]];rfl};{
  have g:¬pq a e=aE:=by unfold pq;grind
  rw[XE d b h,OT f c (d++[a::b]) e [] i,akS g,List.dropWhile_cons_of_neg g,mw,jz];rw[xu,jI<|d++[a::b]];rfl}
 termination_by f c=>(f,E c)
def Yt:i6 R=xu (E R) R:=by
 cases R with
 | nil=>rfl
 | cons b R =>{rw[i6,GH,ah3];have:=OT (E R) R [] b [] bv;assumption}
def Yu{α:Type}{p q}: ∀ {l:List α},(∀a∈l,p a=q a)->iU p l=iU q l/\mt p l=mt q l
 | [],_=>⟨af,af⟩
 | d::l,b=>by have c:=Yu (p:=p) (q:=q) (l:=l) (λa g=>b a<|by grind);have e:=b d aA;simp only[List.takeWhile_cons,List.dropWhile_cons,e,c.1,c.2,and_self]
def Yv:∀(f e:Nat) (c:List e7),(∀a∈c,∀b∈c,pq a b=dj a.2.2.1 b.2.2.1)->b9 (·.2) (le dj f e (b9 (·.2.2.1) c))=b9 (List.map (·.2.2.1)) (xu f c)
 | 0,_,_,_=>af
 | _+1,_,[],_=>af
 | f+1,e,a::g,d=>by have o:∀b∈g,pq a b=(dj a.2.2.1 ∘ λp:e7=>p.2.2.1) b:=λb q=>d a aA b (by grind);obtain⟨j,k⟩:=Yu o;rw[nr,le,xu,nr,nr,List.takeWhile_map,List.dropWhile_map,<- j,<- k];rw[Yv f _ (mt (pq a) g) λh l i n=>d h (by simp[(R7 _).subset l]) i<|by simp[(R7 _).subset n]];rfl
def Oj(d:∀b∈R,∀c∈R,pq b c=dj b.2.2.1 c.2.2.1):b9 (·.2) (dw dj (b9 (·.2.2.1) R))=b9 (List.map (·.2.2.1)) (i6 R):=by rw[dw,Yv _ 0 R d,Yt,fC]
def ai2{d e}(h:d=if t=ao/\cJ c=eA r then r else cJ c)(i:e=if t=ao/\cJ g=eA r then r else cJ g)(k:eA (cJ c)=cJ c)(l:eA (cJ g)=cJ g):d=e ↔ c=g:=by constructor;{intro j;subst h i;refine CN ?_;grind};grind
def Yw{d}(e:r=cJ c)(b:d=cJ g):r=d ↔ c=g:=by rw[e,b];exact TY
def Ol{a b}(c:a.2.2.2=b.2.2.2 ↔ a.2.2.1.owner=b.2.2.1.owner):pq a b=dj a.2.2.1 b.2.2.1:=by grind[pq,dj]
def Yx: ∀ {b:ia} (c:ia),kV r b=ag d->kV r (b++c)=ag d
 | [],_,a=>by cases a
 | h::b,c,a=>by rw[g_,kV];rw[kV]at a;split;{grind};{rename_i g;rw[bJ g]at a;exact Yx c a}
def On:∀(h:List ap) (b:ap) (a:ia),∃g,(dv h b a).2=a++g
 | [],_,a=>⟨[],by simp[dv]⟩
 | c::d,b,a=>by
  cases e:kV (eA (c::d)) a with
  | some i=>rw[y9 e];simp
  | none =>{rw[ul e];obtain⟨g,j⟩:=On d (b++(UInt8.ofNat (E c)::c))<|a++[(eA (c::d),E b)];grind}
def Oo:∀(j:wd) (b:ap) (a:ia),∃d,(ff j b a).2=a++d
 | [],_,a=>⟨[],by simp[ff]⟩
 | .inl g::c,b,a=>Oo c (b++g) a
 | .inr e::c,b,a=>by obtain⟨d,h⟩:=On (I 46 e) b a;obtain⟨v,i⟩:=Oo c (dv (I 46 e) b a).1 (dv (I 46 e) b a).2;exact⟨d++v,by rw[ff,i,h,jI]⟩
def ai3(d c b a):∃e,(nG d c b a).2=a++e:=by have⟨e,hu⟩:=On c b a;have⟨v,hv⟩:=Oo (f_ d) (ly d (dv c b a).1) (dv c b a).2;exact⟨e++v,by show(ff (f_ d) (ly d (dv c b a).1) (dv c b a).2).2=_;grind⟩
structure zl(T:ap)(x:e7):Prop where
 wr:De x.2.2.1
 lab:(x.2.2.1.owner=T/\eA x.2.2.2=cJ T)\/(s8 x.2.2.1.owner/\x.2.2.2=I 46 x.2.2.1.owner)
def Yy(p:E c=E g)(t:Q≠[]):∀(j:List e7) (l:ap) (es:ia) (e:ap) (d:hi),(∀b∈j,zl Q b)->l_ c g l es e d->lh d Q=ag a->l_ c g (k_ j l es).1 (k_ j l es).2 (eD eS (b9 (·.2.2.1) j) e d).1 (eD eS (b9 (·.2.2.1) j) e d).2/\lh (eD eS (b9 (·.2.2.1) j) e d).2 Q=ag a
 | [],_,_,_,_,_,h,k=>⟨h,k⟩
 | b::j,l,es,e,d,q,h,k=>by have o:=q b aA;have n:=ahq p o.1 (ls:=b.2.2.2) (by{rcases o.2 with⟨r,z⟩|r;{grind};grind}) h;have w:lh (ka b.2.2.1 (eS b.2.2.1) e d).2 Q=ag a:=by{rw[<- n.find Q];obtain⟨x,u⟩:=ai3 b.2.2.1 b.2.2.2 l es;rw[u];exact Yx x (by rw[h.find Q];exact k)};exact Yy p t j _ _ _ _ (λy A=>q y<|by grind) n w
def ai4(h:E g=E c){es d a}(e:l_ g c L es d a):E L=E d:=by obtain⟨i,rfl,rfl⟩:=e.1;grind
structure JE(h1 h2 T:ap)(n o1:Nat)(aH:s9)(sf:my):Prop where
 eq:l_ h1 h2 aH.S aH.es sf.S.1 sf.S.2
 aj6:T≠[]->lh sf.S.2 T=some n
 cs:∃a b c,sf.cs=[a,b,c]/\aH.cs=[1,a,b,c+o1]
 full:aH.full=sf.full
def JF{T n o1 most ol i}(o:E g=E c)(aN:i<3):∀(d:List<|List e7) (aH:s9) (b:my),(∀a∈d,∀e∈a,zl T e/\T≠[])->JE g c T n o1 aH b ->
  JE g c T n o1 (pc most ol i d aH) (jU ((most:Int)-(ol:Int)) eS i (b9 (List.map (·.2.2.1)) d) b)/\(pc most ol i d aH).4=(if aH.5=ao/\(pc most ol i d aH).5=aE then dQ (i<2)else aH.4)
 | [],aH,b,_,h=>⟨h,by
  rw[show pc most ol i [] aH=aH from af];simp⟩
 | a::d,aH,b,p,h=>by
  by_cases r:aH.5=aE;{rw[NG r,Jx<|h.4 ▸ r];grind};{
  have k:aH.5=ao:=by grind
  have q:=h.4 ▸ k;have l:l_ g c (k_ a aH.1 aH.2).1 (k_ a aH.1 aH.2).2 (eD eS (b9 (·.2.2.1) a) b.1.1 b.1.2).1 (eD eS (b9 (·.2.2.1) a) b.1.1 b.1.2).2/\(T≠[]->lh (eD eS (b9 (·.2.2.1) a) b.1.1 b.1.2).2 T=ag n):=by{
  by_cases j:T=[];{
  cases a with
  | nil=>exact⟨h.1,h.2⟩
  | cons e a=>exact absurd j (p (e::a) aA e aA).2};{have:=Yy o j a aH.1 aH.2 b.1.1 b.1.2 (λe B=>(p a aA e B).1) h.1<|h.2 j;grind}};have C:=ai4 o l.1;rw[nr];by_cases t:most<E (k_ a aH.1 aH.2).1+ol;{rw[Yb k t,NL q G];exact⟨⟨h.1,h.2,h.3,af⟩,by grind⟩};{
  rw[Yc k t,NO q G];obtain⟨u,w,x,y,z⟩:=h.3;have D:=JF (T:=T) (n:=n) (o1:=o1) (most:=most) (ol:=ol) (i:=i) o aN d { aH with S:=(k_ a aH.1 aH.2).1,es:=(k_ a aH.1 aH.2).2,cs:=aH.3.set (i+1) (aH.3.getD (i+1) 0+E a) } { b with S:=eD eS (b9 (·.2.2.1) a) b.1.1 b.1.2,cs:=b.2.set i (b.2.getD i 0+E (b9 (·.2.2.1) a)) } (λA F=>p A<|by grind) ⟨l.1,l.2,by{
  rw[y,z,fC];match i,aN with
  | 0,_=>simp
  | 1,_=>simp
  | 2,_=>exact⟨u,w,x+E a,af,by grind⟩},h.4⟩
  assumption}}
def JG{size aV i}: ∀(a:List<|List D) (aH:my),aH.3=ao->i<E aH.2->(∀b∈a,b≠[])->(∀c,c≠i->(jU size aV i a aH).2.getD c 0=aH.2.getD c 0)/\(if(jU size aV i a aH).3=aE then(jU size aV i a aH).2.getD i 0<aH.2.getD i 0+(b9 (·.length) a).sum else(jU size aV i a aH).2.getD i 0=aH.2.getD i 0+(b9 (·.length) a).sum)
 | [],aH,d,_,_=>⟨λ_ _=>af,by
  rw[show jU size aV i [] aH=aH from af,bJ<|by grind];rfl⟩
 | b::a,aH,d,aN,g=>by have n:=yq.2<|g b aA;by_cases e:size<(E (eD aV b aH.1.1 aH.1.2).1:Int);{rw[NL d e];grind};{rw[NO d e];obtain⟨j,p⟩:=JG a { aH with S:=eD aV b aH.1.1 aH.1.2,cs:=aH.2.set i (aH.2.getD i 0+E b) } d (by simpa using aN) (λk o=>g k<|by grind);have l:(aH.2.set i<|aH.2.getD i 0+E b).getD i 0=aH.2.getD i 0+E b:=by{grind};refine⟨λc h=>(j c h).trans ?_,?_⟩;{grind};grind}
def Yz:∀(f:Nat) (c:List e7),∀b∈xu f c,b≠[]
 | 0,_,_,a=>by cases a
 | _+1,[],_,a=>by cases a
 | f+1,e::d,b,a=>by rw[xu]at a;rcases gC.1 a with a|a;{grind};{exact Yz f _ b a}
def ai5{a}(b:a∈i6 R):a≠[]:=by rw[Yt]at b;exact Yz _ _ a b
def YA:(b9 (·.length) (b9 (List.map (·.2.2.1))<|i6 R)).sum=E R:=by have:=fE List.length<|O4 R;grind
abbrev ta(a:List e7):List D:=b9 (·.2.2.1) a
def ai6{h1 h2 T n o1 most ol}(r:E h1=E h2){b d}(K:∀a∈R,∀k∈R,pq a k=dj a.2.2.1 k.2.2.1)(y:∀a∈b,∀k∈b,pq a k=dj a.2.2.1 k.2.2.1)(L:∀a∈d,∀k∈d,pq a k=dj a.2.2.1 k.2.2.1)(u:∀a∈R++(b++d),zl T a/\T≠[])(aH h)(w:JE h1 h2 T n o1 aH h)(B:aH.5=ao)(M:aH.4=ao)(I:h.2=[0,0,0]):JE h1 h2 T n o1 (tV most ol 0 [R,b,d] aH) (mQ ((most:Int)-(ol:Int)) eS 0 [ta R,ta b,ta d] h)/\(tV most ol 0 [R,b,d] aH).4=C3 (mQ ((most:Int)-(ol:Int)) eS 0 [ta R,ta b,ta d] h) (ta R) (ta b):=by
 simp only[tV,mQ,g8,Nat.reduceAdd];rw[Oj K,Oj y,Oj L];have C:∀e∈i6 R,∀a∈e,zl T a/\T≠[]:=λe o a p=>u a (by simp[FF R o a p]);have D:∀e∈i6 b,∀a∈e,zl T a/\T≠[]:=λe o a p=>u a (by simp[FF b o a p]);have A:∀e∈i6 d,∀a∈e,zl T a/\T≠[]:=λe o a p=>u a (by simp[FF d o a p]);have⟨r1,t1⟩:=JF (T:=T) (n:=n) (o1:=o1) (most:=most) (ol:=ol) (i:=0) r G (i6 R) aH h C w;have z:=w.4 ▸ B;have t:∀(x:List e7),∀e∈b9 (List.map (·.2.2.1)) (i6 x),e≠[]:=λx e o=>by{obtain⟨N,h1,rfl⟩:=lZ.1 o;intro H;exact ai5 h1<|List.map_eq_nil_iff.1 H};have bA:=JG (size:=(most:Int)-(ol:Int)) (aV:=eS) (i:=0) _ h z (by grind) (t R);have J:E (jU ((most:Int)-ol) eS 0 (b9 (List.map (·.2.2.1))<|i6 R) h).2=3:=by rw[Jz,I];rfl
 rw[YA]at bA;generalize P:pc most ol 0 (i6 R) aH=W1,en:jU ((most:Int)-ol) eS 0 (b9 (List.map (·.2.2.1))<|i6 R) h=j at *;have⟨r2,t2⟩:=JF (T:=T) (n:=n) (o1:=o1) (most:=most) (ol:=ol) (i:=1) r G (i6 b) W1 j D r1;have F:=λl=>JG (size:=(most:Int)-(ol:Int)) (aV:=eS) (i:=1) _ j l G (t b);have:E (jU ((most:Int)-ol) eS 1 (b9 (List.map (·.2.2.1))<|i6 b) j).2=3:=by rw[Jz,J]
 have:j.3=aE->jU ((most:Int)-ol) eS 1 (b9 (List.map (·.2.2.1))<|i6 b) j=j:=λl=>Jx l;rw[YA]at F;generalize Q:pc most ol 1 (i6 b) W1=W2,hF2:jU ((most:Int)-ol) eS 1 (b9 (List.map (·.2.2.1))<|i6 b) j=g at *;have⟨r3,t3⟩:=JF (T:=T) (n:=n) (o1:=o1) (most:=most) (ol:=ol) (i:=2) r G (i6 d) W2 g A r2;have:=λl=>(JG (size:=(most:Int)-(ol:Int)) (aV:=eS) (i:=2) _ g l G (t d)).1;have:g.3=aE->jU ((most:Int)-ol) eS 2 (b9 (List.map (·.2.2.1))<|i6 d) g=g:=λl=>Jx l;generalize c:pc most ol 2 (i6 d) W2=W3,gi:jU ((most:Int)-ol) eS 2 (b9 (List.map (·.2.2.1))<|i6 d) g=q at *;refine⟨r3,?_⟩;have:h.2.getD 0 0=0:=by grind
 have:h.2.getD 1 0=0:=by grind
 have O:q.2.getD 0 0=g.2.getD 0 0/\q.2.getD 1 0=g.2.getD 1 0:=by{grind};have hcut:C3 q (ta R) (ta b)=(dQ (g.2.getD 0 0<E R)||dQ (g.2.getD 1 0<E b)):=by{grind[C3]};rw[hcut];have:=r1.4;have:=r2.4;cases S:j.3 with
 | true =>{grind}
 | false =>{grind}
def zm:List ap->Nat->ia
 | [],_=>[]
 | c::b,a=>(eA (c::b),a)::zm b (a+1+E c)
def YB: ∀ {b:ia},(∀a∈b,a.1≠r)->kV r b=ai
 | [],_=>af
 | a::b,c=>by rw[kV,bJ λe=>c a aA e.1];exact YB λg h=>c g (by grind)
def YC:∀(e:List ap) (d:ap) (b:ia),(∀c∈b,E e<E c.1)->(dv e d b).2=b++zm e (E d)
 | [],_,b,_=>by simp[dv,zm]
 | k::g,d,b,h=>by have j:kV (eA (k::g)) b=ai:=YB λc a i=>by{have:=h c a;rw[i]at this;simp[eA]at this};rw[ul j,YC g _ _ λc a=>by{rcases lc.1 a with a|a;{grind};{rw[BU]at a;rw[a];simp[eA]}},zm,jI];grind
def YD(a):(46:UInt8) ∉ mn a:=by exact Pm
def Ot(b)(g:Q≠[]):ei (c8 (Q::b))=c8 (Q::b)::ei (c8 b):=by
 have e:mn Q≠[]:=λc=>g<|iM (by rw[<- D4,c];rfl);cases b with
 | nil =>{have c:c8 [Q]=mn Q:=Lib.join_one _ _;rw[c,qG e,Ay<|YD Q];rfl}
 | cons d b =>{have c:c8 (Q::d::b)=mn Q++46::c8 (d::b):=Jp _ _ _;rw[c,qG aA,yC _<|YD Q]}
def YE:∀(h:List ap) (b:Nat),(∀a∈h,a≠[])->b9 (λe=>(cJ e.1,e.2)) (jZ b<|c8 h)=zm h b
 | [],_,_=>af
 | [a],b,g=>by have e:c8 [a]=mn a:=Lib.join_one _ _;unfold jZ;rw[Ot []<|g a aA];simp only[nr,CZ<|show [a]≠[] by simp];rw[show b+E (c8 [a])-E (c8 [a])=b by omega];rfl
 | a::d::c,b,g=>by
  have i:=YE (d::c) (b+1+E a) (λj l=>g j<|by grind);have e:c8 (a::d::c)=mn a++46::c8 (d::c):=Jp _ _ _;have k:E (c8 (a::d::c))=E a+1+E (c8 (d::c)):=by rw[e,dE,ey,D4];omega
  unfold jZ at i ⊢;rw[Ot (d::c)<|g a aA,zm,<- i];simp only[nr,nu,CZ (show a::d::c≠[] by simp)];rw[show b+E (c8 (a::d::c))-E (c8 (a::d::c))=b by omega];congr 1;refine pt λj _=>?_;grind
def YF:∀(d:List ap) (c:Nat),∀b∈zm d c,b.2<=c+mj d
 | [],_,_,a=>by cases a
 | g::e,c,b,a=>by rw[zm]at a;rcases gC.1 a with a|a;{grind};{have:=YF e _ b a;rw[zf];omega}
def ai7(c)(e:∀g∈r,g≠[])(h:mj r<=1000):l_ gJ (List.replicate 12 0) (gJ++c) (dv r gJ []).2 (List.replicate 12 0++c) (jZ 12<|c8 r):=by refine⟨⟨c,af,af⟩,?_⟩;rw[YC r gJ [] (λd b=>by cases b),jz,YE r 12 e,show E gJ=12 from af,yp];intro d b;have:=YF r 12 d b;grind
def ai8(a):gW (gW a)=gW a:=by
 have:=gY a;by_cases e:65<=be a/\be a<=90;{
 have c:gW a=UInt8.ofNat (be a+32):=by grind[gW]
 have d:be (gW a)=be a+32:=by rw[c,rJ];omega
 generalize gW a=b at *;show(if 65<=be b/\be b<=90 then UInt8.ofNat (be b+32)else b)=b;grind};{
 have c:gW a=a:=by grind[gW]
 grind}
def YG:eA (eA r)=eA r:=by unfold eA;rw[nu];refine pt λb _=>?_;show(b9 gW b).map gW=b9 gW b;rw[nu];exact pt λc _=>ai8 c
def ai9(d:cJ c=eA r)(a:g=c\/s8 g):eA (cJ g)=cJ g:=by rcases a with rfl|a;{rw[d];exact YG};{rw[ux a.2];exact XH a.3}
def ai_(i:r≠[]){a}(e:mA (c8 r) a.2.2.1)(h:a.2.2.2=r/\cJ a.2.2.1.owner=eA r\/a.2.2.2=cJ a.2.2.1.owner):zl (c8 r) a:=by have g:=CZ i;refine⟨e.wr,?_⟩;rcases h with⟨d,j⟩|d;{exact bG ⟨CN<|by grind,by grind⟩};{rcases e.1 with b|b;{exact bG ⟨b,by rw[d,b,g];exact YG⟩};{exact bE ⟨b,by rw[d,ux b.2]⟩}}
def aja:sx t (a:Int)=qK t a:=by rfl
def ajc:sc t (a:Int)=(zj t a:Int):=by grind[sc,zj]
def aje:E (qK t a)/11=cond t 1 0:=by cases t<;>simp[qK,NH]
def ajf{a}(c:a≠[])(d:∀b∈a,b≠[]):c8 a≠[]->∃e,lh (jZ 12<|c8 a) (c8 a)=ag e:=by
 intro _;match a,c with
 | b::g,_ =>{rw[jZ,Ot g<|d b aA,nr,lh,b7 aA];simp}
def aiH{I J}(ae:jJ c j)(h1:oP c j g I)(h2:uT c j g J):I=J:=by
 unfold oP at h1;unfold uT at h2;by_cases w:E g<12\/128<=be (g.getD 2 0);{rw[b7 w]at h2;rw[b7<|w.imp_right (Yq g).2]at h1;grind};rw[bJ w]at h2;rw[bJ λm=>w<|m.imp_right (Yq g).1]at h1;have H:12<=E g:=G;by_cases x:be (g.getD 2 0)/8%16≠0;{rw[b7 x]at h2;rw[b7<|(Ys g).2 x]at h1;rw[h1,h2,Y5 H 4 0 0 0 0 G]};rw[bJ x]at h2;rw[bJ λm=>x<|(Ys g).1 m]at h1;cases C:gZ g with
 | none =>{rw[C]at h1 h2;rw[h1,h2,Y5 H 1 0 0 0 0 G]}
 | some Y =>{
 obtain⟨r,e,R,N,h,F,L⟩:=Y;rw[C]at h1 h2;simp only at h1 h2;obtain⟨aq,t,o,p,y,h2⟩:=h2;have⟨o1,o2,o3,_⟩:=CY C;have q:=λd y=>(o2 d y).1;have⟨⟨k,hk,wD⟩,a2,_⟩:=C0 ae o1 q R N h L;rw[wD]at h1 h2;have ah:=y.1;have al:=y.2;have aj:=y.3;rw[<- ah,<- al,<- aj]at h1 a2;generalize (fK c j (c8 e) R N h L).1.2.1=M at *;rw[h1,h2,vi];have D:∀d∈t++(o++p),mA (c8 e) d.2.2.1/\e≠[]:=λd l=>a2 _ (by{grind});have X:∀d∈t++(o++p),d.2.2.2=e/\cJ d.2.2.1.owner=eA e\/d.2.2.2=cJ d.2.2.1.owner:=λd l=>by{rcases lc.1 l with m|m;{have:=y.4 d m;grind};{exact bE<|y.5 d m}};have Z:∀d∈t++(o++p),zl (c8 e) d/\c8 e≠[]:=λd l=>by{
 have⟨g1,g2⟩:=D d l;refine⟨ai_ g2 g1<|X d l,λac=>?_⟩;have:=Bc e g2;rw[ac]at this;match e,g2,q with
 | i::aq,_,q =>{have:=q i aA;have:=yq.2 this;rw[zf]at *;grind}};have Q:=λd l=>ai9 (CZ (D d l).2) (D d l).1.1;have an:=λd m i B=>Ol (ai2 (y.4 d m) (y.4 i B) (Q d<|by simp[m])<|Q i<|by grind);have V:∀d∈o,∀i∈o,pq d i=dj d.2.2.1 i.2.2.1:=λd m i B=>Ol (Yw (y.5 d<|by simp[m])<|y.5 i<|by grind);have ap:∀d∈p,∀i∈p,pq d i=dj d.2.2.1 i.2.2.1:=λd m i B=>Ol (Yw (y.5 d<|by simp[m])<|y.5 i<|by grind);have A:∃n,c8 e≠[]->lh (jZ 12<|c8 e) (c8 e)=ag n:=by{by_cases P:e=[];{exact⟨0,λm=>absurd (by rw[P];rfl) m⟩};{by_cases O:c8 e=[];{exact⟨0,λm=>absurd O m⟩};{have n:=ajf P q O;grind}}};obtain⟨n,A⟩:=A;have ad:=ai6 (h1:=gJ) (h2:=List.replicate 12 0) (T:=c8 e) (n:=n) (o1:=E (qK h k)/11) (most:=zj h F) (ol:=E<|qK h k) dS an V ap Z ⟨gJ++r,(dv e gJ []).2,[1,0,0,E (qK h k)/11],ao,ao⟩ ⟨(List.replicate 12 0++r,jZ 12<|c8 e),[0,0,0],ao⟩ ⟨ai7 r q G,A,⟨0,0,0,af,aA⟩,af⟩ af af af;rw[Bi,xt,Bs,Dg,aja,ajc];obtain⟨K,S⟩:=ad;generalize tV (zj h F) (E<|qK h k) 0 [t,o,p] ⟨gJ++r,(dv e gJ []).2,[1,0,0,E (qK h k)/11],ao,ao⟩=W,mQ ((zj h F:Int)-(E (qK h k):Int)) eS 0 [ta t,ta o,ta p] ⟨(List.replicate 12 0++r,jZ 12<|c8 e),[0,0,0],ao⟩=ar at *;have⟨a,b,z,e1,e2⟩:=K.3;have⟨u,s1,s2⟩:=K.1.1;rw[<- S,e1,e2,s1,s2,aje];rw[OI,JA k (OM g 2) G,show((1024:Int))=((1024:Nat):Int)from af,JB 1024 M (C5 _ _) G,show((512:Int))=((512:Nat):Int)from af,JB 512 W.4 (OL (C5 _ _) G) G,vi,Y4 H M W.4 k 1 _ _ _ G];have aa:bh 12 (gJ++u)=u:=dS;have ab:bh 12 (List.replicate 12 (0:UInt8)++u++qK h k)=u++qK h k:=dS;rw[aa,ab,jI];cases h<;>rfl}
def YH:∀(d:List ap) (b:ap) (a:hi),E (jd d b a).2<=E a+E d/\E (jd d b a).2+E b<=E a+E (jd d b a).1
 | [],b,a=>⟨by simp[jd],by simp[jd]⟩
 | c::d,b,a=>by
  cases e:lh a c with
  | some k=>rw[E6 e];simp
  | none =>{rw[E7 e];obtain⟨g,h⟩:=YH d (b++pU c)<|qr a c<|E b;have i:=Vg a c<|E b;have j:E (pU c)=E (wv c)+1:=af;grind}
def uj:wd->Nat
 | []=>0
 | .inl _::a=>uj a
 | .inr b::a=>E (I 46 b)+uj a
def YI:∀(c:List ap) (b:ap) (a:ia),E (dv c b a).2<=E a+E c/\E (dv c b a).2+E b<=E a+E (dv c b a).1
 | [],b,a=>⟨by simp[dv],by simp[dv]⟩
 | d::e,b,a=>by
  cases g:kV (eA (d::e)) a with
  | some h=>rw[y9 g];simp
  | none =>{rw[ul g];obtain⟨i,j⟩:=YI e (b++(UInt8.ofNat (E d)::d))<|a++[(eA (d::e),E b)];grind}
def Ou:∀(c:wd) (b:ap) (a:ia),E (ff c b a).2<=E a+uj c/\E (ff c b a).2+E b<=E a+E (ff c b a).1
 | [],b,a=>⟨cW _,cW _⟩
 | .inl h::d,b,a=>by obtain⟨i,g⟩:=Ou d (b++h) a;rw[dE]at g;rw[ff,uj];omega
 | .inr e::d,b,a=>by obtain⟨i,g⟩:=Ou d (dv (I 46 e) b a).1 (dv (I 46 e) b a).2;obtain⟨j,k⟩:=YI (I 46 e) b a;rw[ff,uj];omega
def PU{P:Prop}(h:P:=by have:=(jp hp).2;have:=sp a;rw[bJ G,bJ G,bJ G,bJ G];simp[uj,iF,dM];omega):P:=h
def aiI{h}(g:eG h.type (I 32 h.data)=aE):uj (f_ h)<=122:=by
 have e:=x9 g;have sp:=λi=>pN 46 i;rcases e with e|e|e|e|e|e;all_goals rw[e]at g
 all_goals unfold f_
 {rw[b7 e];simp[uj]};{have⟨a,dM,hp⟩:=xD (t:=2) (bG af) g;exact PU};{have⟨a,dM,hp⟩:=xD (t:=5) (bE af) g;exact PU};{have⟨a,b,c,d,dM,Oy,qF,_,_⟩:=E_ g;have:=(jp Oy).2;have:=(jp qF).2;have:=sp a;have:=sp b;rw[bJ G,bJ G,bJ G,b7 e];simp[uj,iF,dM];omega};{have⟨a,b,dM,_,qF⟩:=Fa g;have:=(jp qF).2;have:=sp b;rw[bJ G,bJ G,b7 e];simp[uj,iF,dM];omega};{rw[bJ G,b7 e];simp[uj]}
def YJ:∀(f:Nat) (c:ap),E c<=f->∀(b:ap) (d:hi),E (jd (ei c) b d).1<=E b+E c+2
 | f,[],_,b,d=>by rw[rg,jd];simp
 | 0,c::k,n,_,_=>by grind
 | f+1,c::k,n,b,d=>by
  generalize u:c::k=a at *;have p:a≠[]:=by grind
  rw[qG p];cases j:lh d a with
  | some q=>rw[E6 j];have:E (HB q)=2:=af;grind
  | none =>{
  rw[E7 j];by_cases i:(46:UInt8)∈a;{
  obtain⟨l,e,g,h⟩:=D9 i;have r:=YJ f (jA a) (by rw[g,yC e h];grind) (b++pU a)<|qr d a<|E b;have o:E (pU a)=E l+1:=by rw[g];unfold pU;rw[MD e h];rfl
  have t:jA a=e:=by rw[g];exact yC e h
  grind};{
  rw[Ay i,rg,jd];have o:E (pU a)=E a+1:=by unfold pU;rw[ME i];rfl
  grind}}
def YK:∀(f:Nat) (a:ap),E a<=f->h9 a->2*E (ei a)<=E a+1
 | f,[],_,_=>by rw[rg];simp
 | 0,a::g,k,_=>by grind
 | f+1,a::g,k,e=>by
  generalize w:a::g=c at *;have n:c≠[]:=by grind
  rw[qG n,ey];rcases pe 46 c with⟨i,u⟩|⟨d,b,j,l,r⟩;{have h:(46:UInt8) ∉ c:=i;rw[Ay h,rg];grind};{
  have o:h9 b:=λp x=>e p (by grind);have q:0<E d:=yq.2 (e d<|by grind);have t:E c=E d+1+E b:=by grind
  have y:=YK f b G o;rw[show jA c=b by rw[j];exact yC b l];omega}
def aiJ(b){c}(d:jV c):l_ [] [] b (c.map λa=>(cJ a.1,a.2)) b c:=by refine⟨⟨b,af,af⟩,?_⟩;rw[yp];intro h e;obtain⟨a,g,rfl⟩:=lZ.1 e;exact mL<|d a g
def aiL{d}(g:De d)(a){b}(i:jV b):E a<=E (gX (eS d) a b).1/\E (gX (eS d) a b).1<=E a+300/\E (gX (eS d) a b).2<=E b+122/\E (gX (eS d) a b).2+E a<=E b+E (gX (eS d) a b).1:=by
 have e:=XB (h1:=[]) (h2:=[]) af g (aiJ a i);have:=e.1;have:E (ff (f_ d) a<|b.map λc=>(cJ c.1,c.2)).1=E (gX (eS d) a b).1:=by grind
 have h:=fE List.length e.2;rw[fC]at h;have:=vA (λe:List ap×Nat=>dQ<|e.2<16384) (ff (f_ d) a<|b.map λc=>(cJ c.1,c.2)).2;have h1:=Jn (f_ d) a<|b.map λc=>(cJ c.1,c.2);have h2:=Ou (f_ d) a<|b.map λc=>(cJ c.1,c.2);have:=XL g.3;have:=aiI g.3;grind
def aiM{a}(d:mA g a)(i:h9 a.owner)(c){b}(e:jV b):E (ka a (eS a) c b).1<=E c+567/\E (ka a (eS a) c b).2<=E b+250/\E (ka a (eS a) c b).2+E c<=E b+E (ka a (eS a) c b).1/\jV (ka a (eS a) c b).2:=by have j:=(UV (FE d.wr) c b).2.2 e;refine⟨?_,?_,?_,j⟩;all_goals(show _;have:=YH (ei a.owner) c b;have:=YJ _ a.owner bv c b;have:=YK _ a.owner bv i;have:=d.2;have fB:=(HF (ei a.owner) c b).2.2 e;have:=aiL d.wr (((((jd (ei a.owner) c b).1++(gs<|c7 a.type).4)++(gs 1).4)++(uO a.aP).4)++[0,0]) fB;have h:ka a (eS a) c b=xG (eS a) ((((jd (ei a.owner) c b).1++(gs<|c7 a.type).4)++(gs 1).4)++(uO a.aP).4) (jd (ei a.owner) c b).2:=af;rw[h];simp only[xG,MI];have:E (gs<|c7 a.type).4=2:=af;have:E (gs 1).4=2:=af;have:E (uO a.aP).4=4:=af;grind)
def YL: ∀(d:List D),(∀a∈d,mA g a/\h9 a.owner)->∀(b:ap) (c:hi),jV c->E (eD eS d b c).1<=E b+567*E d/\E (eD eS d b c).2<=E c+250*E d/\E (eD eS d b c).2+E b<=E c+E (eD eS d b c).1
 | [],_,b,c,_=>⟨cW _,cW _,cW _⟩
 | a::d,e,b,c,i=>by obtain⟨k,l,n,h⟩:=aiM (e a aA).1 (e a aA).2 b i;obtain⟨p,q,r⟩:=YL d (λj o=>e j<|by grind) (ka a (eS a) b c).1 (ka a (eS a) b c).2 h;show(eD eS d (ka a (eS a) b c).1 (ka a (eS a) b c).2).1.length<=_/\E (eD eS d (ka a (eS a) b c).1 (ka a (eS a) b c).2).2<=_/\E (eD eS d (ka a (eS a) b c).1 (ka a (eS a) b c).2).2+E b<=E c+E (eD eS d (ka a (eS a) b c).1 (ka a (eS a) b c).2).1;grind
def OU(e:∀a∈j,mA c a/\h9 a.owner)(k:E j<=68):FA j:=by intro d b s i g l n;have:=yB b;have:=YL d.2 (λa h=>e a<|Ng b h) s i g;omega
def aiN(rs:jJ c j)(w:mj r<=254)(q:∀t∈r,t≠[])(a e h d):E (fK c j (c8 r) a e h d).1.2.2.1<=68/\E (fK c j (c8 r) a e h d).1.2.2.2<=68/\E (fK c j (c8 r) a e h d).2<=68:=by
 unfold fK;split;{simp};{
 split;{simp};{
 rename_i o;have p:=λg=>o<|bE<|bE g;have k:r≠[]:=λg=>by subst g;exact p af
 have l:=Fx k q;have y:=Bc r k;have i:=A4 rs a 9 aE ao [] (c8 r) l G (λx b=>by cases b)<|eb _;have n:=Ox (rs:=j) (lx c j a<|c8 r).2.2.1 ((lx c j a<|c8 r).2.2.1++(lx c j a<|c8 r).2.2.2) ([],[]) aA;have u:=Ad rs;exact⟨cU i.2.2.1 G,cU i.2.2.2 G,cU n G⟩}}
def aiO(p:jJ c j)(m):Y1 c j m:=by intro u b i d g w h q;have⟨o1,o2,_⟩:=CY q;have n:=λt r=>(o2 t r).1;have⟨_,a2,_⟩:=C0 p o1 n i d g h;have⟨l1,l2,l3⟩:=aiN p o1 n i d g h;have l:∀a∈(fK c j (c8 b) i d g h).1.2.2.1++((fK c j (c8 b) i d g h).1.2.2.2++(fK c j (c8 b) i d g h).2),mA (c8 b) a/\h9 a.owner:=λa e=>by{have⟨g1,g2⟩:=a2 a e;refine⟨g1,?_⟩;rcases g1.1 with k|k;{rw[k];exact Fx g2 n};{exact k.ne}};refine⟨OU (λa e=>l a<|by grind) l1,OU (λa e=>l a<|by grind) l2,OU (λa e=>l a<|by grind) l3,?_⟩;rw[jZ,fC];have:=MF _ (c8 b) bv;by_cases o:b=[];{subst o;have:E (c8 [])=0:=af;omega};{have:=Bc b o;omega}
def YM(e g m):∃d,oP e g m d:=by
 unfold oP;by_cases a:E m<12\/cG m 2 &&& 32768≠0;{simp_all};{
 by_cases b:cG m 2 &&& 30720≠0;{exact⟨_,by rw[bJ a,b7 b]⟩};{
 cases h:gZ m with
 | none=>exact⟨_,by rw[bJ a,bJ b]⟩
 | some c =>{have:=c;exact⟨_,by rw[bJ a,bJ b]⟩}}}
def aiP{d}(a:oP g j L c)(b:oP g j L d):c=d:=by
 unfold oP at a b;by_cases h:E L<12\/cG L 2 &&& 32768≠0;{grind};{
 rw[bJ h]at a b;by_cases i:cG L 2 &&& 30720≠0;{grind};{
 rw[bJ i]at a b;cases k:gZ L with
 | none=>grind
 | some m =>{grind}}}
def JH(t:jJ g j)(a:oP g j c L):E L<=1232:=by
 unfold oP at a;by_cases x:E c<12\/cG c 2 &&& 32768≠0;{grind};{
 rw[bJ x]at a;by_cases n:cG c 2 &&& 30720≠0;{rw[b7 n]at a;rw[a,Ht];omega};{
 rw[bJ n]at a;cases e:gZ c with
 | none=>rw[e]at a;rw[a,Ht];omega
 | some r =>{
 obtain⟨A,o,p,l,b,i,k⟩:=r;rw[e]at a;simp only at a;have⟨o1,o2,o3,_⟩:=CY e;have⟨_,a2,_⟩:=C0 t o1 (λC y=>(o2 C y).1) p l b k;generalize fK g j (c8 o) p l b k=q at a a2;obtain⟨⟨h,F,w,z⟩,u⟩:=q;simp only at a a2;have d:E (sx b h)<=11:=by unfold sx;split<;>simp[xU]
 have D:512<=sc b i/\sc b i<=1232:=by unfold sc;omega
 have:=(OH (size:=sc b i-(E (sx b h):Int)) (aV:=eS) 0 [w,z,u] ⟨(List.replicate 12 0++A,jZ 12<|c8 o),[0,0,0],ao⟩ (c7<|sc b i-(E (sx b h):Int)) (λI d B H=>by{simp at d;rcases d with rfl|rfl|rfl<;>exact FE (a2 B<|by grind).1.wr}) G (by grind)).2;rw[a];rw[Bi,xt,dE,Ht,js,dE];omega}}}
def zq(m:ap):ap:=amA 6<|[2]++m++[102,105,118,101,53]
def Bj(a:ap):ap:=amA 4<|a++[10,0,0,1]
def YO(m):E (zq m)=6:=by simp[zq]
def Yk(a):E (Bj a)=4:=by simp[Bj]
def Yl(m a b)(j:E m<=10000000)(aN:E a<=10000000):bd aK 36 #[aZ m,aZ a] b (cQ (l8 (zq m)<|Bj a) b):=by
 have⟨a1,f1,g1,z1⟩:=kh a [10,0,0,1];have⟨a2,f2,g2,z2⟩:=kh [2] m;have⟨a3,f3,g3,z3⟩:=kh a2 [102,105,118,101,53];have:O a++⟨#[10,0,0,1]⟩=O a1:=g1;have:(⟨#[2]⟩:ByteArray)++O m=O a2:=g2;have:O a2++⟨#[102,105,118,101,53]⟩=O a3:=g3;have:=de a;have:=de m;have:(O a1).size=E a+4:=fN
 have i:(O a2).size=1+E m:=fN
 have n:(O a3).size=1+E m+5:=by rw[z3,i];rfl
 have k:(O a1).extract 0 4=O (Bj a):=by rw[z8 a1 4<|by grind,f1];rfl
 have l:(O a3).extract 0 6=O (zq m):=by rw[z8 a3 6<|by simp_all,f3,f2];rfl
 generalize zq m=M,Bj a=c at *;clear f1 f2 f3 g1 g2 g3 z1 z2 z3;go_in;have h:=((dz (U b.1) b).alloc bv<|aS #[amz<|O M,amz<|O c] 62).alloc aA<|aS #[amz<|O M,amz<|O c] 62;have d:bk (aO (aO b<|aS #[amz<|O M,amz<|O c] 62)<|aS #[amz<|O M,amz<|O c] 62) (U b.1) [aZ M,aZ c] 62:=(bk.fF b _ _).alloc _;have e:=d.cell 0 aA;have g:=d.cell 1 aA;simp only[e9,fw]at e g;go_wp2;refine eh (v:=ci #[amz<|O M,amz<|O c]) (by simp[dr,results36,go_sem,e,g]) af ⟨af,h⟩
def Ym(a b):∃ρ:ap->ap,∀m,oP a b m (ρ m):=⟨λm=>(YM a b m).choose,λm=>(YM a b m).choose_spec⟩
def aj7{ρ}(e:∀m,oP c j m<|ρ m)(i:jJ c j)(n:iL b a c d 0 P<|cq j)(l:d3 b):xC ρ 27 (N a) b:=λm u=>⟨JH i<|e m,λr g=>(aiU i (n.below g) (l.below g) G<|aiO i m).mono λt w ⟨⟨q,o,p⟩,k⟩=>⟨by rw[o,aiP p<|e m],k⟩⟩
def aj8{ρ}(e:∀m,oP c j m<|ρ m)(i:jJ c j)(k:nS b a c j)(h:a7 b f):xC ρ 28 (N a) f:=λm r=>⟨JH i<|e m,λp g=>(aiv m k (bN h<|bV g h.4) i G).mono λq t ⟨⟨o,l,n⟩,h⟩=>⟨by rw[l,aiH i (e m) n],h⟩⟩
end Go.Proofs.YtkkpahmoljiepaaGreatDoor
