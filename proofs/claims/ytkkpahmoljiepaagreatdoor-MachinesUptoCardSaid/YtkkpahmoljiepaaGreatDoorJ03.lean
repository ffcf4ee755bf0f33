import Derived.Test.YtkkpahmoljiepaaGreatDoorJ02
import Derived.Lib.SmallJoins
import Derived.Conc.LoneSelect
set_option maxRecDepth 1000000
set_option maxHeartbeats 12800000
set_option linter.all false
open Array renaming size->U
open Bool renaming false->ao,true->aE
open Decidable renaming decide->dQ
open Eq renaming symm->bZ,trans->c_
open Go renaming Calls->bd,TypeId->d_,Value->bm,World->aQ,bytesRow->ii,callsIn_of_wp_marks->wK,maxLen->hC,results->dr,run_takeDeferred->mI,undef->fv
open Go.CallsIn renaming inRound->jH
open Go.Ending renaming returned->bg
open Go.Obj renaming cells->aS,deferred->dq,loop->dR
open Go.Op renaming bytesLess->ph
open Go.Proofs renaming holdsK_sortWorldK_c->zx,intOf->fJ,sortWorldK->fu
open Go.Proofs.Tryz renaming prog->aK
open Go.RowKit renaming Below->cB,Hid->ax
open Go.RowKit.Below renaming alloc->ct,mono->bV,setCell->fk,trans->bN
open Go.Value renaming agg->ci,bool->aG,func->fc,int->ak,ownBlock->bW,pointer->cM,slice->aL,string->amz,tuple->bX
open Go.World renaming alloc->aO,alloc_heap_new->du,cell?->aD,drew->bq,drewN->ef,frozen?->io,putObj_heap_other->kW,setCell->a_
open List renaming drop->bh,dropWhile->mt,filter->ed,flatMap->fA,length->E,map->b9,take->amA,takeWhile->iU,toArray->dl
open Option renaming none->ai,some->ag
open Or renaming inl->bG,inr->bE
open UInt8 renaming toNat->be
namespace Go.Proofs.YtkkpahmoljiepaaGreatDoor
open Go.RowKit Go.Proofs.Tryz
variable{a d h o P:Nat}{b f m u:World}{c n v:ap}{e s F:Value}{i p:Int}{j q y:List D}{l t:Bool}{r:List ap}{z:TypeId}{B Z:Nat → Prop}{Q:List UInt8}
section
attribute [local go_sem] Oper.semAt_some
def jA(a:ap):ap:=(Lib.cut a [46]).2.1
def Ax:Nat->ap->List ap
 | 0,_=>[]
 | f+1,a=>if a=[]then []else a::Ax f (jA a)
def ei(a:ap):List ap:=Ax (E a) a
def yC(b)(c:(46:UInt8) ∉ Q):jA (Q++46::b)=b:=by rw[jA,Lib.cut,Lib.index_one,Gs 46 Q b c,b7 G];simp
def Ay(b:(46:UInt8) ∉ c):jA c=[]:=by rw[jA,Lib.cut,Lib.index_one,Gr 46 c b,bJ bL]
def zC(g:Q≠[]):E (jA Q)<E Q:=by
 by_cases b:(46:UInt8)∈Q;{obtain⟨e,c,rfl,d⟩:=D9 b;rw[yC c d];grind};{
 rw[Ay b];cases Q with
 | nil=>grind
 | cons i h=>simp}
def LQ:∀(f:Nat) (a:ap),E a<=f->Ax f a=Ax (E a) a
 | 0,a,d=>by grind
 | f+1,a,d=>by by_cases b:a=[];{subst b;rfl};{have g:=zC b;obtain⟨c,e⟩:∃c,E a=c+1:=⟨E a-1,G⟩;rw[e,Ax,Ax,bJ b,bJ b,LQ f _ G,LQ c _ G]}
def rg:ei []=[]:=rfl
def qG(c:Q≠[]):ei Q=Q::ei (jA Q):=by have:=zC c;unfold ei;obtain⟨b,d⟩:∃b,E Q=b+1:=⟨E Q-1,G⟩;rw[d,Ax,bJ c,LQ b _ G]
def SR:∀(f:Nat) (a:ap),E a<=f->∀c∈ei a,E c<=E a
 | 0,a,e,c,b=>by obtain rfl:a=[]:=iM G;simp[rg]at b
 | f+1,a,e,c,b=>by by_cases d:a=[];{subst d;simp[rg]at b};{rw[qG d,gC]at b;have g:=zC d;rcases b with rfl|b;{omega};{have:=SR f (jA a) G c b;omega}}
def JP(a:n∈ei c):E n<=E c:=SR _ _ bv n a
def ak2:bm->Nat
 | .string s=>s.size
 | _=>0
def F8(c a):bd aK 191 #[aZ c] a λd b=>d=bg (fc (.func 241) #[] #[N<|U a.1])/\U b.1=U a.1+1/\a7 a b/\aD b (M (U a.1) 0)=ag (aZ c):=by go_wp2;go_ret;exact⟨af,aA,ct cd bv _,by go_simp⟩
def SS(a)(g:d3 b)(k:E a<=3000):bd aK 242 #[aZ a,amz ⟨#[46]⟩] b λj c=>(∃d e,j=bg (bX #[aZ d,aZ<|jA a,aG e]))/\a7 b c:=by obtain⟨_,m,h⟩:=g;refine(Tryz.strings_Cut (O a) ⟨#[46]⟩ m b m7 h).m ?_;rintro c ⟨i,rfl⟩;exact⟨⟨_,_,af⟩,kv (dz _ b) i⟩
def ak3(a)(k:d3 b)(l:E a<=3000):bd aK 271 #[aZ a] b λh g=>∃c,h=bg (fc (.func 241) #[] #[N c])/\c<U g.1/\U b.1<=c/\a7 b g/\aD g (M c 0)=ag (aZ<|jA a):=by have i:=ae<|SS a k l;go_in;go_wp21;refine i.mono ?_;rintro h n ⟨⟨o,p,rfl⟩,e⟩;go_wp21;refine(F8 (jA a) n).m λr ⟨q,j,d⟩=>?_;replace d:=ae d;go_wp2;go_ret;have:=e.4;exact⟨_,af,G,G,bN e<|bV j e.4,d⟩
def F9(L:aD b (M a 0)=ag (aZ Q))(R:d3 b)(ar:E Q<=3000):xS aK 241 #[N a] (λd:ap=>#[aZ d]) (ei Q)
   (λg h=>a7 g h) (λg h=>U g.1<=U h.1/\h.1[0]? = g.1[0]?) (λ_ _=>True) b:=by
 intro w C ad I ac K aq;have t:=ae K;have u:=ae I;have o:=ae R;refine RR func241 af cE ?_;simp only[ntmps241,ox,ey,h8,Nat.reduceAdd,Nat.reduceSub,ov,oQ,oS,oR,jz,g_];gi_wp2;gi_loopw [3] (λs wr=>∃(x:Nat) (d:ap),s=aZ d/\E d<=E Q/\x<=E (ei Q)/\bh x (ei Q)=ei d/\C x wr/\(U b.1<=U wr.1/\wr.1[0]? = b.1[0]?)) λs _=>ak2 s;·grind
 ·(
 obtain⟨x,d,rfl,c,aN,P,ab,l⟩:=hrel;have i:=ae P;have A:=ae ab;by_cases e:d=[];{
 have S:((O d).toList==[])=aE:=by rw[e,hZ];rfl
 have F:ax (x=E (ei Q)):=by{have:=fE List.length<|V i;rw[js,e,rg,h8]at this;rw[ax];omega};clear L t u o i c aN l e;gi_wp2;go_end0;exact⟨⟨_,af⟩,bG (by rw[<- V F];assumption)⟩};{have S:((O d).toList==[])=ao:=by{rw[kE,hZ];exact e};have y:ax ((ei Q)[x]? = ag d):=by{have:=fE (λw:List ap=>w[0]?)<|V i;rw[qG e]at this;rw[ax];grind};have T:ax (bh (x+1) (ei Q)=ei (jA d)):=by{rw[ax,<- pk,V i,qG e];rfl};have z:ax (x+1<=E (ei Q)):=(j_.1<|V y).1;have:=zC e;have Y:=V t x d wr (V y)<|V A;obtain⟨an,av,ah,al,au,J⟩:=Y;gi_wp2_with fail;refine⟨af,J.mono ?_⟩;rintro Z k (⟨rfl,X,r⟩|⟨rfl,aw,_⟩);{have aa:=ae X;have j:U b.1<=U k.1/\k.1[0]? = b.1[0]?:=⟨cU l.1 r.1,c_ r.2 l.2⟩;have p:d3 k:=by{have⟨g0,m,hm⟩:=V o;exact⟨e8 g0 j.1,m,(ev j.2).trans hm⟩};have B:=ae<|SS d p G;have D:=p.1;gi_wp2_with fail;refine⟨cE,af,(ez.2<|V B).mono ?_⟩;rintro Z q ⟨⟨aj,am,rfl⟩,n⟩;have H:=ae<|u _ _ _ aa n;have W:U b.1<=U q.1/\q.1[0]? = b.1[0]?:=⟨cU j.1 n.4,(n.5 0 D).trans j.2⟩;gi_wp2_with fail;exact⟨⟨x+1,jA d,af,G,z,T,H,W⟩,fN⟩};{gi_wp2;refine eh (BH af _ _ _) af ?_;grind}})
end
def vS(d:aQ)(b:Nat)(c:ap):Prop:=b<U d.1/\(∀a (e:a<E c),aD d (M b a)=ag (ak .u8 c[a].toNat))/\∀a,a<E c->io d (M b a)=ao
def vS.set{b}(k:vS f b c)(a g)(p:a<E c):vS (a_ f ⟨b,a,ai⟩<|ak .u8<|be g) b (c.set a g):=by obtain⟨n,i,o⟩:=k;refine⟨by simp_all,λd e=>?_,λd e=>?_⟩;{rw[rU]at e;by_cases h:a=d;{subst h;rw[World.cell?_setCell_same _ _ _<|i a e];simp};{rw[DM _ _ _ _ λl=>h<|fE Addr.off l,i d e];grind}};simp_all
def F_(c:aQ)(a b):vS (aO (bq c)<|aS (ii (O a) b) 5 (U<|ii (O a) b,U (ii (O a) b)+1)) (U c.1) a:=by
 have d:(aO (bq c)<|aS (ii (O a) b) 5 (U<|ii (O a) b,U (ii (O a) b)+1)).1[U c.1]? = ag (aS (ii (O a) b) 5 (U<|ii (O a) b,U (ii (O a) b)+1)):=du (bq c) _;have:E a<=U (ii (O a) b):=by simp[ii,O]
 refine⟨aA,λe g=>?_,λe g=>?_⟩;{have:=bytesRow_at (O a) b e fN;simp only[aD,d];assumption};{simp only[World.frozen?,d];grind}
def lN(a:UInt8):UInt8:=if 65<=be a/\be a<=90 then UInt8.ofNat (be a+32)else if be a=46 then 80 else a
def ak4(e:UInt8)(b:a<E c):(b9 lN (amA a c)++bh a c).set a (lN c[a])=b9 lN (amA (a+1) c)++bh (a+1) c:=by
 have d:E (b9 lN<|amA a c)=a:=by grind
 rw[lA b,iH b,K5,bJ G,d,sm,kq,jI,kH];rfl
def ak5(b:a<E c)(d:lN c[a]=c[a]):b9 lN (amA (a+1) c)++bh (a+1) c=b9 lN (amA a c)++bh a c:=by rw[lA b,iH b,kq,jI];grind
def ak6(b)(R:E Q<=1000):bd aK 252 #[aZ Q] b (cQ (aZ<|b9 lN Q) b):=by
 have:=Gl (P:=aK) b 9 58 5 (O Q) underlying9 underlying58 underlying5;have:=ae<|F_ b Q<|grownCap b (O Q).size 0 5;have u:=ae<|(dz (U b.1) b).drew.alloc (cW<|U b.1)<|aS (ii (O Q)<|grownCap b (O Q).size 0 5) 5 (U<|ii (O Q)<|grownCap b (O Q).size 0 5,U (ii (O Q)<|grownCap b (O Q).size 0 5)+1);have K:E Q<=grownCap b (O Q).size 0 5:=by{have:=Gh b (O Q).size 0 5;assumption};generalize grownCap b (O Q).size 0 5=h at *;generalize aO (bq b) (aS (ii (O Q) h) 5 (U<|ii (O Q) h,U (ii (O Q) h)+1))=I at *;have:=de Q;go_wp2;go_loopw [10] (λn wr=>∃k:Nat,n=J k/\k<=E Q/\vS wr (U b.1) (b9 lN (amA k Q)++bh k Q)/\a7 b wr) λn _=>E Q-(fJ n).toNat;·exact⟨0,af,eb _,fN,u⟩
 ·(
 obtain⟨k,rfl,a,i,B⟩:=hrel;have j:=ae i;have mg:=ae B;by_cases r:k<E Q;{
 have:E (b9 lN (amA k Q)++bh k Q)=E Q:=by grind
 have N:aD wr (M (U b.1) k)=ag (ak .u8 Q[k].toNat):=by{rw[j.2.1 k G];grind};have:=j.2.2 k G;have x:=ae<|ak4 0 r;have HS:=ae<|j.set k (lN Q[k]) G;have w:=ae<|ak5 r;generalize Q[k]=c at *;have:=gY c;have q:ax ((be (lN c):Int)=if 65<=be c/\be c<=90 then(be c:Int)+32 else if be c=46 then 80 else be c):=by{unfold ax lN;split;{simp;omega};{split<;>rfl}};have t:ax (lN c=c->vS wr (U b.1) (b9 lN (amA (k+1) Q)++bh (k+1) Q)):=λA=>by rw[V w A];assumption
 rw[V x]at HS;have y:ax (¬(65<=be c/\be c<=90)->¬be c=46->lN c=c):=λe g=>by grind[lN]
 generalize S:be c=d at *;by_cases e:65<=d/\d<=90;{
 have l:(be (lN c):Int)=(d:Int)-65+97:=by rw[V q,b7 e];omega
 rw[l]at HS;obtain⟨e,g⟩:=e;go_wp2;exact Kr};{
 by_cases g:d=46;{
 have l:(be (lN c):Int)=80:=by rw[V q,bJ e,b7 g]
 rw[l]at HS;subst g;go_wp2;exact Kr};{
 have bn:=ae<|t<|y e g;have:((d:Int)==46)=ao:=by grind
 by_cases L:65<=d;{have:¬d<=90:=G;go_wp2;exact Ik};{go_wp2;exact Ik}}}};{
 have p:k=E Q:=G;have C:ax (b9 lN (amA k Q)++bh k Q=b9 lN Q):=by rw[ax,p];simp
 have i:=V j;rw[V C]at i;have H:E (b9 lN Q)=E Q:=aA;have F:=Gm (P:=aK) wr 58 9 5 (M (U b.1) 0) h (b9 lN Q) underlying58 underlying5 underlying9 (λo D=>by{
 have z:((M (U b.1) 0):Addr).add o=(M (U b.1) o):=by unfold Addr.add;simp_all
 rw[z];exact i.2.1 o D})
 rw[H]at F;subst p;go_wp2;go_ret;exact⟨af,mg⟩})
def ak7(a)(d:d3 b)(h:E a<=3000):bd aK 340 #[aZ a] b (cQ (aZ (Lib.cut a [46]).1) b):=by obtain⟨_,m,e⟩:=d;have c:=ae<|Tryz.strings_Cut (O a) ⟨#[46]⟩ m b m7 e;go_in;go_wp21;refine c.m ?_;rintro i ⟨g,rfl⟩;go_wp2;go_ret;exact⟨af,kv (dz _ b) g⟩
section
attribute [local go_sem] Oper.semAt_some undef
def pv(b:List D)(c:List D)(a:ap):List D:=if(jb (dF b a) 2).length=0 then c else jb (dF b a) 2
def fV(c:ap)(d:List D)(b:ap):List D:=(iU (λa=>!(a==c))<|ei b).foldl (pv d) []
def SW{α:Type}(c):∀(b:List α),b.all c=aE->iU c b=b
 | [],_=>af
 | e::d,a=>by rw[yo,fx]at a;rw[GP a.1,SW c d a.2]
def LR{α:Type}(d):∀(c:List α) (a:Nat) (b:α),c[a]? = ag b->(amA a c).all d=aE->d b=ao->iU d c=amA a c
 | [],a,b,g,_,_=>by simp
 | j::i,0,b,g,_,h=>by simp_all
 | j::i,a+1,b,g,e,h=>by rw[yr,yo,fx]at e;rw[GP e.1,yr,LR d i a b (by grind) e.2 h]
def D6{α:Type}{b:List α}{c}(d:b[a]? = ag c):amA (a+1) b=amA a b++[c]:=by obtain⟨aN,rfl⟩:=j_.1 d;simp
def GA{ay}(n)(aU:iL b a c d ay h j)(C:d3 b)(aP:E j<=3001)(aR:E n<=3000)(a1:E c<=3000):bd aK 126 #[N a,aZ n] b λk aX=>(∃v,k=bg v/\nW d ay j v (fV c j n))/\a7 b aX:=by
 refine(ez (n:=0)).1 (wK func126 af cE ?_);simp only[ntmps126,ox,ey,h8,Nat.reduceAdd,Nat.reduceSub,ov,oQ,oS,oR,jz,g_];have az:=ae aU;have am:=ae C;gi_wp2_with fail;refine⟨cE,af,(ez.2<|F8 _ _).m λq ⟨aF,L,R⟩=>?_⟩;have aB:=((cy.qf _ _ _).alloc _).below L hV;have aC:cy q (U b.1+1) (bY) 41:=by{have:=(cy.qf (aO b<|aS #[cM<|ag ⟨a,0,ai⟩] 110) (bY) 41).below L aA;simp_all};have S:=((ct cd bv _).alloc aA _).trans<|bV L hV;simp only[gd]at aF R;gi_wp2_with fail;have aM:∀D,a7 q (aO (aO q<|dq<|ag [])<|dR D):=λD=>(ct cd bv _).alloc aA _;refine zZ (xs:=ei n) (encs:=λk:ap=>#[aZ k]) (St:=λi z=>a7 i z) (Kp:=λi z=>U i.1<=U z.1/\z.1[0]? = i.1[0]?) (Kx:=λ_ _=>True) (gf:=241) (lb:=#[N<|U b.1+1+1]) af (enters_of func241 dS af) (λ_=>af) ?seq [0] (by grind) (λi z aJ F=>bV F aJ) (λi z F aI=>⟨aI.1,F _ aA⟩) (λ_ _ _=>cE) (λav w=>(amA av<|ei n).all (λk=>!(k==c))=aE/\a7 b w/\cy w (U b.1) (N a) 110/\∃v,nW d ay j v ((amA av<|ei n).foldl (pv j) [])/\cy w (U b.1+1) v 41) (λK w=>K=.exit 0/\a7 b w/\∃v,nW d ay j v (fV c j n)/\cy w (U b.1+1) v 41) (λav i z F t=>⟨F.1,bN F.2.1<|bV t G,F.2.2.1.below t G,by have⟨v,h1,h2⟩:=F.2.2.2;exact⟨v,h1,h2.below t G⟩⟩) (λK i z F t=>⟨F.1,bN F.2.1<|bV t G,by have⟨v,h1,h2⟩:=F.2.2;exact⟨v,h1,h2.below t G⟩⟩) ⟨af,S,aB,_,bG ⟨af,af⟩,aC⟩ ?round ?done ?stop;case seq =>(intro D;have C:=aM D;exact F9 ((C.cell (p:=⟨U b.1+1+1,0,ai⟩) (by grind)).trans R) ((am.below S).below C) aR)
 ·(
 intro aW av e aY w aT y Y;gi_wp2_with fail;refine⟨cE,?_⟩;obtain⟨B,g,A,v,o,u⟩:=y;have H:=az.below g;have:=H.2.1;have au:=ae H;have:=A.cell;have ab:((O e).toList==(O c).toList)=(e==c):=yz;have aV:=ae A;have ac:=ae u;have J:=ae aT;have Q:=ae B;have aH:=ae o;have aj:=u.lt;have ar:=A.lt;have:=H.1;cases X:e==c;{
 rw[X]at ab;have ad:ax ((amA (av+1)<|ei n).all (λk=>!(k==c))=aE):=by{rw[ax,D6<|V J,zJ,V Q];grind};have T:ax ((amA (av+1)<|ei n).foldl (pv j) []=pv j ((amA av<|ei n).foldl (pv j) []) e):=by{rw[ax,D6<|V J,zL];rfl};have an:=ae<|LP e 2 (V au) aP;gi_wp2_with fail;refine⟨cE,af,(jH aW<|ez.2<|V an).mono ?_⟩;rintro k aq ⟨⟨a2,rfl,Z⟩,l⟩;obtain⟨a0,cD,rfl⟩:=Z.slice;have:=ae Z;have I:=ac.below l aj;have:=I.cell;have:=I.frozen;have aa:=ae I;have ah:=ae<|aV.below l ar;by_cases W:E (jb (dF j e) 2)=0;{
 have r:ax ((amA (av+1)<|ei n).foldl (pv j) []=(amA av<|ei n).foldl (pv j) []):=by rw[ax,V T,pv,b7 W]
 have al:¬(0:Int)<(E (jb (dF j e) 2):Int):=G;gi_wp2_with fail;exact⟨ex.Em l,λM aN=>l.5 M<|by grind,ad,bN g<|bV l g.4,ah,v,by rw[V r];assumption,aa⟩};{
 have r:ax ((amA (av+1)<|ei n).foldl (pv j) []=jb (dF j e) 2):=by rw[ax,V T,pv,bJ W]
 have al:(0:Int)<(E (jb (dF j e) 2):Int):=G;gi_wp2_with fail;refine⟨(ex.Em l).trans<|ex.setCell aq _ G,λM aN=>?_,ad,(bN g<|bV l g.4).setCell aA _,?_,_,by rw[V r];assumption,aa.set _⟩;{
 obtain rfl:M=0:=by grind
 exact(dJ _ _ _ _ aA).trans<|l.5 0 G};{exact(dJ _ _ _ _ aA).trans<|V ah}}};{rw[X]at ab;have r:ax (fV c j n=(amA av<|ei n).foldl (pv j) []):=by{rw[ax,fV,LR _ _ av e (V J) (V Q)<|by grind]};gi_wp2_with fail;exact⟨ex.refl _ _,af,g,v,by rw[V r];assumption,ac⟩})
 case done =>(
 intro w y x Y;obtain⟨B,g,A,v,o,u⟩:=y;rw[ld]at B o;have r:ax (fV c j n=(ei n).foldl (pv j) []):=by rw[ax,fV,SW _ _ B]
 have aH:=ae o;have aw:=u.cell;gi_wp2_with fail;refine⟨aA,bG ⟨_,_,af,mI x,?_⟩⟩;have P:=bN g<|belowK_b (w:=q) (show U b.1<=U q.1 by omega) w _ _ (dq ai) bv x af af;refine⟨v,by simp[dr,results126,go_sem],⟨v,af,?_⟩,P⟩;rw[V r];assumption)
 case stop =>(intro K w y x Y;obtain⟨rfl,g,v,o,u⟩:=y;replace o:=ae o;have aw:=u.cell;gi_wp2_with fail;refine⟨aA,bG ⟨_,_,af,mI x,?_⟩⟩;have P:=bN g<|belowK_b (w:=q) (show U b.1<=U q.1 by omega) w _ _ (dq ai) bv x af af;exact⟨v,by simp[dr,results126,go_sem],⟨v,af,o⟩,P⟩)
end
def ec(c:aQ)(b:Nat)(v:bm)(a:List D):Prop:=c.ownsRow b 47 4 v (E a)<|jL a
def h6(b:ap)(a:D):D:=(b,a.aP,a.type,a.data)
def jm(a:ap):ap:=bh (Lib.lastIndexByte (O a) 32+1).toNat a
def Ll(a:D):Nat:=((Lib.atoi<|jm a.data).getD 0).toNat
def Az(a:D):Prop:=E (jm a.data)<=18/\∃m:Nat,Lib.atoi (jm a.data)=ag (m:Int)/\m<=1000000000
def uM(a:D):D:=(a.owner,min a.aP<|Ll a,a.type,a.data)
def lr(a:ap)(b:List D):List D:=b9 uM<|jb (dF b a) 6
section
def ec.below(v:ec b a e j)(g:a7 b f):ec f a e j:=jG v g
def ec.base(c:ec b a e j)(g:d<=a):ec b d e j:=z_ c g
def ec.keeps(n:ec b a e j)(q:eL d b f)(t:d<a):ec f a e j:=by obtain⟨o,c⟩:=n;refine⟨o,?_⟩;rcases c with c|⟨v,i,k,l,p,g,r⟩;{grind};{exact bE ⟨v,i,k,l,p,(q.5 v (ea.1 g).1 G).trans g,r⟩}
def ec.alz{k}(v:ec b a e j)(g:k<a)(c):ec (a_ b ⟨k,0,ai⟩ c) a e j:=ownsRow_setCell_below v g c
def ec.ri{k i}(v:ec b a e j)(g:k<a)(c):ec (a_ b ⟨k,i,ai⟩ c) a e j:=ownsRow_setCell_below v g c
def ec.Ya(d:ec b a e j):∀v,bW e=ag v->a<=v/\v<U b.1:=kX d
def ec.slice(c:ec b a e j):∃v d,e=aL v (E j) d:=by rcases c.2 with⟨rfl,k⟩|⟨g,h,i,rfl,_⟩;{grind};simp
def ec.rv(v:ec b a e j):kN b e j:=by rcases v.2 with⟨rfl,i⟩|⟨h,g,l,rfl,n,d,c,o,p,r⟩;{exact .inl ⟨rfl,iM i⟩};{refine .inr ⟨h,0,g,rfl,c,RD ((ea.1 d).1) λk t q=>?_⟩;have:=nz v k (by grind);grind}
end
def Sh{ay}(h:gr b a ay j):∀g c,(jL j)[g]? = ag c->aD b (M a<|ay+g)=ag c:=by
 intro g c d;have k:g<E j*4:=by have:=(j_.1 d).1;rwa [KK]at this
 have e:g/4<E j:=G;have i:g=g/4*4+g%4:=G;rw[i,RC (g/4) (g%4) e G]at d;have:=h.2 (g/4) e (g%4) c d;grind
def Lm: ∀a∈jL j,a.oneCell'=aE:=by intro a b;have⟨r,_,hr⟩:=xV.1 b;simp[D.bz]at hr;rcases hr with rfl|rfl|rfl|rfl<;>rfl
def JR(l:kN b e j)(o:E j<=3001):bd aK 243 #[e] b λa d=>∃c,a=bg c/\ec d (U b.1) c j/\a7 b d:=by rcases l with⟨rfl,rfl⟩|⟨g,ay,h,rfl,n,k⟩;{refine(AnyE.slices_Clone_nil Tryz.akY 0 0 b).m ?_;rintro d rfl;exact⟨_,af,jO _ _ _ _,dz _ _⟩};{have⟨i0,aN,hz0,hz1,hz2⟩:=jN Cj;refine(AnyE.slices_Clone Tryz.akY i0 _ 4 48 aN hz0 hz1 hz2 af G Tryz.sizeOf47 g ay (E j) h (jL j) b (KK j) DB G (Sh k) Lm).mono ?_;rintro a d ⟨c,rfl,i,_,v⟩;exact⟨c,af,i,v⟩}
def Si(c):∀(b:List D) (a:Nat) (d:a<E b),(jL b).set (a*4) (aZ c)=jL (b.set a<|h6 c b[a])
 | [],a,d=>by rfl
 | i::g,0,_=>by rfl
 | i::g,a+1,d=>by have e:=Si c g a (by grind);have h:(a+1)*4=a*4+1+1+1+1:=G;simp only[jL,l5,lp,fw]at e ⊢;rw[<- e,h];rfl
def Sj{f}(c:a<E j):∃e:a<E (b9 f (amA a j)++bh a j),(b9 f (amA a j)++bh a j)[a]=j[a]/\(b9 f (amA a j)++bh a j).set a (f j[a])=b9 f (amA (a+1) j)++bh (a+1) j:=by
 have d:E (b9 f<|amA a j)=a:=by grind
 refine⟨by grind,?_,?_⟩;{grind};{rw[vC _ _ G,d,sm,lA c,kH,iH c,kq];simp}
def Sk{f}(c:a<=E j):E (b9 f (amA a j)++bh a j)=E j:=by grind
def amj(c)(I:kN b e j)(F:E j<=3001):bd aK 272 #[aZ c,e] b λn u=>∃v,n=bg v/\ec u (U b.1) v (b9 (h6 c) j)/\a7 b u:=by
 have w:=ae<|JR I F;go_in;go_wp2_with fail;refine w.mono ?_;rintro n T ⟨v,rfl,d,z⟩;obtain⟨k,l,rfl⟩:=d.slice;have:=ae d;go_wp2;go_loopw [10] (λi wr=>∃a:Nat,i=J a/\a<=E j/\ec wr (U b.1) (aL k (E j) l) (b9 (h6 c) (amA a j)++bh a j)/\a7 b wr) λi _=>E j-(fJ i).toNat;·exact⟨0,af,eb _,fN,z⟩
 ·(
 obtain⟨a,rfl,D,d,r⟩:=hrel;by_cases H:a<E j;{
 have⟨jr,qY,gI⟩:=Sj (f:=h6 c) H;have:=Sk (f:=h6 c) D;have g:wr.ownsRow (U b.1) 47 4 (aL k (E j) l) (E j) (jL<|b9 (h6 c) (amA a j)++bh a j):=by{have:=d;unfold ec at this;grind};rcases g.2 with⟨o,P⟩|⟨q,N,O,o,A,y,Q,R,L,K⟩;{omega};{
 cases o;have h:=g.stored (a*4)<|aZ c;have:=g.frozenAt<|a*4;have B:=g.cellAt (a*4) G;rw[Si c _ a jr,qY,gI]at h;have C:∃t,aD wr (M q<|a*4)=ag t:=by{grind};obtain⟨t,S⟩:=C;have x:=ae h;have:=ae<|fk r (p:=⟨q,a*4,ai⟩) A (aZ c);clear h d g B y K qY gI;go_wp2_with fail;go_roundw;case rel =>(refine⟨a+1,dH,G,?_,fN⟩;have:=x.1;grind[ec])
 ·exact Bz}};{obtain rfl:a=E j:=G;replace d:=ae d;go_wp2;go_ret;refine⟨_,af,?_,r⟩;have:=V d;simp_all})
def amk(s): -1<=Lib.lastIndexByte s 32/\Lib.lastIndexByte s 32<s.size:=by unfold Lib.lastIndexByte;rcases Lib.lastIdx_spec s 32 s.size with⟨a,_⟩|⟨d,b,c,_⟩;{omega};{omega}
def Sl(b)(k:E Q<=3000):bd aK 196 #[aZ Q] b λh j=>h=bg (aZ<|jm Q)/\j=b:=by
 have:=amk<|O Q;have:(O Q).size<=3000:=fN
 have g:ax (jm Q=bh (Lib.lastIndexByte (O Q) 32+1).toNat (O Q).1.1):=af;have e:=ae<|Tryz.strings_LastIndexByte (O Q) 32 G b;generalize Lib.lastIndexByte (O Q) 32=c at *;obtain⟨d,i⟩:∃d:Nat,c+1=d:=⟨(c+1).toNat,G⟩;go_in;go_wp21;refine e.m ?_;rintro b rfl;go_wp2;go_ret;refine⟨RX ?_,af⟩;rw[r8,V g,i,vi,Zp,Array.toList_extract];simp;exact oT aA
def Sm(m:Nat):∀(b:List D) (a:Nat) (c:a<E b),(jL b).set (a*4+1) (J m)=jL (b.set a (b[a].owner,m,b[a].type,b[a].data))
 | [],a,c=>by rfl
 | h::e,0,_=>by rfl
 | h::e,a+1,c=>by have d:=Sm m e a (by grind);have g:(a+1)*4+1=(a*4+1)+1+1+1+1:=G;simp only[jL,l5,lp,fw]at d ⊢;rw[<- d,g];rfl
def aml(b)(d:E Q<=18)(c:Lib.atoi Q=ag (a:Int)):bd aK 274 #[aZ Q] b (cQ (bX #[J a,.nilIface]) b):=by refine(Tryz.strconv_Atoi (O Q) a fN c b).m ?_;rintro g ⟨e,rfl⟩;exact⟨af,Go.Joins.below_bytesWorld _ _ _ _ bv⟩
def JS{ay}(u:iL b a c d ay o j)(H:E j<=3001)(Z:∀e∈jb (dF j c) 6,Az e/\E e.data<=3000/\e.aP<=1000000000):bd aK 245 #[N a] b λab O=>∃x,ab=bg x/\ec O (U b.1) x (lr c j)/\a7 b O:=by
 have S:=ae<|LP c 6 u H;have:=u.2.1;have Y:=ae u.2.2.2.2;have au:E (jb (dF j c) 6)<=3001:=cU (F6 _ _)<|cU (D2 _ _) H;have ac:ax (lr c j=b9 uM (jb (dF j c) 6)):=af;have ah:=ae Z;generalize jb (dF j c) 6=Q at *;go_in;go_wp2_with fail;refine S.mono ?_;rintro ab aW ⟨⟨aV,rfl,aA⟩,q⟩;have R:=ae<|JR (aA.rv<|Y.below q) au;go_wp21;refine R.mono ?_;rintro ab aX ⟨x,rfl,B,am⟩;obtain⟨z,A,rfl⟩:=B.slice;have K:=q.4;have:=ae<|B.base K;have al:=bN q<|bV am K;go_wp2;go_loopw [17] (λw wr=>∃i:Nat,w=J i/\i<=E Q/\ec wr (U b.1) (aL z (E Q) A) (b9 uM (amA i Q)++bh i Q)/\a7 b wr) λw _=>E Q-(fJ w).toNat;·exact⟨0,af,eb _,fN,al⟩
 ·(
 obtain⟨i,rfl,ar,B,g⟩:=hrel;by_cases I:i<E Q;{
 have⟨jr,qY,gI⟩:=Sj (f:=uM) I;have:=Sk (f:=uM) ar;have r:wr.ownsRow (U b.1) 47 4 (aL z (E Q) A) (E Q) (jL<|b9 uM (amA i Q)++bh i Q):=by{have:=B;unfold ec at this;grind};have aC:=B.rv;have⟨⟨Ps,m,Mj,Ye⟩,nA,Yf⟩:=V ah Q[i]<|eP I;rcases r.2 with⟨C,aM⟩|⟨l,o,aJ,C,an,ad,aN,aP,aF,aT⟩;{omega};{
 cases C;have aa:gr wr l 0 (b9 uM (amA i Q)++bh i Q):=by{rcases aC with⟨ab,_⟩|⟨aH,aU,aI,ab,_,aR⟩;{cases ab};grind};have⟨c0,bA,c2,c3⟩:=aa.four i jr;rw[qY,g8]at c0 bA c2 c3;have t:=fun(h:aQ) (n:a7 wr h)=>(jG r n).stored (i*4+1)<|J ((min Q[i].aP m:Nat):Int);have aq:=fun(h:aQ) (n:a7 wr h)=>(jG r n).frozenAt<|i*4+1;rw[Sm _ _ i jr,qY]at t;have ap:uM Q[i]=(Q[i].owner,min Q[i].aP m,Q[i].type,Q[i].data):=by{grind[uM,Ll]};rw[<- ap,gI]at t;have T:=ae t;have av:=ae aq;have az:=(ea.1 ad).1;have W:=ae λh=>Sl h nA;have aB:=ae λh=>aml h Ps Mj;generalize Q[i]=e at *;go_wp21;refine(W _).m λy L=>?_;have D:a7 wr y:=L▸ct cd bv _
 have aj:aD y (M (U wr.1) 1)=ag (J e.aP):=by simp_all
 have aw:U wr.1<U y.1:=by simp_all
 clear L;go_wp2_with fail;refine(aB _).m ?_;intro P F;have:=(F.cell (p:=⟨U wr.1,1,ai⟩) aw).trans aj;have k:=bN D<|bV F D.4;have:=(k.cell (p:=⟨l,i*4+1,ai⟩) az).trans bA;have:=V av P k;have X:=ae<|T P k;have:=ae<|((bN g<|bV k g.4)).setCell (p:=⟨l,i*4+1,ai⟩) an (J ((min e.aP m:Nat):Int));have:(min (e.aP:Int) (m:Int))=((min e.aP m:Nat):Int):=G;go_wp2;go_roundw;·(refine⟨i+1,dH,G,?_,fN⟩;have:=X.1;unfold ec;grind)
 ·exact Bz}};{obtain rfl:i=E Q:=G;replace B:=ae B;go_wp2;go_ret;refine⟨_,af,?_,g⟩;have:=V B;rw[ld,w_,mw]at this;rw[V ac];exact this})
section
attribute [local go_sem] Oper.semAt_some undef
def er(a:List D)(b:ap):List D×Bool :=
 if lf a b then(dF a b,aE)
 else match (ei<|jA b).find? (lf a)with
  | some c=>(b9 (h6 b)<|dF a (42::46::c),dQ<|0<E (dF a (42::46::c)))
  | none=>([],ao)
def Cp(g:aQ)(v:bm)(d e:Nat)(b:List D):Prop:=∃a c,Cm v a c b/\gr g a c b/\(a=d\/e<=a)
def Cp.rv(v:Cp b e d a j):kN b e j:=by obtain⟨g,n,k,l,_⟩:=v;rcases k with v|⟨h,i,c⟩;{exact bG v};{exact bE ⟨g,n,h,i,c,l⟩}
def Cp.own{h:List D}(g:ec b o e h)(j:a<U b.1)(l:d<=o):Cp b e a d h:=by have p:=g.rv;rcases p with⟨rfl,rfl⟩|⟨c,v,i,rfl,k,n⟩;{exact⟨a,0,.inl ⟨rfl,rfl⟩,⟨j,λq hj=>Di⟩,bG af⟩};{exact⟨c,v,bE ⟨i,af,k⟩,n,bE<|cU l (g.Ya c af).1⟩}
def amm{p:ap->Bool}(d:r[a]? = ag c):(bh a r).find? p=if p c then ag c else(bh (a+1) r).find? p:=by obtain⟨aN,rfl⟩:=j_.1 d;rw[lA aN,KV];cases p r[a]<;>rfl
def P8{P:Prop}(h:P:=by
 by_cases h:n=[]
 ·subst h;decide
 ·have:=zC h;omega):P:=h
def KD{P:Prop}(h:P:=by show U w.1<=U w.1+1+1+1;omega):P:=h
def J_{P:Prop}(h:P:=by show U w.1+1+1+1≠U w.1+1+1;omega):P:=h
def J4{P:Prop}(h:P:=by show U w.1+1+1≠U w.1+1+1+1;omega):P:=h
def Dt{P:Prop}(h:P:=by show U w.1<=U w.1+1+1;omega):P:=h
def ZB{P:Prop}(h:P:=by refine hK _ _<|lW 5 λK hK=>?_;go_simp;refine⟨cE,af,(ez.2<|V tq).mono ?_⟩;rintro e W5 ⟨v5,rfl,kD,hb5⟩;obtain⟨a5,fB,rfl⟩:=kD.slice;have mG:=qm W5 _ kD hb5;rw[fC]at mG;have k1:=mG.1;refine hK _ _<|lW 6 λK hK=>?_;go_simp;refine hK _ _<|zz b8 ?_ _;gi_wp2_with fail;exact mG.2):P:=h
def KC{P:Prop}(h:P:=by refine hK _ _<|lW 4 λK hK=>?_;go_simp;refine⟨cE,af,(ez.2<|V nN).mono ?_⟩;rintro e W4 ⟨⟨v4,rfl,hv4⟩,hb4⟩;have⟨iZ,tq,qm⟩:=V pI W4 v4 hv4 hb4;refine hK _ _<|lW 5 λK hK=>?_;go_simp;refine⟨cE,af,(ez.2<|V tq).mono ?_⟩;rintro e W5 ⟨v5,rfl,kD,hb5⟩;obtain⟨a5,fB,rfl⟩:=kD.slice;have mG:=qm W5 _ kD hb5;rw[fC]at mG;have k1:=mG.1;refine hK _ _<|lW 6 λK hK=>?_;go_simp;refine hK _ _<|zz b8 ?_ _;gi_wp2_with fail;exact mG.2):P:=h
def QF{P:Prop}(h:P:=by refine hK _ _<|lW 1 λK hK=>?_;go_simp;exact KC):P:=h
def Q3{P:Prop}(h:P:=by go_simp;refine hK _ _<|lW 3 λK hK=>?_;go_simp;refine⟨cE,af,(ez.2<|SY _).m λD3 nB=>?_⟩;subst nB;exact KC):P:=h
def QK{P:Prop}(h:P:=by
 refine hK _ _<|ui (rs:=[0,4]) b8 aA (mM af (λK hK=>?_)<|mM af (λK hK=>?_) uh)
 ·go_simp;exact KC
 ·go_simp;refine⟨cE,af,(ez.2<|V nN).mono ?_⟩;rintro e W4 ⟨⟨v4,rfl,hv4⟩,hb4⟩;have⟨iZ,tq,qm⟩:=V pI W4 v4 hv4 hb4;refine hK _ _<|lW 0 λK hK=>?_;go_simp;exact ZB):P:=h
def Ln{P ay:Nat}{n:ap}{rs:List D}{w:aQ}(bb:iL w a c P ay d rs)(am:d3 w)(Y:E rs<=3001)(bR:E n<=2900)(bD:∀I∈rs,E I.owner<=3000):bd aK 244 #[N a,aZ n] w λe z=>(∃v,e=bg (bX #[v,aG (er rs n).2])/\Cp z v P (U w.1) (er rs n).1)/\a7 w z:=by
 refine(ez (n:=0)).1 (Gp func244 af cE ?_);simp only[ntmps244,ox,ey,h8,Nat.reduceAdd,Nat.reduceSub,ov,oQ,oS,oR,jz,g_];have A:=ae bb;have aT:=ae am;have aU:=ae bD;have aY:=bb.2.2.2.2.1;have bC:aK.follows .mixedOrders=aE:=b8;have a2:a7 w (aO (aO (aO (aO w<|aS #[cM<|ag ⟨a,0,ai⟩] 110)<|aS #[amz<|O n] 9)<|aS #[aL ai 0 0] 41)<|aS #[aG ao] 4) :=
  (((ct cd bv _).alloc aA _).alloc cx _).alloc cx _
 have ab:=ae<|SQ n (A.below a2) Y G<|V aU;gi_wp2_with fail;refine⟨cE,af,(ez.2<|V ab).m λah X=>?_⟩;have az:=((((cy.qf _ _ _).alloc _).alloc _).alloc _).below X hV;have aB:cy ah (U w.1+1) (aZ n) 9:=by
  have:=(((cy.qf (aO w<|aS #[cM<|ag ⟨a,0,ai⟩] 110) (aZ n) 9).alloc<|aS #[aL ai 0 0] 41).alloc<|aS #[aG ao] 4).below X hV
  rwa [gd]at this
 have al:cy ah (U w.1+1+1) (bY) 41:=by
  have:=((cy.qf (aO (aO w<|aS #[cM<|ag ⟨a,0,ai⟩] 110)<|aS #[amz<|O n] 9) (bY) 41).alloc<|aS #[aG ao] 4).below X hV
  rwa [gd,gd]at this
 have S:cy ah (U w.1+1+1+1) (aG ao) 4:=by
  have:=(cy.qf (aO (aO (aO w<|aS #[cM<|ag ⟨a,0,ai⟩] 110)<|aS #[amz<|O n] 9)<|aS #[aL ai 0 0] 41) (aG ao) 4).below X hV
  rwa [gd,gd,gd]at this
 have B:=bN a2<|bV X hV;have bF:U w.1+4<=U ah.1:=cj S.lt
 have:=az.cell;have:=aB.cell;cases aR:lf rs n
 ·have a1:ax (er rs n=match (ei<|jA n).find? (lf rs)with
    | some a0=>(b9 (h6 n)<|dF rs (42::46::a0),dQ<|0<E (dF rs (42::46::a0)))
    | none=>([],ao)):=by rw[er,aR];rfl
  have bn:=ae<|ak3 n (aT.below B) G;gi_wp2_with fail;refine⟨cE,af,(ez.2<|V bn).mono ?_⟩;rintro e b ⟨aN,rfl,bT,bQ,C,bo⟩;have bp:=ae bo;have bI:=az.below C az.lt;have bJ:=aB.below C aB.lt;have bK:=al.below C al.lt;have bL:=S.below C S.lt;have a3:=bN B<|bV C B.4;have:=cU bF C.4;gi_wp2_with fail;have bB:∀I,a7 b (aO (aO b<|dq<|ag [])<|dR I):=λI=>(ct cd bv _).alloc aA _;refine alx (xs:=ei<|jA n) (encs:=λe:ap=>#[aZ e]) (St:=λq r=>a7 q r) (Kp:=λq r=>U q.1<=U r.1/\r.1[0]? = q.1[0]?) (Kx:=λ_ _=>True)
   (gf:=241) (lb:=#[N aN]) af (enters_of func241 b8 af) (λ_=>af) ?seq
   [0] cx (λq r h=>h) (λq r h bA=>⟨bA.1,h _ aA⟩) (λ_ _ _=>cE)
   (λF o=>(bh F<|ei<|jA n).find? (lf rs)=(ei<|jA n).find? (lf rs)/\a7 w o/\cy o (U w.1) (N a) 110/\cy o (U w.1+1) (aZ n) 9/\cy o (U w.1+1+1) (bY) 41/\cy o (U w.1+1+1+1) (aG ao) 4)
   (λQ o=>Q=.ret/\a7 w o/\∃v,ec o (U b.1+2) v (er rs n).1/\cy o (U w.1+1+1) v 41/\cy o (U w.1+1+1+1) (aG (er rs n).2) 4)
   (λF q r h T hk=>⟨h.1,bN h.2.1<|hk.below G G,h.2.2.1.below (hk.below (n:=U b.1) G T) G,h.2.2.2.1.below (hk.below (n:=U b.1) G T) G,h.2.2.2.2.1.below (hk.below (n:=U b.1) G T) G,h.2.2.2.2.2.below (hk.below (n:=U b.1) G T) G⟩)
   (λQ q r h T hk=>⟨h.1,bN h.2.1<|hk.below G G,by
    have⟨v,h1,h2,h3⟩:=h.2.2;exact⟨v,h1.keeps hk G,h2.below (hk.below (n:=U b.1) G G) G,h3.below (hk.below (n:=U b.1) G G) G⟩⟩)
   ⟨af,a3,bI,bJ,bK,bL⟩
   ?round ?done ?stop
  case seq =>
   intro I;have am:=bB I;exact F9 ((am.cell (p:=⟨aN,0,ai⟩) (by show aN<U b.1;omega)).trans (V bp)) ((aT.below a3).below am) P8
  ·intro bf F l bP o ba W a8;gi_wp2_with fail;refine⟨cE,?_⟩;obtain⟨aF,j,aH,bc,Z,H⟩:=W;have:E (jA n)<=E n:=P8
   have:=JP<|rM ba;have bj:=A.below j;have:=aH.cell;have a6:=amm (p:=lf rs) ba;rw[aF]at a6;have aV:=ae a6;have aW:=ae aH;have aX:=ae bc;have aa:=ae Z;have ac:=ae H;have:=H.lt;have ab:=ae<|SQ l bj Y G<|V aU;cases a9:lf rs l
   ·have bt:ax ((bh (F+1)<|ei<|jA n).find? (lf rs)=(ei<|jA n).find? (lf rs)):=by rw[ax,V aV,a9];rfl
    gi_wp2_with fail;refine⟨cE,af,(jH bf<|ez.2<|V ab).m λW4 hb4=>?_⟩;have bu:ax (ex (U b.1) o W4/\(∀k∈[0],W4.1[k]? = o.1[k]?)/\((bh (F+1)<|ei<|jA n).find? (lf rs)=(ei<|jA n).find? (lf rs)/\a7 w W4/\cy W4 (U w.1) (N a) 110/\cy W4 (U w.1+1) (aZ n) 9/\cy W4 (U w.1+1+1) (bY) 41/\cy W4 (U w.1+1+1+1) (aG ao) 4)) :=
     ⟨ex.Em hb4,λk hk=>hb4.5 k H2,bt,bN j<|bV hb4 j.4,aW.below hb4 G,aX.below hb4 G,aa.below hb4 G,ac.below hb4 G⟩
    gi_wp2_with fail;exact bu
   ·have t:ax (er rs n=(b9 (h6 n)<|dF rs (42::46::l),dQ<|0<E (dF rs (42::46::l)))):=by
     rw[ax,V a1,V aV,a9];rfl
    gi_wp2_with fail;refine⟨cE,af,(jH bf<|ez.2<|V ab).m λar y=>?_⟩;have aC:=bN j<|bV y j.4;have bM:=aW.below y G;have aI:=aX.below y G;have aJ:=aa.below y G;have aM:=ac.below y G;have:=bM.cell;have:=aI.cell;have bH:=y.4;have br:(O l).size<=1000000:=m7
    have SY:ax (∀ad,bd aK 273 #[aZ l] ad λe z=>e=bg (aZ (42::46::l))/\z=ad):=λad=>akV ad br;have nN:=ae (SP (42::46::l) ((A.below aC).below cd.drew) Y)
    -- behind the records of the star
    have pI:ax (∀(W4:aQ) (v4:bm),nW P ay rs v4 (dF rs (42::46::l))->cB (U (bq ar).1) (bq ar) W4 ->
      co W4 (U w.1+1) 0 (aZ n) /\
      ax (bd aK 272 #[aZ n,v4] W4 λe z=>∃bi,e=bg bi/\ec z (U W4.1) bi (b9 (h6 n)<|dF rs (42::46::l))/\a7 W4 z) /\
      (∀(W5:aQ) (v5:bm),ec W5 (U W4.1) v5 (b9 (h6 n)<|dF rs (42::46::l))->a7 W4 W5 ->
       ax ((co W5 (U w.1+1+1) 0 (bY)/\io W5 (M (U w.1+1+1) 0)=ao/\co W5 (U w.1+1+1+1) 0 (aG ao)/\io W5 (M (U w.1+1+1+1) 0)=ao) /\
        (Jy (U b.1) [0] (λo=>(bh (F+1)<|ei<|jA n).find? (lf rs)=(ei<|jA n).find? (lf rs)/\a7 w o/\cy o (U w.1) (N a) 110/\cy o (U w.1+1) (aZ n) 9/\cy o (U w.1+1+1) (bY) 41/\cy o (U w.1+1+1+1) (aG ao) 4)
         (λQ o=>Q=.ret/\a7 w o/\∃v,ec o (U b.1+2) v (er rs n).1/\cy o (U w.1+1+1) v 41/\cy o (U w.1+1+1+1) (aG (er rs n).2) 4) o .ret { tmps:=#[],defers:=[] }
         (a_ (a_ W5 ⟨U w.1+1+1,0,ai⟩ v5) ⟨U w.1+1+1+1,0,ai⟩<|aG<|dQ<|0<E (dF rs (42::46::l))))))):=by
     intro W4 v4 hv4 hb4;have x:a7 ar W4:=(cd.drew).trans hb4;have aw:=bN aC<|bV x aC.4;have:=x.4;refine⟨(aI.below x aI.lt).cell,amj n (hv4.rv (A.below aw).2.2.2.2)<|cU hv4.len Y,λW5 v5 kD hb5=>?_⟩;have bO:=bN aw<|bV hb5 aw.4;have g:=(aJ.below x aJ.lt).below hb5<|cj aJ.lt;have i:=(aM.below x aM.lt).below hb5<|cj aM.lt;refine⟨⟨g.cell,g.frozen,i.cell,i.frozen⟩,?_⟩;have bs:=bN x<|bV hb5 x.4;refine⟨?_,af,(fk bO Dt _).setCell KD _,v5,?_,?_,?_⟩
     ·exact((ex.Em<|bN y<|bV bs bH).trans<|ex.setCell W5 _ G).trans<|ex.setCell _ _ G
     ·rw[V t];exact((kD.alz (k:=U w.1+1+1) G _).alz (k:=U w.1+1+1+1) G _).base G
     ·exact(dJ _ _ _ _ J4).trans<|g.set _
     ·rw[V t];exact(show cy (a_ W5 ⟨U w.1+1+1,0,ai⟩ v5) (U w.1+1+1+1) (aG ao) 4 from(dJ _ _ _ _ J_).trans i).set _
    gi_wp2_with fail;refine Aa bC (xj b8)<|mv 2<|ui (rs:=[0,1,3]) b8 aA (mM af (λK hK=>?_)<|mM af (λK hK=>?_)<|mM af (λK hK=>?_) uh)
    ·go_simp;refine hK _ _<|ui (rs:=[1,3]) b8 aA (mM af (λK hK=>?_)<|mM af (λK hK=>?_) uh)
     ·exact Q3
     ·go_simp;refine⟨cE,af,(ez.2<|SY _).m λD3 nB=>?_⟩;subst nB;exact QF
    ·go_simp;refine hK _ _<|ui (rs:=[0,3]) b8 aA (mM af (λK hK=>?_)<|mM af (λK hK=>?_) uh)
     ·exact Q3
     ·go_simp;refine⟨cE,af,(ez.2<|SY _).m λD3 nB=>?_⟩;subst nB;exact QK
    ·go_simp;refine⟨cE,af,(ez.2<|SY _).m λD3 nB=>?_⟩;subst nB;refine hK _ _<|ui (rs:=[0,1]) b8 aA (mM af (λK hK=>?_)<|mM af (λK hK=>?_) uh)
     ·go_simp;exact QF
     ·go_simp;exact QK
  case done =>
   intro o W aj a8;obtain⟨aF,j,aH,bc,Z,H⟩:=W;have t:ax (er rs n=([],ao)):=by
    rw[ax,V a1,<- aF,sh bv];rfl
   have g:=Z.cell;have bx:=Z.frozen;have i:=H.cell;have bz:=H.frozen;have aa:=ae Z;have ac:=ae H;gi_wp2_with fail;have aP:=(dJ (a_ o ⟨U w.1+1+1,0,ai⟩<|aL ai 0 0) (M (U w.1+1+1+1) 0) (aG ao) (U b.1) (by show U b.1≠U w.1+1+1+1;omega)).trans<|(dJ o (M (U w.1+1+1) 0) (bY) (U b.1) (by show U b.1≠U w.1+1+1;omega)).trans aj;refine⟨aA,bG ⟨_,_,af,zV aP,?_⟩⟩;have au:cy (a_ (a_ o ⟨U w.1+1+1,0,ai⟩<|aL ai 0 0) ⟨U w.1+1+1+1,0,ai⟩<|aG ao) (U w.1+1+1) (bY) 41:=(dJ _ _ _ _ J4).trans<|aa.set _;have av:cy (a_ (a_ o ⟨U w.1+1+1,0,ai⟩<|aL ai 0 0) ⟨U w.1+1+1+1,0,ai⟩<|aG ao) (U w.1+1+1+1) (aG ao) 4 :=
    (show cy (a_ o ⟨U w.1+1+1,0,ai⟩<|aL ai 0 0) (U w.1+1+1+1) (aG ao) 4 from(dJ _ _ _ _ J_).trans<|V ac).set _
   have J:=(au.put (d:=U b.1) (o:=dq ai) G).cell;have R:=(av.put (d:=U b.1) (o:=dq ai) G).cell;have u:=((fk j (p:=⟨U w.1+1+1,0,ai⟩) Dt (bY)).setCell (p:=⟨U w.1+1+1+1,0,ai⟩) KD (aG ao)).trans (yw (w:=b) (show U w.1<=U b.1 by omega) _ _ _ (dq ai) bv aP af af);refine⟨bX #[bY,aG ao],by simp[dr,results244,go_sem,J,R],⟨_,by rw[V t],?_⟩,u⟩;rw[V t];exact⟨P,ay,bG ⟨af,af⟩,⟨e8 aY u.4,λbS hj=>Di⟩,bG af⟩
  case stop =>
   intro Q o W aj a8;obtain⟨rfl,j,v,a4,g,i⟩:=W;have bk:=ae a4;obtain⟨bU,b0,rfl⟩:=a4.slice;have an:=ae g;have aq:=ae i;gi_wp2_with fail;refine⟨aA,bG ⟨_,_,af,zV aj,?_⟩⟩;have J:=(an.put (d:=U b.1) (o:=dq ai) G).cell;have R:=(aq.put (d:=U b.1) (o:=dq ai) G).cell;have u:=bN j<|yw (w:=b) (show U w.1<=U b.1 by omega) o _ _ (dq ai) bv aj af af;refine⟨bX #[_,aG (er rs n).2],by simp[dr,results244,go_sem,J,R];rfl,⟨_,af,?_⟩,u⟩;exact Cp.own (ec.keeps (V bk) (eL.put (d:=U b.1) o (U b.1) (dq ai)) G) (e8 aY u.4) G
 ·have t:ax (er rs n=(dF rs n,aE)):=by rw[er,ax,aR];rfl
  have nN:=ae<|SP n (A.below B) Y;gi_wp2_with fail;refine⟨cE,af,(ez.2<|V nN).mono ?_⟩;rintro e W4 ⟨⟨v4,rfl,hv4⟩,hb4⟩;obtain⟨L,cD,rfl⟩:=hv4.slice;have bl:=ae hv4;have g:=al.below hb4 al.lt;have i:=S.below hb4 S.lt;have:=g.cell;have bx:=g.frozen;have:=i.cell;have bz:=i.frozen;have an:=ae g;have aq:=ae i;gi_wp2_with fail;have au:cy (a_ (a_ W4 ⟨U w.1+1+1,0,ai⟩<|aL L (E<|dF rs n) cD) ⟨U w.1+1+1+1,0,ai⟩<|aG aE) (U w.1+1+1) (aL L (E<|dF rs n) cD) 41:=(dJ _ _ _ _ J4).trans<|an.set _;have av:cy (a_ (a_ W4 ⟨U w.1+1+1,0,ai⟩<|aL L (E<|dF rs n) cD) ⟨U w.1+1+1+1,0,ai⟩<|aG aE) (U w.1+1+1+1) (aG aE) 4 :=
   (show cy (a_ W4 ⟨U w.1+1+1,0,ai⟩<|aL L (E<|dF rs n) cD) (U w.1+1+1+1) (aG ao) 4 from(dJ _ _ _ _ J_).trans<|V aq).set _
  have J:=au.cell;have R:=av.cell;have u:=(((bN B<|bV hb4 B.4).setCell (p:=⟨U w.1+1+1,0,ai⟩) Dt (aL L (E<|dF rs n) cD)).setCell (p:=⟨U w.1+1+1+1,0,ai⟩) KD (aG aE))
  refine⟨bX #[_,aG aE],by simp[dr,results244,go_sem,J,R];rfl,⟨_,by rw[V t],?_⟩,u⟩;rw[V t];have⟨o',h1,h2,_⟩:=bl.at (A.below u).2.2.2.2;exact⟨P,o',h2,h1,bG af⟩
end
section
attribute [local go_sem] Oper.semAt_some
def gH(j:aQ)(e k:Nat)(c d:Int)(a:Bool)(g h i:bm)(b:Nat):Prop :=
 j.1[e]? = ag (aS #[cM<|ag ⟨k,0,ai⟩,ak .i64 c,ak .i64 d,aG a,g,h,i,cM<|ag ⟨b,0,ai⟩] 210)
structure cL(p:Nat->Prop)(A B:World):Prop where
 os:B.os=A.os
 tape:B.tape=A.tape
 output:B.output=A.output
 size:A.heap.size<=B.heap.size
 block:∀k,k<A.heap.size->p k->B.heap[k]? = A.heap[k]?
def cL.refl(p:Nat->Prop)(a:aQ):cL p a a:=⟨af,af,af,cW _,λ_ _ _=>af⟩
def cL.trans(a:cL B f m)(b:cL B m u):cL B f u :=
 ⟨c_ b.1 a.1,c_ b.2 a.2,c_ b.3 a.3,cU a.4 b.4,λi aN h=>(b.5 i (e8 aN a.4) h).trans<|a.5 i aN h⟩
def cL.mono(d:cL B b f)(j:∀a,a<U b.1->Z a->B a):cL Z b f:=⟨d.1,d.2,d.3,d.4,λa e i=>d.5 a e<|j a e i⟩
def cL.zY(a:a7 b f):cL B b f:=⟨a.1,a.2,a.3,a.4,λe d _=>a.5 e d⟩
def cL.Yg{g:Option Nat}(a:b.grownBy f g)(i:∀d,B d->ag d≠g):cL B b f:=⟨a.1,a.2,a.3,a.4,λd h j=>a.5 d h<|i d j⟩
def cL.j9{A:aQ}{a:Addr}(g:bm)(e:∀b,B b->b≠a.1):cL B A (a_ A a g):=⟨af,af,af,by simp[a_],λb _ d=>dJ _ _ _ _<|e b d⟩
def cL.below{n:Nat}(a:cL B b f)(g:∀k,k<n->B k)(h:n<=U b.1):cB n b f:=⟨a.1,a.2,a.3,a.4,λk e=>a.5 k G<|g k e⟩
def cL.CO(a:eL d b f):cL (λe=>e≠d) b f:=⟨a.1,a.2,a.3,a.4,a.5⟩
section
variable {w:World} {sb zb cb:Nat} {k rc:Int} {bR:Bool} {va vb vc:Value}
def gH.lt(a:gH w sb zb k rc bR va vb vc cb):sb<U w.1:=(ea.1 a).1
def gH.cells(a:gH w sb zb k rc bR va vb vc cb):aD w (M sb 0)=ag (N zb)/\aD w (M sb 1)=ag (J k)/\aD w (M sb 2)=ag (J rc)/\aD w (M sb 3)=ag (aG bR)/\aD w (M sb 4)=ag va/\aD w (M sb 5)=ag vb/\aD w (M sb 6)=ag vc/\aD w (M sb 7)=ag (N cb):=by unfold gH at a;refine⟨?_,?_,?_,?_,?_,?_,?_,?_⟩<;>simp[aD,a]
def gH.frozen(h:gH w sb zb k rc bR va vb vc cb)(a:Nat):io w (M sb a)=ao:=by unfold gH at h;exact tb
def gH.kept{w':aQ}(a:gH w sb zb k rc bR va vb vc cb)(b:w'.1[sb]? = w.1[sb]?):gH w' sb zb k rc bR va vb vc cb:=c_ b a
def FY{P:Prop}(h:P:=by unfold gH at *;exact PC):P:=h
def gH.set2(h:gH w sb zb k rc bR va vb vc cb)(a:Int):gH (a_ w ⟨sb,2,ai⟩<|ak .i64 a) sb zb k a bR va vb vc cb:=by exact FY
def gH.lM(h:gH w sb zb k rc bR va vb vc cb)(a:Bool):gH (a_ w ⟨sb,3,ai⟩<|aG a) sb zb k rc a va vb vc cb:=by exact FY
def gH.o6(h:gH w sb zb k rc bR va vb vc cb)(a:bm):gH (a_ w ⟨sb,4,ai⟩ a) sb zb k rc bR a vb vc cb:=by exact FY
def gH.ub(h:gH w sb zb k rc bR va vb vc cb)(a:bm):gH (a_ w ⟨sb,5,ai⟩ a) sb zb k rc bR va a vc cb:=by exact FY
def gH.yA(h:gH w sb zb k rc bR va vb vc cb)(a:bm):gH (a_ w ⟨sb,6,ai⟩ a) sb zb k rc bR va vb a cb:=by exact FY
end
def ec.kept{w':aQ}(v:ec b a e j)(hg:∀g,bW e=ag g->w'.1[g]? = b.1[g]?):ec w' a e j:=by obtain⟨h,c⟩:=v;refine⟨h,?_⟩;rcases c with c|⟨g,cap,cur,rfl,hb,bP,hr⟩;{exact bG c};{exact Rd}
def ec.ue(d:ec b a e j):∀v,bW e=ag v->a<=v/\v<U b.1:=kX d
def me(a:Int)(b:Nat×List D):Bool:=a==255||a==nK b
def oZ(a:Int)(b:List<|Nat×List D):List D:=fA (·.2)<|ed (me a) b
def mi(a:Int)(b:List D):List D:=oZ a<|dw dj b
def wM(a:Int)(b:List D):Bool:=(dw dj b).any<|me a
def amp{c:List<|Nat×List D}{d:Nat×List D}(e:c[a]? = ag d)(g:me i d=ao):oZ i (amA (a+1) c)=oZ i (amA a c)/\(amA (a+1) c).any (me i)=(amA a c).any (me i):=by rw[D6 e];unfold oZ;simp[tG,g]
def amq{c:List<|Nat×List D}{d:Nat×List D}(e:c[a]? = ag d)(g:me i d=aE):oZ i (amA (a+1) c)=oZ i (amA a c)++d.2/\(amA (a+1) c).any (me i)=aE:=by rw[D6 e];unfold oZ;simp[tG,g]
def DX(dZ:D->D->Bool):∀(f a:Nat) (l:List D),E l<=f->fA (·.2) (le dZ f a l)=l
 | 0,a,l,b=>by obtain rfl:l=[]:=iM G;rfl
 | f+1,a,[],b=>af
 | f+1,a,d::c,b=>by have e:E (mt (dZ d) c)<=E c:=by{have:=fE List.length<|uH (p:=dZ d) (l:=c);rw[dE]at this;omega};rw[le,l5,DX dZ f _ _ (by simp at b;omega)];simp[uH]
def Sq(a:Int):∀(b:List<|Nat×List D),E (oZ a b)<=E (fA (·.2) b)
 | []=>by simp[oZ]
 | e::c=>by have d:=Sq a c;unfold oZ at *;rw[List.filter_cons];split;{simp only[l5,dE];omega};{simp only[l5,dE];omega}
def amr(c:Int)(a:List D)(b:Nat):E (oZ c<|amA b<|dw dj a)<=E a:=by
 have:=Sq c<|amA b<|dw dj a;have d:E (fA (·.2)<|amA b<|dw dj a)<=E (fA (·.2)<|dw dj a):=by{
 conv=>rhs;rw[<- lP b (dw dj a),rR,dE]
 omega};have e:fA (·.2) (dw dj a)=a:=DX dj _ _ _ bv;rw[e]at d;omega
def Sr:jL (j++q)=jL j++jL q:=by simp[jL]
def Lo{h:Nat}{ay:Nat}(i:Nat)(l:ec b h e j)(n:gr b a ay q)(k:h<=U b.1)(r:E j+E q<=100000):∃c g,(Builtin.append_ #[41,41] 41 #[e,bC a ay (E q) i]).run aK b=.ok c g/\ec g h c (j++q)/\b.grownBy g (bW e)/\(bW c=bW e\/bW c=ag (U b.1)):=by have⟨i0,aN,hz0,hz1,hz2⟩:=jN Cj;have⟨c,g,h1,h2,h3,_,h5⟩:=run_append_own_at (P:=aK) b h 41 41 47 i0 _ 4 48 Gz aN hz0 hz1 hz2 af G e (E j) (jL j) l (M a ay) (E q) i (jL q) (KK q) (λp d o=>by rw[DR];exact Sh n p d o) Lm DB G k;refine⟨c,g,h1,?_,h3,h5⟩;unfold ec;rw[dE,Sr];exact h2
def O7{k:Program}{g:Oper}{a:Act}{d:Act->aQ->Prop}{l:Exit->Act->aQ->Prop}(v j:Operand)(c:d_)(o:g.2=.call { callee:=.builtin .append,args:=#[v,j],argTypes:=#[c,c] })(q:a.eval v=e)(r:a.eval j=s)(p:(Builtin.append_ #[c,c] g.3 #[e,s]).run k b=.ok F f)(n:d (a.put g.1 F) f):g.wpIn Fence.wide 0 k a b d l:=by unfold Oper.wpIn;refine⟨λ_ _=>cE,?_⟩;rw[show Fence.wide.4=ai from af,Oper.semAt_none];unfold execOp;simp only[o,resolve,invoke,builtin,Sem.run_bind,DS,zI,Eb,nr,u_,q,r,p];exact n
def Cq(e w l:Nat)(o q:Int)(j:Bool)(g r t:bm)(i:List D)(k h oj:Nat)(u:aQ)(p:List D)(n:Bool)(b:aQ):Prop :=
 ∃c,gH b e w o q j c r t l/\ec b (e+1) c (i++p)/\(bW c=bW g\/∃a,bW c=ag a/\h+2<=a)/\(∀a,bW g=ag a->a<k)/\cy b oj (aG n) 4/\cL (λd=>d≠e/\ag d≠bW g/\d≠oj/\d<h) u b
def Cq.keeps{oj:Nat}(I:Cq d h o i p l e s F j P a oj b q t f)(c:eL (a+1) f m)(O:d<a)(x:P<=a)(J:oj<a)(K:a<=U f.1):Cq d h o i p l e s F j P a oj b q t m:=by obtain⟨H,B,r,z,A,M,L⟩:=I;refine⟨H,B.kept<|c.5 d B.lt G,r.kept λC k=>c.5 C (r.ue C k).2 ?_,z,A,M.below (c.below (n:=a) G K) J,L.trans<|(cL.CO c).mono λS _ R=>G⟩;rcases z with z|⟨N,w,Q⟩;{have:=A C (by rw[<- z];exact k);omega};{rw[k]at w;cases w;omega}
def J5{P:Prop}(h:P:=by go_simp;refine hK _ _ ?_;refine lW 7 λK hK=>?_;rw[b7 dS];refine O7 (.tmp 31) (.tmp 32) 41 af af af hrun ?_;refine hK _ _ ?_;refine mv 8 ?_;refine mv 9 ?_;refine mv 10 ?_;refine lW 11 λK hK=>?_;go_simp;refine hK _ _ ?_;refine zz b8 ?_ _;gi_wp2_with fail;exact jD):P:=h
def Ss{q ay:Nat}{v:bm}{J:List D}{w:aQ}(a3:gH w a d i p l e s F o)(a1:ec w (a+1) e J)(aW:Cm v q ay j)(av:gr w q ay j)(aX:q≠a)(aY:bW e≠ag q)(bJ:E j<=3001)(bU:E J<=90000):bd aK 248 #[N a,v] w λr h=>r=bg (aG<|wM i j)/\(∃t,gH h a d i p l t s F o/\ec h (a+1) t (J++mi i j))/\cL (λc=>c≠a/\ag c≠bW e) w h:=by
 refine(ez (n:=0)).1 ?_;refine Gp func248 af cE ?_;simp only[ntmps248,ox,ey,h8,Nat.reduceAdd,Nat.reduceSub,ov,oQ,oS,oR,jz,g_];have bP:=a3.lt;have:=av.1;have bK:=a1.ue;have bc:=ae a3;have bb:=ae a1;have bi:=ae av;have bs:=ae aW;have bO:=ae bK;have au:aK.follows .mixedOrders=aE:=b8;have a9:kN w v j:=by{rcases aW with g|⟨bt,L,R⟩;{exact .inl g};{exact .inr ⟨q,ay,bt,L,R,av⟩}};have aU:a7 w ((w.alloc<|.cells #[.pointer<|some ⟨a,0,none⟩] 206).alloc<|.cells #[.bool false] 4):=(ct cd bv _).alloc aA _;have bB:=ae<|a9.below aU;obtain⟨bS,bT,rfl⟩:=Aw a9;gi_wp2_with fail;refine⟨cE,af,?_⟩;refine(ez.2<|LN<|V bB).m ?_;rintro W2 ⟨bA,aH,aR,aT⟩;have bx:cy W2 (U w.1) (N a) 206:=((cy.qf _ _ _).alloc _).below aH hV;have bz:cy W2 (U w.1+1) (aG ao) 4:=by{have:=(cy.qf (aO w<|aS #[cM<|ag ⟨a,0,ai⟩] 206) (aG ao) 4).below aH hV;rwa [gd]at this};have A:a7 w W2:=bN aU<|bV aH hV;simp only[gd]at bA aR aT;gi_wp2_with fail;have bI:∀ah,a7 W2 (aO (aO W2<|dq<|ag [])<|dR ah):=λah=>(ct cd bv _).alloc aA _;have a5:=ae<|bi.below A;have bu:=ae<|bc.kept<|A.5 a bP;have bD:=ae<|bb.below A;refine aly (xs:=dw dj j) (encs:=λx:Nat×List D=>#[bC q (ay+x.1*4) (E x.2)<|E x.2]) (St:=λP Q=>a7 P Q) (Kp:=lY (U w.1+1+1) (U w.1+1+1+1) q) (Kx:=λ_ _=>True) (gf:=233) (lb:=#[N<|U w.1+1+1,N<|U w.1+1+1+1]) af (enters_of func233 b8 af) (λ_=>af) ?seq [U w.1+1+1,U w.1+1+1+1,q] cx (λP Q g=>g) (λP Q g bH=>⟨bH,g _ aA,g _ aA,g _ aA⟩) (λ_ _=>cE) (λu T=>Cq a d o i p l e s F J (U w.1) (U W2.1) (U w.1+1) W2 (oZ i<|amA u<|dw dj j) ((amA u<|dw dj j).any<|me i) T) (λ_ _=>False) (λu P Q g aV aZ=>g.keeps aZ G G G aV) (λbr P Q g aV aZ=>g) ⟨e,bu,by simpa [oZ]using V bD,bG af,λk X=>(bO k X).2,bz,cL.refl _ _⟩ ?round ?done ?stop;case seq =>(intro ah;have X:=bI ah;exact LO (V bs) ((X.cell (p:=⟨U w.1+1+1,0,ai⟩) J2).trans aR) ((X.cell (p:=⟨U w.1+1+1+1,0,ai⟩) J8).trans aT) (a5.below X) (cj X.4) (cj X.4) bJ)
 ·(
 intro bY u x bR T a4 S az;gi_wp2_with fail;refine⟨cE,?_⟩;have bw:=ae S;obtain⟨t,Z,aC,al,ad,aI,O⟩:=S;have ar:=rM a4;have a8:=(tw ar).2.1;have:=yB ar;have bM:=O.5 q G ⟨aX,λg=>aY<|bZ g,G,G⟩;have aN:=Av (vR (V a5) O.4 bM) ar;have⟨q0,q1,q2,q3⟩:=aN.four 0 a8;rw[rW,jn,SN a8]at q2;have:0<(E x.2:Int):=G;have aJ:=(ev<|O.5 (U w.1) G ⟨G,λg=>cj<|ad _<|bZ g,G,G⟩).trans bx.cell;have⟨s0,s1,s2,s3,s4,s5,s6,s7⟩:=Z.cells;have aM:=ae a4;have bo:=ae aN;have aj:=ae Z;have aa:=ae aC;have I:=ae al;have aF:=ae ad;have bj:=ae aI;have C:=ae O;have:=amr i j u;have:E (oZ i<|amA u<|dw dj j)<=3001:=G;cases y:me i x;{
 have bp:ax (∀nq,Gy (U W2.1) [U w.1+1+1,U w.1+1+1+1,q] (λT=>Cq a d o i p l e s F J (U w.1) (U W2.1) (U w.1+1) W2 (oZ i<|amA (u+1)<|dw dj j) ((amA (u+1)<|dw dj j).any<|me i) T) (λ_ _=>False) T .normal { tmps:=#[],defers:=[] } (ef T nq)):=λnq=>by{have⟨t1,t2⟩:=amp (V aM) y;refine⟨⟨cW _,af,af⟩,λ_ _=>af,?_⟩;rw[t1,t2];exact bw.keeps (eL.CD<|kv (dz _ T) nq) G G G G};have bL:(i==255)=ao:=by unfold me at y;rw[DQ]at y;exact y.1
 have bk:(i==nK x)=ao:=by unfold me at y;rw[DQ]at y;exact y.2
 gi_wp2_with fail;refine Sp au (xj b8) b8 ?_;repeat (go_big_quiet_step (fail))
 refine wpQuiet_nil ?_;intro _ aB;obtain⟨nq,rfl⟩:=aB;gi_wp2_with fail;exact bp nq};{
 have bl:i=255\/((i==255)=ao/\(i==nK x)=aE):=by{unfold me at y;cases g:i==255;{rw[g]at y;exact bE ⟨af,y⟩};{exact bG<|by simpa using g}};have ba:ax (∀nq,∃Y h,(∃ab a6 ac,Y=aL ab a6 ac)/\(Builtin.append_ #[41,41] 41 #[t,bC q (ay+x.1*4) (E x.2)<|E x.2]).run aK (bq<|ef T nq)=.ok Y h /\ aD h (M (U w.1) 0)=ag (N a)/\aD h (M a 4)=ag t/\io h (M a 4)=ao /\ aD (a_ h ⟨a,4,ai⟩ Y) (M (U w.1+1) 0)=ag (aG<|(amA u<|dw dj j).any<|me i)/\io (a_ h ⟨a,4,ai⟩ Y) (M (U w.1+1) 0)=ao /\ ax (Gy (U W2.1) [U w.1+1+1,U w.1+1+1+1,q] (λT=>Cq a d o i p l e s F J (U w.1) (U W2.1) (U w.1+1) W2 (oZ i<|amA (u+1)<|dw dj j) ((amA (u+1)<|dw dj j).any<|me i) T) (λ_ _=>False) T .normal { tmps:=#[],defers:=[] } (a_ (a_ h ⟨a,4,ai⟩ Y) ⟨U w.1+1,0,ai⟩<|aG aE))):=λnq=>by{have ap:a7 T (bq<|ef T nq):=(kv (dz _ T) nq).drew;have:U (bq<|ef T nq).1=U T.1:=af;have⟨t1,t2⟩:=amq (V aM) y;have⟨Y,h,hrun,hown',hgr,hat⟩:=Lo (E x.2) (aa.below ap) (bo.below ap) G (by rw[dE];omega);have bn:=aj.lt;have B:∀c,(c<=a\/(U w.1<=c/\c<U W2.1+2))->ag c≠bW t:=by{intro c W r;have L:=aa.ue c<|bZ r;rcases V I with g|⟨k,R,an⟩;{have:=V aF c (by rw[<- g];exact bZ r);omega};{rw[<- r]at R;cases R;omega}};have bQ:ag q≠bW t:=by{intro r;rcases V I with g|⟨k,R,an⟩;{rw[g]at r;exact aY r.symm};{rw[<- r]at R;cases R;omega}};have aq:∀c,c<T.heap.size->some c≠t.ownBlock->h.heap[c]? = T.1[c]?:=λc W g=>(hgr.5 c W g).trans af;have aw:=aj.kept<|aq a bn<|B a G;have:U T.1<=U h.1:=hgr.4;have am:cy (a_ h ⟨a,4,ai⟩ Y) (U w.1+1) (aG<|(amA u<|dw dj j).any<|me i) 4 := (dJ _ _ _ _ (by show U w.1+1≠a;omega)).trans<|(aq (U w.1+1) G<|B _ G).trans<|V bj;have H:cL (λc=>c≠a/\ag c≠bW t/\c≠U w.1+1) T (a_ (a_ h ⟨a,4,ai⟩ Y) ⟨U w.1+1,0,ai⟩<|aG aE) := (((cL.zY ap).trans<|cL.Yg hgr λc W=>W.2.1).trans<|cL.j9 Y λc W=>W.1).trans<|cL.j9 (aG aE) λc W=>W.2.2;have a0:bW Y=bW e\/∃k,bW Y=ag k/\U W2.1+2<=k:=by{rcases hat with g|g;{rw[g];exact I};{exact bE ⟨_,g,az⟩}};refine⟨Y,h,by have⟨ab,ac,g⟩:=hown'.slice;exact⟨ab,_,ac,g⟩,hrun,(ev<|aq (U w.1) G<|B _ G).trans aJ,aw.cells.2.2.2.2.1,aw.frozen 4,am.cell,am.frozen,⟨⟨H.4,H.5 _ G ⟨G,B _ G,G⟩,H.5 _ G ⟨G,B _ G,G⟩⟩,?_,?_⟩⟩;{intro c W;simp only[gC,uf,tf]at W;rcases W with rfl|rfl|rfl;{exact H.5 _ G ⟨G,B _ G,G⟩};{exact H.5 _ G ⟨G,B _ G,G⟩};{exact H.5 _ G ⟨aX,bQ,G⟩}};{rw[t1,t2];refine⟨Y,?_,?_,a0,aF,am.set _,C.trans<|H.mono ?_⟩;{exact(aw.o6 Y).kept<|dJ _ _ _ _ (by show a≠U w.1+1;omega)};{rw[<- jI];refine(hown'.kept ?_);intro k X;have L:=hown'.ue k X;have bf:k≠U w.1+1:=by{rcases a0 with g|⟨bF,R,an⟩;{have:=V aF k (by rw[<- g];exact X);omega};{rw[X]at R;cases R;omega}};exact(dJ _ _ _ _ bf).trans<|dJ _ _ _ _ (by show k≠a;omega)};{intro c _ W;refine⟨W.1,?_,W.2.2.1⟩;intro r;rcases V I with g|⟨k,R,an⟩;{rw[g]at r;exact W.2.1 r};{rw[<- r]at R;cases R;omega}}}};rcases bl with rfl|⟨bL,bk⟩;all_goals(
 gi_wp2_with fail;refine Sp au (xj b8) b8 ?_;repeat (go_big_quiet_step (fail))
 refine wpQuiet_nil ?_;intro _ aB;obtain⟨nq,rfl⟩:=aB;obtain⟨Y,h,⟨ab,a6,ac,rfl⟩,hrun,b0,fz,gg,b1,b2,jD⟩:=V ba nq;have:aD (bq<|ef T nq) (M (U w.1) 0)=ag (N a):=aJ;have:aD (bq<|ef T nq) (M a 4)=ag t:=s4;gi_wp2_with fail;refine Aa au (xj b8) ?_;refine mv 6 ?_;refine ui (rs:=[0,1]) b8 aA ?_;refine mM af (λK hK=>?_)<|mM af (λK hK=>?_) uh;{go_simp;refine hK _ _ ?_;refine lW 1 λK hK=>?_;go_simp;refine hK _ _ ?_;refine mv 2 ?_;refine mv 3 ?_;refine mv 4 ?_;refine lW 5 λK hK=>?_;exact J5};{go_simp;refine hK _ _ ?_;refine mv 2 ?_;refine mv 3 ?_;refine mv 4 ?_;refine ui (rs:=[0,5]) b8 aA ?_;refine mM af (λK hK=>?_)<|mM af (λK hK=>?_) uh;{go_simp;refine hK _ _ ?_;refine lW 5 λK hK=>?_;exact J5};{go_simp;refine hK _ _ ?_;refine ui (rs:=[0,7]) b8 aA ?_;refine mM af (λK hK=>?_)<|mM af (λK hK=>?_) uh;{exact J5};{rw[b7 dS];refine O7 (.tmp 31) (.tmp 32) 41 af af af hrun ?_;refine hK _ _ ?_;refine lW 0 λK hK=>?_;go_simp;refine hK _ _ ?_;refine mv 8 ?_;refine mv 9 ?_;refine mv 10 ?_;refine lW 11 λK hK=>?_;go_simp;refine hK _ _ ?_;refine zz b8 ?_ _;gi_wp2_with fail;exact jD}}})})
 case done =>(intro T S aP az;rw[ld]at S;obtain⟨t,Z,aC,al,ad,aI,O⟩:=S;have:=aI.cell;have aj:=ae Z;have aa:=ae aC;have I:=ae al;have C:=ae O;gi_wp2_with fail;refine⟨aA,bG ⟨_,_,af,zV aP,?_⟩⟩;refine⟨aG<|wM i j,by simp[dr,results248,go_sem];rfl,af,⟨t,?_,?_⟩,?_⟩;{exact aj.kept<|uK G};{refine aa.kept λk X=>uK ?_;rcases V I with g|⟨bF,L,R⟩;{have:=ad k (by rw[<- g];exact X);omega};{rw[X]at L;cases L;omega}};{refine⟨c_ C.1 A.1,c_ C.2 A.2,c_ C.3 A.3,by rw[zU];exact cU A.4 C.4,λc W a2=>?_⟩;rw[uK G,C.5 c G ⟨a2.1,a2.2,G,G⟩];exact A.5 c W})
 case stop =>(intro br T S aP az;exact S.elim)
end
section
attribute [local go_sem] Oper.semAt_some undef
def mW(c:ap)(d:List D)(b:ap)(a:List D):Bool :=
 fZ b c && !(a.any (mU 5)&&dQ (1<E a))&&(b==c || !a.any (mU 2)||p6 d b)
def mC(c:ap)(a:List D):Bool :=
 (dw dj a).all (λb=>qR b.2)&&((dw fd a).all (λb=>mW c a (eR b) b.2)&&dQ (0<E (jb (dF a c) 2)))
def alW{ay:Nat}(e:gr b a ay j)(g:0<E j)(d:E j<=3001):bd aK 108 #[bC a ay (E j)<|E j] b (cQ (aG<|qR j) b):=by
 cases j with
 | nil=>simp at g
 | cons h i=>exact alj e d bv
def alX(c:Option Addr)(e d:Nat)(a:aQ):bd aK 109 #[aL c e d] a λg b=>g=bg (fc (.func 179) #[] #[N<|U a.1])/\U b.1=U a.1+1/\a7 a b/\aD b (M (U a.1) 0)=ag (aL c e d):=by refine(LL _ _ _ _).m ?_;rintro b rfl;exact⟨af,aA,ct cd bv _,by go_simp⟩
def Sg{ay:Nat}(A:Nat){w:aQ}(a8:gr w a ay j)(aB:E j<=A)(aR:E j<=3001)(cs:E c<=3000)(cc:∀r∈j,E r.owner<=3000):bd aK 60 #[aZ c,bC a ay (E j) A] w (cQ (aG<|mC c j) w):=by
 refine(ez (n:=0)).1 (wK func60 af cE ?_);simp only[ntmps60,ox,ey,h8,Nat.reduceAdd,Nat.reduceSub,ov,oQ,oS,oR,jz,g_];have aj:=ae a8;have bf:=ae cc;have l:=a8.1;have bx:a7 w (aO (aO (aO w<|aS #[amz<|O c] 9)<|aS #[aL (ag ⟨a,ay,ai⟩) (E j) A] 41)<|aS #[aG ao] 4):=((ct cd bv _).alloc aA _).alloc cx _;have b4:=ae (show kN _ (bC a ay (E j) A) j from bE ⟨a,ay,A,af,aB,a8.below bx⟩);gi_wp2_with fail;refine⟨cE,af,(ez.2<|LN<|V b4).m λW2 ⟨bt,aP,br,bs⟩=>?_⟩;have b1:=(((cy.qf _ _ _).alloc _).alloc _).below aP hV;have b2:cy W2 (U w.1+1) (bC a ay (E j) A) 41:=by
  have:=((cy.qf (aO w<|aS #[amz<|O c] 9) (bC a ay (E j) A) 41).alloc<|aS #[aG ao] 4).below aP hV
  rwa [gd]at this
 have bS:cy W2 (U w.1+1+1) (aG ao) 4:=by
  have:=(cy.qf (aO (aO w<|aS #[amz<|O c] 9)<|aS #[aL (ag ⟨a,ay,ai⟩) (E j) A] 41) (aG ao) 4).below aP hV
  rwa [gd,gd]at this
 have bu:=bN bx<|bV aP hV;simp only[gd]at bt br bs;gi_wp2_with fail;have ca:∀r,a7 W2 (aO (aO W2<|dq<|ag [])<|dR r):=λr=>(ct cd bv _).alloc aA _;have cg:=ae<|aj.below bu;refine zZ (xs:=dw dj j) (encs:=λb:Nat×List D=>#[bC a (ay+b.1*4) (E b.2)<|E b.2]) (St:=λt u=>a7 t u) (Kp:=lY (U w.1+1+1+1) (U w.1+1+1+1+1) a) (Kx:=λ_ _=>True)
  (gf:=233) (lb:=#[N<|U w.1+1+1+1,N<|U w.1+1+1+1+1]) af (enters_of func233 b8 af) (λ_=>af) ?Cl
  [U w.1+1+1+1,U w.1+1+1+1+1,a] cx (λt u b7 g=>bV g b7) (λt u g a2=>⟨a2.1,g _ aA,g _ aA,g _ aA⟩) (λ_ _ _=>cE)
  (λR i=>(bh R<|dw dj j).all (λb=>qR b.2)=(dw dj j).all (λb=>qR b.2)/\a7 w i/\cy i (U w.1) (aZ c) 9/\cy i (U w.1+1) (bC a ay (E j) A) 41/\cy i (U w.1+1+1) (aG ao) 4)
  (λY i=>Y=.ret/\mC c j=ao/\a7 w i/\cy i (U w.1+1+1) (aG ao) 4)
  (λR t u g l=>⟨g.1,bN g.2.1<|bV l G,g.2.2.1.below l G,g.2.2.2.1.below l G,g.2.2.2.2.below l G⟩)
  (λY t u g l=>⟨g.1,g.2.1,bN g.2.2.1<|bV l G,g.2.2.2.below l G⟩)
  ⟨af,bu,b1,b2,bS⟩
  ?round ?done ?stop
 case Cl =>
  intro r;have Q:=ca r;exact Cl a ay A _ _ j _ ((Q.cell (p:=⟨U w.1+1+1+1,0,ai⟩) J8).trans br) ((Q.cell (p:=⟨U w.1+1+1+1+1,0,ai⟩) (by show U w.1+1+1+1+1<U W2.1;omega)).trans bs) (cg.below Q) (cj Q.4) (cj Q.4) aR aB
 ·intro k R b h i aI H a9;gi_wp2_with fail;refine⟨cE,?_⟩;obtain⟨Z,F,T,W,I⟩:=H;have aa:=rM aI;have a0:=Av (aj.below F) aa;have cm:=(tw aa).2.1;have ce:=yB aa;have aH:=Lt (p:=λb=>qR b.2) aI;rw[Z]at aH;have aq:=ae aH;have bc:=ae<|alW a0 cm G;have J:=ae T;have K:=ae W;have ab:=ae I;cases q:qR b.2
  ·have X:ax (mC c j=ao):=by rw[mC,ax,V aq,q];rfl
   gi_wp2_with fail;refine⟨cE,af,(jH k<|ez.2<|V bc).m λe o=>?_⟩;have P:=ab.below o ab.lt;have bY:=P.cell;have b0:=P.frozen;replace P:=ae P;gi_wp2_with fail;exact⟨(ex.Em o).trans<|ex.setCell e _ G,af,X,(bN F<|bV o F.4).setCell Dt _,P.set _⟩
  ·have X:ax ((bh (R+1)<|dw dj j).all (λb=>qR b.2)=(dw dj j).all λb=>qR b.2):=by rw[ax,V aq,q];rfl
   gi_wp2_with fail;refine⟨cE,af,(jH k<|ez.2<|V bc).m λe o=>?_⟩;have bT:=ae<|J.below o J.lt;have bI:=ae<|K.below o K.lt;have bJ:=ae<|ab.below o ab.lt;gi_wp2_with fail;exact⟨ex.Em o,λan hk=>o.5 an H2,X,bN F<|bV o F.4,bT,bI,bJ⟩
 case stop =>
  intro Y i H az a9;obtain⟨rfl,ac,F,I⟩:=H;replace ac:=ae ac;gi_wp2_with fail;refine⟨aA,bG ⟨_,_,af,mI az,?_⟩⟩;have aw:=(I.put (d:=U W2.1) (o:=dq ai) G).cell;have ck:=bN F<|belowK_b (w:=W2) (show U w.1<=U W2.1 by omega) i _ _ (dq ai) bv az af af;exact⟨aG ao,by simp[dr,results60,go_sem,aw],by rw[V ac],ck⟩
 case done =>
  intro i H az a9;obtain⟨Z,F,T,W,I⟩:=H;have a6:(dw dj j).all (λb=>qR b.2)=aE:=by
   rw[<- Z,sh bv];rfl
  have bj:ax (mC c j=((dw fd j).all (λb=>mW c j (eR b) b.2)&&dQ (0<E (jb (dF j c) 2)))):=by rw[mC,ax,a6];rfl
  have bP:=W.cell;have J:=ae T;have K:=ae W;have ab:=ae I;gi_wp2_with fail;refine⟨cE,af,(ez.2<|alX _ _ _ _).m λx ⟨bw,al,b3⟩=>?_⟩;rw[bt]at az a9;have bK:=F.4;have cl:=ae<|(aj.below F).below al;have bB:=ae<|J.below al J.lt;have bD:=ae<|K.below al K.lt;have bF:=ae<|ab.below al ab.lt;gi_wp2_with fail;have bQ:∀r,a7 x (aO (aO x<|dq<|ag [])<|dR r):=λr=>(ct cd bv _).alloc aA _;have bR:∀r,U (aO (aO x<|dq<|ag [])<|dR r).1=U x.1+2:=λr=>by simp
  refine zZ (xs:=dw fd j) (encs:=λb:Nat×List D=>#[aZ<|eR b,bC a (ay+b.1*4) (E b.2)<|E b.2]) (St:=λt u=>cB (U x.1+2) t u) (Kp:=λt u=>u.1[a]? = t.1[a]?/\ex (U x.1+2) t u) (Kx:=λt u=>ex (U x.1+2) t u)
   (gf:=179) (lb:=#[N<|U i.1]) af (enters_of func179 b8 af) (λ_=>af) ?seq2
   [a] cx (λ_ _ _ g=>g) (λt u g a2=>⟨g _ aA,a2⟩) (λ_ _ g=>g)
   (λR h=>(bh R<|dw fd j).all (λb=>mW c j (eR b) b.2)=(dw fd j).all (λb=>mW c j (eR b) b.2)/\a7 w h/\cy h (U w.1) (aZ c) 9/\cy h (U w.1+1) (bC a ay (E j) A) 41/\cy h (U w.1+1+1) (aG ao) 4/\h.1[U w.1+5]? = ag (dq<|ag []))
   (λY h=>Y=.ret/\mC c j=ao/\a7 w h/\cy h (U w.1+1+1) (aG ao) 4/\h.1[U w.1+5]? = ag (dq<|ag []))
   (λR t u g l=>⟨g.1,bN g.2.1<|bV l G,g.2.2.1.below l G,g.2.2.2.1.below l G,g.2.2.2.2.1.below l G,(l.5 _ G).trans g.2.2.2.2.2⟩)
   (λY t u g l=>⟨g.1,g.2.1,bN g.2.2.1<|bV l G,g.2.2.2.1.below l G,(l.5 _ G).trans g.2.2.2.2⟩)
   ⟨af,bN F<|bV al bK,bB,bD,bF,(al.5 _ G).trans az⟩
   ?aAd ?done2 ?stop2
  case seq2 =>
   intro r;have Q:=bQ r;have:=LM ((Q.cell (p:=⟨U i.1,0,ai⟩) (by show U i.1<U x.1;omega)).trans b3) (cl.below Q) (cj Q.4) aR aB;rw[bR r]at this;exact this
  case aAd =>
   intro k R b cp h aI H aX;gi_wp2_with fail;refine⟨cE,?_⟩;obtain⟨Z,B,T,W,I,aC⟩:=H;have aa:=rM aI;have a0:=Av (aj.below B) aa;have ce:=yB aa;have⟨r,Pn,hro⟩:=SI aa;have ch:=hro▸bf r Pn
   have aH:=Lt (p:=λb=>mW c j (eR b) b.2) aI;rw[Z]at aH;have aq:=ae aH;have bL:=T.cell;have J:=ae T;have K:=ae W;have C:=ae I;have aU:=ae aC;have bU:=ae a0;have ah:ax (bd aK 110 #[aZ<|eR b,aZ c] h λbp cn=>bp=bg (aG<|fZ (eR b) c)/\cn=h) :=
    DY (O<|eR b) (O c) h m7 m7
   have aW:ax (mW c j (eR b) b.2=ao->∀e,a7 h e->ex (U x.1) h (a_ e ⟨U w.1+1+1,0,ai⟩<|aG ao)/\mC c j=ao/\a7 w (a_ e ⟨U w.1+1+1,0,ai⟩<|aG ao)/\cy (a_ e ⟨U w.1+1+1,0,ai⟩<|aG ao) (U w.1+1+1) (aG ao) 4/\(a_ e ⟨U w.1+1+1,0,ai⟩<|aG ao).1[U w.1+5]? = ag (dq<|ag [])):=by
    intro q e o;have X:mC c j=ao:=by rw[V bj,V aq,q];rfl
    exact⟨(ex.Em o).trans<|ex.setCell e _ G,X,(bN B<|bV o B.4).setCell Dt _,(C.below o C.lt).set _,(dJ _ _ _ _ (by show U w.1+5≠U w.1+1+1;omega)).trans<|(o.5 _ G).trans<|V aU⟩
   have aV:ax (mW c j (eR b) b.2=aE->∀e,a7 h e->ex (U x.1) h e/\(∀an∈[a],e.1[an]? = h.1[an]?)/\((bh (R+1)<|dw fd j).all (λb=>mW c j (eR b) b.2)=(dw fd j).all (λb=>mW c j (eR b) b.2)/\a7 w e/\cy e (U w.1) (aZ c) 9/\cy e (U w.1+1) (bC a ay (E j) A) 41/\cy e (U w.1+1+1) (aG ao) 4/\e.1[U w.1+5]? = ag (dq<|ag []))):=by
    intro q e o;exact⟨ex.Em o,λan hk=>o.5 an H2,by rw[V aq,q];rfl,bN B<|bV o B.4,J.below o J.lt,K.below o K.lt,C.below o C.lt,(o.5 _ G).trans<|V aU⟩
   have S:ax (∀e,a7 h e->co e (U w.1) 0 (aZ c)/\co e (U w.1+1) 0 (bC a ay (E j) A)/\co e (U w.1+1+1) 0 (aG ao)/\io e (M (U w.1+1+1) 0)=ao):=λe o =>
    ⟨(J.below o J.lt).cell,(K.below o K.lt).cell,(C.below o C.lt).cell,(C.below o C.lt).frozen⟩
   have aY:ax (∀e,a7 h e->kN e (bC a (ay+b.1*4) (E b.2)<|E b.2) b.2):=λe o=>bE ⟨a,ay+b.1*4,E b.2,af,cW _,bU.below o⟩;have bM:ax (∀e,a7 h e->gr e a ay j):=λe o=>(aj.below B).below o;have bz:((O<|eR b).toList==(O c).toList)=(eR b==c):=yz;cases ba:fZ (eR b) c
   ·have q:mW c j (eR b) b.2=ao:=by rw[mW,ba];rfl
    have y:=ae<|aW q h cd;have⟨_,_,bY,b0⟩:=V S h cd;gi_wp2_with fail;refine⟨cE,af,(jH k<|ez.2<|V ah).m ?_⟩;rintro h rfl;gi_wp2_with fail;refine⟨cE,?_⟩;gi_wp2_with fail;exact⟨y.1,af,y.2⟩
   cases z:b.2.any (mU 5)&&dQ (1<E b.2)
   ·have aT:ax (mW c j (eR b) b.2=(eR b==c || !b.2.any (mU 2)||p6 j (eR b))):=by rw[mW,ba,z];rfl
    have aM:(b.2.any (mU 5)=ao)\/(b.2.any (mU 5)=aE/\(E b.2:Int)<=1):=by
     cases cb:b.2.any<|mU 5
     ·exact bG af
     ·rw[cb]at z;simp at z;exact bE ⟨af,G⟩
    have ad:=ae λe (g:a7 h e)=>LF 5 (aY e g) G;have bb:=ae λe (g:a7 h e)=>LF 2 (aY e g) G;have bi:=ae λe (g:a7 h e)=>alU (bM e g) aB aR ch<|V bf;cases am:eR b==c
    ·rw[am]at bz;cases a3:b.2.any<|mU 2
     ·have q:=ae (show mW c j (eR b) b.2=aE by rw[V aT,am,a3];rfl);rcases aM with z|⟨z,aN⟩
      all_goals
       gi_wp2_with fail;refine⟨cE,af,(jH k<|ez.2<|V ah).m ?_⟩;rintro h rfl;gi_wp2_with fail;refine⟨cE,af,(jH k<|ez.2<|ad _ cd).m λe o=>?_⟩;have cS:=V S e o;gi_wp2_with fail;refine⟨cE,af,(jH k<|ez.2<|bb _ o).m λav aF=>?_⟩;have y:=ae<|aV q av<|bN o<|bV aF o.4;gi_wp2_with fail;refine⟨cE,?_⟩;gi_wp2_with fail;exact y
     ·cases bl:p6 j<|eR b
      ·have q:=ae (show mW c j (eR b) b.2=ao by rw[V aT,am,a3,bl];rfl);rcases aM with z|⟨z,aN⟩
       all_goals
        gi_wp2_with fail;refine⟨cE,af,(jH k<|ez.2<|V ah).m ?_⟩;rintro h rfl;gi_wp2_with fail;refine⟨cE,af,(jH k<|ez.2<|ad _ cd).m λe o=>?_⟩;have cS:=V S e o;gi_wp2_with fail;refine⟨cE,af,(jH k<|ez.2<|bb _ o).m λav aF=>?_⟩;have L:=bN o<|bV aF o.4;have b5:=V S av L;gi_wp2_with fail;refine⟨cE,af,(jH k<|ez.2<|bi _ L).m λaJ a1=>?_⟩;have bn:=bN L<|bV a1 L.4;have:=V S aJ bn;have y:=ae<|aW q aJ bn;gi_wp2_with fail;exact⟨y.1,af,y.2⟩
      ·have q:=ae (show mW c j (eR b) b.2=aE by rw[V aT,am,a3,bl];rfl);rcases aM with z|⟨z,aN⟩
       all_goals
        gi_wp2_with fail;refine⟨cE,af,(jH k<|ez.2<|V ah).m ?_⟩;rintro h rfl;gi_wp2_with fail;refine⟨cE,af,(jH k<|ez.2<|ad _ cd).m λe o=>?_⟩;have cS:=V S e o;gi_wp2_with fail;refine⟨cE,af,(jH k<|ez.2<|bb _ o).m λav aF=>?_⟩;have L:=bN o<|bV aF o.4;have b5:=V S av L;gi_wp2_with fail;refine⟨cE,af,(jH k<|ez.2<|bi _ L).m λaJ a1=>?_⟩;have y:=ae<|aV q aJ<|bN L<|bV a1 L.4;gi_wp2_with fail;exact y
    ·rw[am]at bz;have q:=ae (show mW c j (eR b) b.2=aE by rw[V aT,am];rfl);rcases aM with z|⟨z,aN⟩
     all_goals
      gi_wp2_with fail;refine⟨cE,af,(jH k<|ez.2<|V ah).m ?_⟩;rintro h rfl;gi_wp2_with fail;refine⟨cE,af,(jH k<|ez.2<|ad _ cd).m λe o=>?_⟩;have cS:=V S e o;have y:=ae<|aV q e o;gi_wp2_with fail;refine⟨cE,?_⟩;gi_wp2_with fail;refine⟨cE,?_⟩;gi_wp2_with fail;exact y
   ·have q:=ae (show mW c j (eR b) b.2=ao by rw[mW,ba,z];rfl);rw[fx]at z;obtain⟨cr,bH⟩:=z;have aN:1<(E b.2:Int):=by simp at bH;omega
    have ad:=ae<|LF 5 (aY h cd) G;gi_wp2_with fail;refine⟨cE,af,(jH k<|ez.2<|V ah).m ?_⟩;rintro h rfl;gi_wp2_with fail;refine⟨cE,af,(jH k<|ez.2<|V ad).m λe o=>?_⟩;have cS:=V S e o;have y:=ae<|aW q e o;gi_wp2_with fail;exact⟨y.1,af,y.2⟩
  case stop2 =>
   intro Y h H ar aX;obtain⟨rfl,ac,B,I,aC⟩:=H;replace ac:=ae ac;gi_wp2_with fail;refine⟨aA,bG ⟨_,_,af,mI ar,?_⟩⟩;have au:=(kW (w:=h) (o:=dq ai) (show U w.1+5≠U x.1 by omega)).trans aC;refine⟨aA,bG ⟨_,_,af,mI au,?_⟩⟩;have aw:=((I.put (d:=U x.1) (o:=dq ai) G).put (d:=U w.1+5) (o:=dq ai) G).cell;have a4:=bN B<|belowK_b (w:=x) (show U w.1<=U x.1 by omega) h _ _ (dq ai) bv ar af af;have a5:=bN a4<|belowK_b (w:=w) bv _ (U w.1+5) _ (dq ai) G au af af;exact⟨aG ao,by simp[dr,results60,go_sem,aw],by rw[V ac],a5⟩
  case done2 =>
   intro h H ar aX;rw[bw]at ar aX;obtain⟨Z,B,T,W,I,aC⟩:=H;have a6:(dw fd j).all (λb=>mW c j (eR b) b.2)=aE:=by
    rw[<- Z,sh bv];rfl
   have X:ax (mC c j=dQ (0<E (jb (dF j c) 2))):=by rw[ax,V bj,a6];rfl
   have bL:=T.cell;have bP:=W.cell;have bO:=ae<|aj.below B;have C:=ae I;have aU:=ae aC;gi_wp2_with fail;refine⟨cE,af,(ez.2<|SO c 2 (V bO) aB aR).mono ?_⟩;rintro bp bk ⟨⟨v,rfl,cf⟩,o⟩;obtain⟨cq,cD,rfl⟩:=cf.slice;have P:=C.below o C.lt;have b6:=ae P;have bA:=ae o;have:=P.cell;have:=P.frozen;gi_wp2_with fail;have o:=V bA
   first|rw[bw]|skip
   have bo:(a_ bk ⟨U w.1+1+1,0,ai⟩<|aG<|dQ<|0<E (jb (dF j c) 2)).1[(U i.1+1)]? = ag (dq<|ag []) :=
    (dJ _ _ _ _ (by show(U i.1+1)≠U w.1+1+1;omega)).trans ((o.5 _ (by show(U i.1+1)<U h.1;omega)).trans ar)
   refine⟨aA,bG ⟨_,_,af,mI bo,?_⟩⟩;have au:((a_ bk ⟨U w.1+1+1,0,ai⟩<|aG<|dQ<|0<E (jb (dF j c) 2)).putObj (U i.1+1)<|dq ai).1[U w.1+5]? = ag (dq<|ag []) :=
    (kW G).trans ((dJ _ _ _ _ (by show U w.1+5≠U w.1+1+1;omega)).trans<|(o.5 _ (by show U w.1+5<U h.1;omega)).trans<|V aU)
   refine⟨aA,bG ⟨_,_,af,mI au,?_⟩⟩;have aw:=(((b6.set<|aG<|dQ<|0<E (jb (dF j c) 2)).put (d:=(U i.1+1)) (o:=dq ai) G).put (d:=U w.1+5) (o:=dq ai) G).cell;have b_:=(bN B<|bV o B.4).setCell (p:=⟨U w.1+1+1,0,ai⟩) Dt (aG<|dQ<|0<E (jb (dF j c) 2));have a4:=bN b_<|belowK_b (w:=i) (show U w.1<=U i.1 by omega) _ _ _ (dq ai) (Nat.le_succ _) bo af af;have a5:=bN a4<|belowK_b (w:=w) bv _ (U w.1+5) _ (dq ai) G au af af;refine⟨_,by simp[dr,results60,go_sem,aw];rfl,fy ?_,a5⟩;rw[V X]
end
section
open Go.RowKit Go.Sort
def cq(a:List D):List D:=(Sort.insertionSort (ltOf n5) (dl a) 0<|E a).1
def SB{h:Array bm}(k:b.1[a]? = ag (aS h z))(n:gr b a 0 j):HoldsK D.bz 4 b a 0 (dl j):=by
 intro i hj;rw[size_flatK]at hj;simp only[ox]at hj;rw[get_flatK _ _ _ _ Do];refine⟨?_,by simp[World.frozen?,k]⟩;have g:i/4<E j:=G;have l:E (D.bz j[i/4]!)=4:=af;have c:(D.bz j[i/4]!)[i%4]? = ag (D.bz j[i/4]!)[i%4]!:=by{
 have e:i%4<E (D.bz j[i/4]!):=by rw[l];omega
 rw[gw e,BW (D.bz j[i/4]!) (i%4) e]};have:=n.2 (i/4) g (i%4) _ c;rw[show 0+i/4*4+i%4=0+i from G]at this;rw[this];simp
def aam(o:d<U b.1)(g:HoldsK D.bz 4 b d 0<|dl j):gr b d 0 j:=by
 refine⟨o,λa hj i p e=>?_⟩;have aN:i<4:=by have:=(j_.1 e).1;exact this
 have n:=(g.cell (i:=a) (c:=i) Do aN).1;rw[n];have h:(dl j)[a]! = j[a]!:=aA;rw[h];rw[j_]at e;obtain⟨k,l⟩:=e;rw[BW (D.bz j[a]!) i k,l]
def aan(ix ay size:Nat)(a:aQ):CmpLays aK 103 #[] D.bz 4 n5 ix ay size a :=
 λ_ _ _ _ b c=>Hi b c _
def Lu(d:D->D->Bool)(c:Nat):∀(b:Nat) (a:Array D),U (insInner d c b a)=U a
 | 0,a=>af
 | b+1,a=>by rw[insInner];split;{rw[Lu d c b,size_swp]};{rfl}
def Tn(e:D->D->Bool)(d c:Nat):∀(f b:Nat) (a:Array D),c-b<=f->U (insOuter e d c b a)=U a
 | 0,b,a,g=>by rw[insOuter,bJ G]
 | f+1,b,a,g=>by rw[insOuter];split;{rw[Tn e d c f _ _ G,Lu]};{rfl}
def Hj(d:D->D->Bool)(a:Array D)(b c:Nat):U (Sort.insertionSort d a b c)=U a:=Tn d b c _ _ a bv
def To(a:List D):E (cq a)=E a:=by rw[cq,sy,Hj];simp
def aao{g:D->Prop}{c:Array D}(e:∀b,b<U c->g c[b]!)(aN:a<U c)(i:d<U c):∀b,b<U (swp c a d)->g (swp c a d)[b]!:=by
 intro b hk;rw[size_swp]at hk;unfold swp;have h:b<U (c.setIfInBounds a c[d]!):=FU
 have j:b<U ((c.setIfInBounds a c[d]!).setIfInBounds d c[a]!):=FU
 rw[BW _ b j,R6 h];split;{exact e a aN};{rw[R6 hk];split;{exact e d i};{rw[<- BW c b hk];exact e b hk}}
def Tp{h:D->Prop}(g:D->D->Bool)(e:Nat):∀(b:Nat) (a:Array D),b<U a->(∀c,c<U a->h a[c]!)->∀c,c<U (insInner g e b a)->h (insInner g e b a)[c]!
 | 0,a,_,d=>d
 | b+1,a,i,d=>by rw[insInner];split;{exact Tp g e b _ (by rw[size_swp];omega)<|aao d i G};{exact d}
def Tq{p:D->Prop}(h:D->D->Bool)(e c:Nat):∀(f b:Nat) (a:Array D),c-b<=f->c<=U a->(∀d,d<U a->p a[d]!)->∀d,d<U (insOuter h e c b a)->p (insOuter h e c b a)[d]!
 | 0,b,a,j,i,g=>by rw[insOuter,bJ G];exact g
 | f+1,b,a,j,i,g=>by rw[insOuter];split;{exact Tq h e c f _ _ G (by rw[Lu];exact i)<|Tp h e b a G g};{exact g}
def aap{p:D->Prop}(g:∀c∈j,p c):∀c∈cq j,p c:=by
 intro c i;obtain⟨b,hk,rfl⟩:=List.getElem_of_mem i;have e:b<U (Sort.insertionSort (ltOf n5) (dl j) 0<|E j):=by unfold cq at hk;simpa using hk
 have:=Tq (p:=p) (ltOf n5) 0 (E j) _ 1 (dl j) bv aA (λb hk=>by{
 have h:b<E j:=FU
 have d:(dl j)[b]! = j[b]:=by simp[h]
 rw[d];exact g _<|eP _}) b e
 have d:(cq j)[b]=(Sort.insertionSort (ltOf n5) (dl j) 0<|E j)[b]!:=by{unfold cq;rw[BW _ b e];simp};exact d ▸ this
def aaq{g:Array D}{e:Array Obj}(j:cB a b f)(l:a<=d)(k:a<=U f.1):cB a b (fu D.bz 4 f d 0 h g e):=by refine bN j ⟨af,af,af,?_,λi n=>?_⟩;{exact size_sortWorldK_c D.bz 4 f d 0 h g e};{show((f.1.modify d _)++e)[i]? = f.1[i]?;rw[Array.getElem?_append_left (by rw[Array.size_modify];omega),xP,bJ G]}
end
def lu(b:ap):Option (ap×List D) :=
 (kK b).bind λa=>if na a.1 a.2&&mC a.1 (cq a.2)then ag (a.1,cq a.2)else ai
def aar(a:Option<|ap×List D)(c:Nat)(d:Ending)(i:aQ):Prop :=
 match a with
 | none=>d=bg (bX #[cM ai,J 1])
 | some (a,h)=>∃b e g,d=bg (bX #[N b,J 0])/\c<=b/\c<=e/\iL i b a e 0 g h
def Tr(s:ByteArray)(a:aQ)(c:s.size<=281474976710656):bd aK 57 #[amz s] a (cQ (amz s) a):=by go_in;go_wp21;refine(Tryz.stringslite_Clone s a c).m λd b=>?_;go_wp2;go_ret;exact⟨af,b⟩
def aas{ay:Nat}:bd aK 61 #[aZ c,bC a ay h d] b λe g=>e=bg (N<|U b.1)/\a7 b g/\U b.1<U g.1/\aD g (M (U b.1) 0)=ag (aZ c)/\aD g (M (U b.1) 1)=ag (bC a ay h d):=by go_wp2;go_ret;exact⟨af,ct cd bv _,aA,by go_simp,by go_simp⟩
def Ts(i:tv b h e j)(n:j≠[]):∃a c d,e=bC a 0 (E j) c/\h<=a/\b.1[a]? = ag (aS d 47)/\E j<=c/\gr b a 0 j:=by have r:=i.rv;obtain⟨⟨x,q⟩,o⟩:=i;rcases q with⟨rfl,w⟩|⟨a,c,d,rfl,k,g,l,y,z,A⟩;{exact absurd (o.1 af) n};{refine⟨a,c,d,af,k,g,l,?_⟩;rcases r with⟨v,_⟩|⟨t,B,u,v,_,p⟩;{cases v};{cases v;exact p}}
section
open Go.RowKit Go.Conc
def pw(a:aQ)(c b:Nat)(e:Bool):Prop :=
 c<U a.1/\aD a (M c 0)=ag (.chan<|ag b)/\∃s d g,a.1[b]? = ag (.chan 0 #[] e s d g)
def pw.below{n}(k:pw b d a l)(c:cB n b f)(g:d<n)(o:a<n):pw f d a l:=by obtain⟨h,i,s,q,r,j⟩:=k;exact⟨e8 h c.4,(c.cell (p:=⟨d,0,ai⟩) g).trans i,s,q,r,(c.5 a o).trans j⟩
def pw.lt(b:pw f d a l):a<U f.1:=by obtain⟨_,_,_,_,_,b⟩:=b;grind
def aav:∃a,aK.info? 332=ag a/\a.4=0:=by have:(aK.info? 332).map (·.bytes)=ag 0:=b8;simp_all
def aaw(w):(Instr.makeChan 270<|J 0).run aK w=.ok (.chan<|ag<|U w.1) (aO w<|.chan 0 #[] ao 0 0 ao):=by obtain⟨b,aN,a⟩:=aav;simpa using run_makeChan (P:=aK) (w:=w) Tryz.underlying270 aN .i64 0 G (by rw[a];omega)
def aax:bd aK 125 #[] b λe d=>∃a c,e=bg (N a)/\pw d a c ao/\U b.1<=a/\U b.1<=c/\a≠c/\a7 b d:=by have:=aaw;go_wp2;go_ret;exact⟨_,U b.1,af,⟨aA,by go_simp,0,0,ao,(dT _ _ _ aA).trans<|du b _⟩,G,cW _,G,(ct cd bv _).alloc aA _⟩
def aay(e:pw b a d ao):bd aK 193 #[N a] b λc w'=>c=bg (aG ao)/\w'=b:=by obtain⟨j,i,s,k,l,g⟩:=e;refine calls_of_loneTo λh=>?_;have c:Frame.enter aK 193 #[N a] .normal=(base 193).at ⟨#[N a,fv,fv,fv,fv,fv,fv,fv,fv,fv],[]⟩ [.code<|Tryz.f193.9.getD .skip]:=by{rfl};rw[c];refine LoneTo.goes (n:=13) ?_;simp only[Tryz.f193,Gd];s_c stepG_seq;s_reg;s_op;s_c stepG_region_end;s_c stepG_seq;s_reg;s_op;s_op;s_op;s_op;s_c stepG_region_end;s_c stepG_seq;s_reg;s_stop;refine LoneTo.step (step_lone_select_default (c:=d) (z:=ci #[]) (stepG_comm (cases:=#[rcase d<|ci #[]]) (blocking:=ao) (shape:=.select) (w':=b) af af bL (by simp[go_sem,execOp,rcase,Act.eval])) g) ?_;rw[Frame.finish_at];walk_nrm;refine LoneTo.goes (n:=10) ?_;s_op;s_op;s_c stepG_region_end;s_c stepG_block;s_cond ao;s_c stepG_seq;s_reg;s_op;s_c stepG_region_end;s_c stepG_ret';s_stop;refine LoneTo.done ⟨bg<|aG ao,_,af,⟨af,af⟩,af,af,af,af,_,Tryz.func193,by simp[dr,Tryz.f193,Frame.at]⟩
def aaz(e:pw b a d aE):bd aK 193 #[N a] b λc w'=>c=bg (aG aE)/\w'=b:=by obtain⟨j,i,s,k,l,g⟩:=e;refine calls_of_loneTo λh=>?_;have c:Frame.enter aK 193 #[N a] .normal=(base 193).at ⟨#[N a,fv,fv,fv,fv,fv,fv,fv,fv,fv],[]⟩ [.code<|Tryz.f193.9.getD .skip]:=by{rfl};rw[c];refine LoneTo.goes (n:=13) ?_;simp only[Tryz.f193,Gd];s_c stepG_seq;s_reg;s_op;s_c stepG_region_end;s_c stepG_seq;s_reg;s_op;s_op;s_op;s_op;s_c stepG_region_end;s_c stepG_seq;s_reg;s_stop;refine LoneTo.step (step_lone_select_recv_shut (c:=d) (z:=ci #[]) (stepG_comm (cases:=#[rcase d<|ci #[]]) (blocking:=ao) (shape:=.select) (w':=b) af af bL (by simp[go_sem,execOp,rcase,Act.eval])) g) ?_;rw[Frame.finish_at];walk_nrm;refine LoneTo.goes (n:=10) ?_;s_op;s_op;s_c stepG_region_end;s_c stepG_block;s_cond aE;s_c stepG_seq;s_reg;s_op;s_c stepG_region_end;s_c stepG_ret';s_stop;refine LoneTo.done ⟨bg<|aG aE,_,af,⟨af,af⟩,af,af,af,af,_,Tryz.func193,by simp[dr,Tryz.f193,Frame.at]⟩
def Hk(e:pw b a d l):bd aK 193 #[N a] b λg h=>g=bg (aG l)/\h=b:=by cases l;{exact aay e};{exact aaz e}
def aaA(c:pw b a d ao)(o:a≠d):bd aK 275 #[N a] b λk e=>(∃v,k=bg v)/\pw e a d aE/\(∀w,w≠d->e.1[w]? = b.1[w]?)/\U e.1=U b.1/\∀g,g<=d->cB g b e:=by have j:=ae<|Hk c;have l:=c.2.1;have:=c.1;have⟨s,r,tm,hch⟩:=c.2.2;have:=λi p=>run_close_open (P:=aK) (w:=b) i p hch;go_in;go_wp21;refine j.m ?_;rintro b rfl;go_wp2;go_end0;have h:∀w,w≠d->(b.1.setIfInBounds d<|.chan 0 #[] aE s r tm)[w]? = b.1[w]?:=λw n=>Array.getElem?_setIfInBounds_ne G;have:=(ea.1 hch).1;refine⟨⟨_,af⟩,⟨by grind,(ev<|h a o).trans l,s,r,tm,?_⟩,h,aA,λg q=>⟨af,af,af,aA,λw n=>h w G⟩⟩;grind
end
def pe(a):∀(g:ap),(a ∉ g/\I a g=[g])\/∃b d,g=b++a::d/\a ∉ b/\I a g=b::I a d
 | []=>bG ⟨aA,af⟩
 | c::h=>by
  by_cases j:c=a;{subst j;exact bE ⟨[],h,af,aA,xh c [] h aA⟩};{
  rcases pe a h with⟨i,_⟩|⟨b,d,i,k,_⟩;{
  have e:a ∉ c::h:=by grind
  exact bG ⟨e,xg a _ e⟩};{
  have e:a ∉ c::b:=by grind
  refine bE ⟨c::b,d,by grind,e,?_⟩;rw[i];exact xh a (c::b) d e}}
def iz(b:UInt8):List ap->ap
 | []=>[]
 | [a]=>a
 | a::d::c=>a++b::iz b (d::c)
def ye(a s):iz a (I a s)=s:=by
 have k:∀(b:Nat) (s:ap),E s<=b->iz a (I a s)=s:=by{
 intro b;induction b with
 | zero=>intro s i;obtain rfl:s=[]:=iM G;rfl
 | succ b j =>{
 intro s i;rcases pe a s with⟨_,d⟩|⟨l,c,h,_,d⟩;{rw[d];rfl};{
 have e:=j c (by grind);rw[d];cases g:I a c with
 | nil=>exact absurd g<|pM a c
 | cons o n =>{rw[g]at e;rw[iz,e,h]}}}};exact k (E s) s bv
def Mc(a c):∀(b:List ap),b≠[]->iz a (b++[c])=iz a b++a::c
 | [],d=>absurd af d
 | [g],_=>af
 | g::h::e,_=>by rw[g_,g_,iz,<- g_,Mc a c (h::e) aA,iz];simp
def F4:List ap->Option D
 | b::c::d::e::a=>if kr b&&fY 86400 c&&eG (i_ d) (e::a)then ag (b,kZ 86400 c,i_ d,iz 32 (e::a))else ai
 | _=>ai
def aa2(s):jx s=F4 (I 32 s):=by
 unfold jx Lib.splitN;rcases pe 32 s with⟨k,h⟩|⟨b,e,x,k,h⟩;{rw[Gu _ k,h];rfl};have:E s=E b+1+E e:=by grind
 obtain⟨q,w⟩:∃p,min 4 (E s+1)-1=p+1:=⟨min 4 (E s+1)-2,G⟩;rw[w,h];conv=>lhs;rw[x]
 rw[Gv q e k];rcases pe 32 e with⟨l,i⟩|⟨c,g,y,l,i⟩;{rw[Gu _ l,i];rfl};have:E e=E c+1+E g:=by grind
 obtain⟨t,u⟩:∃p,q=p+1:=⟨q-1,G⟩;rw[u,i];conv=>lhs;rw[y]
 rw[Gv t g l];rcases pe 32 g with⟨n,j⟩|⟨d,a,z,n,j⟩;{rw[Gu _ n,j];rfl};have:E g=E d+1+E a:=by grind
 obtain rfl:t=1:=G;rw[j];conv=>lhs;rw[z]
 rw[Gv 0 a n];have r:=ye 32 a;cases o:I 32 a with
 | nil=>exact absurd o<|pM 32 a
 | cons B A =>{rw[o]at r;show(if kr b&&fY 86400 c&&eG (i_ d) (I 32 a)then ag (b,kZ 86400 c,i_ d,a)else ai)=F4 (b::c::d::B::A);rw[o,F4,r]}
def Tc{b}:∀(a:ap),I b (a++b::Q)=I b a++I b Q:=by
 intro a;have k:∀(d:Nat) (a:ap),E a<=d->I b (a++b::Q)=I b a++I b Q:=by{
 intro d;induction d with
 | zero=>intro a i;obtain rfl:a=[]:=iM G;exact xh b [] Q aA
 | succ d j =>{intro a i;rcases pe b a with⟨g,e⟩|⟨l,n,h,g,e⟩;{rw[e,xh b a Q g];rfl};{rw[e,h,jI,g_,xh b l _ g,j n<|by grind];rfl}}};exact k (E a) a bv
def Ca{b}(d:I b n=I b c):n=c:=by rw[<- ye b n,d,ye]
def Td(b):∀(c a:List ap),c≠[]->a≠[]->iz b (c++a)=iz b c++b::iz b a
 | [],_,h,_=>absurd af h
 | [i],a,_,d=>by
  cases a with
  | nil=>grind
  | cons g e=>rfl
 | i::g::e,a,_,d=>by rw[g_,g_,iz,<- g_,Td b (g::e) a aA d,iz];simp
def ED:ni (I 46 c) (I 46 n)=fZ c n:=by
 have j:=pM 46 n;rw[ni,fZ,Lib.hasSuffix,sd];simp only[fx,sq,vY,jy,RJ];constructor;{
 rintro⟨k,h⟩;have b:=lP (E (I 46 c)-E (I 46 n))<|I 46 c;rw[h]at b;cases e:amA (E (I 46 c)-E (I 46 n)) (I 46 c) with
 | nil =>{rw[e,jz]at b;exact bG<|Ca<|bZ b}
 | cons d g =>{rw[e]at b;refine bE ⟨iz 46 (d::g),?_⟩;have:=Td 46 (d::g) (I 46 n) aA j;rw[b,ye,ye]at this;grind}};{rintro(rfl|⟨d,i⟩);{simp};{rw[<- i,Tc];simp}}
section
variable {κ:Type}
def tE(a:D->κ):List D->Prop
 | []=>True
 | d::e=>(∀b c,e=b++c->(∃g∈b,a g≠a d)->∀h∈c,a h≠a d)/\tE a e
def tE.drop{c:D->κ}: ∀(d:List D) (b:Nat),tE c d->tE c (bh b d)
 | [],b,a=>by grind
 | g::e,0,a=>a
 | g::e,b+1,a=>by rw[List.drop_succ_cons];exact tE.drop e b a.2
def aa3(d:j++q=y):q=bh (E j) y:=by grind
def Te(e:j++q=y)(a):ed a y=ed a j++ed a q:=by grind
def aa4{b:D->κ}{a}(o:tE b (a::j)){dZ:D->D->Bool}(r:∀h i,dZ h i=aE ↔ b h=b i):∀g∈mt (dZ a) j,b g≠b a:=by
 intro g d;cases n:mt (dZ a) j with
 | nil=>grind
 | cons e q =>{have t:dZ a e=ao:=by{have:=List.head?_dropWhile_not (dZ a) j;grind};have k:b e≠b a:=λc=>by{grind};rw[n]at d;rcases gC.1 d with rfl|d;{omega};{have c:j=(iU (dZ a) j++[e])++q:=by{have:=bZ<|uH (p:=dZ a) (l:=j);grind};exact o.1 _ _ c ⟨e,aA,k⟩ g d}}
def Me{k:D->κ}(dZ)(e:∀t w,dZ t w=aE ↔ k t=k w):∀(f i:Nat) (l:List D),E l<=f->tE k l->(∀d∈le dZ f i l,∃a∈l,d.2.head? = ag a/\d.2=ed (dZ a) l)/\(∀a∈l,∃d∈le dZ f i l,d.2=ed (dZ a) l)
 | 0,i,l,C,_=>by obtain rfl:l=[]:=iM G;exact⟨λd c=>(by cases c),λa q=>(by cases q)⟩
 | f+1,i,[],_,_=>⟨λd c=>(by cases c),λa q=>(by cases q)⟩
 | f+1,i,a::b,C,y=>by
  have J:=(e a a).2 af;have z:=aa4 y e;have j:=uH (p:=dZ a) (l:=b);have A:tE k (mt (dZ a) b):=by{have n:=aa3 j;rw[n];exact tE.drop b _ y.2};have F:E (mt (dZ a) b)<=f:=by{grind};obtain⟨H,I⟩:=Me dZ e f (i+1+E (iU (dZ a) b)) (mt (dZ a) b) F A;have u:∀h∈iU (dZ a) b,dZ a h=aE:=λh r=>by{have:=List.all_takeWhile (p:=dZ a) (l:=b);grind};have Q:ed (dZ a) (a::b)=a::iU (dZ a) b:=by{rw[zK J];congr 1;rw[Te j,yp.2 u,sj.2 λh r x=>z h r<|bZ<|(e a h).1 x,mw]};have K:∀s∈mt (dZ a) b,ed (dZ s) (a::b)=ed (dZ s) (mt (dZ a) b):=λs g=>by{have R:=z s g;have P:dZ s a=ao:=by{grind};rw[BS<|by grind];rw[Te j,sj.2 λh r x=>?_,jz];grind};have O:∀s∈mt (dZ a) b,s∈b:=λs g=>by grind
  refine⟨λd c=>?_,λs g=>?_⟩;{rw[le]at c;rcases gC.1 c with rfl|c;{grind};{obtain⟨s,L,M,N⟩:=H d c;grind}};{rw[le];rcases gC.1 g with rfl|g;{simp_all};{rw[<- j]at g;rcases lc.1 g with o|o;{refine⟨_,List.mem_cons_self,?_⟩;have n:dZ s=dZ a:=by{funext h;have B:=(e a s).1<|u s o;rw[sd,e,e,B]};grind};{obtain⟨d,c,n⟩:=I s o;grind}}}
end
section
open Go.RowKit Go.Sort
section
variable {α:Type} (lt:α->α->Bool)
def eE:List α->List α->List α
 | [],b=>b
 | c::a,[]=>c::a
 | c::a,d::b=>if lt d c then d::eE (c::a) b else c::eE a (d::b)
termination_by a b=>E a+E b
structure nX:Prop where
 tr:∀x y z,lt x y=true->lt y z=true->lt x z=true
 nt:∀x y z,lt x y=false->lt y z=false->lt x z=false
def il(a:List α):Prop:=a.Pairwise λb c=>lt c b=ao
@[simp] theorem Mf {a:List α}:eE lt [] a=a:=by unfold eE;rfl
@[simp] theorem G2 {a:List α}:eE lt a []=a:=by cases a<;>simp[eE]
theorem G3{a b c d}:eE lt (a::c) (b::d)=if lt b a then b::eE lt (a::c) d else a::eE lt c (b::d):=by conv=>lhs;unfold eE
theorem pP{a b}(c d)(e:lt b a=aE):eE lt (a::c) (b::d)=b::eE lt (a::c) d:=by rw[G3,b7 e]
theorem qZ{a b}(c d)(e:lt b a=ao):eE lt (a::c) (b::d)=a::eE lt c (b::d):=by rw[G3,bJ<|by simp[e]]
theorem wY(g h):∀(d e:List α),(∀b∈e,∀a∈g,lt b a=aE)->(∀a∈d,∀b∈h,lt b a=ao)->eE lt (d++g) (e++h)=eE lt d e++eE lt g h
 | [],[],_,_=>by simp
 | [],b::e,i,j=>by
  have c:=wY g h [] e (λb n=>i b<|by grind) j;cases g with
  | nil=>simp
  | cons a g =>{simp only[jz,Mf,g_]at c ⊢;rw[pP lt _ _<|i b aA a aA,c]}
 | a::d,[],i,j=>by
  have c:=wY g h d [] i (λa l=>j a<|by grind);cases h with
  | nil=>simp
  | cons b h =>{simp only[jz,G2,g_]at c ⊢;rw[qZ lt _ _<|j a aA b aA,c]}
 | a::d,b::e,i,j=>by cases k:lt b a;{have c:=wY g h d (b::e) i (λa l=>j a<|by grind);simp only[g_]at c ⊢;rw[qZ lt _ _ k,qZ lt _ _ k,c,g_]};{have c:=wY g h (a::d) e (λb n=>i b<|by grind) j;simp only[g_]at c ⊢;rw[pP lt _ _ k,pP lt _ _ k,c,g_]}
termination_by d e=>E d+E e
theorem EG(l:nX lt):∀(a b c:List α),eE lt (eE lt a b) c=eE lt a (eE lt b c)
 | [],b,c=>by simp
 | h::a,[],c=>by simp
 | h::a,e::b,[]=>by simp
 | h::a,e::b,i::c=>by cases g:lt e h;{cases k:lt i h;{have j:=EG l a (e::b) (i::c);rw[qZ lt _ _ g,qZ lt _ _ k,j];cases d:lt i e;{rw[qZ lt _ _ d,qZ lt _ _ g]};{rw[pP lt _ _ d,qZ lt _ _ k]}};{have d:lt i e=aE:=by{cases n:lt i e;{have:=l.2 _ _ _ n g;grind};{rfl}};have j:=EG l (h::a) (e::b) c;rw[pP lt _ _ d,pP lt _ _ k,<- j,qZ lt _ _ g,pP lt _ _ k]}};{cases d:lt i e;{have j:=EG l (h::a) b (i::c);rw[pP lt _ _ g,qZ lt _ _ d,qZ lt _ _ d,pP lt _ _ g,j]};{have k:=l.1 _ _ _ d g;have j:=EG l (h::a) (e::b) c;rw[pP lt _ _ d,pP lt _ _ k,<- j,pP lt _ _ g,pP lt _ _ d]}}
termination_by a b c=>E a+E b+E c
def kT(a:List α):List α:=a.foldl (λs b=>eE lt s [b]) []
theorem Aj{a b}:kT lt (a++[b])=eE lt (kT lt a) [b]:=by simp[kT]
theorem aa7(e:nX lt)(b a):kT lt (b++a)=eE lt (kT lt b) (kT lt a):=by
 have⟨c,hn⟩:=bi<|E a;induction c generalizing a with
 | zero=>have:a=[]:=rT.1<|bZ hn;subst this;simp[kT]
 | succ c g =>{rcases si a with rfl|⟨d,h,rfl⟩;{grind};{rw[se]at hn ⊢;rw[<- jI,Aj,Aj,g d<|by grind,EG lt e]}}
theorem EH:∀(a b:List α),E (eE lt a b)=E a+E b
 | [],b=>by simp
 | c::a,[]=>by simp
 | c::a,d::b=>by cases e:lt d c;{rw[qZ lt _ _ e,ey,EH a (d::b)];grind};{rw[pP lt _ _ e,ey,EH (c::a) b];rfl}
termination_by a b=>E a+E b
theorem EI(a):E (kT lt a)=E a:=by
 have⟨b,hn⟩:=bi<|E a;induction b generalizing a with
 | zero=>have:a=[]:=rT.1<|bZ hn;subst this;rfl
 | succ b c =>{rcases si a with rfl|⟨d,e,rfl⟩;{rfl};{rw[se]at hn ⊢;rw[Aj,EH,c d<|by grind];simp}}
theorem G4(d):∀(b c:List α),d∈eE lt b c->d∈b\/d∈c
 | [],c,a=>by simp_all
 | e::b,[],a=>by simp_all
 | e::b,g::c,a=>by cases h:lt g e;{rw[qZ lt _ _ h]at a;rcases gC.1 a with a|a;{grind};{exact(G4 d b (g::c) a).imp (λa=>nU _ a) id}};{rw[pP lt _ _ h]at a;rcases gC.1 a with a|a;{grind};{exact(G4 d (e::b) c a).imp id λa=>nU _ a}}
termination_by b c=>E b+E c
theorem aa8(e:nX lt){a b}(d:lt a b=aE)(g:lt a a=ao):lt b a=ao:=by cases c:lt b a;{rfl};{have:=e.1 _ _ _ d c;grind}
theorem Mg(e:nX lt)(k:∀q,lt q q=ao):∀(b c:List α),il lt b->il lt c->il lt (eE lt b c)
 | [],c,_,a=>by simp_all
 | h::b,[],a,_=>by simp_all
 | h::b,i::c,l,o=>by have n:=vB.1 l;have p:=vB.1 o;cases d:lt i h;{rw[qZ lt _ _ d];refine vB.2 ⟨λg j=>?_,Mg e k b (i::c) n.2 o⟩;rcases G4 lt g _ _ j with a|a;{grind};{rcases gC.1 a with rfl|a;{exact d};{exact e.nt _ _ _ (p.1 g a) d}}};{rw[pP lt _ _ d];refine vB.2 ⟨λg j=>?_,Mg e k (h::b) c l p.2⟩;have r:=aa8 lt e d<|k i;rcases G4 lt g _ _ j with a|a;{rcases gC.1 a with rfl|a;{omega};{exact e.2 _ _ _ (n.1 g a) r}};grind}
termination_by b c=>E b+E c
theorem EJ(d:nX lt)(g:∀b,lt b b=ao)(a):il lt (kT lt a):=by
 have⟨c,hn⟩:=bi<|E a;induction c generalizing a with
 | zero=>have:a=[]:=rT.1<|bZ hn;subst this;simp[kT,il]
 | succ c e =>{rcases si a with rfl|⟨h,b,rfl⟩;{grind};{rw[se]at hn ⊢;rw[Aj];exact Mg lt d g _ _ (e h<|by grind)<|by simp[il]}}
theorem aa9(j:nX lt){c b a}(i:il lt<|c++[a])(h:lt b a=ao):eE lt (c++[a]) [b]=c++[a]++[b]:=by
 have:=wY lt [] [b] (c++[a]) [] aA (λe d g k=>by{
 obtain rfl:g=b:=by grind
 rcases lc.1 d with d|d;{exact j.2 _ _ _ h<|(pL.1 i).2.2 e d a aA};grind})
 simp_all
theorem aa_{c a b}(g:lt a b=aE):eE lt (c++[b]) [a]=eE lt c [a]++[b]:=by have:=wY lt [b] [] c [a] (λe i d h=>by{grind}) aA;simp_all
end
section
variable {α:Type} [Inhabited α] (lt:α->α->Bool)
theorem Cb{d:Array α}{X Z u}(a:d.1=X++u::Z):d[E X]! = u:=by
 obtain rfl:d=dl (X++u::Z):=by rw[<- a]
 simp
theorem G5{d X Y Z}{u v:α}(a:d.1=X++u::(Y++v::Z)):(swp d (E X)<|E X+1+E Y).1=X++v::(Y++u::Z):=by have:=Cb a;have b:d[E X+1+E Y]! = v:=by{have:=Cb (d:=d) (X:=X++u::Y) (u:=v) (Z:=Z) (by grind);grind};unfold swp;grind
theorem Tf(c:Array α)(b:a≠d):swp c a d=swp c d a:=by unfold swp;rw[Array.setIfInBounds_comm _ _ b]
def q7:Nat->Nat->Nat->Array α->Array α
 | _,_,0,a=>a
 | b,c,d+1,a=>q7 (b+1) (c+1) d<|swp a b c
theorem G6:∀(b d:List α) (g:Array α) (a c e:List α),E b=E d->g.1=a++(b++(c++(d++e)))->(q7 (E a) (E a+E b+E c) (E b) g).1=a++(d++(c++(b++e)))
 | [],[],g,a,c,e,_,j=>by assumption
 | [],h::d,_,_,_,_,j,_=>by grind
 | i::b,[],_,_,_,_,j,_=>by grind
 | i::b,h::d,g,a,c,e,o,j=>by
  have k:g.1=a++i::((b++c)++h::(d++e)):=by grind
  have n:=G5 k;have p:=G6 b d (swp g (E a)<|E a+1+E (b++c)) (a++[h]) (c++[i]) e (by grind) (by grind);rw[ey,q7];rw[show E a+(E b+1)+E c=E a+1+E (b++c) from by grind];have l:E (a++[h])=E a+1:=aA;grind
theorem Tg(p:nX lt):∀(b:Nat) (g:List α) (d:Array α) (a e:List α) (c:α),E g=b->il lt g->d.1=a++(g++c::e)->(insInner lt (E a) (E a+b) d).1=a++(eE lt g [c]++e)
 | 0,g,d,a,e,c,n,_,k=>by
  obtain rfl:g=[]:=rT.1 n;have:insInner lt (E a) (E a+0) d=d:=by{
  cases j:E a with
  | zero=>rfl
  | succ w=>rw[jn,insInner,bJ aA]};simp_all
 | b+1,g,d,a,e,c,n,o,k=>by
  rcases si g with rfl|⟨h,i,rfl⟩;{grind};{
  rw[se]at *;have q:E h=b:=by grind
  have t:d[E a+b]! = i:=by{have:=Cb (d:=d) (X:=a++h) (u:=i) (Z:=c::e) (by grind);grind};have r:d[E a+b+1]! = c:=by{have:=Cb (d:=d) (X:=a++h++[i]) (u:=c) (Z:=e) (by grind);grind};rw[<- rV,insInner,r,t];cases j:lt c i;{rw[bJ aA,aa9 lt p o j,k];simp};{rw[b7<|by grind,aa_ lt j,Tf _ G];have l:=G5 (d:=d) (X:=a++h) (Y:=[]) (Z:=e) (u:=i) (v:=c) (by grind);rw[show(a++h).length=E a+b from by grind,show E a+b+1+E ([]:List α)=E a+b+1 from af]at l;have:=Tg p b h _ a (i::e) c q (pL.1 o).1 (by rw[l];simp);grind}}
theorem Th(j:nX lt)(l:∀e,lt e e=ao)(c g):∀(f:Nat) (a b:List α) (d:Array α),E b=f->d.1=c++(kT lt a++(b++g))->(insOuter lt (E c) (E c+E a+E b) (E c+E a) d).1=c++(kT lt (a++b)++g)
 | 0,a,b,d,i,h=>by obtain rfl:b=[]:=rT.1 i;rw[insOuter,bJ aA,h];simp
 | f+1,a,[],d,i,h=>by grind
 | f+1,a,e::b,d,i,h=>by rw[insOuter,b7 aA];have k:=Tg lt j (E a) (kT lt a) d c (b++g) e (EI lt _) (EJ lt j l _) (by grind);rw[<- Aj]at k;have n:=Th j l c g f (a++[e]) b _ (by grind) k;grind
theorem Ti(h:nX lt)(i:∀c,lt c c=ao)(b a d e)(g:e.1=b++(a++d)):(insertionSort lt e (E b)<|E b+E a).1=b++(kT lt a++d):=by
 unfold insertionSort;cases a with
 | nil=>rw[insOuter,bJ aA,g];rfl
 | cons c a =>{have:=Th lt h i b d (E a) [c] a e af (by rw[g];simp[kT]);grind}
end
end
section
open Go.RowKit Go.Sort Go.Shelf
def G8:∀(b c d:Nat) (a:Array D),U (q7 c d b a)=U a
 | 0,_,_,_=>af
 | b+1,c,d,a=>by rw[q7,G8 b,size_swp]
def EK(b):∀v∈D.bz b,v.oneCell'=aE:=λv a=>by simp[D.bz]at a;rcases a with rfl|rfl|rfl|rfl<;>rfl
def aba{ay:Nat}(aa:Nat)(ah:∀p,E (D.bz p)=a)(ar:∀b,Sem.run aK (Go.sizeOf 47) b=.ok a b){e}(t:HoldsK D.bz a b d ay e)(z:d<U b.1)(x:h+P<=o)(y:o+P<=U e)(w:U e<=3001):bd aK 288 #[bC d ay (U e) aa,J h,J o,J P,fc (.func 103) #[] #[]] b λab aq=>ab=bg (bX #[])/\∃k,aq=fu D.bz a b d ay k (q7 h o P e) #[]:=by
 have al:aK.follows Departure.mixedOrders=aE:=dS;have W:=Tryz.isAgg47;have l:=ae ah;have R:ax (b=fu D.bz a b d ay 0 e #[]):=by show b=_;rw[fu,grow_empty];exact(putRowK_self D.bz a b d ay e t).symm
 have Q:=ae z;replace t:=ae t;go_wp2;go_loopg [10] P (λK ap wr=>∃(i k:Nat) (c:Array D),ap=J i/\i+K=P/\U c=U e/\wr=fu D.bz a b d ay k c #[]/\ax (q7 (h+i) (o+i) K c=q7 h o P e));·exact⟨0,0,e,af,G,af,R,af⟩
 ·(
 obtain⟨i,k,c,rfl,aN,u,rfl,C⟩:=hrel;by_cases A:i<P;{
 have F:(i:Int)<P:=G;obtain⟨r,rfl⟩:∃r,gk=r+1:=⟨gk-1,G⟩;have⟨g,hp⟩:=bi<|h+i;have⟨j,hr⟩:=bi<|o+i;have ac:(h:Int)+i=g:=G;have ad:(o:Int)+i=j:=G;have S:(g:Int)<U e:=G;have T:(j:Int)<U e:=G;have⟨xp,Ag⟩:=dK<|c[g]!;have⟨xr,Ah⟩:=dK<|c[j]!;have q:HoldsK D.bz a (bq<|fu D.bz a b d ay k c #[]) d ay c:=zx D.bz a b d ay e c _ _ (V t) z u;have⟨wq,aee⟩:=bi<|fu D.bz a b d ay k c #[];rw[<- aee]at q ⊢;have L:Sem.run aK (loadCellsFrom (M d<|ay+g*a) 0 a #[]) (bq wq)=.ok (dl<|D.bz xp) (bq wq):=by rw[<- Ag];exact run_loadCellsFrom_list _ _ _ _ a (l.out _)<|HoldsK.cells q l.out G
 have N:Sem.run aK (loadCellsFrom (M d<|ay+j*a) 0 a #[]) (bq wq)=.ok (dl<|D.bz xr) (bq wq):=Ah▸run_loadCellsFrom_list _ _ _ _ a (l.out _) (HoldsK.cells q l.out G)
 have H:∀p,p<U c->p*a+a<=U c*a:=λp aj=>by{have:=ys a (show p+1<=U c from aj);grind};have O:Sem.run aK (storeCells (M d<|ay+g*a) (D.bz xr) 0) (bq wq)=.ok () ((bq wq).setCells d (ay+g*a)<|D.bz xr):=stores_of_holds _ q (g*a) _ (by rw[l.out,size_flatK];grind)<|EK _;have n:Sem.run aK (storeCells (M d<|ay+j*a) (D.bz xp) 0) ((bq wq).setCells d (ay+g*a)<|D.bz xr)=.ok () (((bq wq).setCells d (ay+g*a)<|D.bz xr).setCells d (ay+j*a)<|D.bz xp) := stores_of_holds _ (holds_setCells_c q (g*a) _ (by rw[l.out,size_flatK];grind)) (j*a) _ (by rw[l.out,size_setMany,size_flatK];exact H j G)<|EK _;have Z:=ae aee;clear q aee H;have⟨cP,yO⟩:=bi<|D.bz xp;have⟨cR,yP⟩:=bi<|D.bz xr;have:E cP=a:=yO▸l.out _
 have:E cR=a:=yP▸l.out _
 rw[<- yP]at O N;rw[<- yO]at L;rw[<- yO,<- yP]at n;have B:ax (cP=D.bz xp/\cR=D.bz xr):=⟨yO,yP⟩;clear yO yP;have X:=jW (g:Int)
 have Y:=jW (j:Int)
 have am:0<=(g:Int):=G;have an:0<=(j:Int):=G;have I:ax (i+(r+1)=P/\g=h+i/\j=o+i/\c[g]! = xp/\c[j]! = xr/\U c=U e/\i<P/\h+P<=o/\o+P<=U e/\U e<=3001):=⟨aN,hp,hr,Ag,Ah,u,A,x,y,w⟩;go_wp2;clear aN hp hr Ag Ah u A x y w F z;go_big_region_o;all_goals(
 clear L N O n W ar al X Y am an ac ad S T;have au:i<=3001:=by have aN:=V I;omega
 go_wp2;go_roundg r;case measure=>omega
 ·(have⟨aN,hp,hr,Ag,Ah,u,A,x,y,w⟩:=V I;refine⟨i+1,k+1,swp c g j,dH,G,by rw[size_swp];omega,?_,(show ax _ from ?_)⟩;{rw[B.out.1,B.out.2,V Z,<- Ag,<- Ah];exact sortWorldK_swp_c D.bz a b d ay l.out k c #[] (V Q) g j G G};{show _=_;rw[<- V C,hp,hr,q7];rfl}))};{have F:¬(i:Int)<P:=G;obtain rfl:gk=0:=G;go_wp2;go_end0;exact⟨af,k,by rw[<- V C];rfl⟩})
def abb(g:Nat){e}(k:HoldsK D.bz 4 b a 0 e)(c:a<U b.1)(l:h+d<=o)(n:o+d<=U e)(i:U e<=3001):bd aK 288 #[bC a 0 (U e) g,J h,J o,J d,fc (.func 103) #[] #[]] b λj q=>j=bg (bX #[])/\∃p,q=fu D.bz 4 b a 0 p (q7 h o d e) #[] :=
 aba g (λ_=>af) Tryz.sizeOf47 k c l n i
end
section
open Go.RowKit Go.Sort Go.Shelf
def abc{c}(d:HoldsK D.bz 4 b a 0 c):b=fu D.bz 4 b a 0 0 c #[]:=by unfold fu;rw[grow_empty];exact(putRowK_self D.bz 4 b a 0 c d).symm
def Tj(e m){d}(c g h)(j:a<U b.1)(i:U c=U d):fu D.bz 4 (fu D.bz 4 b a 0 e d g) a 0 m c h=fu D.bz 4 b a 0 (e+m) c (g++h):=grow_step_growK D.bz 4 b g h e m a 0 d c j i
def abe(a n j e g i:Nat)(b c h d)(u:HoldsK D.bz 4 d a 0 b)(l:a<U d.1)(p:U c=U b)(w:j+g<=e)(y:e+g<=U b)(x:U b<=3001):bd aK 288 #[bC a 0 (U b) n,J j,J e,J g,fc (.func 103) #[] #[]] (fu D.bz 4 d a 0 i c h) λt q=>t=bg (bX #[])/\∃k,q=fu D.bz 4 d a 0 k (q7 j e g c) h:=by have r:=zx D.bz 4 d a 0 b c i h u l p;have o:=abb n r (e8 l<|size_sortWorldK_c D.bz 4 d a 0 i c h) w G G;rw[p]at o;refine o.m ?_;rintro q ⟨k,rfl⟩;refine⟨af,i+k,?_⟩;rw[Tj i k (q7 j e g c) h #[] l<|G8 _ _ _ _];simp
def abf(al:Nat){A:Nat}(u:Nat){z h}(t w)(y)(am:HoldsK D.bz 4 b a 0 z)(aF:a<U b.1)(B:U h=U z)(aj:U z<=3001)(L:h.1=w++(j++(q++y)))(S:E w=d)(W:d+E j=o)(T:o+E q=A)(X:0<E j)(Y:0<E q):bd aK 267 #[bC a 0 (U z) al,J d,J o,J A,fc (.func 103) #[] #[]] (fu D.bz 4 b a 0 u h t) λaz aT=>az=bg (bX #[])/\∃l K,aT=fu D.bz 4 b a 0 l K t/\K.1=w++(q++(j++y)):=by
 have aa:U z=E w+(E j+(E q+E y)):=by rw[<- B,<- sy,L];simp
 have H:=ae λu h B d A ab (aB:d+ab<=A) (aC:A+ab<=U z)=>abe a al d A ab u z h t b am aF B aB aC aj;have au:(o:Int)-d=E j:=G;have ap:(A:Int)-o=E q:=G;have⟨i0,oI⟩:=bi<|E j;have⟨j0,hj0⟩:=bi<|E q;rw[<- oI]at au;rw[<- hj0]at ap;have aq:=ae<|cv aa<|cv B<|cv L<|cv S<|cv W<|cv T<|cv X<|cv Y<|cv oI hj0;have:o<=3001:=G;have:i0<=3001:=G;have:j0<=3001:=G;clear am aa B L S W T X Y aj oI hj0;have⟨w0,hw0⟩:=bi<|fu D.bz 4 b a 0 u h t;rw[<- hw0];replace hw0:=ae hw0;go_wp2;go_loopg [10,11] (i0+j0) (λaA aP aR wr=>∃(n k:Nat),aP=J n/\aR=J k/\0<n/\0<k/\n+k<=aA/\n<=o/\n<=3001/\k<=3001/\ax (∃(u:Nat) (h:Array D) (e c p i:List D),E e+n=o/\E c=n/\E p=k/\U h=U z/\h.1=e++(c++(p++i))/\e++(p++(c++i))=w++(q++(j++y))/\wr=fu D.bz 4 b a 0 u h t));·(have⟨aa,B,L,S,W,T,X,Y,oI,hj0⟩:=V aq;exact⟨i0,j0,dS,dS,G,G,cW _,G,G,G,u,h,w,j,q,y,G,G,G,B,L,af,hw0⟩)
 ·(
 obtain⟨n,k,rfl,rfl,aN,aH,aU,aX,ar,aw,O⟩:=hrel;have⟨q1,dk1,e,c,p,i,e1,e2,e3,e4,e5,e6,hwr⟩:=V O;have R:U z=E e+(E c+(E p+E i)):=by rw[<- e4,<- sy,e5];simp
 obtain⟨m,aY⟩:∃m:Nat,m+n=o:=⟨E e,e1⟩;have:(o:Int)-n=m:=G;by_cases aI:n=k;{subst aI;have x:=ae<|H q1 dk1 e4 m o n G G;have I:ax (∀l,∃aM K,fu D.bz 4 b a 0 l (q7 m o n dk1) t=fu D.bz 4 b a 0 aM K t/\K.1=w++(q++(j++y))):=λl=>by{refine⟨l,_,af,?_⟩;have:=G6 c p dk1 e [] i G fN;rw[e2,show E e=m from G,show m+n+E ([]:List D)=o from G]at this;rw[this,<- e6];rfl};rw[<- hwr]at x;clear O e1 e2 e3 e4 e5 e6 hwr R H hw0;go_wp2_with fail;refine x.m λan ⟨N,r⟩=>?_;replace r:=ae r;go_wp2;go_end0;refine⟨af,?_⟩;rw[V r];exact I N};{
 have aW:((n:Int) != (k:Int))=aE:=FR
 by_cases aV:k<n;{
 have ay:(k:Int)<n:=G;obtain⟨g,aJ⟩:∃g:Nat,g+k=n:=⟨n-k,G⟩;have av:(n:Int)-k=g:=G;have x:=ae<|H q1 dk1 e4 m o k G G;have I:ax (∀l,∃(u:Nat) (h:Array D) (e c p i:List D),E e+g=o/\E c=g/\E p=k/\U h=U z/\h.1=e++(c++(p++i))/\e++(p++(c++i))=w++(q++(j++y))/\fu D.bz 4 b a 0 l (q7 m o k dk1) t=fu D.bz 4 b a 0 u h t):=λl=>by{have ac:c=amA k c++bh k c:=bZ<|lP _ _;have C:E (amA k c)=k:=cx;have M:E (bh k c)=g:=cx;generalize amA k c=ad at ac C;generalize bh k c=P at ac M;subst ac;have:=G6 ad p dk1 e P i G (by rw[e5];simp);rw[C,show E e=m from G,show m+k+E P=o from G]at this;refine⟨l,_,e++p,P,ad,i,cx,M,C,by rw[G8];exact e4,by rw[this];simp,?_,af⟩;rw[<- e6];simp};rw[<- hwr]at x;clear O e1 e2 e3 e4 e5 e6 hwr R H hw0;go_wp2_with fail;refine x.m λan ⟨N,r⟩=>?_;replace r:=ae r;go_wp2;go_roundg (g+k);case measure=>omega
 ·(refine⟨g,k,dS,dS,G,aH,cW _,G,G,aw,?_⟩;rw[V r];exact I N)};{
 have ay:¬(k:Int)<n:=G;obtain⟨g,aJ⟩:∃g:Nat,g+n=k:=⟨k-n,G⟩;have av:(k:Int)-n=g:=G;obtain⟨F,aZ⟩:∃F:Nat,F+n=o+k:=⟨o+k-n,G⟩;have:(o:Int)+k-n=F:=G;have x:=ae<|H q1 dk1 e4 m F n G G;have I:ax (∀l,∃(u:Nat) (h:Array D) (e c p i:List D),E e+n=o/\E c=n/\E p=g/\U h=U z/\h.1=e++(c++(p++i))/\e++(p++(c++i))=w++(q++(j++y))/\fu D.bz 4 b a 0 l (q7 m F n dk1) t=fu D.bz 4 b a 0 u h t):=λl=>by{have Z:p=amA g p++bh g p:=bZ<|lP _ _;have C:E (amA g p)=g:=cx;have M:E (bh g p)=n:=cx;generalize amA g p=Q at Z C;generalize bh g p=ah at Z M;subst Z;have:=G6 c ah dk1 e Q i G (by rw[e5];simp);rw[e2,show E e=m from G,show m+n+E Q=F from G]at this;refine⟨l,_,e,ah,Q,c++i,G,M,C,by rw[G8];exact e4,G,?_,af⟩;rw[<- e6];simp};rw[<- hwr]at x;clear O e1 e2 e3 e4 e5 e6 hwr R H hw0;go_wp2_with fail;refine x.m λan ⟨N,r⟩=>?_;replace r:=ae r;go_wp2;go_roundg (n+g);case measure=>omega
 ·(refine⟨n,g,dS,dS,aN,G,cW _,G,ar,G,?_⟩;rw[V r];exact I N)}})
end
section
open Go.RowKit Go.Sort
section
variable {α:Type} (lt:α->α->Bool)
theorem Tl(i:nX lt){e d c}(h:il lt<|e++[c])(j:lt c d=aE):∀b∈e++[c],lt b d=aE:=λb a=>by
 rcases lc.1 a with a|a
 ·cases g:lt b d
  ·have:=i.2 _ _ _ ((pL.1 h).2.2 b a c aA) g
   grind
  ·rfl
 grind
theorem abg(i:nX lt){b c d}(h:il lt<|b++c)(e:∀a,b.getLast? = ag a->lt a d=aE)(g:∀a,c.head? = ag a->lt a d=ao):eE lt [d] (b++c)=b++d::c:=by
 have p:∀a∈b,lt a d=aE:=by{rcases si b with rfl|⟨k,j,rfl⟩;{simp};{rw[se]at *;exact Tl lt i (pL.1 h).1<|e j aA}};have:=wY lt [d] c [] b (λn q l o=>by grind) aA;rw[jz,Mf]at this;rw[this];congr 1;cases c with
 | nil=>simp
 | cons a c=>rw[qZ lt _ _<|g a af,Mf]
theorem abh(k:nX lt){b c d}(j:il lt<|b++c)(h:∀a,b.getLast? = ag a->lt d a=ao)(i:∀a,c.head? = ag a->lt d a=aE):eE lt (b++c) [d]=b++d::c:=by
 have r:∀a∈b,lt d a=ao:=by{rcases si b with rfl|⟨n,g,rfl⟩;{simp};{rw[se]at *;intro a e;have l:=h g aA;rcases lc.1 e with e|e;{exact k.nt _ _ _ l<|(pL.1 (pL.1 j).1).2.2 a e g aA};grind}};have:=wY lt c [d] b [] aA (λo q p t=>by grind);rw[jz,G2]at this;rw[this];congr 1;cases c with
 | nil=>simp
 | cons a c=>rw[pP lt _ _<|i a af,G2]
theorem abi(l:nX lt){g c h d}(o:il lt<|g++c)(p:il lt<|h++d)(w:∀e b,g.getLast? = ag e->d.head? = ag b->lt b e=ao)(x:∀e b,c.head? = ag e->h.getLast? = ag b->lt b e=aE):eE lt (g++c) (h++d)=eE lt g h++eE lt c d:=by
 refine wY lt c d g h (λk j i a=>?_) λi a k j=>?_;{
 rcases si h with rfl|⟨A,n,rfl⟩;{grind};rw[se]at *;cases c with
 | nil=>grind
 | cons e c =>{have y:=x e n af aA;have:=Tl lt l (pL.1 p).1 y k j;rcases gC.1 a with rfl|a;{omega};{have t:=(vB.1 (pL.1 o).2.1).1 i a;cases u:lt k i;{have:=l.2 _ _ _ u t;grind};{rfl}}}};{
 rcases si g with rfl|⟨z,n,rfl⟩;{grind};rw[se]at *;cases d with
 | nil=>grind
 | cons b d =>{have q:=w n b aA af;have r:lt b i=ao:=by{rcases lc.1 a with a|a;{exact l.2 _ _ _ q<|(pL.1 (pL.1 o).1).2.2 i a n aA};grind};rcases gC.1 j with rfl|j;{omega};{exact l.2 _ _ _ ((vB.1 (pL.1 p).2.1).1 k j) r}}}
end
section
variable {α:Type} [Inhabited α]
def G_{d:Array α}{X B Z}(b:d.1=X++(B++Z))(c:a<E B):d[E X+a]! = B[a]:=by
 obtain rfl:d=dl (X++(B++Z)):=by rw[<- b]
 grind
omit [Inhabited α]in
def Ha{b:List α}{c}(g:a<=E b)(d:(amA a b).getLast? = ag c):∃(e:a-1<E b),0<a/\b[a-1]=c:=by grind
omit [Inhabited α]in
def Hb{b:List α}{c}(d:(bh a b).head? = ag c):∃(e:a<E b),b[a]=c:=by rw[List.head?_drop]at d;grind
end
end
section
open Go.RowKit Go.Sort Go.Shelf
abbrev cZ:D->D->Bool:=ltOf n5
section
variable {ay k g:Nat} {dk:Array D} {W:World}
def zB(b:∀e,E (D.bz e)=k)(c:HoldsK D.bz k W g ay dk)(a)(d:a<U dk):Sem.run aK (loadCellsFrom (M g<|ay+a*k) 0 k #[]) W=.ok (dl<|D.bz dk[a]!) W :=
 run_loadCellsFrom_list _ _ _ _ k (b _) (HoldsK.cells c b d)
def Mh(b:a<U dk):a*k+k<=U dk*k:=by have:=ys k (show a+1<=U dk from b);grind
def Tm(c:∀i,E (D.bz i)=k)(d:HoldsK D.bz k W g ay dk)(a b)(e:a<U dk)(h:b<U dk):Sem.run aK (storeCells (M g<|ay+a*k) (D.bz dk[b]!) 0) W=.ok () (W.setCells g (ay+a*k)<|D.bz dk[b]!)/\Sem.run aK (storeCells (M g<|ay+b*k) (D.bz dk[a]!) 0) (W.setCells g (ay+a*k)<|D.bz dk[b]!)=.ok () ((W.setCells g (ay+a*k)<|D.bz dk[b]!).setCells g (ay+b*k)<|D.bz dk[a]!) :=
 ⟨stores_of_holds _ d (a*k) _ (by rw[c,size_flatK];exact Mh e)<|EK _,
  stores_of_holds _ (holds_setCells_c d (a*k) _ (by rw[c,size_flatK];exact Mh e)) (b*k) _ (by rw[c,size_setMany,size_flatK];exact Mh h) (EK _)⟩
end
def Qy{P:Prop}(h:P:=by rw[<- hy];exact zB (V HK) (EF n' os') h G):P:=h
def Pj{P:Prop}(h:P:=by rcases h2 with h2|h2;{omega};{rw[hT,hat _ h0,h4]at h2;exact h2}):P:=h
def PO{P:Prop}(h:P:=by rw[EE];exact zx D.bz k w g ay d dk _ _ (V HH) (V HG) hs):P:=h
def PI{P:Prop}(h:P:=by rw[hwr];exact sortWorldK_grown_c D.bz k w g ay q1 n' dk os1 os'):P:=h
def Pq{P:Prop}(h:P:=by rw[hwr];exact sortWorldK_swp_c D.bz k w g ay (V HK) q1 dk1 os1 (V HG) p r G G):P:=h
def Q4{P:Prop}(h:P:=by rw[hp];go_wp2;refine eh (v:=bX #[]) (by simp[dr,Tryz.results232]) af ?_;have⟨q1,os1,dk1,hwr,hs1,eY⟩:=V HW;exact⟨af,q1,os1,dk1,hwr,by rw[eY,V dO];simp⟩):P:=h
def aaL{ay k g b m n}(aA:∀i,E (D.bz i)=k)(bb:∀w,Sem.run aK (Go.sizeOf 47) w=.ok k w){d dk X i w}(av:HoldsK D.bz k w g ay d)(aw:g<U w.1)(hs:U dk=U d)(bf:U d<=3001)(t:dk.1=j++i::(q++y))(aX:E j=b)(bk:b+1=m)(bj:m+E q=n)(a0:0<E q)(B:nX cZ)(H:il cZ q):bd aK 232 #[bC g ay (U d) a,J b,J m,J n,fc (.func 103) #[] #[]] (fu D.bz k w g ay o dk X) λaa al=>aa=bg (bX #[])/\∃a6 os' au,al=fu D.bz k w g ay a6 au os'/\au.1=j++(eE cZ [i] q++y):=by
 have a4:aK.follows Departure.mixedOrders=aE:=dS;have aR:=Tryz.isAgg47;have A:U d=E j+(1+(E q+E y)):=by rw[<- hs,<- sy,t];grind
 have ad:=aX▸Cb t
 have HK:=ae aA;have HH:=ae av;have HG:=ae aw;have L:=ae<|cv A<|cv hs<|cv t<|cv aX<|cv B H;have:n<=3001:=G;have T:n<=U d:=G;have aF:m<=n:=G;have:((m:Int)-b==1)=aE:=by grind
 clear aA av aw A t aX B H;have⟨w0,hw0⟩:=bi<|fu D.bz k w g ay o dk X;rw[<- hw0];replace hw0:=ae hw0;go_wp2;go_loopg [10,11] (n-m) (λab a9 ba wr=>∃(c l:Nat),a9=J c/\ba=J l/\m<=c/\c<=l/\l<=n/\l-c<=ab/\ax (∃o X,wr=fu D.bz k w g ay o dk X)/\ax ((c=m\/cZ dk[c-1]! i=aE)/\(l=n\/cZ dk[l]! i=ao)));·exact⟨m,n,af,af,cW _,aF,cW _,cW _,⟨o,X,hw0⟩,bG af,bG af⟩
 ·(
 obtain⟨c,l,rfl,rfl,an,aJ,az,aM,ap,R⟩:=hrel;by_cases a2:c<l;{
 have aN:(c:Int)<l:=G;have⟨h,hh⟩:=dK<|(c+l)/2;have:((c:Int)+l)/2=(h:Int):=G;have:c<=h:=G;have:h<l:=G;have⟨q1,os1,hwr⟩:=V ap;have EE:∀n' os',grow (ef wr n') os'=fu D.bz k w g ay (q1+n') dk (os1++os'):=λn' os'=>PI
 have EF:∀n' os',HoldsK D.bz k (grow (ef wr n') os') g ay dk:=λn' os'=>PO
 have⟨x,hy⟩:=dK<|dk[h]!;have bc:∀n' os',Sem.run aK (loadCellsFrom (M g<|ay+h*k) 0 k #[]) (grow (ef wr n') os')=.ok (dl<|D.bz x) (grow (ef wr n') os'):=λn' os'=>Qy
 have bn:∀n' os',Sem.run aK (loadCellsFrom (M g<|ay+b*k) 0 k #[]) (grow (ef wr n') os')=.ok (dl<|D.bz i) (grow (ef wr n') os'):=λn' os'=>by rw[<- ad];exact zB (V HK) (EF n' os') b G
 have aq:∀C,bd aK 103 #[ci<|dl<|D.bz x,ci<|dl<|D.bz i] C λaa al=>aa=bg (J<|n5 x i)/\∃o os',al=grow (ef C o) os':=λC=>Hi x i C;have K:=ae aq;have am:=ae EE;have:(h:Int)<U d:=G;have:(b:Int)<U d:=G;have aC:=ae hy;have:=ae hh;have:=ae ad;clear EE EF hwr hh hy aq ad;generalize F:n5 x i=aY at K;replace F:=ae F;by_cases bl:aY<0;{
 go_wp2;go_quiet_grown (first|(go_at_call 103;refine Calls.grown_of<|K _));go_wp2;go_roundg (l-(h+1));case measure=>omega
 ·(refine⟨h+1,l,dS,af,G,G,az,cW _,⟨_,_,V am _ _⟩,bE ?_,R.2⟩;show ltOf n5 dk[h]! i=aE;rw[V aC];unfold ltOf;rw[V F];simp_all)};{
 go_wp2;go_quiet_grown (first|(go_at_call 103;refine Calls.grown_of<|K _));go_wp2;go_roundg (h-c);case measure=>omega
 case rel =>(refine⟨c,h,af,dS,an,G,G,cW _,⟨_,_,V am _ _⟩,R.1,bE ?_⟩;show ltOf n5 dk[h]! i=ao;rw[V aC];rw[ltOf,V F];simp_all)}};{
 have aN:¬(c:Int)<l:=G;obtain rfl:c=l:=G;obtain⟨e,hT⟩:∃e,c=m+e:=⟨c-m,G⟩;have dO:ax (eE cZ [i] q=amA e q++i::bh e q):=by{
 have⟨A,a3,t,aX,B,H⟩:=V L;have⟨z,h2⟩:=V R;have a1:dk.1=(j++[i])++(q++y):=by rw[t];simp
 have aI:E (j++[i])=m:=cx;have hat:∀Z (h:Z<E q),dk[m+Z]! = q[Z]:=λZ h=>aI▸G_ a1 h
 rw[ax];conv=>lhs;rw[<- lP e q]
 refine abg cZ B (by rw[lP];omega) (λx hy=>?_) λx hy=>?_;{have⟨h0,h3,h4⟩:=Ha G hy;rcases z with z|z;{omega};{rw[show c-1=m+(e-1)from G,hat _ h0,h4]at z;exact z}};{have⟨h0,h4⟩:=Hb hy;exact Pj}};have P:e<=E q:=G;have:(c:Int)-1=b+e:=G;have:=ae hT;have ac:b+e+1<=n:=G;have:(c:Int)<=3001:=G;have:1<=(c:Int):=G;go_wp2;go_loopg [13] e (λab a8 wr=>∃(Z:Nat),a8=J (b+Z:Nat)/\Z+ab=e/\ax (∃o X dk1,wr=fu D.bz k w g ay o dk1 X/\U dk1=U d/\dk1.1=j++(amA Z q++i::(bh Z q++y))));·(have⟨q1,os1,hwr⟩:=V ap;obtain⟨A,a3,t,aX,B,H⟩:=V L;exact⟨0,af,G,q1,os1,dk,hwr,hs,fN⟩)
 ·(
 obtain⟨Z,rfl,N,HW⟩:=hrel;by_cases O:Z<e;{
 have⟨p,hp⟩:=dK<|b+Z;rw[hp];have aP:(p:Int)<b+e:=G;have aH:p<=3001:=G;have⟨q1,os1,dk1,hwr,hs1,eY⟩:=V HW;have I:HoldsK D.bz k (bq wr) g ay dk1:=hwr▸zx D.bz k w g ay d dk1 _ _ (V HH) (V HG) hs1
 have ah:=zB (V HK) I p G;have⟨r,hr⟩:=dK<|p+1;have aj:=zB (V HK) I r G;have⟨s1,s2⟩:=Tm (V HK) I p r G G;have Q:ax (∃o X W,(((bq wr).setCells g (ay+p*k)<|D.bz dk1[r]!).setCells g (ay+r*k)<|D.bz dk1[p]!)=fu D.bz k w g ay o W X/\U W=U d/\W.1=j++(amA (Z+1) q++i::(bh (Z+1) q++y))):=by{refine⟨q1+1,os1,swp dk1 p r,?_,by rw[size_swp];omega,?_⟩;{exact Pq};{have A:=V L;have ar:Z<E q:=G;have aB:=G5 (d:=dk1) (X:=j++amA Z q) (Y:=[]) (Z:=bh (Z+1) q++y) (u:=i) (v:=q[Z]) (by rw[eY,lA ar];exact FX);rw[show(j++amA Z q).length=p from cx,show p+1+E ([]:List D)=r from hr]at aB;rw[aB,iH ar];exact FX}};have⟨xr,Ah⟩:=dK<|dk1[r]!;have⟨xp,Ag⟩:=dK<|dk1[p]!;rw[Ah]at aj s1;rw[Ag]at ah;rw[Ag,Ah]at s2 Q;have⟨cP,yO⟩:=dK<|D.bz xp;have⟨cR,yP⟩:=dK<|D.bz xr;have:E cP=k:=yO▸HK _
 have:E cR=k:=yP▸HK _
 rw[yO,yP]at Q s2;rw[yP]at aj s1;rw[yO]at ah;have aV:(p:Int)<U d:=G;have aW:(r:Int)<U d:=G;have aZ:(p:Int)+1=r:=G;have aT:=jW (p:Int)
 have aU:=jW (r:Int)
 have a5:0<=(p:Int):=G;have a7:0<=(r:Int):=G;have S:ax (Z+gk=e/\Z<e/\b+Z=p/\e<=E q/\b+e+1<=n/\n<=U d):=⟨N,O,hp,P,ac,T⟩;clear I hwr hs1 eY HW yO yP Ah Ag hr N O hp P ac hs aJ an aM az a2 a0 aF T;go_wp2;clear aH aP;go_big_region_o;all_goals(
 clear ah aj s1 s2 aR bb a4 aT aU a5 a7 aZ aV aW;have aH:p<=3001:=cj<|V S
 go_wp2;go_roundg (e-(Z+1));case measure=>have:=V S;omega
 ·(have⟨N,O,hp,P,ac,T⟩:=V S;exact⟨Z+1,by rw[<- hp];rfl,G,Q⟩))};{have:¬((b+Z:Nat):Int)<(b:Int)+e:=G;obtain rfl:Z=e:=G;have⟨p,hp⟩:=dK<|b+Z;have:¬(p:Int)<b+Z:=G;exact Q4})})
end
section
open Go.RowKit Go.Sort Go.Shelf
def aaM{ay k g m t n}(aI:∀e,E (D.bz e)=k)(bk:∀w,Sem.run aK (Go.sizeOf 47) w=.ok k w){d dk b i w}(aC:HoldsK D.bz k w g ay d)(aF:g<U w.1)(hs:U dk=U d)(bb:U d<=3001)(x:dk.1=j++(q++i::y))(A:E j=o)(aB:o+E q=m)(aA:m+1=t)(a3:2<=E q)(F:nX cZ)(O:il cZ q):bd aK 232 #[bC g ay (U d) a,J o,J m,J t,fc (.func 103) #[] #[]] (fu D.bz k w g ay n dk b) λab aj=>ab=bg (bX #[])/\∃a6 os' aw,aj=fu D.bz k w g ay a6 aw os'/\aw.1=j++(eE cZ q [i]++y):=by
 have:aK.follows Departure.mixedOrders=aE:=dS;have:=Tryz.isAgg47;have C:U d=E j+(E q+(1+E y)):=by rw[<- hs,<- sy,x];grind
 have a1:dk[m]! = i:=by{have:=Cb (d:=dk) (X:=j++q) (u:=i) (Z:=y) (by grind);grind};have HK:=ae aI;have HH:=ae aC;have HG:=ae aF;have R:=ae<|cv C<|cv hs<|cv x<|cv A<|cv F O;have a5:t<=3001:=G;have a0:t<=U d:=G;have aZ:o<=m:=G;have aR:m<t:=G;have:((m:Int)-o==1)=ao:=by grind
 have:((t:Int)-m==1)=aE:=by grind
 clear aI aC aF C x A F O;have⟨w0,hw0⟩:=bi<|fu D.bz k w g ay n dk b;rw[<- hw0];replace hw0:=ae hw0;go_wp2;go_loopg [14,15] (m-o) (λac a8 a9 wr=>∃(c X:Nat),a8=J c/\a9=J X/\o<=c/\c<=X/\X<=m/\X-c<=ac/\ax (∃n b,wr=fu D.bz k w g ay n dk b)/\ax ((c=o\/cZ i dk[c-1]! = ao)/\(X=m\/cZ i dk[X]! = aE)));·exact⟨o,m,af,af,cW _,aZ,cW _,cW _,⟨n,b,hw0⟩,bG af,bG af⟩
 ·(
 obtain⟨c,X,rfl,rfl,am,aU,aH,aV,an,I⟩:=hrel;by_cases a4:c<X;{
 have aW:(c:Int)<X:=G;have⟨h,hh⟩:=dK<|(c+X)/2;have:((c:Int)+X)/2=(h:Int):=G;have:c<=h:=G;have:h<X:=G;have⟨q1,os1,hwr⟩:=V an;have EE:∀n' os',grow (ef wr n') os'=fu D.bz k w g ay (q1+n') dk (os1++os'):=λn' os'=>PI
 have EF:∀n' os',HoldsK D.bz k (grow (ef wr n') os') g ay dk:=λn' os'=>PO
 have⟨e,hy⟩:=dK<|dk[h]!;have ba:∀n' os',Sem.run aK (loadCellsFrom (M g<|ay+h*k) 0 k #[]) (grow (ef wr n') os')=.ok (dl<|D.bz e) (grow (ef wr n') os'):=λn' os'=>Qy
 have bj:∀n' os',Sem.run aK (loadCellsFrom (M g<|ay+m*k) 0 k #[]) (grow (ef wr n') os')=.ok (dl<|D.bz i) (grow (ef wr n') os'):=λn' os'=>by rw[<- a1];exact zB (V HK) (EF n' os') m G
 have ap:∀H,bd aK 103 #[ci<|dl<|D.bz i,ci<|dl<|D.bz e] H λab aj=>ab=bg (J<|n5 i e)/\∃n os',aj=grow (ef H n) os':=λH=>Hi i e H;have Q:=ae ap;have al:=ae EE;have:(h:Int)<U d:=G;have:(m:Int)<U d:=G;have aM:=ae hy;have:=ae hh;have:=ae a1;clear EE EF hwr hh hy ap a1;generalize N:n5 i e=a2 at Q;replace N:=ae N;by_cases ad:a2<0;{
 go_wp2;go_quiet_grown (first|(go_at_call 103;refine Calls.grown_of<|Q _));go_wp2;go_roundg (h-c);case measure=>omega
 ·(refine⟨c,h,af,dS,am,G,G,cW _,⟨_,_,V al _ _⟩,I.1,bE ?_⟩;show ltOf n5 i dk[h]! = aE;rw[V aM];unfold ltOf;rw[V N];simp_all)};{
 have:=gD ad;replace ad:=ae ad;go_wp2;go_quiet_grown (first|(go_at_call 103;refine Calls.grown_of<|Q _));go_wp2;go_roundg (X-(h+1));case measure=>omega
 ·(refine⟨h+1,X,dS,af,G,G,aH,cW _,⟨_,_,V al _ _⟩,bE ?_,I.2⟩;show ltOf n5 i dk[h]! = ao;rw[V aM];rw[ltOf,V N];assumption)}};{
 have aW:¬(c:Int)<X:=G;obtain rfl:c=X:=G;obtain⟨l,hT⟩:∃l,c=o+l:=⟨c-o,G⟩;have dO:ax (eE cZ q [i]=amA l q++i::bh l q):=by{
 have⟨C,hs',x,A,F,O⟩:=V R;have⟨B,h2⟩:=V I;have hat:∀Z (h:Z<E q),dk[o+Z]! = q[Z]:=λZ h=>A▸G_ x h
 rw[ax];conv=>lhs;rw[<- lP l q]
 refine abh cZ F (by rw[lP];omega) (λe a1=>?_) λe a1=>?_;{have⟨h0,h3,h4⟩:=Ha G a1;rcases B with B|B;{omega};{rw[show c-1=o+(l-1)from G,hat _ h0,h4]at B;exact B}};{have⟨h0,h4⟩:=Hb a1;exact Pj}};have aY:l<=E q:=G;have ar:(c:Int)=o+l:=G;have az:=ae<|cv hT ar;have:=ae<|cv aB aA;have:(c:Int)<=3001:=G;have⟨L,hL⟩:=dK<|E q;have T:o+L=m:=G;clear hT ar aA I aB;go_wp2;go_loopg [17] (L-l) (λac a7 wr=>∃(Z:Nat),a7=J (o+Z:Nat)/\l+ac=Z/\Z<=L/\ax (∃n b dk1,wr=fu D.bz k w g ay n dk1 b/\U dk1=U d/\dk1.1=j++(amA Z q++i::(bh Z q++y))));·(have⟨q1,os1,hwr⟩:=V an;have⟨C,hs',x,A,F,O⟩:=V R;refine⟨L,by first|(rw[T])|go_num,G,cW _,q1,os1,dk,hwr,hs,?_⟩;rw[<- hL,ld,w_,jz];exact x)
 ·(
 obtain⟨Z,rfl,S,av,HW⟩:=hrel;by_cases aq:l<Z;{
 have⟨p,hp⟩:=dK<|o+Z;rw[hp];have aX:(c:Int)<p:=cj az.2
 have aT:p<=3001:=G;have⟨q1,os1,dk1,hwr,hs1,eY⟩:=V HW;have P:HoldsK D.bz k (bq wr) g ay dk1:=by rw[hwr];exact zx D.bz k w g ay d dk1 _ _ (V HH) (V HG) hs1
 obtain⟨r,ah⟩:∃r,r+1=p:=⟨p-1,G⟩;have aN:=zB (V HK) P p G;have aP:=zB (V HK) P r G;have⟨s1,s2⟩:=Tm (V HK) P p r G G;have W:ax (∃n b aa,(((bq wr).setCells g (ay+p*k)<|D.bz dk1[r]!).setCells g (ay+r*k)<|D.bz dk1[p]!)=fu D.bz k w g ay n aa b/\U aa=U d/\aa.1=j++(amA (Z-1) q++i::(bh (Z-1) q++y))):=by{refine⟨q1+1,os1,swp dk1 p r,?_,by rw[size_swp];omega,?_⟩;{exact Pq};{have C:=V R;obtain⟨z,rfl⟩:∃z,Z=z+1:=⟨Z-1,G⟩;have au:z<E q:=G;rw[iH au]at eY;have aJ:=G5 (d:=dk1) (X:=j++amA z q) (Y:=[]) (Z:=bh (z+1) q++y) (u:=q[z]) (v:=i) (by rw[eY];exact FX);rw[show(j++amA z q).length=r from cx,show r+1+E ([]:List D)=p from ah]at aJ;rw[Tf _ G,aJ,GR,lA au];exact FX}};have⟨xr,Ah⟩:=dK<|dk1[r]!;have⟨xp,Ag⟩:=dK<|dk1[p]!;rw[Ah]at aP s1;rw[Ag]at aN;rw[Ag,Ah]at s2 W;have⟨cP,yO⟩:=dK<|D.bz xp;have⟨cR,yP⟩:=dK<|D.bz xr;have bc:E cP=k:=by rw[<- yO];exact HK _
 have bf:E cR=k:=by rw[<- yP];exact HK _
 rw[yO,yP]at W s2;rw[yP]at aP s1;rw[yO]at aN;have:(p:Int)<U d:=G;have:(r:Int)<U d:=G;have:(p:Int)-1=r:=G;have:=jW (p:Int)
 have:=jW (r:Int)
 have:0<=(p:Int):=G;have:0<=(r:Int):=G;have K:ax (l+gk=Z/\l<Z/\o+Z=p/\r+1=p/\Z<=L/\o+L=m/\m<t/\t<=3001):=⟨S,aq,hp,ah,av,T,aR,a5⟩;clear P hwr hs1 eY HW yO yP Ah Ag ah S aq hp aY hs aU am aV aH a4 a3 aR a0 hL T av;go_wp2;clear aT aX;go_big_region_o;all_goals(
 have aT:p<=3001:=cj<|V K
 have:1<=p:=cj<|V K
 go_wp2;go_roundg (Z-1-l);case measure=>have:=V K;omega
 ·(have S:=V K;exact⟨Z-1,by rw[show o+(Z-1)=p-1 from G];first|rfl|go_num,G,G,W⟩))};{
 obtain rfl:Z=l:=G;have⟨p,hp⟩:=dK<|o+Z;have:¬(c:Int)<p:=cj az.2
 exact Q4})})
end
section
open Go.RowKit Go.Sort Go.Shelf
def SX{a:Array D}(h:HoldsK D.bz 4 b d 0 a){j:Nat}(k:j<U a):aD b (M d<|j*4)=ag (amz<|O a[j]!.owner)/\aD b (M d<|j*4+1)=ag (J a[j]!.aP)/\aD b (M d<|j*4+2)=ag (J a[j]!.type)/\aD b (M d<|j*4+3)=ag (amz<|O a[j]!.data):=by have e:∀c (g:c<4),aD b (M d<|j*4+c)=ag (D.bz a[j]!)[c]!:=λc g=>by{have:=(h.cell (i:=j) (c:=c) k g).1;rwa [g8]at this};exact⟨e 0 G,e 1 G,e 2 G,e 3 G⟩
def Mk(h n:Nat)(j:Array D)(l:aQ)(f:Nat):Prop :=
 ∀(c m e r:Nat) (g:Array D) (p:Array Obj) (d a b i:List D),U g=U j->g.1=d++(a++(b++i))->E d=c->c+E a=m->m+E b=e->0<E a->0<E b->il cZ a->il cZ b->e-c<=f ->
  bd aK 232 #[bC h 0 (U j) n,J c,J m,J e,fc (.func 103) #[] #[]] (fu D.bz 4 l h 0 r g p) λo u =>
   o=bg (bX #[])/\∃t q k,u=fu D.bz 4 l h 0 t k q/\k.1=d++(eE cZ a b++i)
def aaN(C:nX cZ){g:Array D}{Z:List D}{s s0 r0 e2:Nat}(x:g.1=j++(q++(y++Z)))(c:E j=a)(O:a+E q=d)(N:d+E y=o)(z:il cZ q)(A:il cZ y)(M:(a+o)/2=h)(R:s0<=s)(S:s<=r0)(Q:e2+s=h+d)(P:(h<d/\s0+o=h+d/\r0=h)\/(d<=h/\s0=a/\r0=d))(k:s=s0\/cZ g[e2]! g[s-1]! = ao)(l:s=r0\/cZ g[e2-1]! g[s]! = aE):∃n r X t,q=n++r/\y=X++t/\a+E n=s/\d+E X=e2/\eE cZ q y=eE cZ n X++eE cZ r t/\a<=s/\s<=d/\d<=e2/\e2<=o:=by
 have F:a<=s:=G;have H:s<=d:=G;have I:d<=e2:=G;have J:e2<=o:=G;have u:∀e (i:e<E q),g[a+e]! = q[e]:=λe i=>by rw[<- c];exact G_ x i
 have w:∀e (i:e<E y),g[d+e]! = y[e]:=λe i=>by{have:=G_ (d:=g) (X:=j++q) (B:=y) (Z:=Z) (by rw[x];simp) i;rw[show(j++q).length=d from cx]at this;exact this};refine⟨amA (s-a) q,bh (s-a) q,amA (e2-d) y,bh (e2-d) y,bZ<|lP _ _,bZ<|lP _ _,cx,cx,?_,F,H,I,J⟩;conv=>lhs;rw[<- lP (s-a) q,<- lP (e2-d) y]
 refine abi cZ C (by rw[lP];exact z) (by rw[lP];exact A) (λK L p m=>?_) λK L p m=>?_;{have⟨x1,x2,x3⟩:=Ha G p;have⟨y1,y2⟩:=Hb m;rcases k with k|k;{omega};{rw[show s-1=a+(s-a-1)from G,u _ x1,x3,show e2=d+(e2-d)from G,w _ y1,y2]at k;exact k}};{have⟨x1,x2⟩:=Hb p;have⟨y1,y2,y3⟩:=Ha G m;rcases l with l|l;{omega};{rw[show e2-1=d+(e2-d-1)from G,w _ y1,y3,show s=a+(s-a)from G,u _ x1,x2]at l;exact l}}
def aaO{h k r f:Nat}{p i:Array D}{m:Array Obj}{u:List D}(bf:HoldsK D.bz 4 b a 0 p)(bk:a<U b.1)(aq:U i=U p)(bx:U p<=3001)(T:i.1=j++(q++(y++u)))(B:E j=h)(ac:h+E q=o)(ab:o+E y=k)(bU:2<=E q)(bL:2<=E y)(au:nX cZ)(R:il cZ q)(S:il cZ y)(K:k-h<=f+1)(a6:Mk a d p b f):bd aK 232 #[bC a 0 (U p) d,J h,J o,J k,fc (.func 103) #[] #[]] (fu D.bz 4 b a 0 r i m) λbD bS=>bD=bg (bX #[])/\∃av A Q,bS=fu D.bz 4 b a 0 av Q A/\Q.1=j++(eE cZ q y++u):=by
 have:aK.follows Departure.mixedOrders=aE:=b8;have ar:U p=E j+(E q+(E y+E u)):=by rw[<- aq,<- sy,T];simp
 have⟨e,PX⟩:=dK<|(h+k)/2;have⟨L,jQ⟩:=dK<|e+o;obtain⟨n,aC⟩:∃n,n+1=L:=⟨L-1,G⟩;obtain⟨s0,r0,bj⟩:∃s0 r0,(e<o/\s0+k=e+o/\r0=e)\/(o<=e/\s0=h/\r0=o):=by{by_cases l:e<o;{exact⟨e+o-k,e,bG ⟨l,G,af⟩⟩};{exact⟨h,o,bE ⟨G,af,af⟩⟩}};have a8:s0<=r0:=G;have bu:r0<=o:=G;have bv:h<=s0:=G;have bM:n<s0+k:=G;have bw:o+r0<=n+1:=G;have:((h:Int)+k)/2=(e:Int):=G;have:(e:Int)+o=L:=G;have:(L:Int)-1=n:=G;have:k<=3001:=G;have:k<=U p:=G;have:h<o:=G;have:o<k:=G;have:h<e:=G;have:e<k:=G;have b0:((o:Int)-h==1)=ao:=kB
 have bY:((k:Int)-o==1)=ao:=kB
 have:L<=6002:=G;have:n<=6002:=G;have a5:=ae bf;have a4:=ae bk;have a9:=ae a6;have aR:ax (U p=E j+(E q+(E y+E u))/\U i=U p/\i.1=j++(q++(y++u))/\E j=h/\h+E q=o/\o+E y=k/\nX cZ/\il cZ q/\il cZ y/\(h+k)/2=e/\e+o=L/\n+1=L/\k-h<=f+1):=⟨ar,aq,T,B,ac,ab,au,R,S,PX,jQ,aC,K⟩;have bo:=ae bj;clear bf bk ar T B ac ab R S au PX jQ aC bU bL a6 K bj;have⟨w0,hw0⟩:=bi<|fu D.bz 4 b a 0 r i m;rw[<- hw0];replace hw0:=ae hw0;go_in;go_upto_if 140 with fail;go_cut [20,21]from 138 λbO bP M=>bO=J s0/\bP=J r0/\M=w0;·(rcases V bo with⟨F,H,N⟩|⟨F,H,N⟩;{have bT:(e:Int)<o:=G;have:(L:Int)-k=s0:=G;clear F H;go_wp2;go_meet;·exact⟨by first|rfl|go_num,by rw[N],af⟩};{have bT:¬(e:Int)<o:=G;clear F;go_wp2;go_meet;·exact⟨by rw[H],by rw[N],af⟩})
 ·(
 obtain⟨rfl,rfl,rfl⟩:=hcut;go_wp2;go_loopg [20,21] (r0-s0) (λbI bQ bR wr=>∃(t z:Nat),bQ=J t/\bR=J z/\s0<=t/\t<=z/\z<=r0/\z-t<=bI/\ax (∃r m,wr=fu D.bz 4 b a 0 r i m)/\ax ((t=s0\/cZ i[n-(t-1)]! i[t-1]! = ao)/\(z=r0\/cZ i[n-z]! i[z]! = aE)));·exact⟨s0,r0,af,af,cW _,a8,cW _,cW _,⟨r,m,hw0⟩,bG af,bG af⟩
 ·(
 obtain⟨t,z,rfl,rfl,aH,bp,aZ,br,aP,az⟩:=hrel;by_cases b2:t<z;{
 have bs:(t:Int)<z:=G;have⟨l,hh⟩:=dK<|(t+z)/2;have:((t:Int)+z)/2=(l:Int):=G;have:t<=l:=G;have:l<z:=G;obtain⟨C,bl⟩:∃C,C+l=n:=⟨n-l,G⟩;have:(n:Int)-l=C:=G;have:C<U p:=G;have:=jW (C:Int)
 have b1:IntKind.i64.wrap ((n:Int)-l)=(C:Int):=fT
 have:l<=n:=G;have:(C:Int)<U p:=G;have⟨q1,os1,hwr⟩:=V aP;have aI:∀g A,grow (ef wr g) A=fu D.bz 4 b a 0 (q1+g) i (os1++A):=λg A=>by rw[hwr];exact sortWorldK_grown_c D.bz 4 b a 0 q1 g i os1 A
 have aJ:∀g A,HoldsK D.bz 4 (grow (ef wr g) A) a 0 i:=λg A=>by rw[aI];exact zx D.bz 4 b a 0 p i _ _ (V a5) (V a4) aq
 have⟨x,hx⟩:=dK<|i[l]!;have⟨aW,hy⟩:=dK<|i[C]!;have ad:∀g A,_:=λg A=>SX (aJ g A) (j:=l) G;have ah:∀g A,_:=λg A=>SX (aJ g A) (j:=C) G;rw[hx]at ad;rw[hy]at ah;have:=λg A=>(ad g A).1;have:=λg A=>(ad g A).2.1;have:=λg A=>(ad g A).2.2.1;have:=λg A=>(ad g A).2.2.2;have:=λg A=>(ah g A).1;have:=λg A=>(ah g A).2.1;have:=λg A=>(ah g A).2.2.1;have:=λg A=>(ah g A).2.2.2;have a7:=λbt=>Hi aW x bt;have aM:=ae a7;have a3:=ae aI;have:(l:Int)<U p:=G;have bn:ax (i[l]! = x/\i[C]! = aW/\(t+z)/2=l/\C+l=n):=⟨hx,hy,hh,bl⟩;clear aI aJ hwr hh hy a7 hx ad ah bl;generalize aA:n5 aW x=bB at aM;replace aA:=ae aA;by_cases aB:bB<0;{
 go_wp2;go_quiet_grown (first|(go_at_call 103;refine Calls.grown_of<|aM _));go_wp2;go_roundg (l-t);case measure=>omega
 case rel =>(refine⟨t,l,af,by first|rfl|go_num,aH,G,G,cW _,⟨_,_,V a3 _ _⟩,az.1,bE ?_⟩;show ltOf n5 i[n-l]! i[l]! = aE;obtain⟨aX,e2,bF,bH⟩:=V bn;rw[show n-l=C from G,aX,e2];unfold ltOf;rw[V aA];exact mL aB)};{
 have:=gD aB;have bz:=ae aB;clear aB;go_wp2;go_quiet_grown (first|(go_at_call 103;refine Calls.grown_of<|aM _));go_wp2;go_roundg (z-(l+1));case measure=>omega
 ·(refine⟨l+1,z,by first|rfl|go_num,af,G,G,aZ,cW _,⟨_,_,V a3 _ _⟩,bE ?_,az.2⟩;show ltOf n5 i[n-l]! i[l]! = ao;have⟨aX,e2,bF,bH⟩:=V bn;rw[show n-l=C from G,aX,e2];unfold ltOf;rw[V aA];exact gD<|cj<|V bz)}};{
 have bs:¬(t:Int)<z:=G;obtain rfl:t=z:=G;obtain⟨e2,ba⟩:∃e2,e2+t=L:=⟨L-t,G⟩;have:(L:Int)-t=e2:=G;have bc:=by{have⟨ar,hs',T,B,ac,ab,au,R,S,PX,jQ,aC,K⟩:=V aR;have⟨F,H⟩:=V az;have bJ:t=s0\/cZ i[e2]! i[t-1]! = ao:=by{rcases F with l|l;{exact .inl l};{by_cases b3:t=0;{exact bG G};{right;rw[show e2=n-(t-1)from G];exact l}}};exact ae<|aaN au (s:=t) (s0:=s0) (r0:=r0) (e2:=e2) T B ac ab R S PX aH aZ G (V bo) bJ (H.imp id λl=>by rw[show e2-1=n-t from G];exact l)};have⟨A1,A2,B1,B2,v1,v2,v3,v4,v5,v6,v7,v8,v9⟩:=V bc;have aY:ax (∃r m c,wr=fu D.bz 4 b a 0 r c m/\U c=U p/\c.1=j++(A1++(A2++(B1++(B2++u))))):=by{have⟨ar,hs',T,_⟩:=V aR;have⟨q1,os1,hwr⟩:=V aP;exact⟨q1,os1,i,hwr,aq,by rw[T,v1,v2];simp⟩};have X:ax (il cZ A1/\il cZ A2/\il cZ B1/\il cZ B2/\E j=h/\h+E A1=t/\t+E A2=o/\o+E B1=e2/\e2+E B2=k/\h+E A1+E B1=e/\k-h<=f+1/\eE cZ q y=eE cZ A1 B1++eE cZ A2 B2):=by{have⟨ar,hs',T,B,ac,ab,au,R,S,PX,jQ,aC,K⟩:=V aR;rw[v1]at R ac;rw[v2]at S ab;rw[dE]at ac ab;exact⟨(pL.1 R).1,(pL.1 R).2.1,(pL.1 S).1,(pL.1 S).2.1,B,v3,G,v4,G,G,K,v5⟩};have:=ae ba;clear v1 v2 v3 v4 v5 bc az aH bp aZ br ba aP aq bM bw bv a8 bu;obtain⟨aT,Y⟩:∃an:Bool,an=dQ (t<o/\o<e2):=⟨_,af⟩;replace Y:=ae Y;go_upto_region 39 with fail;go_cut [185]from 178 λv M=>v=aG aT/\M=wr;·(by_cases bA:t<o;{have al:(t:Int)<o:=G;by_cases P:o<e2;{have am:(o:Int)<e2:=G;go_wp2;go_meet;·exact⟨fE aG<|bZ<|c_ Y<|mL<|cv bA P,af⟩};{have am:¬(o:Int)<e2:=G;go_wp2;go_meet;·exact⟨fE aG<|bZ<|c_ Y<|gD λl=>P l.2,af⟩}};{have al:¬(t:Int)<o:=G;go_wp2;go_meet;·exact⟨fE aG<|bZ<|c_ Y<|gD λl=>bA l.1,af⟩})
 ·(
 obtain⟨rfl,rfl⟩:=hcut;go_upto_if 185 with fail;go_cut [24]from 178 λa1 M=>a1=J e2/\ax (∃r m c,M=fu D.bz 4 b a 0 r c m/\U c=U p/\c.1=j++(A1++(B1++(A2++(B2++u)))));·(have⟨q1,os1,c,hwr,hs1,eY⟩:=V aY;by_cases w:t<o/\o<e2;{obtain rfl:aT=aE:=c_ Y<|mL w;have bb:=by{have⟨_,_,_,_,B,F,H,N,h4,h5,K,_⟩:=V X;exact ae<|abf d q1 os1 (j++A1) (B2++u) (V a5) (V a4) hs1 bx (by rw[eY];simp) cx H N G G};rw[<- hwr]at bb;clear hwr hs1 eY w;go_wp2_with fail;refine bb.m ?_;rintro ay ⟨aw,ap,W,O⟩;have I:ax (∃r m c,ay=fu D.bz 4 b a 0 r c m/\U c=U p/\c.1=j++(A1++(B1++(A2++(B2++u))))):=by{refine⟨aw,os1,ap,W,?_,by rw[O];simp⟩;have⟨q1,os1,c,hwr,hs1,eY⟩:=V aY;rw[<- hs1,<- sy,<- sy,eY,O];simp;omega};clear W O;go_wp2;go_meet;·exact⟨af,I⟩};{obtain rfl:aT=ao:=c_ Y<|gD w;have I:ax (∃r m c,wc=fu D.bz 4 b a 0 r c m/\U c=U p/\c.1=j++(A1++(B1++(A2++(B2++u))))):=by{refine⟨q1,os1,c,hwr,hs1,?_⟩;have⟨_,_,_,_,B,F,H,N,h4,h5,K,_⟩:=V X;rw[eY];by_cases aN:t<o;{have:B1=[]:=rT.1 G;rw[this];simp};{have:A2=[]:=rT.1 G;rw[this];simp}};clear hwr hs1 eY w;go_wp2;go_meet;·exact⟨af,I⟩})
 ·(
 obtain⟨rfl,aF⟩:=hcut;have⟨wa,PZ⟩:=dK wc;rw[PZ]at aF ⊢;clear PZ aY;obtain⟨aU,Z⟩:∃an:Bool,an=dQ (h<t/\t<e):=⟨_,af⟩;replace Z:=ae Z;go_upto_region 41 with fail;go_cut [199]from 192 λv M=>v=aG aU/\M=wa;·(by_cases bA:h<t;{have al:(h:Int)<t:=G;by_cases P:t<e;{have am:(t:Int)<e:=G;go_wp2;go_meet;·exact⟨fE aG<|bZ<|c_ Z<|mL<|cv bA P,af⟩};{have am:¬(t:Int)<e:=G;go_wp2;go_meet;·exact⟨fE aG<|bZ<|c_ Z<|gD λl=>P l.2,af⟩}};{have al:¬(h:Int)<t:=G;go_wp2;go_meet;·exact⟨fE aG<|bZ<|c_ Z<|gD λl=>bA l.1,af⟩})
 ·(
 obtain⟨rfl,rfl⟩:=hcut;go_upto_if 199 with fail;go_cut [24]from 192 λa1 M=>a1=J e2/\ax (∃r m c,M=fu D.bz 4 b a 0 r c m/\U c=U p/\c.1=j++(eE cZ A1 B1++(A2++(B2++u))));·(have⟨q1,os1,c,hwr,hs1,eY⟩:=V aF;by_cases w:h<t/\t<e;{obtain rfl:aU=aE:=c_ Z<|mL w;have aj:=by{have⟨aBO,_,aBP,_,B,F,H,N,h4,h5,K,_⟩:=V X;exact ae<|a9 h t e q1 c os1 j A1 B1 (A2++(B2++u)) hs1 eY B F G G G aBO aBP G};rw[<- hwr]at aj;clear hwr hs1 eY w;go_wp2_with fail;refine aj.m ?_;rintro ay ⟨aw,a0,ap,W,O⟩;have I:ax (∃r m c,ay=fu D.bz 4 b a 0 r c m/\U c=U p/\c.1=j++(eE cZ A1 B1++(A2++(B2++u)))):=by{refine⟨aw,a0,ap,W,?_,O⟩;have⟨q1,os1,c,hwr,hs1,eY⟩:=V aF;rw[<- hs1,<- sy,<- sy,eY,O];simp[EH];omega};clear W O;go_wp2;go_meet;·exact⟨af,I⟩};{obtain rfl:aU=ao:=c_ Z<|gD w;have I:ax (∃r m c,wc=fu D.bz 4 b a 0 r c m/\U c=U p/\c.1=j++(eE cZ A1 B1++(A2++(B2++u)))):=by{refine⟨q1,os1,c,hwr,hs1,?_⟩;have⟨_,_,_,_,B,F,H,N,h4,h5,K,_⟩:=V X;rw[eY];by_cases aN:h<t;{have:B1=[]:=rT.1 G;rw[this];simp};{have:A1=[]:=rT.1 G;rw[this];simp}};clear hwr hs1 eY w;go_wp2;go_meet;·exact⟨af,I⟩})
 ·(
 obtain⟨rfl,a2⟩:=hcut;have⟨wb,MG⟩:=dK wc;rw[MG]at a2 ⊢;clear MG aF;obtain⟨aV,aa⟩:∃an:Bool,an=dQ (e<e2/\e2<k):=⟨_,af⟩;replace aa:=ae aa;go_upto_region 43 with fail;go_cut [213]from 206 λv M=>v=aG aV/\M=wb;·(by_cases bA:e<e2;{have al:(e:Int)<e2:=G;by_cases P:e2<k;{have am:(e2:Int)<k:=G;go_wp2;go_meet;·exact⟨fE aG<|bZ<|c_ aa<|mL<|cv bA P,af⟩};{have am:¬(e2:Int)<k:=G;go_wp2;go_meet;·exact⟨fE aG<|bZ<|c_ aa<|gD λl=>P l.2,af⟩}};{have al:¬(e:Int)<e2:=G;go_wp2;go_meet;·exact⟨fE aG<|bZ<|c_ aa<|gD λl=>bA l.1,af⟩})
 ·(obtain⟨rfl,rfl⟩:=hcut;have⟨q1,os1,c,hwr,hs1,eY⟩:=V a2;by_cases w:e<e2/\e2<k;{obtain rfl:aV=aE:=c_ aa<|mL w;have aj:=by{have⟨_,aBQ,_,sB2,B,F,H,N,h4,h5,K,_⟩:=V X;exact ae<|a9 e e2 k q1 c os1 (j++eE cZ A1 B1) A2 B2 u hs1 (by rw[eY];simp) (by simp[EH];omega) G h4 G G aBQ sB2 G};rw[<- hwr]at aj;clear hwr hs1 eY w;go_wp2_with fail;refine aj.m ?_;rintro ay ⟨aw,a0,ap,W,O⟩;have I:ax (∃av A Q,ay=fu D.bz 4 b a 0 av Q A/\Q.1=j++(eE cZ q y++u)):=by{have⟨_,_,_,_,_,_,_,_,_,_,_,bK⟩:=V X;exact⟨aw,a0,ap,W,by rw[O,bK];simp⟩};clear W O;go_wp2;go_end0;exact⟨af,I⟩};{obtain rfl:aV=ao:=c_ aa<|gD w;have I:ax (∃av A Q,wc=fu D.bz 4 b a 0 av Q A/\Q.1=j++(eE cZ q y++u)):=by{have⟨_,_,_,_,B,F,H,N,h4,h5,K,bK⟩:=V X;refine⟨q1,os1,c,hwr,?_⟩;rw[eY,bK];by_cases aN:e<e2;{have:B2=[]:=rT.1 G;rw[this];simp};{have:A2=[]:=rT.1 G;rw[this];simp}};clear hwr hs1 eY w;go_wp2;go_end0;exact⟨af,I⟩})))))}))
end
section
open Go.RowKit Go.Sort Go.Shelf
section
variable {α:Type} (lt:α->α->Bool)
def iV(s:Nat)(a:List α):List α:=if E a<=s\/s=0 then kT lt a else kT lt (amA s a)++iV s (bh s a)
termination_by (E a)
decreasing_by grind
theorem wn{s l}(a:E l<=s):iV lt s l=kT lt l:=by rw[iV,b7<|bG a]
theorem Ak(s):iV lt s ([]:List α)=[]:=by rw[wn lt aA];rfl
theorem Ud(s):∀(f:Nat) (a:List α),E a<=f->E (iV lt s a)=E a
 | 0,a,b=>by obtain rfl:a=[]:=rT.1 G;rw[Ak]
 | f+1,a,b=>by rw[iV];split;{exact EI lt a};{rw[dE,EI,Ud s f _<|by grind];grind}
theorem B0(g:0<a)(b):∀(d:Nat) (s:List α),E s=a*d->iV lt a (s++b)=iV lt a s++iV lt a b
 | 0,s,e=>by obtain rfl:s=[]:=rT.1 G;rw[Ak];rfl
 | d+1,s,e=>by
  have j:a<=E s:=by grind
  have l:=B0 g b d (bh a s) (by grind);have h:iV lt a s=kT lt (amA a s)++iV lt a (bh a s):=by{by_cases c:E s<=a;{rw[wn lt c,oT c,sh c,Ak,mw]};{conv=>lhs;rw[iV,bJ G]}};by_cases k:E (s++b)<=a;{have i:b=[]:=rT.1 (by grind);grind};{
  conv=>lhs;rw[iV,bJ G]
  grind}
theorem aaP(d:0<a){s b c}(e:E s=a):iV lt a (s++(b++c))=kT lt s++iV lt a (b++c):=by rw[B0 lt d _ 1 s G,wn lt G]
end
def Hc:∀a,ph a a=ao
 | []=>af
 | b::a=>by rw[ph,Hc a];simp
def Ml:∀c d e,ph c d=aE->ph d e=aE->ph c e=aE
 | _,_,[],_,a=>by cases ‹List UInt8›<;>simp[ph]at a
 | _,[],_::_,a,_=>by cases ‹List UInt8›<;>simp[ph]at a
 | [],_::_,_::_,_,_=>af
 | g::c,h::d,i::e,a,b=>by simp only[ph,vY,fx,sq,jy]at a b ⊢;rcases a with a|⟨rfl,a⟩;{grind};{rcases b with b|⟨rfl,b⟩;{grind};{exact bE ⟨af,Ml _ _ _ a b⟩}}
def Mp:∀b c,ph b c=ao->ph c b=ao->b=c
 | [],[],_,_=>af
 | [],_::_,a,_=>by simp[ph]at a
 | _::_,[],_,a=>by simp[ph]at a
 | g::b,h::c,a,e=>by simp only[ph,DQ,BQ,Ei,kE]at a e;have k:g=h:=by{grind};subst k;have i:=a.2.elim (λd=>absurd af d) id;have j:=e.2.elim (λd=>absurd af d) id;rw[Mp b c i j]
def Am(a s):cZ a s=aE ↔ (ph a.owner s.owner=aE\/(a.owner=s.owner/\a.type<s.type)):=by unfold cZ ltOf n5 B6 AF Lib.compareInt;grind
def ws:nX cZ:=by
 refine⟨λg k l d e=>?_,λg k l d e=>?_⟩;{rw[Am]at *;rcases d with d|⟨i,n⟩;{rcases e with e|⟨p,t⟩;{exact bG<|Ml _ _ _ d e};grind};grind};{
 have j:∀a b:D,cZ a b=ao->ph a.owner b.owner=ao/\(a.owner=b.owner->¬a.type<b.type):=λa b c=>by{
 have o:¬cZ a b=aE:=by grind
 rw[Am]at o;grind};have⟨i,n⟩:=j _ _ d;have p:=j _ _ e;cases c:cZ g l;{rfl};{exfalso;rw[Am]at c;cases h:ph k.owner g.owner;{have:=Mp _ _ i h;grind};{rcases c with c|⟨q,r⟩;{have:=Ml _ _ _ h c;grind};grind}}}
def B3(b):cZ b b=ao:=by cases a:cZ b b;{rfl};{rw[Am]at a;rcases a with a|⟨_,a⟩;{rw[Hc]at a;cases a};{omega}}
def Ue(g q b k)(h:HoldsK D.bz 4 k g 0 b)(i:g<U k.1)(a:U b<=3001):∀f,Mk g q b k f
 | 0=>λz m A J B I x o p y j u c e d H r l n t=>by omega
 | f+1=>λz m A J B I x o p y j u c e d H r l n t=>by have w:=Ue g q b k h i a f;by_cases C:E o=1;{obtain⟨K,rfl⟩:=GJ.1 C;exact aaL (λ_=>af) Tryz.sizeOf47 h i j a (by grind) c e d r ws n};{by_cases F:E p=1;{obtain⟨L,rfl⟩:=GJ.1 F;exact aaM (λ_=>af) Tryz.sizeOf47 h i j a (by grind) c e d G ws l};{exact aaO h i j a u c e d G G ws l n t w}}
def aaR(a n g d i e b h c)(u:HoldsK D.bz 4 c a 0 e)(j:a<U c.1)(q:U b=U e)(x:U e<=3001)(w:g<=d)(y:d<=U e):bd aK 231 #[bC a 0 (U e) n,J g,J d,fc (.func 103) #[] #[]] (fu D.bz 4 c a 0 i b h) λo r=>o=bg (bX #[])/\∃l k,r=fu D.bz 4 c a 0 l (Sort.insertionSort cZ b g d) k:=by have t:=zx D.bz 4 c a 0 e b i h u j q;have p:=AnyQ.insertionSortCmpFunc Tryz.ayk 4 Tryz.isAgg47 Tryz.sizeOf47 D.bz (λ_=>af) EK n5 103 #[] a 0 n g d b (fu D.bz 4 c a 0 i b h) (enters_of Tryz.func103 dS af) (aan _ _ _ _) t (e8 j<|size_sortWorldK_c D.bz 4 c a 0 i b h) w G G;rw[q]at p;refine Calls.mono p ?_;rintro o r ⟨rfl,l,k,rfl⟩;exact⟨af,_,_,Tj i l (Sort.insertionSort cZ b g d) h k j<|Hj _ _ _ _⟩
end
section
open Go.RowKit Go.Sort Go.Shelf
def Es:E (iV cZ a j)=E j:=Ud cZ a _ j bv
def Uf{rs:List D}{dk t c}(d:dk.1=iV cZ 20 (amA (20*t) rs)++bh (20*t) rs)(e:20*t<=E rs)(g:c<=20)(h:20*t+c<=E rs)(i:c=20\/20*t+c=E rs):(Sort.insertionSort cZ dk (20*t)<|20*t+c).1=iV cZ 20 (amA (20*t+c) rs)++bh (20*t+c) rs:=by
 have a:E (iV cZ 20<|amA (20*t) rs)=20*t:=by rw[Es,jF];omega
 have b:E (amA c<|bh (20*t) rs)=c:=by grind
 have:=Ti cZ ws B3 (iV cZ 20<|amA (20*t) rs) (amA c<|bh (20*t) rs) (bh c<|bh (20*t) rs) dk (by rw[d,lP]);rw[a,b]at this;rw[this,pk,<- jI];congr 1;rw[GQ,B0 cZ G _ t _<|by grind,wn cZ (l:=amA c<|bh (20*t) rs) G]
def Uh{rs:List D}{dk:Array D}{s t a c}(k:0<s)(x:a=2*s*t)(q:dk.1=iV cZ (2*s) (amA a rs)++iV cZ s (bh a rs))(y:c<=s)(w:0<c)(z:a+s+c<=E rs)(h:c=s\/a+s+c=E rs):∃g b d j,dk.1=g++(b++(d++j))/\E g=a/\E b=s/\E d=c/\il cZ b/\il cZ d/\g++(eE cZ b d++j)=iV cZ (2*s) (amA (a+s+c) rs)++iV cZ s (bh (a+s+c) rs):=by
 have o:bh a rs=amA s (bh a rs)++(amA c (bh (a+s) rs)++bh (a+s+c) rs):=by{rw[<- pk (i:=c),lP,<- pk (i:=s),lP]};have n:E (amA s<|bh a rs)=s:=by grind
 have r:E (amA c<|bh (a+s) rs)=c:=by grind
 have p:amA (a+s+c) rs=amA a rs++(amA s (bh a rs)++amA c (bh (a+s) rs)):=by{rw[GQ,GQ,jI]};generalize amA s (bh a rs)=C1,amA c (bh (a+s) rs)=e at *;have u:E (iV cZ (2*s)<|amA a rs)=a:=by rw[Es,jF];omega
 refine⟨iV cZ (2*s)<|amA a rs,kT cZ C1,kT cZ e,iV cZ s<|bh (a+s+c) rs,?_,u,by rw[EI,n],by rw[EI,r],EJ cZ ws B3 _,EJ cZ ws B3 _,?_⟩;{rw[q,o,aaP cZ k n];congr 2;rcases h with h|h;{rw[B0 cZ k _ 1 e G,wn cZ (l:=e) G]};{rw[show bh (a+s+c) rs=[]from sh G,Ak,mw,mw,wn cZ G]}};{rw[p,B0 cZ G _ t (amA a rs)<|by grind,wn cZ (l:=C1++e) (by grind),aa7 cZ ws,jI]}
def aaS(S)(P:HoldsK D.bz 4 b a 0<|dl j)(W:a<U b.1)(al:E j<=3001):bd aK 173 #[bC a 0 (E j) S,J<|E j,fc (.func 103) #[] #[]] b λz aB=>z=bg (bX #[])/\∃e d o,aB=fu D.bz 4 b a 0 e o d/\o.1=kT cZ j:=by
 have⟨n,hn⟩:=bi<|E j;have Q:U (dl j)=n:=by grind
 have M:=ae λe dk d rs i (ay:U dk=U (dl j)) (av:rs<=i) (g:i<=U (dl j))=>aaR a S rs i e (dl j) dk d b P W ay G av g;have N:=ae λf=>Ue a S (dl j) b P W G f;have an:=ae<|abc P;rw[Q]at M;unfold Mk at N;rw[Q]at N;rw[<- hn];have:n<=3001:=G;have x:=ae<|cv hn<|cv Q al;clear P W al hn Q;go_wp2;go_loopg [7,8] (n+20) (λT aa ab wr=>∃(rs t:Nat),aa=J rs/\ab=J (rs+20:Nat)/\ax (rs=20*t)/\rs<=n/\n+20<=T+rs/\ax (∃e d dk,wr=fu D.bz 4 b a 0 e dk d/\U dk=n/\dk.1=iV cZ 20 (amA rs j)++bh rs j));·(refine⟨0,0,af,af,af,G,G,0,#[],dl j,an,x.2.1,?_⟩;rw[tH,Ak];simp)
 ·(
 obtain⟨rs,t,rfl,rfl,r,ah,aI,w⟩:=hrel;have⟨i,g⟩:=dK<|rs+20;rw[g];by_cases Y:i<=n;{
 have R:(i:Int)<=n:=G;have⟨q1,os1,d1,hwr,hs1,eY⟩:=V w;have k:=ae<|M q1 d1 os1 rs i hs1 G G;rw[<- hwr]at k;have p:ax ((Sort.insertionSort cZ d1 rs i).1=iV cZ 20 (amA i j)++bh i j):=by{have z:=V r;have u:=x.1;have:=Uf (rs:=j) (dk:=d1) (t:=t) (c:=20) (by grind) G G G (bG af);grind};have L:ax (U (Sort.insertionSort cZ d1 rs i)=n):=by rw[ax,Hj];omega
 have O:=ae g;have aw:i<=3001:=G;clear hwr hs1 eY g;go_wp2_with fail;refine k.m ?_;rintro am ⟨F,C,H⟩;replace H:=ae H;go_wp2;go_roundg (gk-20);case measure=>omega
 ·(have g:=V O;have z:=V r;refine⟨i,t+1,dS,dS,by grind,Y,G,F,C,_,H,L,p⟩)};{
 have R:¬(i:Int)<=n:=G;have⟨q1,os1,d1,hwr,hs1,eY⟩:=V w;have k:=ae<|M q1 d1 os1 rs n hs1 ah bv;rw[<- hwr]at k;have p:ax ((Sort.insertionSort cZ d1 rs n).1=iV cZ 20 j):=by{have z:=V r;have u:=x.1;have:=Uf (rs:=j) (dk:=d1) (t:=t) (c:=n-rs) (by grind) G G G (bE G);rw[<- z,show rs+(n-rs)=n from G]at this;grind};have L:ax (U (Sort.insertionSort cZ d1 rs n)=n):=by rw[ax,Hj];omega
 clear hwr hs1 eY g;go_wp2_with fail;refine k.m ?_;rintro am ⟨F,C,H⟩;have:ax (∃e d dk,am=fu D.bz 4 b a 0 e dk d/\U dk=n/\dk.1=iV cZ 20 j):=⟨F,C,_,H,L,p⟩;clear H k p L M;go_wp2;go_loopg [6] n (λT az wr=>∃(s:Nat),az=J s/\20<=s/\s<=6002/\n<=s+T/\ax (∃e d dk,wr=fu D.bz 4 b a 0 e dk d/\U dk=n/\dk.1=iV cZ s j));·grind
 ·(
 obtain⟨s,rfl,aJ,aN,aF,ad⟩:=hrel;by_cases aC:s<n;{
 have ap:(s:Int)<n:=G;have⟨h,hs2⟩:=bi<|2*s;have:2*s=(h:Int):=G;have:(s:Int)*2=h:=G;have aj:h<=6002:=G;have:s<h:=G;replace hs2:=ae hs2;go_wp2;go_loopg [7,8] n (λau aa ab wr=>∃(rs t:Nat),aa=J rs/\ab=J (rs+h:Nat)/\ax (rs=2*s*t)/\rs<=n/\n<=au+rs/\ax (∃e d dk,wr=fu D.bz 4 b a 0 e dk d/\U dk=n/\dk.1=iV cZ (2*s) (amA rs j)++iV cZ s (bh rs j)));·(have⟨q1,os1,d1,hwr,hs1,eY⟩:=V ad;refine⟨0,0,af,aA,af,G,G,q1,os1,d1,hwr,hs1,?_⟩;rw[tH,Ak,sk];exact eY)
 ·(
 obtain⟨rs,t,rfl,rfl,r,ah,aH,w⟩:=hrel;have⟨i,g⟩:=dK<|rs+h;rw[g];have⟨m,hm⟩:=dK<|rs+s;have:(rs:Int)+s=m:=G;have:m<=6002:=G;by_cases Y:i<=n;{
 have R:(i:Int)<=n:=G;have⟨q1,os1,d1,hwr,hs1,eY⟩:=V w;have u:=x.1;have q:=V hs2;have⟨X,A',B',Z,k1,k2,k3,k4,k5,k6,k7⟩:=Uh (rs:=j) (dk:=d1) (s:=s) (t:=t) (a:=rs) (c:=s) G (V r) eY bv G G (bG af);have k:=ae<|N (i-rs) rs m i q1 d1 os1 X A' B' Z hs1 k1 k2 G G G G k5 k6 bv;rw[<- hwr]at k;have p:ax (∀o:Array D,o.1=X++(eE cZ A' B'++Z)->U o=n/\o.1=iV cZ (2*s) (amA i j)++iV cZ s (bh i j)):=λo A=>by{rw[k7,show rs+s+s=i from G]at A;refine⟨?_,A⟩;rw[<- sy,A,dE,Es,Es,jF,js];omega};have O:ax (rs+h=i/\rs+s=m):=⟨g,hm⟩;have aw:i<=3001:=G;clear hwr hs1 eY g hm k1 k2 k3 k4 k5 k6 k7 u q;go_wp2_with fail;refine k.m ?_;rintro ac ⟨F,C,y,I,B⟩;have K:ax (∃e d dk,ac=fu D.bz 4 b a 0 e dk d/\U dk=n/\dk.1=iV cZ (2*s) (amA i j)++iV cZ s (bh i j)):=⟨F,C,y,I,(p y B).1,(p y B).2⟩;clear I B;go_wp2;go_roundg (gk-h);case measure=>have:=V O;omega
 ·(have⟨g,hm⟩:=V O;have q:=V hs2;have z:=V r;refine⟨i,t+1,dS,dS,by rw[ax,<- g,z,q,Nat.mul_succ],Y,G,K⟩)};{
 have R:¬(i:Int)<=n:=G;by_cases aM:m<n;{
 have aq:(m:Int)<n:=G;have⟨q1,os1,d1,hwr,hs1,eY⟩:=V w;have u:=x.1;have q:=V hs2;have⟨X,A',B',Z,k1,k2,k3,k4,k5,k6,k7⟩:=Uh (rs:=j) (dk:=d1) (s:=s) (t:=t) (a:=rs) (c:=n-m) G (V r) eY G G G (bE G);have k:=ae<|N (n-rs) rs m n q1 d1 os1 X A' B' Z hs1 k1 k2 G G G G k5 k6 bv;rw[<- hwr]at k;have p:ax (∀o:Array D,o.1=X++(eE cZ A' B'++Z)->U o=n/\o.1=iV cZ h j):=λo A=>by{rw[k7,show rs+s+(n-m)=n from G,u,ld,w_,Ak,mw,<- q]at A;refine⟨?_,A⟩;rw[<- sy,A,Es];omega};clear hwr hs1 eY g hm k1 k2 k3 k4 k5 k6 k7 u q;go_wp2_with fail;refine k.m ?_;rintro ac ⟨F,C,y,I,B⟩;have K:ax (∃e d dk,ac=fu D.bz 4 b a 0 e dk d/\U dk=n/\dk.1=iV cZ h j):=⟨F,C,y,I,(p y B).1,(p y B).2⟩;clear I B;go_wp2;go_roundg (n-h);case measure=>omega
 ·exact⟨h,dS,G,aj,G,K⟩};{
 have aq:¬(m:Int)<n:=G;have K:ax (∃e d dk,wr=fu D.bz 4 b a 0 e dk d/\U dk=n/\dk.1=iV cZ h j):=by{
 have⟨q1,os1,d1,hwr,hs1,eY⟩:=V w;have u:=x.1;have q:=V hs2;refine⟨q1,os1,d1,hwr,hs1,?_⟩;have ar:E (bh rs j)<=s:=by rw[js];omega
 rw[eY,wn cZ ar,<- wn cZ (s:=2*s) (l:=bh rs j) G,<- B0 cZ G _ t (amA rs j) (by rw[jF];have:=V r;omega),lP,<- q]};clear g hm w;go_wp2;go_roundg (n-h);case measure=>omega
 ·exact⟨h,dS,G,aj,G,K⟩}})};{have ap:¬(s:Int)<n:=G;go_wp2;go_end0;have⟨q1,os1,d1,hwr,hs1,eY⟩:=V ad;have u:=x.1;exact⟨af,q1,os1,d1,hwr,by rw[eY,wn cZ G]⟩})})
end
section
open Go.RowKit Go.Sort Go.Shelf
def Hd:cq j=kT cZ j:=by have:=Ti cZ ws B3 [] j [] (dl j) aA;simp only[h8,g8,jz,mw]at this;exact this
def PE{P:Prop}(h:P:=by go_in;go_wp21;refine dU.m λw1 hw=>?_;replace hw:=ae hw;go_wp2;go_end0;exact⟨af,hw⟩):P:=h
def aaT(d)(h:HoldsK D.bz 4 b a 0<|dl j)(i:a<U b.1)(c:E j<=3001):bd aK 102 #[bC a 0 (E j) d,fc (.func 103) #[] #[]] b λg n=>g=bg (bX #[])/\∃l k e,n=fu D.bz 4 b a 0 l e k/\e.1=kT cZ j:=by have dU:=ae<|aaS d h i c;exact PE
def aaU(h:HoldsK D.bz 4 b a 0<|dl j)(i:a<U b.1)(c:E j<=3001):bd aK 59 #[bC a 0 (E j) d] b λg n=>g=bg (bX #[])/\∃l k e,n=fu D.bz 4 b a 0 l e k/\e.1=kT cZ j:=by have dU:=ae<|aaT d h i c;exact PE
def Ui{p}(h:b.1[a]? = ag (aS p z))(e:gr b a 0 j)(w:E j<=3001):bd aK 59 #[bC a 0 (E j) o] b λz i=>z=bg (bX #[])/\gr i a 0 (cq j)/\∀d g,d<=a->d<=U b.1->cB d g b->cB d g i:=by
 refine(aaU (SB h e) e.1 w).m ?_;rintro i ⟨k,l,q,rfl,n⟩;obtain rfl:q=dl (cq j):=by rw[Hd,<- n]
 have x:U (dl<|cq j)=U (dl j):=by simp[To]
 exact⟨af,aam (e8 e.1<|size_sortWorldK_c D.bz 4 b a 0 k _ l)<|zx D.bz 4 b a 0 (dl j) _ k l (SB h e) e.1 x,λd g r t u=>aaq u r t⟩
end
theorem Mq{α:Type}(d):∀(a b:List α),(eE d a b).Perm<|a++b
 | [],b=>by simp
 | c::a,[]=>by simp
 | c::a,e::b=>by rw[G3];split;{exact((Mq d (c::a) b).cons e).trans<|List.perm_middle.symm};{exact(Mq d a (e::b)).cons c}
termination_by a b=>E a+E b
def aaV{α:Type}{c}{a:List α}:(kT c a).Perm a:=by
 have:∀(b:Nat) (a:List α),E a=b->(kT c a).Perm a:=by{
 intro b;induction b with
 | zero=>intro a d;obtain rfl:a=[]:=iM d;rfl
 | succ b i =>{
 intro a d;have e:a≠[]:=by grind
 have g:=KT e;have h:E a.dropLast=b:=by grind
 conv=>lhs;rw[<- g]
 rw[Aj];have:=(Mq c (kT c a.dropLast) [a.getLast e]).trans<|(i _ h).append_right _;grind}};grind
def wt(a):(cq a).Perm a:=Hd▸aaV
def An(a):il cZ (cq a):=Hd▸EJ cZ ws B3 a
def Hf{a s}(b:cZ a s=ao):ph a.owner s.owner=ao/\(a.owner=s.owner->¬a.type<s.type):=by
 have d:¬(ph a.owner s.owner=aE\/(a.owner=s.owner/\a.type<s.type)):=λc=>by rw[(Am a s).2 c]at b;cases b
 grind
def Uj{a b c}(d:cZ b a=ao)(e:cZ c b=ao)(g:c.owner=a.owner):b.owner=a.owner/\(c.type=a.type->b.type=a.type):=by have⟨a1,a2⟩:=Hf d;have⟨b1,b2⟩:=Hf e;have h:b.owner=a.owner:=by{rw[g]at b1;exact Mp _ _ a1 b1};grind
def Mr{κ:Type}(a:D->κ)(h:∀b c d:D,cZ c b=ao->cZ d c=ao->a d=a b->a c=a b):∀(e:List D),il cZ e->tE a e
 | [],_=>cE
 | b::j,g=>by have i:=vB.1 g;refine⟨λk l n o d p=>?_,Mr a h j i.2⟩;grind
def aaW(c:il cZ j):tE (λb:D=>b.owner) j:=Mr _ (λb h i d e g=>(Uj d e g).1) j c
def aaX(d:il cZ j):tE (λb:D=>(b.owner,b.type)) j:=Mr _ (λb l n e g h=>by
 obtain⟨c,k⟩:=lR h;obtain⟨i,a⟩:=Uj e g c
 grind) j d
def tt(a b):fd a b=aE ↔ a.owner=b.owner:=by simp[fd]
def ur(a b):dj a b=aE ↔ (a.owner,a.type)=(b.owner,b.type):=by simp[dj]
def yg{a}(e:a∈j){c}(g:c.2=ed (fd a) j):eR c=a.owner:=by
 rw[eR,g];have:=jo.2 ⟨e,(tt a a).2 af⟩;cases h:ed (fd a) j with
 | nil=>grind
 | cons d i =>{
 have:d∈ed (fd a) j:=by grind
 exact((tt a d).1 (jo.1 this).2).symm}
section
variable {L:List D} (hL:il cZ L)
include hL
theorem yi:(∀b∈dw fd L,∃a∈L,b.2.head? = ag a/\b.2=ed (fd a) L)/\(∀a∈L,∃b∈dw fd L,b.2=ed (fd a) L) :=
 Me fd tt (E L) 0 L bv (aaW hL)
theorem Aq:(∀b∈dw dj L,∃a∈L,b.2.head? = ag a/\b.2=ed (dj a) L)/\(∀a∈L,∃b∈dw dj L,b.2=ed (dj a) L) :=
 Me dj ur (E L) 0 L bv (aaX hL)
theorem aaE(d:List D->Bool):(dw dj L).all (λb=>d b.2)=aE ↔ ∀a∈L,d (ed (dj a) L)=aE:=by rw[uB];constructor;{intro g a c;have b:=(Aq hL).2 a c;grind};{intro g b h;have⟨a,c,_,e⟩:=(Aq hL).1 b h;grind}
theorem aaG(g:ap->List D->Bool):(dw fd L).all (λb=>g (eR b) b.2)=aE ↔ ∀a∈L,g a.owner (ed (fd a) L)=aE:=by rw[uB];constructor;{intro h a c;have⟨b,d,e⟩:=(yi hL).2 a c;rw[<- e,<- yg c e];grind};{intro h b d;have⟨a,c,_,e⟩:=(yi hL).1 b d;rw[yg c e,e];grind}
theorem Uk(d):dF L d=ed (λb=>b.owner==d) L:=by
 unfold dF;cases g:(dw fd L).find? (λa=>eR a==d)with
 | some a =>{
 have:=List.find?_some g;have⟨b,c,_,e⟩:=(yi hL).1 a<|Ed g;have h:b.owner=d:=by rw[<- yg c e];grind
 show a.2=_;rw[e];congr 1;funext y;rw[sd,tt,h,jy];grind}
 | none =>{show []=_;symm;rw[sj];intro b c i;have⟨a,hx,e⟩:=(yi hL).2 b c;have:=R9.1 g a hx;rw[yg c e]at this;grind}
theorem JQ(g):p6 L g=aE ↔ ∀a∈L,fZ a.owner g=aE->rd a.owner=ao/\∀s∈L,s.owner=a.owner->s.type=(if a.owner=g then 2 else 1):=by
 rw[p6,uL,uB];constructor;{
 intro i a b p;have⟨h,k,e⟩:=(yi hL).2 a b;have c:=yg b e;have:=i h<|jo.2 ⟨k,by grind⟩;rw[tz,fx,c]at this;refine⟨by grind,λs d o=>?_⟩;have j:=this.2;rw[zH,<- vU,pr]at j;have:s∈h.2:=e▸jo.2 ⟨d,(tt a s).2<|bZ o⟩
 have l:qW (if a.owner==g then 2 else 1) s=ao:=by{grind};unfold qW at l;grind};{intro i h k;have⟨hx1,hx2⟩:=jo.1 k;have⟨a,b,_,e⟩:=(yi hL).1 h hx1;have c:=yg b e;rw[c]at hx2;have⟨h1,j⟩:=i a b hx2;rw[tz,fx,c];refine⟨by grind,?_⟩;rw[zH,<- vU,pr];rintro⟨s,d,n⟩;rw[e]at d;have⟨hs1,hs2⟩:=jo.1 d;have l:=j s hs1<|bZ<|(tt a s).1 hs2;unfold qW at n;grind}
end
def ut(a:UInt8):UInt8:=if a=80 then 46 else a
def HM(a:UInt8):UInt8:=if a=46 then 80 else a
def cJ(a:ap):List ap:=b9 (List.map ut)<|I 46 a
def HN:∀(f:Nat) (a:ap),E a<=f->∀c∈I 46 a,(46:UInt8) ∉ c/\∀h∈c,h∈a
 | f,a,d,c,b=>by
  rcases pe 46 a with⟨i,e⟩|⟨j,g,k,i,e⟩;{grind};{
  rw[e]at b;rcases gC.1 b with rfl|b;{grind};{
  match f,d with
  | 0,d=>grind
  | f+1,d =>{have l:=HN f g (by grind) c b;grind}}}
def LZ:∀(f:Nat) (c:ap) (b:UInt8),E c<=f->b∈c->b=46\/∃g∈I 46 c,b∈g
 | f,c,b,d,e=>by
  rcases pe 46 c with⟨_,i⟩|⟨k,h,j,_,i⟩;{grind};{
  rw[j]at e;rcases lc.1 e with a|a;{grind};{
  rcases gC.1 a with a|a;{grind};{
  match f,d with
  | 0,d=>grind
  | f+1,d =>{rcases LZ f h b (by grind) a with a|⟨g,l,n⟩;{grind};grind}}}}
def uw(a):E (cJ a)=E (I 46 a):=by simp[cJ]
def It(a):cJ a≠[]:=λb=>pM 46 a (by simpa [cJ]using b)
def Et(a):b9 (List.map HM) (cJ a)=I 46 a:=by
 rw[cJ,nu];conv=>rhs;rw[<- zM (I 46 a)]
 refine pt λb i=>?_;have g:=(HN _ a bv b i).1;show(b9 ut b).map HM=b;rw[nu];conv=>rhs;rw[<- zM b]
 refine pt λc h=>?_;show HM (ut c)=c;have j:c≠46:=λd=>g<|d ▸ h;unfold ut;split;{rename_i e;subst e;rfl};{grind[HM]}
def CN(b:cJ c=cJ n):c=n:=Ca (by rw[<- Et c,<- Et n,b])
def TY: cJ c=cJ n ↔ c=n:=⟨CN,λb=>by rw[b]⟩
def ux(e:(80:UInt8) ∉ c):cJ c=I 46 c:=by
 conv=>rhs;rw[<- zM (I 46 c)]
 refine pt λb h=>?_;show b9 ut b=b;conv=>rhs;rw[<- zM b]
 refine pt λa g=>?_;have:a≠80:=λd=>e<|d ▸ (HN _ c bv b h).2 a g;grind[ut]
def dZ(b:(80:UInt8) ∉ c):I 46 c=cJ n ↔ c=n:=(ux b)▸TY
def abX:bh d (cJ n)=cJ c ↔ bh d (I 46 n)=I 46 c:=by constructor;{intro a;rw[<- Et n,<- Et c,<- a,Ea]};{intro a;unfold cJ;rw[<- a,Ea]}
def yl(a b):ni (cJ a) (cJ b)=fZ a b:=by rw[<- ED];unfold ni;rw[uw,uw,sd];simp only[fx,sq,abX]
def L0(a:(80:UInt8) ∉ c)(b):ni (I 46 c) (cJ b)=fZ c b:=(ux a)▸yl c b
def abY(a:(80:UInt8) ∉ c)(b):ni (cJ b) (I 46 c)=fZ b c:=(ux a)▸yl b c
def ab1:cJ (42::46::Q)=[42]::cJ Q:=by rfl
def CR(d:ap)(e:List D)(a:List ap)(h ay g:Nat)(v:bm):Prop :=
 (v=bY/\∀c,c+E (I 46 d)<E a->kl e (bh c a) 2=ao) \/
 ∃b,b+E (I 46 d)<E a/\kl e (bh b a) 2=aE/\(∀c,b<c->c+E (I 46 d)<E a->kl e (bh c a) 2=ao)/\v=bC h (ay+b) (E a-b) (g-b)
def abw{bH}(g)(y:nS b a c j)(P:wZ c j)(S:iy b h bH r)(Z:E r<=g)(aq:E r<=1000)(ap:E (I 46 c)<=E r):bd aK 236 #[N a,bC h bH (E r) g] b λH aa=>(∃v,H=bg v/\CR c j r h bH g v)/\a7 b aa:=by
 have B:=ae S;have F:=ae y;obtain⟨au,aj,ay,al,ab,ac,aw,az⟩:=y;have:=ae ab;have D:=ae P;obtain⟨C,W,T,rfl,ar,ad⟩:=ac;have:=yk c;have ah:aD b (M a 0)=ag (bC C W (E<|I 46 c) T):=by{unfold aD; grind};have:ax (∀v,CR c j r h bH g v ↔ CR c j r h bH g v):=λ_=>Iff.rfl;have Y:ax (∀v,v=aL ai 0 0->(∀e,e+E (I 46 c)<E r->kl j (bh e r) 2=ao)->CR c j r h bH g v):=λv d i=>bG ⟨d,i⟩;have z:ax (∀k,k+E (I 46 c)<E r->kl j (bh k r) 2=aE->(∀e,k<e->e+E (I 46 c)<E r->kl j (bh e r) 2=ao)->CR c j r h bH g (bC h (bH+k) (E r-k)<|g-k)):=λk d i L=>bE ⟨k,d,i,L,af⟩;generalize am:E (I 46 c)=o at *;go_wp2;go_loopw [5] (λk wr=>∃n:Nat,n+o<=E r/\k=J ((n:Int)-1)/\(∀e,n<=e->e+o<E r->kl j (bh e r) 2=ao)/\a7 b wr) λk _=>(fJ k+1).toNat;·exact⟨E r-o,G,by grind,λe d i=>G,dz _ _⟩
 ·(
 obtain⟨n,an,rfl,x,q⟩:=hrel;have t:=ae x;have p:=ae q;cases n with
 | zero =>{have:¬(0:Int)<=(((0:Nat):Int)-1):=G;have l:=ae<|Y _ af λe Q=>x e (eb _) Q;go_wp2;go_ret;exact⟨⟨_,af,l⟩,p⟩}
 | succ k =>{have K:(((k+1:Nat):Int)-1)=(k:Int):=G;rw[K];have:0<=(k:Int):=G;have X:k<=E r:=G;have:¬g=k:=G;have A:=ae (Hh 2 (F.below q) (V D) (Ho (B.below q) Z k X)<|by grind);go_wp21;refine A.m λav O=>?_;have u:=ae<|bN p<|bV O p.4;cases R:kl j (bh k r) 2;{have l:ax (∀e,k<=e->e+o<E r->kl j (bh e r) 2=ao):=λe d i=>by{rcases Nat.lt_or_ge k e with w|w;{exact t e w i};{have:e=k:=G;simp_all}};go_wp2;exact⟨⟨k,G,dH,l,u⟩,by simp[fJ]⟩};{have l:=ae<|z k G R λe d i=>V t e d i;go_wp2;go_ret;exact⟨⟨_,af,l⟩,u⟩}})
def sA(c:List D)(a:List ap):Bool:=c.any λb=>ni (I 46 b.owner) a
def L6(Q:nS b a c j)(o:wZ c j)(P:gG b e r)(L:E r<=1000)(F:0<E r):bd aK 143 #[N a,e] b (cQ (aG<|sA j r) b):=by
 have z:=ae P;obtain⟨aa,B,ay,D,u,ac,ad,Y⟩:=Q;have R:=(ea.1 u).1;have A:=ae Y;have w:=ae u;have:=o.2.1;have C:=ae o;go_wp2;go_loopw [5] (λk wr=>∃i:Nat,i<=E j/\k=J i/\(amA i j).any (λl=>ni (I 46 l.owner) r)=ao/\a7 b wr) λk _=>E j-(fJ k).toNat;·exact JX
 ·(obtain⟨i,Z,rfl,p,g⟩:=hrel;have X:=ae p;have t:=ae g;have ah:aD wr (M a 1)=ag (bC B ay (E j) D):=by{have:=(g.5 a R).trans w;unfold aD; grind};by_cases h:i<E j;{have S:(i:Int)<E j:=G;have⟨ro,rw',c0,bA,c2,c3,cD,fB,gE⟩:=((V A) i h).below g;have O:=C.2.2 j[i]<|eP h;have W:=ae<|Ul h p;have x:ax (ni (I 46 j[i].owner) r=aE->sA j r=aE):=λH=>pr.2 ⟨j[i],eP h,H⟩;have y:=ae<|Hp fB (z.below g) (pQ O) L F;generalize j[i]=l at *;go_wp21;refine y.m λab K=>?_;have n:=ae<|bN t<|bV K t.4;cases q:ni (I 46 l.owner) r;{have d:=ae<|V W q;go_wp2;exact⟨⟨i+1,G,dH,d,n⟩,ee⟩};{have d:=ae<|x q;go_wp2;go_ret;exact⟨fy<|bZ d,n⟩}};{have S:¬(i:Int)<E j:=G;have T:i=E j:=G;have d:ax (sA j r=ao):=by{have:=V X;rw[T,ld]at this;exact this};go_wp2;go_ret;exact⟨fy<|bZ d,t⟩})
def CS:aK.underlying 113=ag (.slice 9):=b8
def abx:(aK.info? 9).map (λa=>(a.8,a.3,a.4))=ag (ag<|amz ⟨#[]⟩,1,16):=b8
def ry(c:List D)(b:List ap)(a:Nat):Nat->Option (List ap)
 | 0=>ai
 | f+1=>if sA c (bh a b)then(if kl c ([42]::bh a b) 255 then ag ([42]::bh a b)else ai)else ry c b (a+1) f
def qo(b:List D)(a:List ap):Option (List ap):=if sA b a then ag a else ry b a 1 (E a-1)
def aby(b:aQ)(v:bm):Option (List ap)->Prop
 | none=>v=bY
 | some a=>gG b v a
def abz(v)(c:d_)(d:a<=U b.1):(aO b<|aS #[v] c).ownsRow a c 1 (bC (U b.1) 0 1 1) 1 [v] :=
 ⟨af,bE ⟨U b.1,1,#[v],af,d,du b _,cW _,by unfold hC;omega,af,af⟩⟩
def abA{bH}(k)(h:iy b a bH r)(g):∀(c:Nat) (d:bm),((bh g r).map λq=>amz<|O q)[c]? = ag d->aD (aO b k) (((M a<|bH+g):Addr).add c)=ag d:=λc d j=>by
 have n:((M a<|bH+g):Addr).add c=(M a<|bH+(g+c)):=by unfold Addr.add;grind
 rw[n];rw[vy,KZ]at j;cases i:r[g+c]? with
 | none=>grind
 | some e =>
  rw[i]at j;obtain⟨o,p⟩:=j_.1 i;have:=h.2 (g+c) o;rw[p]at this;have l:amz (O e)=d:=by grind
  rw[<- l];exact(ev<|dT b k a h.1).trans this
def abB:∀b∈b9 (λr=>amz<|O r) r,b.oneCell'=aE:=by intro b c;obtain⟨d,_,rfl⟩:=lZ.1 c;rfl
def abC{bH}(g)(L:nS b a c j)(I:wZ c j)(K:iy b d bH r)(y:E r<=g)(aH:E r<=999)(ah:0<E r):bd aK 238 #[N a,bC d bH (E r) g] b λad R=>(∃v,ad=bg v/\aby R v (qo j r))/\a7 b R:=by
 have⟨i0,oI,hz0,hz1,hz2⟩:=jN abx;have p:=ae K;have F:=ae L;have C:=ae I;have t:=ae<|L6 L I ⟨d,bH,g,af,y,K⟩ G ah;go_in;go_wp21;refine t.m λaN al=>?_;have k:=ae al;have Z:ax (qo j r=if sA j r then ag r else ry j r 1 (E r-1)):=af;cases W:sA j r;{
 have u:ax (qo j r=ry j r 1 (E r-1)):=by{grind};go_wp2;go_loopw [6] (λw wr=>∃T:Nat,1<=T/\T<=E r/\w=J T/\qo j r=ry j r T (E r-T)/\a7 b wr) λw _=>E r-(fJ w).toNat;·exact⟨1,G,G,af,u,k⟩
 ·(obtain⟨T,ay,aM,rfl,o,n⟩:=hrel;have Z:=ae o;have q:=ae n;by_cases aF:T<E r;{have ar:(T:Int)<E r:=G;have:¬g=T:=G;have aw:E (bh T r)=E r-T:=js;have t:=ae<|L6 (F.below n) (V C) (Ho (p.below n) y T G) G G;have az:ax (qo j r=if sA j (bh T r)then(if kl j ([42]::bh T r) 255 then ag ([42]::bh T r)else ai)else ry j r (T+1) (E r-(T+1))):=by{have:E r-T=(E r-(T+1))+1:=G;rw[this,ry]at o;grind};go_wp21;refine t.m λS am=>?_;have e:=ae<|bN q<|bV am q.4;cases W:sA j<|bh T r;{have B:ax (qo j r=ry j r (T+1) (E r-(T+1))):=zv;go_wp2;exact⟨⟨T+1,G,G,dH,B,e⟩,ee⟩};{have B:ax (qo j r=if kl j ([42]::bh T r) 255 then ag ([42]::bh T r)else ai):=zv;have ac:=e.4;have Y:=ae<|p.below e;go_wp2_with (at_builtin;go_loud (refine vL _ af (.tmp 26) (.tmp 29) 113 af (U b.1) 9 i0 (amz ⟨#[]⟩) 1 16 CS oI hz0 hz1 hz2 af bL _ 1 [aZ [42]] af (abz _ _ ac) (M d<|bH+T) (E r-T) (g-T) ((bh T r).map λau=>aZ au) af aA (abA _ (V Y) T) (abB) m9 G cx ?_));intro z A aJ l aI aB;have x:ax (gG A z ([42]::bh T r)):=by{have aq:nE A (U b.1) z ([42]::bh T r):=by{refine⟨?_,⟨λh=>?_,λh=>BA⟩⟩;{rw[ey,aw,nr,Nat.add_comm,Ea];omega};simp_all};have⟨i,anU,k1,k2,k3,k4⟩:=vx aq aA;exact⟨i,0,anU,k1,k2,k4⟩};have P:a7 b A:=⟨c_ l.1 e.1,c_ l.2 e.2,c_ l.3 e.3,cU cx l.4,λi ap=>(l.5 i cx (λan=>by simp[bW]at an;omega)).trans<|(((dz (U S.1) S).alloc bv _).5 i G).trans<|e.5 i ap⟩;have D:=ae P;have X:=ae<|Hh 255 (F.below P) (V C) (V x) cx;obtain⟨aT,aU,aR,rfl⟩:∃aa av ab,z=aL aa av ab:=by{have⟨i,aRe,anU,k1,_⟩:=V x;simp_all};go_wp21;refine X.m λaP H=>?_;have O:=ae<|bN D<|bV H D.4;have:=ae<|x.below H;cases aC:kl j ([42]::bh T r) 255;{have Q:ax (qo j r=ai):=zv;go_wp2;go_ret;exact⟨⟨_,af,by rw[V Q];rfl⟩,O⟩};{have Q:ax (qo j r=ag ([42]::bh T r)):=zv;go_wp2;go_ret;exact⟨⟨_,af,by rw[V Q];assumption⟩,O⟩}}};{have ar:¬(T:Int)<E r:=G;have Q:ax (qo j r=ai):=by{have aj:E r-T=0:=G;rw[aj,ry]at o;grind};clear o n;go_wp2;go_ret;exact⟨⟨_,af,by rw[V Q];rfl⟩,q⟩})};{have u:ax (qo j r=ag r):=by{grind};go_wp2;go_ret;exact⟨⟨_,af,(V u)▸⟨d,bH,g,af,y,p.below k⟩⟩,k⟩}
def CT(a:D)(b:ap):D:=(a.owner,min a.aP<|kZ 86400 b,a.type,a.data)
def abM(B:ap){ay}(aj:b.1[a]? = ag (aS #[e,aL (ag ⟨d,ay,ai⟩) (E j) h] 117))(al:E j<=h)(X:yj b d ay j)(J:0<E j){C}(y:E c<=1000000)(u:fY 86400 c=aE)(D:I 32 j[0].data=[n,v,C,c]):bd aK 239 #[N a] b λo w=>(∃A k m6,o=bg (bC A 0 1 1)/\U b.1<=A/\w.1[A]? = ag (aS #[k,ak .i64 (CT j[0] c).aP,ak .i64 (CT j[0] c).type,amz<|O (CT j[0] c).data,m6] 119)/\aD b (M d ay)=ag k/\aD b (M d<|ay+4)=ag m6)/\a7 b w:=by
 have am:aD b (M a 1)=ag (bC d ay (E j) h):=by unfold aD; grind
 have⟨k,m6,c0,bA,c2,c3,cD,fB,gE⟩:=X 0 J;rw[D]at gE;rw[rW,jn]at c0 bA c2 c3 cD;obtain⟨p,H,ab,rfl,Y,q⟩:=gE;have W:co b p (H+3) (aZ c):=q.2 3 aA;have S:=q.1;have:=λB=>(ev<|dT b B p S).trans W;have z:=ae λT=>AI c 86400 T y bL;obtain⟨Z,aa,ad,rfl,_,_⟩:=fB;have R:=ae c0;have x:=ae cD;go_in;go_wp21;refine(z _).mono ?_;rintro o ah ⟨⟨ac,rfl,l⟩,rfl⟩;replace l:=ae l;rw[u];go_wp2;go_ret;have K:∀r t,a7 b (aO (aO b r) t):=λr t=>(ct cd bv _).alloc aA _;have Q:=V l u;subst Q;have F:min ((j[0].aP:Nat):Int) ((kZ 86400 c:Nat):Int)=((min j[0].aP (kZ 86400 c):Nat):Int):=G;have P:∀(T:aQ) (B:Obj) (i:Nat),U T.1=i->(aO T B).1[i]? = ag B:=λT B i L=>by subst L;exact du T B
 refine⟨⟨U b.1+1,_,_,af,G,?_,R,x⟩,K _ _⟩;rw[F];exact P _ _ _ aA
def abN(s)(o:d3 b)(al:s.size<=3000)(am:∀e c,kK s.1.1=ag (e,c)->xk e c):bd aK 16 #[amz s] b λn T=>aar (lu s.1.1) (U b.1) n T/\a7 b T:=by
 have y:=ae<|Tr s b G;have:¬3000<(s.size:Int):=G;have x:=ae λh (I:a7 b h)=>alN (o.below I) al;cases l:kK s.1.1 with
 | none =>{
 have j:ax (lu s.1.1=ai):=by rw[lu,ax,l];rfl
 go_in;go_wp21;refine y.m λh a=>?_;go_wp21;refine(x h a).mono λn N ⟨d,i⟩=>?_;rw[l]at d;obtain rfl:n=bg D0:=d;unfold D0;go_wp2;go_ret2;rw[V j];exact⟨af,bN a<|bV i a.4⟩}
 | some ar =>{
 obtain⟨e,c⟩:=ar;have⟨hlen,dm,hrl⟩:=am e c l;have ab:=ae hrl;have av:ax (lu s.1.1=if na e c&&mC e (cq c)then ag (e,cq c)else ai):=by rw[lu,ax,l];rfl
 cases R:na e c;{
 have j:ax (lu s.1.1=ai):=by grind
 go_in;go_wp21;refine y.m λh a=>?_;go_wp21;refine(x h a).mono λn N ⟨d,i⟩=>?_;rw[l]at d;obtain⟨v,rfl,k⟩:=d;have p:=ae<|LG e k.rv G;go_wp21;refine p.m λW g=>?_;go_wp2;go_ret2;rw[V j];exact⟨af,(bN a<|bV i a.4).trans<|bV g<|cU a.4 i.4⟩};{
 have Q:c≠[]:=by intro I;rw[I]at R;cases R
 have Y:=ae<|aap<|V ab;have S:=To c;cases aw:mC e<|cq c;{
 have j:ax (lu s.1.1=ai):=by grind
 go_in;go_wp21;refine y.m λh a=>?_;go_wp21;refine(x h a).mono λn N ⟨d,i⟩=>?_;rw[l]at d;obtain⟨v,rfl,k⟩:=d;have p:=ae<|LG e k.rv G;obtain⟨A,z,ad,rfl,o,H,aj,O⟩:=Ts k Q;have F:=ae H;have w:=ae O;have t:=bN a<|bV i a.4;go_wp21;refine p.m λW g=>?_;have q:=bN t<|bV g t.4;have L:=w.1;go_wp21;refine(Ui ((g.5 A L).trans F) (w.below g) hlen).m λap ⟨C,J⟩=>?_;have u:=J (U b.1) b (cU a.4 o) q.4 q;have r:=ae<|Sg z C G G dm λM K=>(Y M K).1;rw[S]at r;go_wp21;refine r.m λX B=>?_;go_wp2;go_ret2;rw[V j];exact⟨af,bN u<|bV B u.4⟩};{
 have j:ax (lu s.1.1=ag (e,cq c)):=by grind
 go_in;go_wp21;refine y.m λh a=>?_;go_wp21;refine(x h a).mono λn N ⟨d,i⟩=>?_;rw[l]at d;obtain⟨v,rfl,k⟩:=d;have p:=ae<|LG e k.rv G;obtain⟨A,z,ad,rfl,o,H,aj,O⟩:=Ts k Q;have F:=ae H;have w:=ae O;have t:=bN a<|bV i a.4;go_wp21;refine p.m λW g=>?_;have q:=bN t<|bV g t.4;have L:=w.1;go_wp21;refine(Ui ((g.5 A L).trans F) (w.below g) hlen).m λap ⟨C,J⟩=>?_;have u:=J (U b.1) b (cU a.4 o) q.4 q;have r:=ae<|Sg z C G G dm λM K=>(Y M K).1;rw[S]at r;have Z:=ae C;go_wp21;refine r.m λX B=>?_;have D:=bN u<|bV B u.4;have an:=ae<|Z.below B;go_wp21;refine(aas).m λaq ⟨P,aa,ac,au⟩=>?_;have ah:ax (iL aq (U X.1) e A 0 z<|cq c):=⟨aa,ac,by grind,G,an.below P⟩;go_wp2;go_ret2;rw[V j];exact⟨⟨_,_,_,af,D.4,cU a.4 o,ah⟩,bN D<|bV P D.4⟩}}}
end Go.Proofs.YtkkpahmoljiepaaGreatDoor
