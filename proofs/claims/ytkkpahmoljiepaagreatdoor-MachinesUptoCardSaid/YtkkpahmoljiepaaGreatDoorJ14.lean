import Derived.Test.YtkkpahmoljiepaaGreatDoorJ11
import Derived.Test.YtkkpahmoljiepaaGreatDoorJ13
set_option maxRecDepth 1000000
set_option maxHeartbeats 12800000
set_option linter.all false
open Array renaming size->U
open Bool renaming false->ao,true->aE
open Eq renaming symm->bZ,trans->c_
open Go renaming Calls->bd,Ending->nO,Value->bm,World->aQ,results->dr,undef->fv
open Go.Ending renaming returned->bg
open Go.IntKind renaming i64->am,u8->ck
open Go.Obj renaming cells->aS
open Go.Proofs.Tryz renaming prog->aK
open Go.RowKit renaming Below->cB,Hid->ax
open Go.Value renaming agg->ci,bool->aG,func->fc,iface->cV,int->ak,pointer->cM,slice->aL,string->amz,tuple->bX
open Go.World renaming alloc->aO,cell?->aD,drew->bq,drewN->ef,frozen?->io,setCell->a_
open Int renaming toNat->c7
open List renaming drop->bh,flatMap->fA,length->E
open Option renaming none->ai,some->ag
open Or renaming inl->bG,inr->bE
open UInt8 renaming toNat->be
namespace Go.Proofs.YtkkpahmoljiepaaGreatDoor
open Go.RowKit Go.Proofs.Tryz
variable{a h o P:Nat}{f m:World}{g n:ap}{e k s:Value}{i x:Int}{B Z:Nat → Prop}
def cw.x0(a:cw):cz:=⟨a.AE,8,0,0,0,oi,0,0,0,ao⟩
variable{A:cw}
def wh(s j k:ap)(o:cw)(e n:Nat)(a:aQ)(g:nO)(b:aQ):Prop :=
 if(mP s).isSome=aE then
  if pC j k=aE then ∃i l d h,g=bg (bX #[cM<|ag ⟨i,0,ai⟩,ak am 0])/\iA b i l e j k o.x0 (n+276)/\cI bH e a b/\mP s=ag h/\uP d (U a.1+1) l h.1 h.2/\U d.1<=i/\U a.1<U d.1/\cL (λc=>U a.1<c) d b/\∀c,eO b e c->eO a e c\/U d.1<=c
  else g=bg (bX #[cM ai,ak am 3])/\cB (U a.1) a b
 else g=bg (bX #[cM ai,ak am 1])/\cB (U a.1) a b
def wi(a:Nat):Nat:=if a=0 then 1024 else 13312
def sQ(b:cw):Nat->cw
 | 0=>b
 | a+1=>(sQ b a).rE (512*a) (wi a) (2-2*a) 8
def yX(b:cw):Nat->cw
 | 0=>b
 | a+1=>(yX b a).fo (132+2*a) a 2
def gF(d:A.Ok a):∀b,(sQ A b).Ok<|a+128*b
 | 0=>d
 | b+1=>qU (CI (gF d b) _ _ _ 8) G
def IW(d:A.Ok a):∀b,(yX A b).Ok<|a+2*b
 | 0=>d
 | b+1=>qU (ky (IW d b) _ _ 2) G
def WH:A.AE=(yX ((sQ A 2).fo 642 0 2) 8).fo 130 8 2:=by rw[cw.AE,show sQ A 2=(A.rE 0 1024 2 8).rE 512 13312 0 8 from af];generalize (A.rE 0 1024 2 8).rE 512 13312 0 8=b;rw[cw.off,show 512+130=642 from af];generalize b.fo 642 0 2=c;simp[cw.off,yX]
def WJ(a:cw):a.x0.2<65536/\a.x0.3<65536/\a.x0.4<65536/\a.x0.5<65536/\E a.x0.6=8:=⟨show 8<65536 by omega,show 0<65536 by omega,show 0<65536 by omega,show 0<65536 by omega,af⟩
def WK(c:A.Ok a):A.AE.Ok (a+276):=WH▸qU (ky (IW (ky (gF c 2) _ _ 2) 8) _ _ 2) G
def Ke{P:Prop}(h:P:=by go_wp2;refine eh (v:=bX #[cM ai,ak am 3]) ?_ af (V Vv);simp[dr,results44,go_sem]):P:=h
def WL(s g k:ap)(h:dg f a A)(cb:A.Ok o)(cu:o<=800000000000):bd aK 44 #[amz<|O s,ci #[amz<|O g,amz<|O k],cM<|ag ⟨a,0,ai⟩] f λbb co=>wh s g k A a o f bb co:=by
 have aU:=ae h;have aW:=ae cb;have⟨Fe,AO⟩:=bi<|aO f<|aS #[amz<|O g,amz<|O k] 62;have bt:cB (U f.1) f Fe:=by rw[AO];exact Io
 have a1:U Fe.1=U f.1+1:=by rw[AO];simp
 have hc0:bk Fe (U f.1) [amz<|O g,amz<|O k] 62:=by rw[AO];exact bk.fF f _ _
 have ba:=ae<|afC s Fe;have b3:=ae<|tQ h bt;rw[AO]at ba;have cm:=ae bt;have ce:=ae hc0;have a0:=ae a1;go_in;go_wp2_with (fail);refine(V ba).mono ?_;rw[<- AO];rintro bb i ⟨L,Y⟩;have a1:=V a0;have b_:=(V cm).trans<|Y.mono G;have:=Y.4;have a2:bk i (U f.1) [amz<|O g,amz<|O k] 62:=(Y.5 _ G).trans<|V ce;have cl:=tQ (V b3) Y;have:aD i ⟨U f.1,0,ai⟩=ag (amz<|O g):=bk.cell a2 0 aA;have:aD i ⟨U f.1,1,ai⟩=ag (amz<|O k):=bk.cell a2 1 aA;have x:=ae b_;have b4:=ae cl;have b6:U f.1<U i.1:=G;unfold IV at L;cases K:mP s with
 | none =>{rw[K]at L;subst L;have bF:ax (∀e,cB (U f.1) f e->wh s g k A a o f (bg<|bX #[cM ai,ak am 1]) e):=λe J=>by{unfold wh;rw[K];exact⟨af,J⟩};go_wp2;refine eh (v:=bX #[cM ai,ak am 1]) ?_ af (V bF _<|V x);simp[dr,results44,go_sem]}
 | some cn =>{
 rw[K]at L;obtain⟨S,rfl,cz,bw⟩:=L;rw[V a0]at bw;have a5:=ae<|cv K bw;have aJ:(mP s).isSome=aE:=by rw[K];rfl
 have⟨c0,hc0⟩:=bi<|g.getD 0 0;have ct:∀h:0<(O g).size,(O g)[0]=c0:=λh=>QG;have:=gY c0;have⟨u,hr⟩:=bi<|be c0%2;have cs:(be c0:Int).tmod 2=(u:Int):=by rw[qQ G];omega
 have:(be c0:Int)%2=u:=G;have T:ax (pC g k=((O g).size==6&&u==0&&(O k).size==4)):=by{rw[ax,pC,de,de,hr,hc0]};have aj:ax (∀e,pC g k=ao->cB (U f.1) f e->wh s g k A a o f (bg<|bX #[cM ai,ak am 3]) e):=λe aF J=>by{unfold wh;rw[b7 aJ,bJ (by rw[aF];decide)];exact⟨af,J⟩};have bK:ax (∀R e,pC g k=aE->iA e R S a g k A.x0 (o+276)->cI bH a f e->U i.1<=R->cL (λd=>U f.1<d) i e->(∀d,eO e a d->eO f a d\/U i.1<=d)->wh s g k A a o f (bg<|bX #[cM<|ag ⟨R,0,ai⟩,ak am 0]) e):=λR e aF n J cd bM bW=>by{unfold wh;rw[b7 aJ,b7 aF];exact⟨R,S,i,cn,af,n,J,(V a5).1,(V a5).2,cd,b6,bM,bW⟩};clear aJ hc0 hr;generalize bn:O g=m at *;generalize a6:O k=ab at *;have a7:=ae<|cv bn a6;clear bn a6;generalize pC g k=aa at *;by_cases aC:m.size=6;{
 have ch:((m.size:Int) != 6)=ao:=by simp[aC]
 by_cases az:u=1;{
 have C:aa=ao:=by rw[V T,az];simp
 have cf:((u:Int)==1)=aE:=by simp[az]
 have Vv:=ae<|V aj _ C<|V x;subst az;exact Ke};{
 have cf:((u:Int)==1)=ao:=cx;have:¬(u:Int)=1:=G;by_cases aB:ab.size=4;{
 have bu:u=0:=G;have C:aa=aE:=by rw[V T,aC,bu,aB];rfl
 have cg:((ab.size:Int) != 4)=ao:=by simp[aB]
 have⟨ob,BZ⟩:=bi<|(aS #[cM<|ag ⟨S,0,ai⟩,amz m,amz ab,cM<|ag ⟨a,0,ai⟩,aG ao,aG ao,aG ao,aG ao,aG ao,aG ao,aG ao,aG ao,ak am 0,ak am 0,ak am 8,ak am 0,ak am 0,ak am 0,ak am 0,aG ao] 171:Obj);have r:cB (U i.1) i (aO i ob):=(dz _ _).alloc (cW _) _;have bc:=ae<|tQ (V b4) r;have b0:ax (pB (aO i ob) (U i.1) S a g k A.x0):=by{rw[ax,BZ,<- (V a7).1,<- (V a7).2];exact bk.fF i ([cM<|ag ⟨S,0,ai⟩,amz<|O g,amz<|O k,cM<|ag ⟨a,0,ai⟩,aG ao,aG ao,aG ao,aG ao,aG ao,aG ao,aG ao,aG ao,ak am 0,ak am 0,ak am 8,ak am 0,ak am 0,ak am 0,ak am 0,aG ao]) _};have b9:ax (cI bH a f<|aO i ob):=qc ((V x).trans<|r.mono (V x).4)<|jv<|V aU;have bp:ax (∀e,dg e a A.AE->cI bH a (aO i ob) e->wh s g k A a o f (bg<|bX #[cM<|ag ⟨U i.1,0,ai⟩,ak am 0]) e):=λe n l=>by{have ca:=(V x).trans<|r.mono (V x).4;have a3:∀d,eO (aO i ob) a d->eO f a d:=λd M=>oB (ca.5 a<|jv<|V aU) M;refine V bK (U i.1) e C ⟨n,ix l (V bc) (V b0) bL id,WJ A,WK<|V aW,eb _,eb _,eb _⟩ (dC (V b9) l) (cW _) ⟨c_ l.1 r.1,c_ l.2 r.2,c_ l.3 r.3,cU r.4 l.4,λd aN cy=>?_⟩ λd M=>(l.6 d M).imp (a3 d) λb=>cU r.4 b;exact(l.5 d (cj r.4) id λM=>by{have:=sC (V aU)<|a3 d M;omega}).trans (r.5 d aN)};subst bu;have b1:=bc;go_wp2;rw[<- BZ];generalize aO i ob=aV at *;go_loopw [10] (λaP wr=>∃b:Nat,aP=ak am b/\b<=2/\dg wr a (sQ A b)/\cI bH a aV wr) λaP _=>2-c7 (intOf aP);·exact⟨0,af,G,V b1,tl _ _ _⟩
 ·(
 obtain⟨b,rfl,cc,n,l⟩:=hrel;have bj:=ae n;have bo:=ae l;by_cases aH:b<2;{
 obtain⟨cq,rfl⟩:=bi wr;have⟨t,Q6⟩:=bi<|512*b;have:512*(b:Int)=t:=G;have⟨aM,hk2⟩:=bi<|2*b;have an:2*(b:Int)=aM:=G;have⟨fl,iX⟩:=bi<|2-2*b;have aq:2-(aM:Int)=fl:=G;have ar:fl<=2:=G;have:t<=512:=G;have bN:wi b<=13312:=by unfold wi;split<;>omega
 have aY:=ae fun(d:Nat) (aN:d<8) (e:aQ)=>afD aH aN e;have bD:ax (sQ A (b+1)=(sQ A b).rE t (wi b) fl 8):=by rw[ax,sQ,Q6,iX]
 rw[<- Q6]at aY;have:=ae Q6;have:(b:Int)<2:=G;have bx:=ae aH;clear Q6 iX hk2 cc aH;go_wp2;go_loopw [11] (λD Q=>∃d:Nat,D=ak am d/\d<=8/\dg Q a ((sQ A b).rE t (wi b) fl d)/\cI bH a aV Q) λD _=>8-c7 (intOf D);·exact⟨0,af,G,V bj,V bo⟩
 ·(obtain⟨d,rfl,aN,n,l⟩:=hrel;have P:=ae n;have N:=ae l;by_cases I:d<8;{have⟨B,ha⟩:=bi<|16*d;have b8:16*(d:Int)=B:=G;have⟨j,hdd⟩:=bi<|t+B;have bO:(t:Int)+B=j:=G;have⟨a8,IB⟩:=bi<|j+8;have aw:(j:Int)+8=a8:=G;have⟨a12,U3⟩:=bi<|j+12;have au:(j:Int)+12=a12:=G;have⟨DG,U4⟩:=bi<|j+14;have av:(j:Int)+14=DG:=G;have⟨v,hv⟩:=bi<|wi b+1536*d;have al:=ae<|V aY d I wr;rw[show(if b=0 then 1024 else 13312)+1536*d=v by rw[hv];rfl]at al;have bP:j<=700:=G;have w:=CI (gF (V aW) b) t (wi b) fl d;have H:=ae<|tR j 8 v n G G G w G;have ah:ax ((sQ A b).rE t (wi b) fl (d+1)=((((sQ A b).rE t (wi b) fl d).fo j v 8 |>.fo a8 1536 4).fo a12 fl 2).fo DG 0 2):=by{rw[ax,cw.rE,<- hv,<- ha,<- hdd,IB,U3,U4,hdd,<- rV,<- rV,<- rV]};generalize (sQ A b).rE t (wi b) fl d=cr at *;replace w:=ae w;have aX:a8<=800:=G;have ay:a12<=800:=G;have aR:DG<=800:=G;have bA:v<=30000:=G;have p:ax (a8<=800/\a12<=800/\DG<=800/\v<=30000/\fl<=2/\d<8/\b<=2):=⟨aX,ay,aR,bA,ar,I,cj<|V bx⟩;have bQ:=ae aw;have bR:=ae au;have bS:=ae av;have bT:=ae an;have bU:=ae aq;clear n l ha hdd IB U3 U4 hv aw au av an aq bA aX ay aR bN ar;have bY:=ae I;have:(d:Int)<8:=G;clear aN I;go_wp2_with (fail);refine(V al).m ?_;rintro wr rfl;go_wp2_with (fail);refine(V H).m ?_;rintro bz ⟨Z,W⟩;have y:ax (bd aK 91 #[cM<|ag ⟨a,0,ai⟩,ak am a8,ak am 4,ak am 1536] bz _):=tR a8 4 1536 Z G (cj<|V p) G (ky (V w) _ _ 8)<|cj<|V p;have F:=ae<|dC (V N) W;clear Z W al H P N;have aw:=V bQ;have aX:=(V p).1;go_wp2_with (fail);refine(V y).m ?_;rintro ac ⟨q,z⟩;have bv:ax (bd aK 91 #[cM<|ag ⟨a,0,ai⟩,ak am a12,ak am 2,ak am fl] ac _):=tR a12 2 fl q G (cj<|V p) (cj<|V p) (ky (ky (V w) _ _ 8) _ _ 4)<|cj<|V p;have ad:=ae<|dC (V F) z;clear q z y F;have au:=V bR;have an:=V bT;have aq:=V bU;have ay:=(V p).2.1;have ar:=(V p).2.2.2.2.1;have:(aM:Int)<=2:=G;go_wp2_with (fail);refine(V bv).m ?_;rintro cp ⟨bl,bf⟩;have bs:ax (bd aK 91 #[cM<|ag ⟨a,0,ai⟩,ak am DG,ak am 2,ak am 0] cp _):=tR DG 2 0 bl G (cj<|V p) G (ky (ky (ky (V w) _ _ 8) _ _ 4) _ _ 2)<|cj<|V p;have a4:=ae<|dC (V ad) bf;clear bl bf bv ad;have av:=V bS;have aR:=(V p).2.2.1;go_wp2_with (fail);refine(V bs).m ?_;rintro cA ⟨aI,br⟩;rw[<- V ah]at aI;have bI:=ae aI;have bC:=ae<|dC (V a4) br;clear aI br bs a4;go_wp2;exact⟨⟨d+1,dH,cj<|V bY,V bI,V bC⟩,ee⟩};{have aT:d=8:=G;subst aT;rw[<- V bD]at P;clear n l;go_wp2;exact⟨⟨b+1,dH,cj<|V bx,V P,V N⟩,ee⟩})};{
 have b5:b=2:=G;subst b5;have w:=gF (V aW) 2;have H:ax (bd aK 91 #[cM<|ag ⟨a,0,ai⟩,ak am 642,ak am 2,ak am 0] wr _):=tR 642 2 0 (V bj) G G G w G;have⟨X,hX⟩:=bi<|(sQ A 2).fo 642 0 2;rw[<- hX]at H;have b2:=ae hX;have a9:ax (X.Ok<|o+128*2+2):=by rw[ax,hX];exact ky w _ _ 2
 go_wp2_with (fail);refine(V H).m ?_;rintro bz ⟨Z,W⟩;have P:=ae Z;have N:=ae<|dC (V bo) W;go_wp2;go_loopw [13] (λD Q=>∃d:Nat,D=ak am d/\d<=8/\dg Q a (yX X d)/\cI bH a aV Q) λD _=>8-c7 (intOf D);·exact⟨0,af,G,V P,V N⟩
 ·(
 obtain⟨d,rfl,aN,n,l⟩:=hrel;have aZ:=ae n;have F:=ae l;by_cases I:d<8;{
 have⟨B,ha⟩:=bi<|2*d;have b8:2*(d:Int)=B:=G;have⟨j,hdd⟩:=bi<|132+B;have bO:132+(B:Int)=j:=G;have y:=ae<|tR j 2 d n G G G (IW (V a9) d) G;have ah:ax ((yX X d).fo j d 2=yX X (d+1)):=by rw[ax,yX,hdd,ha]
 have bP:j<=200:=G;clear n l ha hdd;go_wp2_with (fail);refine(V y).m ?_;rintro ac ⟨q,z⟩;rw[V ah]at q;have bB:=ae q;have ad:=ae<|dC (V F) z;clear q z y aZ F;go_wp2;exact⟨⟨d+1,dH,G,V bB,V ad⟩,ee⟩};{have aT:d=8:=G;subst aT;have y:ax (bd aK 91 #[cM<|ag ⟨a,0,ai⟩,ak am 130,ak am 2,ak am 8] wr _):=tR 130 2 8 n G G G (IW (V a9) 8) G;clear n l aZ;go_wp2_with (fail);refine(V y).m ?_;rintro ac ⟨q,z⟩;rw[V b2,<- WH]at q;have bV:=ae<|V bp ac q<|dC (V F) z;clear q z y bp;go_wp2;refine eh (v:=bX #[cM<|ag ⟨U i.1,0,ai⟩,ak am 0]) ?_ af (V bV);simp[dr,results44,go_sem]})})};{
 have C:aa=ao:=by rw[V T];simp[aB]
 have cg:((ab.size:Int) != 4)=aE:=cx;have Vv:=ae<|V aj _ C<|V x;exact Ke}}};{
 have C:aa=ao:=by rw[V T];simp[aC]
 have ch:((m.size:Int) != 6)=aE:=cx;have Vv:=ae<|V aj _ C<|V x;exact Ke}}
def wk(s l o:ap)(q:cw)(h p:Nat)(a:aQ)(g:nO)(b:aQ):Prop :=
 if(mP s).isSome=aE then
  if pC l o=aE then ∃e k i j d n r,g=bg (bX #[N e,J 0])/\hJ b e k i j h l o q.x0 (p+276)/\cI bH h a b/\(U a.1<=e/\U a.1<=i/\U a.1<=j)/\mP s=ag d/\jJ d.1 d.2/\iL b k d.1 n 0 r (cq d.2)/\∀c,c=k\/c=n->¬gm e i j c/\¬eO b h c/\U a.1<=c
  else g=bg (bX #[cM ai,J 3])/\a7 a b
 else g=bg (bX #[cM ai,J 1])/\a7 a b
def agF{b q:Nat}(u:bk f h [cV 71<|N b] 160)(t:bk f o [N a] 73)(k:bk f a [N P,aZ g,aZ n,cM ai,cM ai,J 0,J 0,J 0,aG ao] 165)(j:dg f b A)(C:A.Ok q)(Z:q<=800000000000):bd aK 89 #[N h,N o] f λl d=>l=bg (aG aE)/\hJ d a P (U f.1) (U f.1+1) b g n A.x0 (q+276)/\cI (λi=>i=a) b f d:=by
 have ac:=k.lt;have L:=ae<|afl (bq f) j C Z;have wS:aD (bq f) (M o 0)=ag (N a):=bk.cell t 0 aA;have fB:aD (bq f) (M h 0)=ag (cV 71<|N b):=bk.cell u 0 aA;have T:=jj t k bL;have W:=jj u k bL;have Q:=ae<|yL j k bL;have X:=ae<|WK C;have R:ax (∀c,cI bH b (bq f) c->bk c a [N P,aZ g,aZ n,cM ai,cM ai,J 0,J 0,J 0,aG ao] 165/\aD c (M o 0)=ag (N a)/\aD c (M h 0)=ag (cV 71<|N b)):=λc B =>
  ⟨ix (w:=bq f) B j k bL id,bk.cell (ix (w:=bq f) B j t bL id) 0 aA,bk.cell (ix (w:=bq f) B j u bL id) 0 aA⟩
 clear u t k j C;have⟨rs,rQ⟩:=bi<|U f.1;have S:ax (bd aK 90 #[cV 71<|N b] (bq f) λl d=>l=bg (bX #[N rs,N<|rs+1])/\(dg d b A.AE/\gy d rs 240 b 0 1024 8 0 ve/\gy d (rs+1) 241 b 512 13312 0 0 oi/\cI bH b (bq f) d)):=by
  rw[rQ];exact L
 rw[<- rQ]at ac ⊢;have:=ae rQ;have I:ax (∀(c:aQ) (H:Nat) (v:bm),(aD c (M o 0)=ag (N a)/\aD c (M h 0)=ag (cV 71<|N b))->(aD (a_ c ⟨a,H,ai⟩ v) (M o 0)=ag (N a)/\aD (a_ c ⟨a,H,ai⟩ v) (M h 0)=ag (cV 71<|N b))):=λc H v r =>
  ⟨(ev<|dJ _ _ _ _ T).trans r.1,(ev<|dJ _ _ _ _ W).trans r.2⟩
 clear L rQ;go_wp2
 go_region_held (λd=>aD d (M o 0)=ag (N a)/\aD d (M h 0)=ag (cV 71<|N b)) (first|assumption|exact⟨wS,fB⟩|exact⟨q10,q5⟩|exact I _ _ _ ⟨q10,q5⟩|exact I _ _ _ (I _ _ _ ⟨q10,q5⟩)|go_keep)
  (first|(go_at_call 90;go_loud (refine S.m ?_;intro y O;have⟨hx2,q10,q5⟩:=V R y O.2.2.2;have ad:=bk.cell hx2 3 aA;have ah:=bk.cell hx2 4 aA;have aj:=bk.frozen hx2)))
 all_goals
  obtain⟨z,D,F,w⟩:=O;have Y:ax (∀e,(e=a_ (a_ y ⟨a,3,ai⟩<|cM<|ag ⟨rs,0,ai⟩) ⟨a,4,ai⟩ (cM<|ag ⟨rs+1,0,ai⟩)\/e=a_ (a_ y ⟨a,4,ai⟩<|cM<|ag ⟨rs+1,0,ai⟩) ⟨a,3,ai⟩ (cM<|ag ⟨rs,0,ai⟩)) ->
    hJ e a P rs (rs+1) b g n A.x0 (q+276)/\cI (λi=>i=a) b f e):=λe K=>by
   have aa:qj e a P rs (rs+1) g n 0 0 0 ao:=by
    rcases K with rfl|rfl
    ·exact bk.set (bk.set hx2 3 _) 4 _
    ·exact bk.set (bk.set hx2 4 _) 3 _
   have x:eL a y e:=by rcases K with rfl|rfl<;>exact kI (kI (mT _ _) _ _) _ _
   refine⟨⟨yK z hx2 bL λi aN ab=>x.5 i aN ab,(x.5 rs (bk.lt D) G).trans D,(x.5 (rs+1) (bk.lt F) G).trans F,aa,WJ A,X,eb _,eb _,eb _⟩,dC (dC l7<|jk w λ_ r=>r.elim)<|wy x af (V Q)<|jv z⟩
  clear z D F w hx2 ad ah aj q10 q5;go_wp2;go_ret;exact⟨af,V Y _<|by first|exact bG af|exact .inr rfl⟩
def Id{P:Prop}(h:P:=by first|assumption|go_keep):P:=h
def Ir{P:Prop}(h:P:=by first|(dsimp only;omega)|(simp<;>omega)):P:=h
def WW(s g e:ap)(bj:d3 f)(bl:dg f a A)(ba:A.Ok o)(bS:o<=800000000000):bd aK 43 #[aZ s,ci #[aZ g,aZ e],cV 71<|N a] f λw W=>wk s g e A a o f w W:=by
 have aB:=ae bl;have b3:=ae ba;have⟨Fe,AO⟩:=bi<|aO (aO f<|aS #[amz<|O g,amz<|O e] 62)<|aS #[cV 71<|cM<|ag ⟨a,0,ai⟩] 160;have aV:a7 f Fe:=by rw[AO];exact(cd.alloc bv _).alloc aA _
 have al:U Fe.1=U f.1+2:=by rw[AO];simp
 have bc:bk Fe (U f.1) [aZ g,aZ e] 62:=by rw[AO];exact(bk.fF f _ _).alloc _
 have bf:bk Fe (U f.1+1) [cV 71<|N a] 160:=by
  have:=bk.fF (aO f<|aS #[amz<|O g,amz<|O e] 62) [cV 71<|N a] 160;rw[gd]at this;rw[AO];exact this
 have aP:=ae<|afA s<|bj.below aV;rw[AO]at aP;have bt:=ae aV;have bp:=ae bc;have br:=ae bf;have a0:=ae al;clear bj bl ba aV bc bf al;go_in;go_wp2_with fail;refine aP.mono ?_;rw[<- AO];rintro w D ⟨ad,aa⟩;have al:=V a0;have a9:=bt.trans<|aa.mono G;have bW:=aa.4;have an:bk D (U f.1) [aZ g,aZ e] 62:=(aa.5 _ G).trans<|V bp;have bu:bk D (U f.1+1) [cV 71<|N a] 160:=(aa.5 _ G).trans<|V br;have cS:aD D (M (U f.1) 0)=ag (aZ g):=bk.cell an 0 aA;have bI:aD D (M (U f.1) 1)=ag (aZ e):=bk.cell an 1 aA;have aq:=ae<|agx g e D;have I:=ae a9;have aF:=ae an;have aH:=ae bu;have a6:ax (U f.1+2<=U D.1):=Iq
 have aX:ax (U f.1<=U Fe.1):=Iq
 clear aP AO al a0 aa bW a9 an bu bp br bt;unfold IU at ad;cases C:mP s with
 | none =>
 rw[C]at ad;subst ad;have F:ax (∀l,a7 f l->wk s g e A a o f (bg<|bX #[cM ai,J 1]) l):=λl bT=>by
  unfold wk;rw[C];exact⟨af,bT⟩
 clear C aq;go_wp2;refine eh (v:=bX #[cM ai,ak am 1]) ?_ af (F _ I);simp[dr,results43,go_sem]
 | some p =>
 rw[C]at ad;obtain⟨aY,r,x,K,rfl,bo,bs,bb⟩:=ad;have az:(mP s).isSome=aE:=by rw[C];rfl
 have ar:ax (mP s=ag p/\jJ p.1 p.2/\iL D r p.1 x 0 K (cq p.2)/\U f.1<=r/\U f.1<=x):=⟨C,aY,bb,cU (V aX) bo,cU (V aX) bs⟩
 clear C aY bb bo bs;go_wp2_with fail;refine aq.m ?_;intro h z;have:=z.4;by_cases u:pC g e=aE
 case neg =>
  have a3:pC g e=ao:=by simpa using u
  have F:ax (wk s g e A a o f (bg<|bX #[cM ai,J 3]) h):=by
   unfold ax wk;rw[b7 az,bJ u];exact⟨af,I.trans<|z.mono I.4⟩
  rw[a3];clear u a3 az aq z;go_wp2;refine eh (v:=bX #[cM ai,ak am 3]) ?_ af (V F);simp[dr,results43,go_sem]
 have F:ax (∀d ah aj l,hJ l d r ah aj a g e A.x0 (o+276)->cI bH a f l->(U f.1<=d/\U f.1<=ah/\U f.1<=aj)->iL l r p.1 x 0 K (cq p.2)->(∀c,c=r\/c=x->¬gm d ah aj c/\¬eO l a c/\U f.1<=c)->wk s g e A a o f (bg<|bX #[N d,J 0]) l):=λd ah aj l bN bO bP bQ bR=>by
  unfold wk;rw[b7 az,b7 u];exact⟨d,r,ah,aj,p,x,K,af,bN,bO,bP,ar.1,ar.2.1,bQ,bR⟩
 have b0:(O g).size<=281474976710656:=by
  have:=u;unfold pC at this;rw[fx,fx,jy]at this;rw[de,this.1.1];omega
 have bY:(O e).size<=281474976710656:=by
  have:=u;unfold pC at this;rw[fx,jy (a:=E e)]at this;rw[de,this.2];omega
 rw[u];clear u az;have aI:bk h (U f.1) [aZ g,aZ e] 62:=(z.5 _ aF.lt).trans aF;have a4:bk h (U f.1+1) [cV 71<|N a] 160:=(z.5 _ aH.lt).trans aH;have aT:=I.trans<|z.mono I.4;have aW:=ae<|ar.2.2.1.below z;have bK:aD h (M (U f.1) 0)=ag (aZ g):=bk.cell aI 0 aA;have bM:aD h (M (U f.1) 1)=ag (aZ e):=bk.cell aI 1 aA;have aC:=ae fun(bw:ByteArray) (l:aQ) (y:bw.size<=281474976710656)=>Tr bw l y;have Y:ax (∀(j:aQ) (d H:Nat),a7 h j->U h.1<=d->bk j d [N r,aZ g,aZ e,cM ai,cM ai,J 0,J 0,J 0,aG ao] 165->bk j H [N d] 73 ->
   bd aK 88 #[N d,fc (.func 89) #[] #[N<|U f.1+1,N H]] j λw W=>w=bg (bX #[])/\aD W (M H 0)=ag (N d) /\
    wk s g e A a o f (bg<|bX #[N d,J 0]) W):=λj d H au b9 ay av=>by
  have b5:=V a6;have bn:=au.4;have ab:=WO j d;have:=agu j d;have aJ:=(aT.trans<|au.mono aT.4).trans<|ab.mono G;have aR:=tQ (V aB) aJ;have bA:=(ab.5 d ay.lt).trans ay;have aM:=(ab.5 H av.lt).trans av;have bB:bk (td j d) (U f.1+1) [cV 71<|N a] 160:=(ab.5 _ G).trans<|(au.5 _ G).trans a4;have:=jj av ay bL;have:=av.lt;have:=ay.lt;refine(agv (λq=>hJ q d r (U (td j d).1) (U (td j d).1+1) a g e A.x0 (o+276)/\cI (λc=>c=d) a (td j d) q)
   ((agF bB aM bA aR (V b3) bS).mono (by
     rintro w q ⟨rfl,X,aw⟩;exact⟨af,⟨X,aw⟩,ix aw aR (Cv j d) bL G⟩))).mono ?_
  rintro w W ⟨rfl,q,⟨X,aw⟩,bx,rfl⟩;have bC:=NB X bx bL (by intro y;unfold gm at y;omega) λc _ bU=>dJ q (M (U j.1+1) 0) (aG aE) c bU;have Z:cI (λc=>c=d\/c=U j.1+1) a (td j d) (a_ q ⟨U j.1+1,0,ai⟩<|aG aE):=dC (jk aw λ_ y=>bG y)<|wy (kI (mT _ _) 0 _) (bE af) (yL X.1 bx bL)<|jv X.1;have P:=dC (qc (L:=λc=>U f.1<=c) aJ (jv<|V aB)) (jk Z λc y=>G);have a5:∀c,U f.1<=c->¬eO (td j d) a c:=λc aN R=>by
   have:=sC (V aB)<|oB (aJ.5 a<|jv<|V aB) R;omega
  have:=aW.1;have:x<U h.1:=IY<|V aW;obtain⟨b_,ca,_,cb,cc⟩:=V ar;have a2:∀c,c=r\/c=x->(a_ q ⟨U j.1+1,0,ai⟩<|aG aE).1[c]? = j.1[c]?:=λc aN=>(Z.5 c G G<|a5 c G).trans<|ab.5 c G;refine⟨af,(ev<|Z.5 H G G<|EM aR aM bL).trans<|bk.cell aM 0 aA,V F d _ _ _ bC ⟨P.1,P.2,P.3,P.4,λc aN _ bV=>P.5 c aN G bV,P.6⟩ ⟨G,G,G⟩ (IZ (aW.below au) (by have:=Z.4;omega) (a2 r<|bG af)<|a2 x<|bE af) λc aN=>⟨by intro y;unfold gm at y;omega,λR=>?_,G⟩⟩;rcases Z.6 c R with R|R
  ·exact a5 c G R
  ·omega
 clear z aI a4 aT I aF aH aq cS bI F;have:∀(a8:Fn) (first K:Array bm) (f:aQ),(Instr.makeFunc a8 first K).run aK f=.ok (fc a8 first K) f:=λ_ _ _ _=>af;have b8:U f.1<U h.1:=by have b5:=V a6;omega
 have:aD (bq h) (M (U f.1) 0)=ag (aZ g):=bK;have:aD (bq h) (M (U f.1) 1)=ag (aZ e):=bM;have:¬U f.1=U h.1:=G;have:U (bq h).1=U h.1:=af;go_wp2_with fail;go_region_with
  (first|(go_at_call 57;(refine(aC (O g) _ b0).m ?_;intro n Q;have bn:=Q.4;have b1:aD n (M (U f.1) 0)=ag (aZ g):=(Q.cell (p:=⟨U f.1,0,ai⟩) Ir).trans Id;have b2:aD n (M (U f.1) 1)=ag (aZ e):=(Q.cell (p:=⟨U f.1,1,ai⟩) Ir).trans Id;have bD:U f.1<U n.1:=(by first|omega|(simp at bn<;>omega));have:¬U f.1=U n.1:=zS bD;have aU:ax (a7 h n):=(by first|exact agA Q|exact agB Q);(first|(have gg:=agy Q;have:aD n (M (U h.1) 0)=ag (cM ai):=bk.cell gg 0 K9;have:=bk.frozen gg 0;have:U h.1<U n.1:=gg.lt;have:¬U h.1=U n.1:=zS gg.lt)|skip)))|(go_at_call 57;(refine(aC (O e) _ bY).mono ?_;rintro w k ⟨rfl,B⟩;have bz:=B.4;have b1:aD k (M (U f.1) 0)=ag (aZ g):=(B.cell (p:=⟨U f.1,0,ai⟩) Ir).trans Id;have b2:aD k (M (U f.1) 1)=ag (aZ e):=(B.cell (p:=⟨U f.1,1,ai⟩) Ir).trans Id;have bF:U f.1<U k.1:=(by first|omega|(simp at bz<;>omega));have:¬U f.1=U k.1:=zS bF;have ac:ax (a7 h k):=(by first|exact agC (V aU) B|exact agD (V aU) B);(first|(have S:=agz gg B;have:aD k (M (U h.1) 0)=ag (cM ai):=bk.cell S 0 K9;have:=bk.frozen S 0;have:U h.1<U k.1:=S.lt;have:¬U h.1=U k.1:=zS S.lt)|(have T:=WQ B;have:aD k (M (U n.1) 0)=ag (cM ai):=bk.cell T 0 K9;have:=bk.frozen T 0;have:U n.1<U k.1:=T.lt;have:¬U n.1=U k.1:=zS T.lt)|skip))))
 all_goals
  have t:=ac.4;go_wp2_with fail
  first
   | refine(Y _ (U k.1) (U h.1) (WV (V ac) t bv _ _) t (I0 S).1 (I0 S).2).mono ?_
   | refine(Y _ (U k.1) (U n.1) (WV (V ac) t aU.4 _ _) t (I0 T).1 (I0 T).2).mono ?_
   | refine(Y _ (U k.1) (U k.1+1) (WT (V ac) t _ _) t WR.1 WR.2).mono ?_
   | refine(Y _ (U k.1+1) (U k.1) (WT (V ac) t _ _) (Nat.le_succ_of_le t) WS.1 WS.2).mono ?_
  rintro w W ⟨rfl,b6,a1⟩;have b4:=ae a1;clear a1 Y aC;go_wp2_with fail;refine eh (v:=bX #[cM<|ag ⟨_,0,ai⟩,ak am 0]) ?_ af (V b4);simp[dr,results43,go_sem]
def Jq(b:Nat->UInt8)(d:Nat)(c:UInt8):Nat->UInt8:=λa=>if a=d then c else b a
def h7(b:ap)(c:Nat->UInt8):Prop:=E b=25600/\∀a,a<25600->b.getD a 0=c a
def h7.set{b d}(c:h7 b d){n}(i:n<25600)(e):h7 (b.set n e) (Jq d n e):=by refine⟨by rw[rU];exact c.1,λg aN=>?_⟩;rw[Jq,jw];by_cases a:g=n;{subst a;rw[K0<|c.1▸aN,b7 af];rfl};{rw[Sd λh=>a<|bZ h,bJ a,<- jw];exact c.2 g aN}
def oE(b:Nat->UInt8)(c:Nat)(v:Int):Nat->Nat->UInt8
 | 0=>b
 | a+1=>Jq (oE b c v a) (c+a)<|UInt8.ofNat<|c7<|v/2 ^ (8*a)%256
def Fb(b:Nat->UInt8)(c:Nat)(f:ap):Nat->Nat->UInt8
 | 0=>b
 | a+1=>Jq (Fb b c f a) (c+a)<|f.getD a 0
def sY(b:Nat->UInt8)(c:Nat):Nat->Int
 | 0=>0
 | a+1=>am.wrap<|sY b c a+am.wrap ((be (b<|c+a):Int)*2 ^ (8*a))
def wm(b:Nat->UInt8)(c:Nat):Nat->Nat
 | 0=>0
 | a+1=>wm b c a+be (b<|c+a)*2 ^ (8*a)
section
variable {b:ap} {F:Nat->UInt8} {S:cw}
def h7.N8(d:h7 b F)(c v):∀a,c+a<=25600->h7 (jX b c v a) (oE F c v a)
 | 0,_=>d
 | a+1,e=>(h7.N8 d c v a G).set G _
def h7.as_(d:h7 b F)(c f):∀a,c+a<=25600->h7 (sW b c f a) (Fb F c f a)
 | 0,_=>d
 | a+1,e=>(h7.as_ d c f a G).set G _
def h7.gt(d:h7 b F)(c):∀a,c+a<=25600->iI b c a=sY F c a
 | 0,_=>af
 | a+1,e=>by rw[iI,sY,h7.gt d c a G,d.2 (c+a) G]
def Xf:UInt8.ofNat (h/2 ^ (8*a))=UInt8.ofNat (c7<|(h:Int)/2 ^ (8*a)%256):=by have b:c7 ((h:Int)/2 ^ (8*a)%256)=h/2 ^ (8*a)%256:=by{rfl};rw[b];apply zT.1;simp
def h7.fo(c:h7 S.1 F)(b v):∀a,b+a<=25600->h7 (S.fo b v a).1 (oE F b v a)
 | 0,_=>c
 | a+1,d=>by have:=(h7.fo c b v a G).set (n:=b+a) G (UInt8.ofNat<|v/2 ^ (8*a));rw[Xf]at this;rw[oE,<- Xf]at *;exact this
def h7.nH(c:h7 S.1 F)(b f):∀a,b+a<=25600->h7 (S.nH b f a).1 (Fb F b f a)
 | 0,_=>c
 | a+1,d=>(h7.nH c b f a G).set G _
def Jr(F:Nat->UInt8)(b c d:Nat):Nat->Nat->UInt8
 | 0=>F
 | a+1=>oE (oE (oE (oE (Jr F b c d a) (b+16*a) (c+1536*a:Nat) 8) (b+(16*a+8)) 1536 4) (b+(16*a+12)) d 2) (b+(16*a+14)) 0 2
def Da(F:Nat->UInt8)(b a:Nat):List Nat->Nat->UInt8
 | []=>oE F (b+130) a 2
 | s::c=>Da (oE F (b+(132+2*(a%8))) s 2) b ((a+1)%65536) c
def h7.ah8(e:h7 S.1 F)(b c d)(g:b<=1000):∀a,a<=8->h7 (S.rE b c d a).1 (Jr F b c d a)
 | 0,_=>e
 | a+1,h=>(((((h7.ah8 e b c d g a G).fo _ _ 8 G).fo _ _ 4 G).fo _ _ 2 G).fo _ _ 2 G)
def h7.off{ba}(b:ba<=1000):∀ {l:List Nat} {S:cw} {F:Nat->UInt8} {av:Nat},h7 S.1 F->h7 (S.off ba av l).1 (Da F ba av l)
 | [],_,_,_,a=>a.fo _ _ 2 G
 | s::l,_,_,_,a=>h7.off b (l:=l) (a.fo _ s 2 G)
def Nm:Nat->UInt8:=Da (Da (Jr (Jr (λ_=>0) 0 1024 2 8) 512 13312 0 8) 512 0 []) 0 0 [0,1,2,3,4,5,6,7]
def h7.aKi(a:h7 S.1 λ_=>0):h7 S.AE.1 Nm:=h7.off G<|h7.off G<|h7.ah8 (h7.ah8 a 0 1024 2 G 8 G) 512 13312 0 G 8 G
def o9(S a:cw):Prop:=a.1=S.1/\a.3=[]
def o9.atb(d:o9 S A)(b):o9 S (A.uA b)/\A.tL b=S.1.getD b 0:=by
 obtain⟨e,g⟩:=d;have c:qv A.4 A.1 A.3=(S.1,[]):=by rw[e,g];rfl
 exact⟨⟨by show(qv A.4 A.1 A.3).1=_;rw[c],by show(qv A.4 A.1 A.3).2=_;rw[c]⟩,by show(qv A.4 A.1 A.3).1.getD b 0=_;rw[c]⟩
def o9.b_(e:h7 S.1 F)(d:o9 S A)(b):∀a,b+a<=25600->o9 S (A.b_ b a).1/\(A.b_ b a).2=wm F b a
 | 0,_=>⟨d,af⟩
 | a+1,k=>by obtain⟨g,h⟩:=o9.b_ e d b a G;obtain⟨i,j⟩:=o9.atb g<|b+a;exact⟨i,by show(A.b_ b a).2+be ((A.b_ b a).1.tL<|b+a)*_=_;rw[j,h,e.2 (b+a) G];rfl⟩
def o9.gv(e:h7 S.1 F)(d:o9 S A)(b):∀a,b+a<=25600->o9 S (A.gv b a).1/\(A.gv b a).2=(List.range a).map λg=>F<|b+g
 | 0,_=>⟨d,af⟩
 | a+1,l=>by obtain⟨h,i⟩:=o9.gv e d b a G;obtain⟨j,k⟩:=o9.atb h<|b+a;exact⟨j,by show(A.gv b a).2++[(A.gv b a).1.tL<|b+a]=_;rw[k,i,e.2 (b+a) G,BV,kq];rfl⟩
end
def su(f:ap):Nat->UInt8:=oE (oE (oE (Fb Nm 1036 f<|E f) 260 0 4) 264 54 4) 258 1 2
def ag0(b:h7 g Nm)(f)(i:E f=42):∃c,uQ g (0,0,0,0) f 0=(c,(1,1,0,0),aE)/\h7 c (su f):=by have:iI g 130 2=8:=(b.gt 130 2 G).trans dS;have a:iI g 132 2=0:=(b.gt 132 2 G).trans dS;have h:iI g 0 8=1024:=(b.gt 0 8 G).trans b8;refine⟨jX (jX (jX (sW g 1036 f<|E f) 260 0 4) 264 54 4) 258 1 2,?_,(((b.as_ 1036 f (E f) G).N8 260 0 4 G).N8 264 54 4 G).N8 258 1 2 G⟩;have d:uQ g (0,0,0,0) f 0=AL g (0,0,0,0) f (c7<|iI g 132 2) (iI g (16*c7 (iI g 132 2)) 8) (am.wrap<|12+E f+0):=by{grind[uQ]};rw[d,a,show(0:Int).toNat=0 from af,K8,h,i];rw[AL,b7 bL];have e:am.wrap (12+((42:Nat):Int)+0)=54:=bL;rw[e,show(1024:Int).toNat=1024 from af];grind[Nr]
def Db(f a:ap):Nat->UInt8:=Da (oE (Fb (Da (su f) 0 8 [0]) 13312 (mc++a) 54) 520 54 4) 512 0 [0]
def ag1{X:cz}{c a b}(h:X.10=ao)(g:X.1.b_ 770 2=a)(e:nk a.2 X.5=0)(j:a.1.b_ 258 2=b)(k:nk b.2 X.3=1):X.tN c=cz.pY c { X with s:=b.1,b:=ao } 1:=by have i:X.lC = { X with s:=a.1,b:=ao }:=by{rw[cz.lC,g,e,b7<|eb _,mO];rfl};have d:({ X with s:=a.1,b:=ao } : cz).10=ao:=af;rw[cz.tN,h,bJ bL,i,d,bJ bL];grind[cz.IA]
def ag2{S H}(c:h7 S.1<|su g)(x:S.3=[])(w:(List.range 42).map (λy=>su g<|1036+y)=g)(u:E n=42)(r:H g=n)(j:wm (su g) 770 2=0)(k:wm (su g) 258 2=1)(p:wm (su g) 260 4=0)(q:wm (su g) 264 4=54):∃e:cw,cz.tN H ⟨S,8,0,0,0,oi,0,0,0,ao⟩=⟨e,9,1,1,0,oi.set 0 aE,1,1,0,ao⟩/\h7 e.1 (Db g n):=by
 have⟨k1,e1⟩:=o9.b_ c (⟨af,x⟩:o9 S S) 770 2 G;have⟨x1,y1⟩:=dK<|S.b_ 770 2;rw[y1]at k1 e1;have⟨k2,e2⟩:=o9.b_ c k1 258 2 G;have⟨x2,y2⟩:=dK<|x1.1.b_ 258 2;rw[y2]at k2 e2;have⟨k3,e3⟩:=o9.b_ c k2 260 4 G;have⟨x3,y3⟩:=dK<|x2.1.b_ 260 4;rw[y3]at k3 e3;have⟨k4,e4⟩:=o9.b_ c k3 264 4 G;have⟨x4,y4⟩:=dK<|x3.1.b_ 264 4;rw[y4]at k4 e4;have⟨k5,e5⟩:=o9.gv c k4 1036 42 G;have⟨x5,qw⟩:=dK<|x4.1.gv 1036 42;rw[qw,w]at e5;rw[qw]at k5;rw[j]at e1;rw[k]at e2;rw[p]at e3;rw[q]at e4;rw[ag1 (X:=⟨S,8,0,0,0,oi,0,0,0,ao⟩) af y1 (by rw[e1];show nk 0 0=0;decide) y2 (by rw[e2];show nk 1 0=1;decide)];have⟨Y,hY⟩:=bi (⟨x2.1,8,0,0,0,oi,0,0,0,ao⟩:cz);have z:Y.lB=x3:=hY▸y3
 have A:Y.gT=x4:=by grind[cz.gT]
 have a:=WF (H:=H) (Y:=Y) (m:=0) (by grind);rw[z,A,e3,e4,K8,jn,show 1024+12=1036 from af,show 54-12=42 from af,qw,e5]at a;rw[show({ ({ s:=S,ra:=8,eH:=0,sa:=0,eW:=0,o:=oi,n:=0,t:=0,d:=0,b:=ao } : cz)with s:=x2.1,b:=ao } : cz)=Y from bZ hY,a,Np];rw[cz.ans,r,bJ λB=>by grind];have:oi.findIdx? (· == ao)=ag 0:=bL;refine⟨(((x5.1.off 0 8 [0]).nH 13312 (mc++n)<|12+E n).fo 520 (12+E n) 4).off 512 0 [0],?_,?_⟩;{grind[cz.snd]};{
 have i:=k5.1▸c
 have h:=h7.off G ((((h7.off (ba:=0) G (l:=[0]) (av:=8) i).nH 13312 (mc++n) (12+E n) G).fo 520 (12+E n) 4 G)) (ba:=512) (l:=[0]) (av:=0);rw[u]at h ⊢;exact h}
def ag3{b}(c:h7 g b)(k:sY b 642 2=1)(l:sY b 644 2=0)(n:sY b 512 8=13312)(o:sY b 520 4=54)(p:sY (oE (oE (oE b 772 0 4) 776 0 4) 770 1 2) 642 2=1):∃e s,rl 8 g (1,1,0,0) []=(e,(1,1,1,1),[s])/\E s=42:=by have:=(c.gt 642 2 G).trans k;have h:=(c.gt 644 2 G).trans l;have i:=(c.gt 512 8 G).trans n;have j:=(c.gt 520 4 G).trans o;have q:=((c.N8 772 0 4 G).N8 776 0 4 G).N8 770 1 2 G;have:=(q.gt 642 2 G).trans p;have a:rl 8 g (1,1,0,0) []=C_ (rl 7) g (1,1,0,0) [] (c7<|iI g 644 2) (iI g (512+16*c7 (iI g 644 2)) 8) (iI g (512+16*c7 (iI g 644 2)+8) 4):=by{rw[rl,b7 ⟨by grind,by grind⟩];rfl};rw[a,h,show(0:Int).toNat=0 from af,K8,jn,i,show 512+8=520 from af,j];rw[C_,b7 bL];refine⟨jX (jX (jX g 772 0 4) 776 0 4) 770 1 2,(bh 13324 g).take 42,?_,by rw[jF,js,c.1];omega⟩;have t:∀d,rl 7 (jX (jX (jX g 772 0 4) 776 0 4) 770 1 2) (1,1,1,1) d=(jX (jX (jX g 772 0 4) 776 0 4) 770 1 2,(1,1,1,1),d):=λd=>by{rw[rl,bJ λr=>r.1 G]};grind
def ag4{c d}(h:aD f c=ag (aG ao))(o:aD f d=ag (N a))(p:aD f (M a 8)=ag e)(n:io f (M a 8)=ao):CallsD aK 151 #[cM<|ag c,cM<|ag d] .returning f λg j k=>g=bg (bX #[])/\j=.returning/\k=a_ f ⟨a,8,ai⟩ (aG aE):=by refine callsD_of_wpS func151 af λv l i=>?_;apply wpS_seq;apply wpS_region;simp[wpOpsS,go_sem,recoverD,i,h,ntmps151,Exit.thenS];refine wpS_cond (t:=aE) (by simp[Act.eval,Array.replicate]) ?_;simp only[pi];refine wpS_of_wp ?_;have:Array.replicate 10 fv=#[fv,fv,fv,fv,fv,fv,fv,fv,fv,fv]:=af;go_wp2;cases v;simp_all [bodyPostS,dr,results151]
def Xh(b:aQ)(d:Nat)(c:Bool)(a:aQ):aQ:=if c then a_ a ⟨U b.1+1,0,ai⟩ (aG aE)else(a_ a ⟨U b.1+1,0,ai⟩<|aG ao).setCell ⟨d,8,ai⟩ (aG aE)
def ag5(a b):bk (td a b) (U a.1) [N b] 73:=(bk.fF a _ _).alloc _
def ag6(l:Bool->aQ->Prop)(B:a<U f.1)(i:bd aK 95 #[N a] (td f a) λe b=>∃d,e=bg (aG d)/\l d b/\bk b (U f.1+1) [aG ao] 4/\bk b (U f.1) [N a] 73/\∃v,aD b (M a 8)=ag v/\io b (M a 8)=ao):bd aK 88 #[N a,fc (.func 95) #[N a] #[]] f λe z=>e=bg (bX #[])/\∃d b,l d b/\bk b (U f.1+1) [aG ao] 4/\z=Xh f a d b:=by
 have:=ags;have:=bk.cell (Cv f a) 0 aA;have:=bk.frozen (Cv f a) 0;replace i:=ae i;go_enter_defers func88,ntmps88;go_wp21;refine i.mono ?_;rintro e b ⟨d,rfl,u,j,w,v,x,p⟩;have k:=ae u;have:co b (U f.1+1) 0 (aG ao):=bk.cell j 0 aA;have:=bk.frozen j 0;have g:=ae j;have o:=ae w;have n:=ae<|cv x p;go_wp2;refine leaves_cons (f:=151) (args:=#[N<|U f.1+1,N<|U f.1]) aA dS ?_;cases d with
 | true =>{have h:=bk.cell (bk.set (V g) 0<|aG aE) 0 aA;refine(WN h).mono ?_;rintro e y A ⟨rfl,rfl,rfl⟩;simp[Leaves,settle,dr,results88,go_sem];exact bE ⟨b,k,g,af⟩}
 | false =>{have h:=bk.cell (bk.set (V g) 0<|aG ao) 0 aA;have q:co (a_ b ⟨U f.1+1,0,ai⟩<|aG ao) (U f.1) 0 (N a):=(ev<|dJ _ _ _ _ aA).trans<|bk.cell (V o) 0 aA;have r:co (a_ b ⟨U f.1+1,0,ai⟩<|aG ao) a 8 v:=(ev<|dJ _ _ _ _<|by grind).trans n.1;have t:io (a_ b ⟨U f.1+1,0,ai⟩<|aG ao) (M a 8)=ao:=by{have:=n.2;simp_all};refine(ag4 h q r t).mono ?_;rintro e y A ⟨rfl,rfl,rfl⟩;simp[Leaves,settle,dr,results88,go_sem];exact bG ⟨b,k,g,af⟩}
def ag7{i s d}(c:qj f a h o P g n i s d aE):bd aK 54 #[N a] f λe l=>e=bg (J 4)/\l=f:=by have:co f a 8 (aG aE):=bk.cell c 8 aA;go_wp2;go_ret;simp
def ag8(a):({ ({ a with b:=ao } : cz)with b:=a.10 } : cz)=a:=dS
def Q9{P:Prop}(h:P:=by rw[uE]at d8;replace uE:=ae uE;go_wp2;go_ret;exact⟨by rw[V eT,V uE];rfl,bj.1,bj.2⟩):P:=h
def Xi{d e c C l k}(h:hJ f a o d e c n g k C)(aa:C<=600000000000)(Y:∀p,E (l p)<=1524)(S:∀(p:ap) (q:aQ),E p<=1524->cI (gm a d e) c f q->bd aK 37 #[N o,ci #[aZ n,aZ g],aZ p] q (cQ (aZ<|l p) q)):bd aK 54 #[N a] f λt I=>t=bg (J<|if(k.tN l).10 then 4 else 0)/\hJ I a o d e c n g (k.tN l) (C+30100)/\cI (gm a d e) c f I:=by
 cases z:k.10 with
 | true =>{
 have ad:k.tN l=k:=by rw[cz.tN,z,b7 af]
 have X:=h.4;rw[z]at X;refine(ag7 X).m ?_;rintro I rfl;rw[ad,z];exact⟨af,xy h G,tl _ _ _⟩}
 | false =>
 have⟨R,hR⟩:=dK<|k.tN l;have⟨l1,l2,l3,l4⟩:=A0 h;have⟨a1,a2,a3,a4⟩:=Fu h;have A:=WO f a;have D:∀ {y},U f.1<=y->¬gm a d e y:=λaN h=>by omega
 have u:=yE h A;have K:=ae<|ag6 (λb j=>b=(!R.10)/\hJ j a o d e c n g { R with b:=ao } (C+30100)/\cI (gm a d e) c f j) l1 ((ago u z aa Y λp q ab i=>S p q ab<|dC (qc A l4) i).mono<|by{rintro t j ⟨rfl,w,i⟩;rw[hR]at w ⊢;exact⟨_,af,⟨af,w,dC (qc A l4) i⟩,ix i u.1 (Cv f a) bL<|D G,ix i u.1 (ag5 f a) bL<|D bv,_,bk.cell w.4 8 aA,bk.frozen w.4 8⟩});rw[hR];have oH:aD f (M a 8)=ag (aG ao):=by have:=bk.cell h.4 8 aA;simp_all
 have:∀(Q:Fn) (first P:Array bm) (f:aQ),(Instr.makeFunc Q first P).run aK f=.ok (fc Q first P) f:=λ_ _ _ _=>af;have⟨v,hv⟩:=bi (if R.10 then 4 else 0:Int);rw[<- hv];have eT:=ae hv;clear h S u hR hv;go_in;go_wp2_with fail;refine K.m ?_;rintro aj ⟨b,j,⟨Z,T,i⟩,W,rfl⟩;have H:∀v:bm,hJ (a_ j ⟨U f.1+1,0,ai⟩ v) a o d e c n g { R with b:=ao } (C+30100):=λv=>NB T W bL (D G) λy _ ac=>dJ _ _ _ _ ac;have B:=λv=>AZ (C:=a_ j ⟨U f.1+1,0,ai⟩ v) i l4 af af af aA (λy aN=>dJ _ _ _ _<|by grind);have O:ax (∃r,r=Xh f a b j/\hJ r a o d e c n g R (C+30100)/\cI (gm a d e) c f r):=by{
 cases b with
 | true =>{have F:R.10=ao:=by{grind};have:=H<|aG aE;rw[No F]at this;exact⟨_,af,this,B _⟩}
 | false =>{have F:R.10=aE:=by{grind};have x:=H<|aG ao;have ah:=x.6;have:=WM x (kI (mT _ _) 8<|aG aE) (bk.set x.4 8<|aG aE) ah.2;refine⟨_,af,?_,dC (B<|aG ao)<|wy (L:=gm a d e) (kI (mT _ _) 8<|aG aE) (bG af) a4 (jv x.1)⟩;have t:=ag8 R;rw[F]at t;rw[<- t];exact this}};have⟨r,hW2,gR,gi⟩:=V O;rw[<- hW2];have d8:aD r (M a 8)=ag (aG R.10):=bk.cell gR.4 8 aA;have bj:=ae<|cv gR gi;clear O K T W H B hW2 gR gi i Z;cases uE:R.10 with
 | true =>{exact Q9}
 | false =>{exact Q9}
structure uS where
 xb:Nat
 zb:Nat
 rb:Nat
 sb:Nat
 mb:Nat
 ca:Nat
 yb:Nat
 zd:Nat
 nb:Nat
 cb:Nat
 aB:ap
 ip:ap
abbrev uS.la(a:uS)(b:Nat):Prop:=gm a.1 a.3 a.4 b\/b=a.6
abbrev uS.lb(a:uS)(b:Nat):Prop:=b=a.7\/b=a.10
structure rm(q w:World)(p LA LB:Nat->Prop)(I:uS)(X Y:cz)(C:Nat):Prop where
 x:hJ w I.xb I.zb I.rb I.sb I.mb I.aB I.ip X C
 y:iA w I.yb I.zd I.nb I.aB I.ip Y C
 la:∀i,LA i->i<w.heap.size
 lb:∀i,LB i->i<w.heap.size
 sa:∀i,gm I.xb I.rb I.sb i->LA i
 sb:LB I.yb
 N9:∀i,eO w I.mb i\/LA i->eO w I.nb i\/LB i->False
 sO:∀i,p i->i<w.heap.size/\¬(eO w I.mb i\/LA i)/\¬(eO w I.nb i\/LB i)
 fr:cL p q w
structure oe(q w:World)(p:Nat->Prop)(I:uS)(X Y:cz)(c d:Nat×Nat×Nat×Nat)(C:Nat):Prop extends rm q w p I.la I.lb I X Y C where
 a:mx w I.ca I.mb c
 b:mx w I.cb I.nb d
def Nt{b c q}(l:hJ f a o h P b g n q c)(w:dg m b A)(e:cI B b f m)(d:∀p,gm a h P p->¬B p)(u:A.Ok c):hJ m a o h P b g n { q with s:=A } c :=
 ⟨w,lE l.2 e l.1 bL<|d _<|bE<|bG af,lE l.3 e l.1 bL<|d _<|bE<|bE af,ix e l.1 l.4 bL<|d _<|bG af,l.5,u,l.6.2⟩
section
variable {q w w':World} {p:Nat->Prop} {I:uS} {X Y X' Y':cz} {c d c' d':Nat×Nat×Nat×Nat} {C C':Nat} {S:cw}
def Xj{d}(c:rm q w p d B I X Y C)(aN:eO w I.9 a\/B a):a<U w.1:=aN.elim (sC c.y.1)<|c.lb a
def Xk{d}(c:rm q w p B d I X Y C)(aN:eO w I.5 a\/B a):a<U w.1:=aN.elim (sC c.x.1)<|c.la a
def N2(b:rm q w p B Z I X Y C)(u:hJ w' I.1 I.2 I.3 I.4 I.5 I.11 I.12 X' C')(d:cI B I.5 w w')(r:C<=C'):rm q w' p B Z I X' Y C'/\∀a,eO w I.9 a\/Z a->w'.1[a]? = w.1[a]?:=by
 have i:=λa aN=>d.5 a (Xj b aN) (λj=>b.N9 a (bE j) aN) λc=>b.N9 a (bG c) aN;have k:∀a,eO w' I.9 a\/Z a->eO w I.9 a\/Z a:=λa aN=>aN.imp_left λc=>oB (i I.9<|bG<|bG af) c;have n:∀a,a<U w.1->eO w' I.5 a\/B a->eO w I.5 a\/B a:=λa aN t=>t.imp_left λc=>(d.6 a c).elim id λx=>by omega
 exact⟨⟨u,rh ⟨CH b.y.1 λa c=>i a<|bG c,(i I.7<|bE b.sb).trans b.y.2,b.y.3,b.y.4⟩ r,λa aN=>e8 (b.la a aN) d.4,λa aN=>e8 (b.lb a aN) d.4,b.sa,b.sb,λa o l=>b.N9 a (n a (Xj b<|k a l) o)<|k a l, λa e=>⟨e8 (b.sO a e).1 d.4,λc=>(b.sO a e).2.1<|n a (b.sO a e).1 c,λc=>(b.sO a e).2.2<|k a c⟩, b.fr.trans ⟨d.1,d.2,d.3,d.4,λa aN e=>d.5 a aN (λj=>(b.sO a e).2.1<|bE j) λc=>(b.sO a e).2.1<|bG c⟩⟩,i⟩
def Xl(b:rm q w p B Z I X Y C)(u:iA w' I.7 I.8 I.9 I.11 I.12 Y' C')(d:cI Z I.9 w w')(r:C<=C'):rm q w' p B Z I X Y' C'/\∀a,eO w I.5 a\/B a->w'.1[a]? = w.1[a]?:=by
 have j:=λa aN=>d.5 a (Xk b aN) (λi=>b.N9 a aN<|bE i) λc=>b.N9 a aN<|bG c;have k:∀a,eO w' I.5 a\/B a->eO w I.5 a\/B a:=λa aN=>aN.imp_left λc=>oB (j I.5<|bG<|bG af) c;have n:∀a,a<U w.1->eO w' I.9 a\/Z a->eO w I.9 a\/Z a:=λa aN t=>t.imp_left λc=>(d.6 a c).elim id λx=>by omega
 exact⟨⟨xy (Cu b.x λa aN=>j a<|aN.elim (λi=>bE<|b.sa a i) bG) r,u,λa aN=>e8 (b.la a aN) d.4,λa aN=>e8 (b.lb a aN) d.4,b.sa,b.sb,λa l o=>b.N9 a (k a l)<|n a (Xk b<|k a l) o, λa e=>⟨e8 (b.sO a e).1 d.4,λc=>(b.sO a e).2.1<|k a c,λc=>(b.sO a e).2.2<|n a (b.sO a e).1 c⟩, b.fr.trans ⟨d.1,d.2,d.3,d.4,λa aN e=>d.5 a aN (λi=>(b.sO a e).2.2<|bE i) λc=>(b.sO a e).2.2<|bG c⟩⟩,j⟩
def Xm{c}(a:rm q w p B c I X Y C)(d:a7 w w'):rm q w' p B c I X Y C:=(N2 a (yE a.x d) (qc d<|jv a.x.1) bv).1
def N3{c}(a:rm q w p B c I X Y C)(g:dg w' I.5 S)(d:cI bH I.5 w w')(e:S.Ok C):rm q w' p B c I { X with s:=S } Y C:=(N2 a (Nt a.x g d (λ_ _ a=>a) e) (jk d λ_ a=>a.elim) bv).1
def N4{c}(a:rm q w p B c I X Y C)(g:dg w' I.9 S)(d:cI bH I.9 w w')(e:S.Ok C):rm q w' p B c I X { Y with s:=S } C:=(Xl (Y':={ Y with s:=S }) a ⟨g,ix d a.y.1 a.y.2 bL id,a.y.3,e,a.y.4.2⟩ (jk d λ_ a=>a.elim) bv).1
def ag9(b:rm q w p B Z I X Y C)(o:∀n,B n->gm I.1 I.3 I.4 n)(u:∀n,Z n->n=I.7)(j:a7 w w'){cb}(r:mx w' a I.5 c)(t:mx w' cb I.9 d)(D:U w.1<=a)(F:U w.1<=cb)(ca:a≠cb):oe q w' p { I with ca:=a,cb:=cb } X Y c d C:=by have h:=Xm b j;have x:∀n,eO w' I.5 n\/(gm I.1 I.3 I.4 n\/n=a)->n<U w.1->eO w I.5 n\/B n:=λn aN z=>by{rcases aN with e|g|rfl;{exact .inl<|oB (j.block I.mb<|jv b.x.mem) e};{exact .inr<|b.sa n g};{omega}};have y:∀n,eO w' I.nb n\/(n=I.7\/n=cb)->n<U w.1->eO w I.9 n\/Z n:=λn aN z=>by{rcases aN with e|rfl|rfl;{exact .inl<|oB (j.block I.nb<|jv b.y.mem) e};{exact .inr b.sb};{omega}};have A:∀n,eO w' I.mb n\/(gm I.xb I.rb I.sb n\/n=a)->n<U w.1\/n=a:=λn aN=>by{rcases aN with e|g|rfl;{exact .inl<|sC b.x.mem<|oB (j.block I.mb<|jv b.x.mem) e};{exact .inl<|b.la n<|b.sa n g};omega};have G:∀n,eO w' I.nb n\/(n=I.7\/n=cb)->n<U w.1\/n=cb:=λn aN=>by{rcases aN with e|rfl|rfl;{exact .inl<|sC b.y.mem<|oB (j.block I.nb<|jv b.y.mem) e};{exact .inl<|b.lb _ b.sb};omega};refine⟨⟨h.x,h.y,λn aN=>aN.elim (λg=>h.la n<|h.sa n g) λi=>i ▸ bk.lt r,λn aN=>aN.elim (λi=>i ▸ h.lb _ h.sb) λi=>i ▸ bk.lt t,λn g=>bG g,bG af,λn o u=>?_,λn k=>⟨(h.sO n k).1,λe=>?_,λe=>?_⟩,h.fr⟩,r,t⟩;{rcases A n o with g|rfl;{exact b.N9 n (x n o g)<|y n u g};grind};{exact(b.sO n k).2.1<|x n e (b.sO n k).1};{exact(b.sO n k).2.2<|y n e (b.sO n k).1}
def N5(a:oe q w p I X Y c d C)(h:hJ w' I.1 I.2 I.3 I.4 I.5 I.11 I.12 X' C')(g:mx w' I.6 I.5 c')(e:cI I.la I.5 w w')(b:C<=C'):oe q w' p I X' Y c' d C':=by have⟨k1,k2⟩:=N2 a.1 h e b;exact⟨k1,g,(k2 I.10<|bE<|bE af).trans a.3⟩
def Xn(a:oe q w p I X Y c d C)(h:iA w' I.7 I.8 I.9 I.11 I.12 Y' C')(g:mx w' I.10 I.9 d')(e:cI I.lb I.9 w w')(b:C<=C'):oe q w' p I X Y' c d' C':=by have⟨k1,k2⟩:=Xl a.1 h e b;exact⟨k1,(k2 I.6<|bE<|bE af).trans a.2,g⟩
def N6(a:oe q w p I X Y c d C)(j:dg w' I.5 S)(i:mx w' I.6 I.5 c')(e:cI (λg=>g=I.6) I.5 w w')(h:S.Ok C):oe q w' p I { X with s:=S } Y c' d C :=
 N5 a (Nt a.x j e (λg aN b=>by
  subst b;rcases aN with b|b|b
  ·exact jj a.2 a.x.4 bL b
  ·exact jj a.2 a.x.2 bL b
  ·exact jj a.2 a.x.3 bL b) h) i (jk e λ_ a=>bE a) bv
def N7(a:oe q w p I X Y c d C)(i:dg w' I.9 S)(h:mx w' I.10 I.9 d')(b:cI (λj=>j=I.10) I.9 w w')(g:S.Ok C):oe q w' p I X { Y with s:=S } c d' C :=
 Xn a ⟨i,ix b a.y.1 a.y.2 bL λe=>jj a.3 a.y.2 bL<|bZ e,a.y.3,g,a.y.4.2⟩ h (jk b λ_ a=>bE a) bv
def Xo(a:oe q w p I X Y c d C)(g:dg w' I.5 S)(b:cI bH I.5 w w')(e:S.Ok C):oe q w' p I { X with s:=S } Y c d C:=N6 a g (ix b a.x.1 a.2 bL id) (jk b λ_ a=>a.elim) e
def Xp(a:oe q w p I X Y c d C)(g:dg w' I.9 S)(b:cI bH I.9 w w')(e:S.Ok C):oe q w' p I X { Y with s:=S } c d C:=N7 a g (ix b a.y.1 a.3 bL id) (jk b λ_ a=>a.elim) e
def Js(a:oe q w p I X Y c d C)(b:a7 w w'):oe q w' p I X Y c d C :=
 N5 a (yE a.x b) ((b.5 _<|bk.lt a.2).trans a.2) (qc b<|jv a.x.1) bv
def ag_(b:oe q w p I X Y c d C)(a:cI (gm I.1 I.3 I.4) I.5 w w'):cL p q w' :=
 b.fr.trans ⟨a.1,a.2,a.3,a.4,λe aN g=>a.5 e aN (λh=>(b.sO e g).2.1<|bE<|bG h) λi=>(b.sO e g).2.1<|bG i⟩
def ahc(e:oe q w p I X Y c d C)(a:cI (λb=>b=I.7) I.9 w w'):cL p q w' :=
 e.fr.trans ⟨a.1,a.2,a.3,a.4,λb aN g=>a.5 b aN (λh=>(e.sO b g).2.2<|bE<|bG h) λi=>(e.sO b g).2.2<|bG i⟩
end
structure N_(w:World)(mb bb:Nat)(vl vm:Option Addr)(cl cm:Nat)(S:cw):Prop where
 r:oM w bb S.b
 c0:w.cell? (M mb 0)=some (bC bb 0 25600 25600)
 c1:w.cell? (M mb 1)=some (.slice vl S.l.length cl)
 c2:w.cell? (M mb 2)=some (.bool false)
 c5:w.cell? (M mb 5)=some (.slice vm S.m.length cm)
 c6:w.cell? (M mb 6)=some (.bool S.e)
 c9:w.cell? (M mb 9)=some (J S.s)
 l:∀k x,S.l[k]? = some x->∃g,vl=some (M g 0)/\w.cell? (M g k)=some (J x)
 m:∀k x,S.m[k]? = some x->∃g,vm=some (M g 0)/\w.cell? (M g (k*2))=some (J x.1)/\w.cell? (M g (k*2+1))=some (J x.2)
def Xq:∀(b:List<|Int×Int) (c:Nat) (a:Int×Int),b[c]? = ag a->(b.flatMap λa=>[ak am a.1,ak am a.2])[c*2]? = ag (J a.1)/\(b.flatMap λa=>[ak am a.1,ak am a.2])[c*2+1]? = ag (J a.2)
 | [],_,_,d=>by grind
 | e::b,0,a,d=>by grind
 | e::b,c+1,a,d=>by have g:=Xq b c a (by grind);grind
def Dc(B:dg f a A):∃i r t c k,N_ f a i r t c k A:=by obtain⟨i,r,t,F,b,C,o,p,_⟩:=B;obtain⟨d,c,rfl⟩:∃d c,r=aL d (E A.2) c:=by{obtain⟨_,⟨rfl,n⟩|⟨g,j,l,rfl,_⟩⟩:=o;{grind};simp};obtain⟨w,k,rfl⟩:∃d c,t=aL d (E A.5) c:=by{obtain⟨_,⟨rfl,n⟩|⟨g,j,l,rfl,_⟩⟩:=p;{grind};simp};refine⟨i,d,w,c,k,C,rH b,I3 b,aei b,CG b,VU b,VX b,λq y h=>?_,λq y h=>?_⟩;{have D:=(j_.1 h).1;have z:=o;obtain⟨_,⟨e,n⟩|⟨g,j,l,e,_⟩⟩:=o;{omega};{obtain⟨rfl,-,rfl⟩:=np e;refine⟨g,af,?_⟩;rw[nz z q G,vy,h];rfl}};{have D:=(j_.1 h).1;have u:=p;obtain⟨_,⟨e,n⟩|⟨g,j,l,e,_⟩⟩:=p;{omega};{obtain⟨rfl,-,rfl⟩:=np e;have⟨q1,q2⟩:=Xq A.5 q y h;exact⟨g,af,by rw[nz u _ G];exact q1,by rw[nz u _ G];exact q2⟩}}
def Jt{w}(c:oM w a g):(convert 58 9<|bC a 0 25600 25600).run aK w=.ok (aZ g) w:=by have:=Ni (p:=0) (n:=25600) (cp:=25600) c G;rw[sk,<- c.1,ld,c.1]at this;omega
def Ob(b a):bd aK 45 #[J b] a λc d=>c=bg (J b)/\d=a:=by go_wp2;go_ret;simp
abbrev nF(a:cw)(b:Nat):Prop:=a.6=ao/\a.qH b=ao
def Oc(b:A.6=ao)(c d):nF (A.uA c) d:=⟨b,by unfold cw.qH;split<;>rfl⟩
def A3(c:A.6=ao)(d e):∀a,nF (A.b_ d<|a+1).1 e
 | 0=>Oc c _ _
 | a+1=>Oc (A3 c d e a).1 _ _
def Od(c:nF A a)(d):∀e,nF (A.gv d e).1 a
 | 0=>c
 | e+1=>Oc (Od c d e).1 _ _
def Xr{e}(g:nF A h)(i:o0 a=h)(aN:p5 a=ao):nF (A.st a e) h:=by obtain⟨b,d⟩:=g;subst i;unfold cw.st cw.qH at *;simp only[b,aN,DP,yn,ym,Li,zG];exact⟨d,d⟩
def Xs{n r c}(b:A.6=ao)(aN:p5 n=aE)(h:r<2)(g:A.qH r=ao)(e:o0 n≠r)(d:o0 n<2):nF (A.st n c) r:=by unfold cw.st nF cw.qH at *;grind
def Ju{p v}(g:nF A a):∀d,(∀b,b<d->o0 (p+b)=a/\p5 (p+b)=ao)->nF (A.fo p v d) a
 | 0,_=>g
 | d+1,c=>Xr (Ju g d λb h=>c b G) (c d G).1 (c d G).2
def Xt{p l}(g:nF A a):∀d,(∀b,b<d->o0 (p+b)=a/\p5 (p+b)=ao)->nF (A.nH p l d) a
 | 0,_=>g
 | d+1,c=>Xr (Xt g d λb h=>c b G) (c d G).1 (c d G).2
def ahd(b:cw)(d c)(aN:p5 a=ao):(b.st a d).qH c=b.qH c:=by grind[cw.st,cw.qH]
def Xu(d:cw)(c):∀v,(∀b,b<v->p5 (a+b)=ao)->(d.fo a h v).qH c=d.qH c
 | 0,_=>af
 | v+1,e=>(ahd _ _ c<|e v G).trans<|Xu d c v λb g=>e b G
def Fd(b:a≠130/\a≠131/\a≠642/\a≠643):p5 a=ao:=by grind[p5,o0]
def ahe(b:a<512):o0 a=0:=by grind[o0]
def Oe(b:(512<=a/\a<1024)\/13312<=a):o0 a=1:=by grind[o0]
def ahf{a i}(e:nF A 0)(g:nF A 1):nF (A.off 0 a [i]) 1:=by rw[cw.off,cw.off,g8,g8];have k:nF (A.fo (132+2*(a%8)) i 2) 0:=Ju e 2 λj h=>⟨ahe G,Fd G⟩;have l:(A.fo (132+2*(a%8)) i 2).qH 1=ao:=(Xu A 1 2 λj h=>Fd G).trans g.2;show nF (((A.fo (132+2*(a%8)) i 2).st 130 _).st 131 _) 1;have d:=Xs (n:=130) (r:=1) (c:=UInt8.ofNat<|(a+1)%65536/2 ^ (8*0)) k.1 bL G l bL bL;exact Xs d.1 bL G d.2 bL bL
def ahg{X:cz}(h:nF X.1 1)(i:E X.6=8)(o:E g<=1524):(X.snd g).1.6=ao:=by
 unfold cz.snd;cases aN:X.6.findIdx? (· == ao)with
 | none=>grind
 | some a =>{
 have q:a<8:=by rw[<- i];exact(KY.1 aN).1
 show(((X.1.nH (13312+1536*a) (mc++g)<|12+E g).fo (512+(16*a+8)) (12+E g) 4).off 512 X.4 [a]).6=ao;rw[cw.off,cw.off];have j:=Xt (p:=13312+1536*a) (l:=mc++g) h (12+E g) λf aN=>⟨Oe G,Fd G⟩;have k:=Ju (p:=512+(16*a+8)) (v:=12+E g) j 4 λf aN=>⟨Oe G,Fd G⟩;have n:=Ju (p:=512+(132+2*(X.4%8))) (v:=a) k 2 λf aN=>⟨Oe G,Fd G⟩;generalize ((X.1.nH (13312+1536*a) (mc++g)<|12+E g).fo (512+(16*a+8)) (12+E g) 4).fo (512+(132+2*(X.4%8))) a 2=b at *;have e:∀(b:cw) (c:Nat) (d:UInt8),p5 c=aE->b.6=ao->(b.st c d).6=ao:=λb c d r t=>by{grind[cw.st]};exact e _ _ _ bL<|e _ _ _ bL n.1}
def agG{X:cz}(a:E X.6=8):E (X.snd g).6=8:=by grind[cz.snd]
def agH{c:cz}{a b}(d:∀g,nF b.1 g):(c.vJ a b).1.1.6=ao/\((c.vJ a b).2≠ai->nF (c.vJ a b).1.1 1):=by unfold cz.vJ;split;{have:=ahf (a:=c.2) (i:=a.2) (Od (d 0) (1024+1536*a.2+12)<|b.2-12) (Od (d 1) _ _);grind};{exact⟨(d 0).1,λe=>absurd af e⟩}
def agI{a:cz}(c:a.1.6=ao):a.kM.1.1.6=ao/\(a.kM.2≠ai->nF a.kM.1.1 1):=by refine agH λb=>?_;have:=(A3 c (260+8*(a.3%8)) b 3).1;exact A3 this _ b 3
def agJ{b}(d:∀g,E (b g)<=1524){a:cz}(e:nF a.1 1)(c:E a.6=8):(a.ans b g).1.6=ao/\E (a.ans b g).6=8:=by unfold cz.ans;split;{grind};{exact⟨ahg (X:={ a with n:=a.7+1 }) e c (d g),agG (X:={ a with n:=a.7+1 }) c⟩}
def agK{d e}(j:∀c,c.1.6=ao->E c.6=8->(d c).1.1.6=ao/\∀f,(d c).2=ag f->(e (d c).1 f).1.6=ao/\E (e (d c).1 f).6=8):∀c:cz,c.1.6=ao->E c.6=8->(zD d e h c).1.6=ao:=by
 induction h with
 | zero=>exact λc g _=>g
 | succ h l =>{
 intro c g k;have⟨a,b⟩:=j c g k;cases i:(d c).2 with
 | none=>rw[VE i];exact a
 | some f=>rw[VF i];grind}
def agL{c}(g:∀f,E (c f)<=1524){a}(b:a.1.6=ao)(d:E a.6=8):(cz.pY c a h).1.6=ao:=by refine agK (λa b d=>?_) a b d;have e:=agI b;have⟨_,_,q3,_⟩:=WC a;refine⟨e.1,λf i=>agJ g (e.2<|by grind)<|by grind⟩
def Xv:∀c (a:cw) (g:Nat) (d:List Bool),a.6=ao->E d=8->(mO a g d c).1.6=ao/\E (mO a g d c).2.2.1=8
 | 0,_,_,_,b,e=>⟨b,e⟩
 | c+1,a,g,d,b,e=>by rw[mO];split;{exact Xv c _ _ _ (A3 b _ 0 3).1<|by grind};{exact⟨(A3 b _ 0 3).1,e⟩}
def agM{c}{a:cz}(g:∀f,E (c f)<=1524)(d:a.1.6=ao)(h:E a.6=8):(a.tN c).1.6=ao:=by unfold cz.tN;split;{exact d};have e:a.lC.1.6=ao/\E a.lC.6=8:=by{have b:=(A3 d 770 0 1).1;unfold cz.lC;split;{exact Xv _ _ _ _ b h};grind};split;{grind};generalize a.lC=i at *;have b:=(A3 e.1 258 0 1).1;unfold cz.IA;split;{exact agL g b e.2};omega
def Xw(h:aQ)(g:Nat->Prop)(d:uS)(b:Nat×Nat×Nat×Nat)(c:Nat)(e:nO)(i:aQ):Prop:=e=bg (aG aE)/\∃a:cz,a.1.6=ao/\oe h i g d a a b b c
structure Bl(q:World)(p:Nat->Prop)(I:uS)(Z:cz)(c:Nat×Nat×Nat×Nat)(C bb:Nat)(vl vm:Option Addr)(cl cm bb':Nat)(Fi pV:Option Addr)(cl' Fj:Nat)(W:World):Prop where
 s:oe q W p I Z Z c c C
 a:N_ W I.mb bb vl vm cl cm Z.s
 b:N_ W I.nb bb' Fi pV cl' Fj Z.s
def Ff{e i k j n d u w c r}(l:Bl f B e i k a h u w P o j c r n d m)(p):Bl f B e i k a h u w P o j c r n d (ef m p) :=
 ⟨Js l.1<|kv cd p,⟨l.2.1,l.2.2,l.2.3,l.2.4,l.2.5,l.2.6,l.2.7,l.2.8,l.2.9⟩,⟨l.3.1,l.3.2,l.3.3,l.3.4,l.3.5,l.3.6,l.3.7,l.3.8,l.3.9⟩⟩
def iZ{l i k j n g t u e q}(c:Bl f B l i k a h t u P o j e q n g m):aD m (M l.7 3)=ag (N l.9):=(iS c.1.y.2 c.1.y.3.2.2.2.2).2.2.2.1
def agN{b}{H:ap->ap}(q){r}(e:oe f m B b q q r r a)(bt:a<=500000000000)(S:∀i,E (H i)<=1524)(aH:q.1.6=ao)(ar:∀(i:ap) (d:aQ),E i<=1524->cL B f d->bd aK 37 #[N b.2,ci #[aZ b.11,aZ b.12],aZ i] d (cQ (aZ<|H i) d))(aB:∀(i:ap) (d:aQ),E i<=1524->cL B f d->bd aK 38 #[N b.8,ci #[aZ b.11,aZ b.12],aZ i] d (cQ (aZ<|H i) d)):bd aK 51 #[N b.1,N b.7,N b.5] m λh D=>Xw f B b r (a+60200) h D:=by
 have⟨bb,vl,vm,cl,cm,hR⟩:=Dc e.x.1;have:=hR.3;have:=hR.5;have:=hR.7;have t:=ae<|Xi e.x G S λi d ab aa=>ar i d ab<|ag_ e aa;have⟨R,ze⟩:=dK<|q.tN H;rw[ze]at t;have aj:R.1.6=ao:=by rw[<- ze];exact agM S aH e.x.5.2.2.2.2
 have j:=ae e;have ad:=ae aB;have aY:=ae ze;have⟨v,hv⟩:=bi (if R.10 then 4 else 0:Int);rw[<- hv]at t;have av:=ae hv;have bf:=e.x.6.1.1;have bj:=e.x.6.1.2.2.2;clear e ar aB hR ze aH hv;go_in;go_wp2_with fail;refine t.m ?_;rintro bw ⟨bn,aw⟩;have az:=N5 (V j) bn (ix aw j.x.1 j.2 bL λaN=>by{rcases aN with h|h|h;{exact jj j.a j.x.aB bL h};{exact jj j.a j.x.rr bL h};{exact jj j.a j.x.sr bL h}}) (jk aw λ_ e=>bG e) G;have aP:=ae<|I5 b.5 R.1 az.x.1;have T:=ae az;go_wp2_with fail;refine aP.m ?_;rintro a3 ⟨au,aC⟩;have W:R.1.rest.Ok (a+30100):=T.x.6.1;have M:=Xo (V T) au aC W;have aT:ax (bd aK 94 #[N b.7] a3 λh D=>h=bg (J v)/\iA D b.7 b.8 b.9 b.11 b.12 R (a+30100+30100)/\cI (λk=>k=b.7) b.9 a3 D):=by{have:=agq M.y G S λi d ab aa=>V ad i d ab<|ahc M aa;rw[V aY]at this;refine this.mono λh D aJ=>⟨c_ aJ.1<|by rw[V av],aJ.2⟩};have u:=ae M;clear M au aC aP T;go_wp2_with fail;refine aT.m ?_;rintro bx ⟨aq,Y⟩;have A:=Xn (V u) aq (ix Y u.y.1 u.3 bL<|jj u.3 u.y.2 bL) (jk Y λ_ e=>bG e) G;have a1:=ae<|I5 b.9 R.1 A.y.1;have ba:=(iS A.y.2 A.y.3.2.2.2.2).2.2.2.1;have a2:=ae A;clear A aq Y aT u;go_wp2_with fail;refine a1.m ?_;rintro bz ⟨aI,aR⟩;have O:=Xp (V a2) aI aR<|qU W G;have⟨Z,kU⟩:=bi ({ R with s:=R.1.rest }:cz);rw[<- kU]at O;have I:Z.1.6=ao:=by rw[kU];exact aj
 have ah:=ae<|WP O.x.4;have a0:=ae O;clear O aI aR a1 a2 ba kU W ad aY av aj;go_wp2_with fail;refine ah.m ?_;intro Q aF;have⟨w6,abp⟩:=bi<|aO Q<|aS #[ak am Z.7,ak am Z.8,ak am Z.9,aG Z.10] 101;have ay:a7 Q w6:=by rw[abp];exact cd.alloc bv _
 have n:=Js (Js (V a0) aF) ay;have x:bk w6 (U Q.1) [J Z.7,J Z.8,J Z.9,aG Z.10] 101:=by rw[abp];exact bk.fF Q _ _
 have⟨bb,vl,vm,cl,cm,hA⟩:=Dc n.x.1;have⟨bb',Fi,pV,cl',Fj,hB⟩:=Dc n.y.1;have:=n.x.6.1.1;have:=n.x.6.1.2.2.2;have⟨cS,d1,d2,iZ,f1,f2,f3,f4,d16,d17,d18,d19⟩:=iS n.y.2 n.y.3.2.2.2.2;have aU:=x.cell 0 aA;have aV:=x.cell 1 aA;have aW:=x.cell 2 aA;have aX:=x.cell 3 aA;simp only[e9,fw]at aU aV aW aX;have ac:=ae fun(d:aQ) (bp:Int)=>Ob bp d;have w:=ae<|Bl.mk n hA hB;have K:=hA.3;have a6:=hA.4;have an:=hA.6;have L:=hB.3;rw[I]at an;have bc:=ae I;have al:=ae abp;have aM:ax (∀d,Bl f B b Z r (a+30100+30100) bb vl vm cl cm bb' Fi pV cl' Fj d->Xw f B b r (a+60200) (bg<|aG aE) d):=λd e=>⟨af,Z,I,e.1⟩;clear n x aF ay a0 ah hA hB cS d1 d2 f1 f2 f3 f4 abp I bf bj;go_wp2;rw[<- V al];go_quiet (first|(go_at_call 45;exact Calls.quiet_of_same<|ac _ _));have a4:=ae<|Ff (V w) nq;generalize ef w6 nq=d at *;have K:=a4.2.3;clear w ac al aU aV aW aX d16 d17 d18 d19 a6 an L iZ bc;go_wp2;go_loopw [13] (λk wr=>∃c:Nat,k=J c/\ax (Bl f B b Z r (a+30100+30100) bb vl vm cl cm bb' Fi pV cl' Fj wr)) λk _=>E Z.1.2-c7 (intOf k);·grind
 ·(
 obtain⟨c,rfl,w⟩:=hrel;have K:=w.2.3;have L:=w.3.3;have iZ:=iZ<|V w;by_cases P:c<E Z.1.2;{obtain⟨l,o⟩:∃l,Z.1.2[c]? = ag l:=⟨_,gw P⟩;have⟨g,hg,y1⟩:=w.2.8 c l o;have⟨g',n9,y2⟩:=w.3.8 c l o;rw[hg]at K;rw[n9]at L;have F:(c:Int)<E Z.1.2:=G;go_wp2;go_quiet (fail);have y:=ae<|Ff (V w) nq;generalize ef wr nq=a5 at *;go_wp2;exact⟨⟨c+1,dH,y⟩,ee⟩};have F:¬(c:Int)<E Z.1.2:=G;have z:=w.2.5;have X:=w.3.5;clear P;go_wp2;go_quiet (fail);have y:=ae<|Ff (V w) nq;clear K L iZ z X F w;generalize ef wr nq=a5 at *;have z:=y.2.5;go_wp2;go_loopw [14] (λk wr=>∃c:Nat,k=J c/\ax (Bl f B b Z r (a+30100+30100) bb vl vm cl cm bb' Fi pV cl' Fj wr)) λk _=>E Z.1.5-c7 (intOf k);·exact⟨_,af,y⟩
 ·(
 clear y z;obtain⟨c,rfl,w⟩:=hrel;have z:=w.2.5;have X:=w.3.5;have iZ:=iZ<|V w;by_cases P:c<E Z.1.5;{obtain⟨l,o⟩:∃l,Z.1.5[c]? = ag l:=⟨_,gw P⟩;have⟨g,hg,y1,y2⟩:=w.2.9 c l o;have⟨g',n9,y3,y4⟩:=w.3.9 c l o;rw[hg]at z;rw[n9]at X;have F:(c:Int)<E Z.1.5:=G;go_wp2;go_quiet (fail);have bo:=ae<|Ff (V w) nq;generalize ef wr nq=br at *;go_wp2;exact⟨⟨c+1,dH,bo⟩,ee⟩};have F:¬(c:Int)<E Z.1.5:=G;have a8:=w.2.7;have a9:=w.3.7;have:=w.2.2;have:=w.3.2;have:=λC=>Jt (w:=ef wr C) w.2.1;have:=λC=>Jt (w:=ef wr C) w.3.1;generalize Z.1.1=bu at *;by_cases bl:Z.1.9=q.1.9;{rw[bl]at a8 a9;have t:=ae<|aM _ w;go_wp2;go_ret;assumption};{
 have bs:((Z.1.9:Int)==q.1.9)=ao:=kB
 have:¬(Z.1.9:Int)=q.1.9:=G;have t:=ae λC=>V aM _<|Ff (V w) C;go_wp2;go_quiet (fail);go_wp2;go_ret;exact t _}))
def C8:Nat->List kb->List kb
 | 0,a=>a
 | b+1,a=>match a[b+1]?,a[b]? with
  | some c,some d=>if c.1<d.1 then C8 b ((a.set (b+1) d).set b c)else a
  | _,_=>a
def tW(b:Nat):List kb->List kb->List kb
 | a,[]=>a
 | a,c::d=>tW b (C8 (E a)<|a++[(am.wrap<|c.1+(b:Int),c.2)]) d
def uU(a:kb):List bm:=[J a.1,J a.2.1,ak ck<|be a.2.2]
def ou(c:aQ)(b:Nat)(v:bm)(a:List kb):Prop:=c.ownsRow b 174 3 v (E a)<|fA uU a
def wC(c:aQ)(v:bm)(d:List kb):Prop:=∃g j,v=aL g (E d) j/\(d=[]\/∃a ay,g=ag (M a ay)/\a<U c.1/\∀b e h i,d[b]? = ag (e,h,i)->aD c (M a<|ay+b*3)=ag (J e)/\aD c (M a<|ay+b*3+1)=ag (J h)/\aD c (M a<|ay+b*3+2)=ag (ak ck<|be i))
def OY:∀(g:List kb) (a:Nat) (c d:Int) (e:UInt8),g[a]? = ag (c,d,e)->(fA uU g)[a*3]? = ag (J c)/\(fA uU g)[a*3+1]? = ag (J d)/\(fA uU g)[a*3+2]? = ag (ak ck<|be e)
 | [],_,_,_,_,b=>by simp at b
 | i::h,0,c,d,e,b=>by simp at b;subst b;exact⟨af,af,af⟩
 | i::h,a+1,c,d,e,b=>by have j:=OY h a c d e (by simpa using b);rw[l5,show(a+1)*3=E (uU i)+a*3 by simp[uU];omega,rV,rV,uC G,uC G,uC G];simpa using j
def Za:∀(d:List kb) (a:Nat) (b:kb),a<E d->(((fA uU d).set (a*3)<|J b.1).set (a*3+1)<|J b.2.1).set (a*3+2) (ak ck<|be b.2.2)=fA uU (d.set a b)
 | [],_,_,c=>by simp at c
 | g::e,0,b,c=>af
 | g::e,a+1,b,c=>by have h:=Za e a b (by simpa using c);rw[lp,l5,l5,<- h,show(a+1)*3=E (uU g)+a*3 by simp[uU];omega,rV,rV,vC _ _ G,vC _ _ G,vC _ _ G];simp
def FD{c:List kb}(n:E c=h)(g:ou f a (bC o 0 h P) c){k:Nat}{e:UInt8}(b:c[k]? = ag (i,x,e)):aD f (M o<|k*3)=ag (J i)/\aD f (M o<|k*3+1)=ag (J x)/\aD f (M o<|k*3+2)=ag (ak ck<|be e):=by have:=(j_.1 b).1;unfold ou at g;rw[n]at g;have⟨h1,h2,h3⟩:=OY c k i x e b;exact⟨by rw[nz g _ G];exact h1,by rw[nz g _ G];exact h2,by rw[nz g _ G];exact h3⟩
def OZ{e:List kb}(j:E e=a)(i:ou f h (bC o 0 a P) e)(c:Nat):io f (M o c)=ao:=by unfold ou at i;rw[j]at i;exact Gg i c
def Zb{k:Nat}{c:List kb}(l:E c=o)(b:ou f h (bC P 0 o k) c)(i:a<E c)(d e:Int)(g:UInt8):ou (a_ (a_ (a_ f ⟨P,a*3,ai⟩<|ak am d) ⟨P,a*3+1,ai⟩<|ak am e) ⟨P,a*3+2,ai⟩<|ak ck<|be g) h (bC P 0 o k) (c.set a (d,e,g)):=by unfold ou at b;rw[l]at b;have:=((((K_ b (a*3)<|J d).1.stored (a*3+1)<|J e).1.stored (a*3+2)<|ak ck<|be g).1);unfold ou;rw[<- Za c a (d,e,g) i,rU,l];exact this
def A8{c:List kb}(g:ou f a e c)(h:∀v,e.ownBlock=ag v->m.1[v]? = f.1[v]?):ou m a e c:=mN g h
def akg{v:List kb}(j:ou f a e v):wx f e v:=by obtain⟨t,n⟩:=j;rcases n with⟨rfl,k⟩|⟨i,g,h,rfl,p,l,o,q,r,d⟩;{have:v=[]:=iM k;subst this;exact⟨ai,0,af,cW _,bG ⟨af,af⟩⟩};{refine⟨_,g,af,o,bE ⟨i,0,h.1,af,l,λb aN=>?_⟩⟩;have⟨h1,h2,h3⟩:=OY v b v[b].1 v[b].2.1 v[b].2.2<|gw aN;rw[<- d]at h1 h2 h3;rw[DH,b7 G]at h1 h2 h3;rw[g8,zR 3 b];exact⟨h1,h2,h3⟩}
def xE(e:aQ)(c g:Nat)(j k:bm)(a:cw)(i:List kb)(b:aQ):Prop :=
 ∃d,iR b c g j k ⟨ao,d,λ_=>True⟩ a.4 a.6 a.7 a.8 a.9/\ou b (U e.1) d i/\cL (λh=>h≠c) e b
def xE.aPo{u:List kb}(B:o7 f a h e k s A)(D:xE f a h e k A u m):dg m a { A with p:=u }/\cI bH a f m:=by obtain⟨c,F,z,b⟩:=D;have n:=@tP _ _ _ _ _ _ _ B;obtain⟨o,q,r,t,H⟩:=B;have x:o7 m a h e k c { A with p:=u }:=⟨F,t7 q<|b.5 h q.2.lt<|jj q.2 o bL,mN r λl j=>b.5 l (pX r j) λd=>lk o r bL<|by rw[j,d],mN t λl j=>b.5 l (pX t j) λd=>lk o t bL<|by rw[j,d],akg z⟩;refine⟨⟨h,e,k,c,x⟩,b.1,b.2,b.3,b.4,λy aN _ C=>b.5 y aN λd=>C<|bG d,λy G=>?_⟩;rcases(tP x).1 G with B|B|B|B|B;{exact bG<|bG B};{exact bG<|n.2<|bE<|bG B};{exact bG<|n.2<|bE<|bE<|bG B};{exact bG<|n.2<|bE<|bE<|bE<|bG B};{exact bE (sG z B).1}
def akh{O:bm}{x:List kb}(i:o7 f a o e O k A)(K:wC f s x)(b4:∀l ay bT w,s=bC l ay bT w->0<bT->l≠a)(b9:E x<=10000000)(cR:A.4<=1000000000000):bd aK 50 #[N a,s] f λq b1=>q=bg (bX #[])/\dg b1 a { A with p:=tW A.4 [] x }/\cI bH a f b1:=by
 have cq:=ae i;have i:=i.1;have⟨F,L⟩:=dK<|tW A.4 [] x;rw[L];have⟨ln,jP⟩:=dK<|E x;have b3:=ae L;have bb:=ae jP;have⟨i0,aN,hz0,hz1,hz2⟩:=jN aet;obtain⟨Y,co,rfl,K⟩:=K;rw[jP]at b9 ⊢;have:=uo i;have:=rp i;have bA:=ae K;have cp:ax (xE f a o e O A []<|a_ f ⟨a,3,ai⟩<|aL ai 0 0):=⟨bY,bk.set i 3<|bY,⟨af,bG ⟨af,af⟩⟩,cL.j9 _ λb i=>i⟩;have b5:ax (∀l ay,Y=ag (M l ay)->0<ln->l≠a):=λl ay q=>b4 l ay (E x) co (by rw[q]) ∘ (by rw[jP];exact id);clear i K b4 L jP;go_wp2;go_loopg [4] ln (λn v wr=>∃(b:Nat) (r:List kb),v=J b/\b+n=ln/\ax (E r=b/\tW A.4 r (bh b x)=F)/\ax (xE f a o e O A r wr));·exact⟨0,[],af,G,⟨af,b3⟩,cp⟩
 ·(
 obtain⟨b,r,rfl,cS,a3,R⟩:=hrel;clear b3;by_cases cX:b<ln;{
 have⟨vq,hm,ho,L⟩:=V R;obtain⟨l,ay,bK,ca,bM⟩:∃l ay,Y=ag (M l ay)/\l<U f.1/\∀b g t u,x[b]? = ag (g,t,u)->aD f (M l<|ay+b*3)=ag (J g)/\aD f (M l<|ay+b*3+1)=ag (J t)/\aD f (M l<|ay+b*3+2)=ag (ak ck<|be u):=by{rcases V bA with i|i;{have:=V bb;rw[i]at this;simp at this;omega};{exact i}};have bc:b<E x:=cj<|V bb
 obtain⟨g,t,u,aY⟩:∃g t u,x[b]=(g,t,u):=⟨_,_,_,af⟩;have⟨x0,x1,x2⟩:=bM b g t u (by rw[gw bc,aY]);have T:ax (tW A.4 (C8 b<|r++[(am.wrap<|g+(A.4:Int),t,u)]) (bh (b+1) x)=F/\E r=b):=by{have⟨e1,e2⟩:=V a3;rw[lA bc,aY,tW,e1]at e2;exact⟨e2,e1⟩};have cm:=V b5 l ay bK G;subst bK;have aT:=L.5 l ca cm;have cO:=(ev (a:=⟨l,ay+b*3,ai⟩) aT).trans x0;have cP:=(ev (a:=⟨l,ay+b*3+1,ai⟩) aT).trans x1;have cQ:=(ev (a:=⟨l,ay+b*3+2,ai⟩) aT).trans x2;have aV:=sF hm;have:a≠U wr.1:=G;have⟨a2,ha2⟩:=bi<|am.wrap<|g+(A.4:Int);have cb:=bZ ha2;have:(b:Int)<ln:=G;have ar:=uo hm;have cA:=CF hm;have cc:=rp hm;have aa:=ae hm;have P:=ae ho;have Z:=ae L;rw[cb]at T;clear hm ho L bM aT x0 x1 x2 ha2 R bA b5 a3 bc aY;go_wp2;go_region;go_upto_region 6 with fail;have⟨W1,hW1⟩:=bi<|bq<|aO wr<|aS #[ak am a2,ak am t,ak ck<|be u] 174;have aH:∀c,c<U wr.1->W1.1[c]? = wr.1[c]?:=λc j=>by rw[hW1];exact dT _ _ _ j
 have bR:U W1.1=U wr.1+1:=by rw[hW1];simp
 have aB:bk W1 (U wr.1) [J a2,J t,ak ck<|be u] 174:=by rw[hW1];exact bk.fF _ _ _
 have ac:=pW (V aa)<|aH a aV;have bO:=A8 (V P) λn cu=>aH n<|pX (V P) cu;have a4:cL (λb=>b≠a) f W1:=Z.trans ⟨by rw[hW1];rfl,by rw[hW1];rfl,by rw[hW1];rfl,G,λc j _=>aH c j⟩;rw[<- hW1];have aZ:W1.ownsRow (U f.1) 174 3 vq b (fA uU r):=by have:=bO;unfold ou at this;rw[T.2]at this;exact this
 have bV:=aB.cell 0 aA;have bW:=aB.cell 1 aA;have b0:=aB.cell 2 aA;simp only[e9,fw]at bV bW b0;have cF:=uo ac;have cE:=rp ac;have bN:=lk ac aZ bL;have bS:=a4.4;have bt:=sF ac;have a1:=ae aZ;have bB:=ae ac;have an:=ae a4;clear hW1 aH aB ac a4 aZ bO aa P Z cO cP cQ ar cA cc;go_cut [36]from 11 to 97 λ_ wc=>ax<|xE f a o e O A (r++[(a2,t,u)]) wc;·(go_region_law (first|(refine step_append_lies _ rfl (.tmp 33) (.tmp 35) 80 rfl f.heap.size 174 i0 (.agg #[J 0,J 0,.int .u8 0]) 3 24 aeq aN hz0 hz1 hz2 rfl bL _ b _ rfl (a1.alloc _) _ 1 1 [J a2,J t,.int .u8 u.toNat] rfl rfl (aer bR.symm a2 t u _) (aes a2 t u) bL FT G (by first|omega|(simp;omega)) (W1.heap.size+1) (by first|rfl|simp) ?_;intro n w bj bP S ct cY;have aI:=pW (V bB)<|(S.5 a cx bN).trans<|dT _ _ _ bt;have:=uo aI;have:=rp aI));all_goals(have ab:World.grownBy (aO W1<|aS #[ak am a2,ak am t,ak ck<|be u] 174) bj vq.ownBlock:=⟨S.1,S.2,S.3,S.4,S.5⟩;have bD:ax (ou bj (U f.1) (bC n 0 (b+1) w)<|r++[(a2,t,u)]):=by{unfold ax ou;rw[dE,T.2,rR];exact bP};have cy:ax (cL (λb=>b≠a) f bj):=⟨c_ ab.1 an.1,c_ ab.2 an.2,c_ ab.3 an.3,cU bS<|cU aA ab.4,λc j ap=>((ab.5 c cx λq=>cj<|(sG (V a1)<|bZ q).1).trans<|dT _ _ _ G).trans<|an.5 c j ap⟩;have bF:=ae aI;clear bP S ct ab aI;go_wp2;go_meet;·(refine⟨bC n 0 (b+1) w,bk.set (V bF) 3<|bC n 0 (b+1) w,A8 (V bD) λcs a8=>dJ _ _ _ _ λq=>lk (V bF) (V bD) bL<|by rw[a8,q],cy.trans<|cL.j9 _ λb i=>i⟩)))
 ·(
 clear a1 bB an bV bW b0 cF cE bN bS bt bR;have R:=hcut;clear hcut;have bu:ax (∃n w,aD wc (M a 3)=ag (bC n 0 (b+1) w)):=by{have⟨Ic,hm,ho,_⟩:=V R;have K:=T.2;unfold ou at ho;rw[dE,K]at ho;obtain⟨n,w,rfl,_⟩:=World.ownsRow.form ho aA;exact⟨n,w,uo hm⟩};have⟨n,w,z3⟩:=V bu;have:((b:Int)+1-1)=b:=G;go_wp2;go_loopg [6] b (λba v cN=>∃a7:List kb,v=J (ba:Nat)/\ba<=b/\ax (E a7=b+1/\tW A.4 (C8 ba a7) (bh (b+1) x)=F)/\ax (xE f a o e O A a7 cN));·exact⟨_,dH,cW _,⟨by rw[dE,T.2];rfl,T.1⟩,R⟩
 ·(
 obtain⟨a7,rfl,aX,aq,cl⟩:=hrel;have ah:=aq.1;have D:=ae ah;have⟨Ic,hm,ho,L⟩:=V cl;have cd:∃n w,Ic=bC n 0 (b+1) w/\U f.1<=n/\n<U wr.1:=by{have i:=ho;unfold ou at i;rw[ah]at i;have⟨n,w,q,hb,K⟩:=World.ownsRow.form i G;exact⟨n,w,q,hb,K⟩};obtain⟨h,Q,rfl,cT,cC⟩:=cd;have b2:h≠a:=λq=>lk hm ho bL (by rw[<- q];rfl);have ar:aD wr (M a 3)=ag (bC h 0 (b+1) Q):=uo hm;have aV:=sF hm;have aa:=ae hm;have P:=ae ho;have Z:=ae L;have a0:ax (∀r,ax<|xE f a o e O A a7<|ef wr r):=λr=>⟨_,pW (V aa) af,A8 (V P) λ_ _=>af,Z.trans ⟨af,af,af,cW _,λ_ _ _=>af⟩⟩;clear R bu z3 hm L T;match gk,aX with
 | 0,aX =>{
 have bf:ax (E a7=b+1/\tW A.4 a7 (bh (b+1) x)=F):=V aq;clear ho ah aq;go_wp2_with fail;go_quiet (fail);go_wp2_with fail;go_roundg (ln-(b+1));case measure=>omega
 case rel=>exact⟨b+1,a7,dH,G,bf,V a0 _⟩}
 | cK+1,aX =>{
 have⟨z,hK⟩:=bi<|cK+1;obtain⟨y,B,C,aM⟩:∃y B C,a7[z]? = ag (y,B,C):=⟨_,_,_,gw G⟩;obtain⟨X,av,aw,aP⟩:∃y B C,a7[cK]? = ag (y,B,C):=⟨_,_,_,gw G⟩;have⟨u0,u1,u2⟩:=FD ah ho aM;have⟨v0,v1,v2⟩:=FD ah ho aP;have aU:=ae<|cv aM aP;have aR:ax (E a7=b+1/\tW A.4 (if y<X then C8 cK ((a7.set z (X,av,aw)).set cK (y,B,C))else a7) (bh (b+1) x)=F):=by{have:=V aq;rw[C8,<- hK,aM,aP]at this;exact this};rw[<- hK];have:(z:Int)-1=cK:=G;have:0<(z:Int):=G;have:0<z:=G;have:z<b+1:=G;have:cK<b+1:=G;have:(z:Int)<b+1:=G;have:(cK:Int)<b+1:=G;have:(z:Int)<((b+1:Nat):Int):=G;have:(cK:Int)<((b+1:Nat):Int):=G;have bo:=ae hK;clear ho hK aM aP ah aq;by_cases a6:y<X;{
 rw[b7 a6]at aR;go_wp2;go_quiet (fail);have⟨W,hW⟩:=bi<|ef wr nq;have al:W.1=wr.1:=by rw[hW];rfl
 have bI:iR W a o e O ⟨ao,bC h 0 (b+1) Q,λ_=>True⟩ A.4 A.6 A.7 A.8 A.9:=pW (V aa) (by rw[al]);have a5:ou W (U f.1) (bC h 0 (b+1) Q) a7:=A8 (V P) λ_ _=>by rw[al]
 have L:cL (λb=>b≠a) f W:=Z.trans (by rw[hW];exact⟨af,af,af,cW _,λ_ _ _=>af⟩);have I:∀Y v,aD wr Y=ag v->aD W Y=ag v:=λY v i=>by rw[hW];exact i
 replace u0:=I _ _ u0;replace u1:=I _ _ u1;replace u2:=I _ _ u2;replace v0:=I _ _ v0;replace v1:=I _ _ v1;replace v2:=I _ _ v2;replace ar:=I _ _ ar;have b8:h<U W.1:=by rw[al];exact cC
 have ce:a<U W.1:=by rw[al];exact aV
 have cr:=OZ (V D) a5;have bv:=ae bI;have bw:=ae a5;have bx:=ae L;rw[<- hW];clear hW al bI a5 L I aa P Z a0;go_upto_region 11 with fail;have⟨W5,Lz⟩:=bi<|aO W<|aS #[ak am y,ak am B,ak ck<|be C] 174;have aJ:∀c,c<U W.1->W5.1[c]? = W.1[c]?:=λc j=>by rw[Lz];exact dT _ _ _ j
 have bz:bk W5 (U W.1) [J y,J B,ak ck<|be C] 174:=by rw[Lz];exact bk.fF _ _ _
 have a9:=pW (V bv)<|aJ a ce;have aj:ou W5 (U f.1) (bC h 0 (b+1) Q) a7:=A8 (V bw) λcs a8=>by cases a8;exact aJ h b8
 have bU:cL (λb=>b≠a) f W5:=bx.trans ⟨by rw[Lz];rfl,by rw[Lz];rfl,by rw[Lz];rfl,by rw[Lz];simp,λc j _=>aJ c j⟩;have cD:aD W5 (M a 3)=ag (bC h 0 (b+1) Q):=uo a9;have b_:=FD (V D) aj aU.1;have cn:=FD (V D) aj aU.2;have cf:=OZ (V D) aj;have cg:h≠U W.1:=G;have bp:=ae bz;have bn:=ae a9;have bl:=ae aj;have ad:=ae bU;rw[<- Lz];clear Lz aJ bz a9 aj bU bv bw bx u0 u1 u2 v0 v1 v2 ar cr;go_region;have⟨W6,LC⟩:=bi<|bq<|a_ (a_ (a_ W5 ⟨h,z*3,ai⟩<|ak am X) ⟨h,z*3+1,ai⟩<|ak am av) ⟨h,z*3+2,ai⟩<|ak ck<|be aw;have aC:∀c,c≠h->W6.1[c]? = W5.1[c]?:=λc j=>by rw[LC];exact(dJ _ _ _ _ j).trans<|(dJ _ _ _ _ j).trans<|dJ _ _ _ _ j
 have az:ou W6 (U f.1) (bC h 0 (b+1) Q) (a7.set z (X,av,aw)):=by rw[LC];exact A8 (Zb (V D) (V bl) (by rw[V D];omega) X av aw) λ_ _=>af
 have aW:=pW (V bn)<|aC a λq=>b2<|bZ q;have aF:bk W6 (U W.1) [J y,J B,ak ck<|be C] 174:=(aC _ λq=>cg<|bZ q).trans<|V bp;have br:cL (λb=>b≠a) f W6:=⟨by rw[LC];exact ad.1,by rw[LC];exact ad.2,by rw[LC];exact ad.3,by rw[LC];simpa [a_]using ad.4,λc j ap=>(aC c G).trans<|ad.5 c j ap⟩;have:aD W6 (M a 3)=ag (bC h 0 (b+1) Q):=uo aW;have:=FD (k:=cK) (by rw[rU];exact D) az (by rw[Sd<|cj<|V bo];exact aU.2);have:=OZ (by rw[rU];exact D) az;have cG:=aF.cell 0 aA;have cH:=aF.cell 1 aA;have cJ:=aF.cell 2 aA;simp only[e9,fw]at cG cH cJ;have b6:=ae aW;have ch:=ae az;have au:=ae br;rw[<- LC];clear LC aC az aW aF br bp bn bl ad cD b_ cn cf;go_upto_region 12 with fail;go_region;have cz:ax (∀r,ax<|xE f a o e O A ((a7.set z (X,av,aw)).set cK (y,B,C))<|ef (a_ (a_ (a_ W6 ⟨h,cK*3,ai⟩<|ak am y) ⟨h,cK*3+1,ai⟩<|ak am B) ⟨h,cK*3+2,ai⟩<|ak ck<|be C) r):=λr=>by{have bs:∀c,c≠h->(ef (a_ (a_ (a_ W6 ⟨h,cK*3,ai⟩<|ak am y) ⟨h,cK*3+1,ai⟩<|ak am B) ⟨h,cK*3+2,ai⟩<|ak ck<|be C) r).1[c]? = W6.1[c]?:=λc j=>(dJ _ _ _ _ j).trans<|(dJ _ _ _ _ j).trans<|dJ _ _ _ _ j;exact⟨_,pW (V b6)<|bs a λq=>b2<|bZ q,A8 (Zb (by rw[rU];exact D) ch (by rw[rU,V D];omega) y B C) λ_ _=>af,⟨au.1,au.2,au.3,by simpa [a_]using au.4,λc j ap=>(bs c G).trans<|au.5 c j ap⟩⟩};go_wp2;go_roundg cK;case measure=>have:=V bo;omega
 case rel=>exact⟨_,dH,G,⟨by rw[rU,rU];exact D,aR.2⟩,V cz 1⟩};{
 have:=gD a6;rw[bJ a6]at aR;have bf:=aR;go_wp2;go_quiet (fail);go_wp2;go_roundg (ln-(b+1));case measure=>omega
 case rel=>exact⟨b+1,a7,dH,G,bf,V a0 _⟩}}))};{obtain rfl:b=ln:=G;go_wp2_with fail;refine lG (v:=bX #[]) (by simp[dr,results50]) af ?_;have bQ:=V a3;rw[D8 (by have:=V bb;omega),tW]at bQ;have:=xE.aPo (V cq)<|V R;rw[bQ.2]at this;exact⟨af,this⟩})
def Zc(a:Nat){g:List kb}(d:dg f a A)(q:wC f e g)(r:∀i ay h n,e=bC i ay h n->0<h->i≠a)(l:E g<=10000000)(k:A.4<=1000000000000):bd aK 50 #[N a,e] f λo j=>o=bg (bX #[])/\dg j a { A with p:=tW A.4 [] g }/\cI bH a f j:=by obtain⟨t,u,w,x,d⟩:=d;exact akh d q r l k
end Go.Proofs.YtkkpahmoljiepaaGreatDoor
