import Derived.Test.YtkkpahmoljiepaaGreatDoorJ02
set_option maxRecDepth 1000000
set_option maxHeartbeats 12800000
set_option linter.all false
open Array renaming size->U
open Bool renaming false->ao,true->aE
open Go.Obj renaming cells->aS
open Go.RowKit.Below renaming alloc->ct,mono->bV,trans->bN
open Go.Value renaming bool->aG,int->ak,slice->aL,string->amz
open Go.World renaming alloc->aO,alloc_heap_new->du,cell?->aD,drew->bq
open List renaming length->E
open Option renaming none->ai,some->ag
namespace Go.Proofs.YtkkpahmoljiepaaGreatDoor
open Go.RowKit Go.Proofs.Tryz
variable{a d:Nat}{b f:World}{c:ap}{e k s F:Value}{j:List D}
def As(c b:Value)(a:D):Value:=.agg #[c,J a.aP,J a.type,aZ a.data,b]
def At(b:ap)(a:D):Bool:=a.type==2 && !decide (I 46 a.owner=I 46 b)
def aaH{P a}(l)(K:nS b d c P)(G:E c<=900)(z:gG b e<|I 46 a.owner)(H:E a.owner<=900):Calls Tryz.prog 185 #[N d,As e l a] b (cQ (aG<|At c a) b):=by
 obtain⟨j,R,ay,S,n,B,T,Q⟩:=K;have L:=(ea.1 n).1;have⟨W,hW⟩:=bi<|aO b<|aS #[e,ak .i64 a.aP,ak .i64 a.type,amz<|O a.data,l] 119;have g:a7 b W:=by rw[hW];exact Bt
 have hnew:W.1[U b.1]? = ag (aS #[e,ak .i64 a.aP,ak .i64 a.type,amz<|O a.data,l] 119):=by rw[hW];exact du b _
 have u:aD W (M (U b.1) 0)=ag e:=by exact m8
 have F:aD W (M (U b.1) 2)=ag (J a.type):=by exact m8
 have o:aD W (M d 0)=ag j:=by
  have:=(g.5 d L).trans n;unfold aD; rw[this];rfl
 have x:=(ea.1 hnew).1;have C:=ae λD (w:a7 W D)=>up ((z.below g).below w) ((B.below g).below w) (pQ H)<|pQ G;have r:=ae g;have q:Hid (At c a=(a.type==2 && !decide (I 46 a.owner=I 46 c))):=af;clear n B Q z g hnew;generalize decide (I 46 a.owner=I 46 c)=dZ at *;unfold As;go_in;go_upto_region 1 with fail;rw[<- hW];replace hW:=ae hW;have:aD (bq W) (M (U b.1) 0)=ag e/\aD (bq W) (M d 0)=ag j:=⟨u,o⟩
 go_region_held (λA=>aD A (M (U b.1) 0)=ag e/\aD A (M d 0)=ag j) (first|assumption|go_keep)
  (first|(go_at_call 117;go_loud (refine(C _ cd.drew).m ?_;intro i h;have:aD i (M (U b.1) 0)=ag e/\aD i (M d 0)=ag j:=⟨(h.cell (p:=⟨U b.1,0,ai⟩) x).trans u,(h.cell (p:=⟨d,0,ai⟩) (i8 _ _ o)).trans o⟩)))
 have GU:=(h.cell (p:=⟨U b.1,2,ai⟩) x).trans F;have:aD i (M (U b.1) 2)=ag (J a.type):=GU;have t:Hid (a7 b i):=bN r<|(show a7 W i from(dz (U W.1) W).drew.trans h).mono r.4;clear h GU;cases y:(a.type==2)
 ·have k:=ae y;go_wp2;go_ret;exact⟨fy (by rw[V q,V k];rfl),t⟩
 ·have k:=ae y;go_wp2;go_ret;exact⟨fy (by rw[V q,V k];simp),t⟩
def oA(s:ap):ap:=(I 46 s).headD []
def Ms(a h dZ e g b yl c d:Bool):Bool:=if a&&h then ao else if dZ then(if e then ao else g&&(!a||b))else !a || !yl||(c&&d)
def us(c:ap)(a b:D):Bool:=Ms (At c b) (oA b.owner==[42]) (decide (I 46 a.owner=I 46 b.owner)) (a.type==b.type&&(a.data==b.data||(a.aP:Int) != (b.aP:Int))) (b.type != 5) (a.type==2) (ni (I 46 a.owner)<|I 46 b.owner) (a.type==1) (!(oA a.owner==[42]))
def Um(j:gG b e<|I 46 c):∃a ay g s,e=bC a ay (g+1) s/\g+1<=s/\aD b (M a ay)=ag (aZ<|oA c):=by
 obtain⟨a,ay,i,rfl,h,v⟩:=j;have k:=pM 46 c;unfold oA;cases d:I 46 c with
 | nil=>exact absurd d k
 | cons n l =>{rw[d]at v h;have:=v.2 0 aA;rw[jn]at this;exact⟨a,ay,E l,i,af,by simpa using h,this⟩}
def aaI(a b):((O a).toList==(O b).toList)=(a==b):=S0 a b
def Un{ad n}(o)(h)(Z:nS b a c j)(aw:E c<=900)(p:gG b e<|I 46 ad.owner)(Y:E ad.owner<=900)(aM:gG b k<|I 46 n.owner)(D:E n.owner<=900):Calls Tryz.prog 120 #[N a,As e o ad,As k h n] b (cQ (aG<|us c ad n) b):=by
 have⟨W,hW⟩:=bi<|aO (aO b<|aS #[e,ak .i64 ad.aP,ak .i64 ad.type,amz<|O ad.data,o] 119)<|aS #[k,ak .i64 n.aP,ak .i64 n.type,amz<|O n.data,h] 119;have l:a7 b W:=by rw[hW];exact JZ
 have aa:W.1[U b.1]? = ag (aS #[e,ak .i64 ad.aP,ak .i64 ad.type,amz<|O ad.data,o] 119):=by{rw [hW]; exact (dT _ _ _ aA).trans<|du b _};have F:W.1[U b.1+1]? = ag (aS #[k,ak .i64 n.aP,ak .i64 n.type,amz<|O n.data,h] 119):=by{rw [hW];have:=du (aO b<|aS #[e,ak .i64 ad.aP,ak .i64 ad.type,amz<|O ad.data,o] 119)<|aS #[k,ak .i64 n.aP,ak .i64 n.type,amz<|O n.data,h] 119;rwa [gd] at this};obtain ⟨P,K,aI,aC,rfl,aR,z⟩:=Um p;obtain ⟨Q,L,aJ,aF,rfl,aT,A⟩:=Um aM;have av:=(ea.1 F).1
 have t:Hid (∀d,a7 W d->(aD d (M (U b.1) 0)=ag (bC P K (aI+1) aC)/\aD d (M (U b.1) 1)=ag (J ad.aP)/\aD d (M (U b.1) 2)=ag (J ad.type)/\aD d (M (U b.1) 3)=ag (aZ ad.data))/\(aD d (M (U b.1+1) 0)=ag (bC Q L (aJ+1) aF)/\aD d (M (U b.1+1) 1)=ag (J n.aP)/\aD d (M (U b.1+1) 2)=ag (J n.type)/\aD d (M (U b.1+1) 3)=ag (aZ n.data)/\aD d (M (U b.1+1) 4)=ag h)/\aD d (M P K)=ag (aZ<|oA ad.owner)/\aD d (M Q L)=ag (aZ<|oA n.owner)):=λd g=>by{have ay:=(g.5 (U b.1) G).trans aa;have az:=(g.5 (U b.1+1) av).trans F;have S:=bN l<|bV g l.4;refine⟨⟨?_,?_,?_,?_⟩,⟨?_,?_,?_,?_,?_⟩,(S.cell<|i8 _ _ z).trans z,(S.cell<|i8 _ _ A).trans A⟩;all_goals first|(unfold World.cell?; rw[ay];rfl)|(unfold World.cell?; rw[az];rfl)};have H:=ae<|aaH h (Z.below l) aw (aM.below l) D;have al:=ae λd (g:a7 W d)=>up ((p.below l).below g) ((aM.below l).below g) (pQ Y)<|pQ D;have am:=ae λd (g:a7 W d)=>Hp ((p.below l).below g) ((aM.below l).below g) (pQ Y) (pQ D)<|yk n.owner;have i:=ae l;have x:Hid (us c ad n=Ms (At c n) (oA n.owner==[42]) (decide (I 46 ad.owner=I 46 n.owner)) (ad.type==n.type&&(ad.data==n.data||(ad.aP:Int) != (n.aP:Int))) (n.type != 5) (ad.type==2) (ni (I 46 ad.owner)<|I 46 n.owner) (ad.type==1) (!(oA ad.owner==[42]))):=af;have:=Lk<|oA n.owner;have:=Lk<|oA ad.owner;have aN:=aaI ad.data n.data;clear aa F z A Z p aM l;generalize decide (I 46 ad.owner=I 46 n.owner)=dZ at *;generalize ni (I 46 ad.owner) (I 46 n.owner)=yl at *;generalize At c n=an at *;generalize (oA n.owner==[42])=aP at *;generalize (oA ad.owner==[42])=B4 at *;generalize oA n.owner=aV at *;generalize oA ad.owner=aU at *;unfold As at *;go_in;go_wp2_with fail;rw[<- hW];refine H.m ?_;intro ab C;have aK:=ae<|t ab C;have r:=ae C;have⟨⟨p0,p1,fz,gg⟩,⟨q0,q1,q2,q3,q4⟩,l0,l1⟩:=V aK;clear C hW H;cases an<;>cases aP;case true.true =>(go_wp2;go_ret;exact⟨fy (by rw[V x];rfl),bN i<|bV r i.4⟩)
 all_goals(go_wp2_with fail;refine(al ab r).m ?_;intro ac T;have q:=bN r<|bV T r.4;have y:=ae q;have ah:=ae<|bN i<|bV q i.4;have⟨⟨p0,p1,fz,gg⟩,⟨q0,q1,q2,q3,q4⟩,l0,l1⟩:=V t ac q;clear T q;cases dZ;{go_wp2_with fail;refine(am ac y).m ?_;intro aQ X;have u:=bN y<|bV X y.4;have ax:=ae<|bN i<|bV u i.4;have⟨⟨p0,p1,fz,gg⟩,⟨q0,q1,q2,q3,q4⟩,l0,l1⟩:=V t aQ u;clear X u;cases yl<;>cases B:(ad.type==1)<;>cases B4;all_goals(have w:=ae B;go_wp2;go_ret;exact⟨fy (by rw[V x,V w];rfl),ax⟩)};{cases B:(ad.type==n.type)<;>cases R:(ad.data==n.data)<;>cases aq:((ad.aP:Int) != (n.aP:Int))<;>cases ar:(n.type != 5)<;>cases au:(ad.type==2);all_goals(rw[R]at aN;have w:=ae B;have ap:=ae R;have aH:=ae aq;have aB:=ae ar;have aj:=ae au;go_wp2;go_ret;exact⟨fy (by rw[V x,V w,V ap,V aH,V aB,V aj];rfl),ah⟩)})
def zA(d:ap)(b:List D)(a:Nat):Prop:=∀e:a<E b,ni (I 46 b[a].owner) (I 46 d)=aE/\¬(0<a/\b[a].type=6)/\∀c (g:c<E b),c≠a->us d b[a] b[c]=aE
def wU(b:ap)(a:List D):Prop:=(∃d:0<E a,a[0].type=6/\I 46 a[0].owner=I 46 b)/\kl a (I 46 b) 2=aE/\∀c,zA b a c
def GW(c:ap)(d:List D)(b:Ending):Prop:=∃a,b=.returned (aG a)/\(a=aE ↔ wU c d)
def GX(b:¬wU c j):GW c j (.returned<|aG ao):=⟨ao,af,by simp[b]⟩
def aaJ(b:wU c j):GW c j (.returned<|aG aE):=⟨aE,af,by simp[b]⟩
structure Uo(w:World)(b o:Nat)(vo fL:Value)(r:D):Prop where
 c0:w.cell? (M b o)=some vo
 c1:w.cell? (M b (o+1))=some (J r.aP)
 c2:w.cell? (M b (o+2))=some (J r.type)
 c3:w.cell? (M b (o+3))=some (aZ r.data)
 c4:w.cell? (M b (o+4))=some fL
def Up{g h j u l n o p q r i:Addr}{y z A B C D w:Value}(R:a7 f b)(x:aD f g=ag e/\aD f h=ag k/\aD f j=ag s/\aD f u=ag y/\aD f l=ag z/\aD f n=ag A/\aD f o=ag B/\aD f p=ag C/\aD f q=ag D/\aD f r=ag F/\aD f i=ag w):aD b g=ag e/\aD b h=ag k/\aD b j=ag s/\aD b u=ag y/\aD b l=ag z/\aD b n=ag A/\aD b o=ag B/\aD b p=ag C/\aD b q=ag D/\aD b r=ag F/\aD b i=ag w:=by have c:∀(d:Addr) (v:Value),aD f d=ag v->aD b d=ag v:=λd v x=>(R.cell<|i8 f d x).trans x;obtain⟨G,H,J,K,L,M,N,O,P,Q,I⟩:=x;exact⟨c _ _ G,c _ _ H,c _ _ J,c _ _ K,c _ _ L,c _ _ M,c _ _ N,c _ _ O,c _ _ P,c _ _ Q,c _ _ I⟩
def HV{P:Prop}(h:P:=by first|rfl|go_num):P:=h
def QA{P:Prop}(h:P:=by
 replace HT:=ae HT;go_wp2;go_ret;exact⟨V Y9 (λh=>by
 have h1:=(MQ h).2.2 k hlk<|V MS;rw[<- V F7,V HT]at h1;cases h1),V hE⟩):P:=h
def P2{P:Prop}(h:P:=by
 clear sg;go_wp2
 go_roundg (E rs-(i+1))
 case measure=>omega
 case rel=>exact⟨i+1,by first|rfl|go_num,G,λj hj=>by
  by_cases um:j=i
  ·subst um;exact aeB
  ·exact bT j G,V MR⟩):P:=h
def aaK{rs:List D}(bB:nS b a c rs)(aq:wZ c rs)(a_:0<E rs):Calls Tryz.prog 65 #[N a] b λbR e=>GW c rs bR/\a7 b e:=by
 have a5:=ae bB;obtain⟨H,n,ay,F,bl,bG,ca,bH⟩:=bB;have be:=(ea.1 bl).1;have aF:=ae aq;have al:=aq.1;have ar:=aq.2.1;have ad:Hid (∀d,a7 b d->aD d (M a 0)=ag H/\aD d (M a 1)=ag (bC n ay (E rs) F)):=λd l=>by
  have:=(l.5 a be).trans bl;constructor<;>(unfold aD; rw[this];rfl)
 have aC:Hid (∀d,a7 b d->∀k (aK:k<E rs),∃ac m6,Uo d n (ay+k*5) ac m6 rs[k]/\gG d ac (I 46 rs[k].owner)/\(∃aT bf ah,ac=aL aT bf ah)/\∃aT bf ah,m6=aL aT bf ah):=λd l k aK=>by
  have⟨ac,m6,ab,q1,aw,q3,q4,q5,q6⟩:=(bH k aK).below l;refine⟨ac,m6,⟨ab,q1,aw,q3,q4⟩,q5,?_,?_⟩
  ·obtain⟨bS,b3,ah,h,_⟩:=q5;exact⟨_,_,_,h⟩
  ·obtain⟨bS,b3,ah,h,_⟩:=q6;exact⟨_,_,_,h⟩
 have aP:Hid (∀d,a7 b d->gG d H (I 46 c)):=λd l=>bG.below l;have b0:=aq.2.2 rs[0]<|eP a_;have b9:((E rs:Int)==0)=ao:=kB
 have⟨Y8,aQ9,t,o,_,_⟩:=V aC b cd 0 a_;rw[rW,jn]at t;have ab:=t.1;have aw:=t.3;have⟨z,y1⟩:=V ad b cd;have bx:=ae o;clear bl bG bH aq t o;by_cases ax:rs[0].type=6
 ·have aW:(rs[0].type != 6)=ao:=by rw[bne_eq_false_iff_eq];exact ax
  have aX:=ae ax;have bn:=ae λd (l:a7 b d)=>up (bx.below l) (aP d l) (pQ b0)<|pQ al;have br:=ae λd (l:a7 b d)=>Hh 2 (a5.below l) (V aF) (aP d l)<|pQ al;have⟨ty,fM⟩:=bi<|rs[0].type;rw[<- fM]at aw aW;clear ax fM;go_in;go_upto_region 3 with fail;have B:aD (bq b) (M a 0)=ag H/\aD (bq b) (M a 1)=ag (bC n ay (E rs) F)/\aD (bq b) (M n ay)=ag Y8:=⟨z,y1,ab⟩
  go_region_held (λe=>aD e (M a 0)=ag H/\aD e (M a 1)=ag (bC n ay (E rs) F)/\aD e (M n ay)=ag Y8) (first|assumption|go_keep)
   (first|(go_at_call 117;go_loud (refine(bn _ cd.drew).m λaN am=>?_;have Q:aD aN (M a 0)=ag H/\aD aN (M a 1)=ag (bC n ay (E rs) F)/\aD aN (M n ay)=ag Y8:=⟨(am.cell (p:=⟨a,0,ai⟩) be).trans z,(am.cell (p:=⟨a,1,ai⟩) be).trans y1,(am.cell (p:=⟨n,ay,ai⟩) (i8 _ _ ab)).trans ab⟩)))
  have ba:=(dz (U b.1) b).drew.trans am;have a1:=ae ba;have bs:=ae<|br aN ba;clear am ba Q B;have bm:Hid (wU c rs->decide (I 46 rs[0].owner=I 46 c)=aE/\kl rs (I 46 c) 2=aE):=λh=>⟨mL (by have⟨_,h1⟩:=h.1;exact h1.2),h.2.1⟩
  have bK:Hid (decide (I 46 rs[0].owner=I 46 c)=aE->kl rs (I 46 c) 2=aE->(∀i,zA c rs i)->wU c rs):=λh1 bW bX=>⟨⟨a_,aX,yu h1⟩,bW,bX⟩
  generalize decide (I 46 rs[0].owner=I 46 c)=dZ,kl rs (I 46 c) 2=bZ at *;go_wp2_with fail;refine bs.m λb_ bz=>?_;have aH:=ae<|bN a1<|bV bz a1.4;clear bz bs br bn;cases dZ
  ·go_wp2;go_ret;exact⟨GX (λh=>by have:=(bm h).1;cases this),aH⟩
  cases bZ
  ·go_wp2;go_ret;exact⟨GX (λh=>by have:=(bm h).2;cases this),aH⟩
  go_wp2
  go_loopg [5] (E rs) (λbU b4 wr=>∃(i:Nat),b4=J i/\i+bU=E rs/\(∀j,j<i->zA c rs j)/\Hid (a7 b wr))
  ·exact⟨0,af,G,λj hj=>G,aH⟩
  ·obtain⟨i,rfl,b8,bp,an⟩:=hrel;have bT:=ae bp;have z:=V ad wr<|V an;clear bp bx ab aw a1 aH;by_cases bc:i<E rs
   ·have b1:(i:Int)<E rs:=G;obtain⟨ac,m6,t,o,⟨u,y,w,rfl⟩,⟨K,L,wc,rfl⟩⟩:=V aC wr (V an) i bc;have ar:=aF.2.2 rs[i]<|eP bc;have⟨r,hr⟩:=bi<|rs[i];rw[<- hr]at t o ar;obtain⟨aj,bA,bP,bQ,cD⟩:=t;have⟨W,hW⟩:=bi<|aO wr<|aS #[(aL u y w),ak .i64 r.aP,ak .i64 r.type,amz<|O r.data,(aL K L wc)] 119;have a6:a7 wr W:=hW▸ct cd bv _
    have bd:=hW▸du wr _
    have bt:=(ea.1 bd).1;have aM:=bN an<|bV a6 an.4;have aB:Hid (∀d,a7 W d->Uo d (U wr.1) 0 (aL u y w) (aL K L wc) r):=λd l=>by
     have:=(l.5 (U wr.1) bt).trans bd;constructor<;>(unfold aD; rw[this];rfl)
    have X:=ae aM;have bg:Hid (∀d,a7 W d->gG d (aL u y w) (I 46 r.owner)):=λd l=>(o.below a6).below l;have bo:=ae λd (l:a7 W d)=>Hp (bg d l) (aP d<|bN aM<|bV l aM.4) (pQ ar) (pQ al)<|yk c;have MQ:Hid (zA c rs i->ni (I 46 r.owner) (I 46 c)=aE/\¬(0<i/\r.type=6)/\∀k (aK:k<E rs),k≠i->us c r rs[k]=aE):=λh=>hr▸h bc
    have bu:Hid ((ni (I 46 r.owner) (I 46 c)=aE/\¬(0<i/\r.type=6)/\∀k (aK:k<E rs),k≠i->us c r rs[k]=aE)->zA c rs i):=λh _=>hr▸h
    have Y9:Hid (¬zA c rs i->GW c rs (.returned<|aG ao)):=λh=>GX λbY=>h<|bY.2.2 i;clear bd a6 o hr aM;go_upto_region 11 with fail;rw[<- hW];clear hW aj bA bP bQ cD;have bF:=V aB W cd;have aj:=bF.1;have⟨z,y1⟩:=V ad W<|V X;have B:aD (bq W) (M (U wr.1) 0)=ag (aL u y w)/\aD (bq W) (M a 0)=ag H:=⟨aj,z⟩
    have bI:=i8 _ _ z
    go_region_held (λe=>aD e (M (U wr.1) 0)=ag (aL u y w)/\aD e (M a 0)=ag H) (first|assumption|go_keep)
     (first|(go_at_call 119;go_loud (refine(bo _ cd.drew).m λbj aJ=>?_;have Q:aD bj (M (U wr.1) 0)=ag (aL u y w)/\aD bj (M a 0)=ag H:=⟨(aJ.cell (p:=⟨U wr.1,0,ai⟩) bt).trans aj,(aJ.cell (p:=⟨a,0,ai⟩) bI).trans z⟩)))
    have aI:=(dz (U W.1) W).drew.trans aJ;have bD:=ae aI;have bw:=ae<|bN X<|bV aI X.4;have b2:=(aB bj aI).3;rw[g8]at b2;clear aJ B Q aI bF aj z y1 bo;generalize ni (I 46 r.owner) (I 46 c)=yl,U wr.1=g at *;cases yl
    ·go_wp2;go_ret;exact⟨V Y9 (λh=>by have:=(MQ h).1;cases this),bw⟩
    by_cases bE:0<i
    case' neg=>have bM:¬0<(i:Int):=G
    case' pos=>have bM:0<(i:Int):=G
    ·by_cases S:r.type=6
     ·have bL:(r.type==6)=aE:=by rw[jy];exact S
      replace S:=ae S;go_wp2;go_ret;exact⟨V Y9 λh=>(MQ h).2.1 ⟨bE,S⟩,bw⟩
     ·have bL:(r.type==6)=ao:=by rw[kE];exact S
      have aY:Hid (¬(0<i/\r.type=6)):=λh=>S h.2;clear S;go_wp2
      go_loopg [8] (E rs) (λa8 bh bk=>∃(k:Nat),bh=J k/\k+a8=E rs/\(∀j (hj:j<E rs),j<k->j≠i->us c r rs[j]=aE)/\Hid (a7 W bk))
      ·exact⟨0,af,G,λj _ hj=>G,bD⟩
      ·obtain⟨k,rfl,bO,C,q⟩:=hrel;have sg:=bN X<|bV q X.4;have MR:=ae sg;have⟨z,y1⟩:=V ad wr sg;replace C:=ae C;by_cases hlk:k<E rs
       ·have aQ:(k:Int)<E rs:=G;by_cases A:k=i
        ·have a0:((k:Int)==i)=aE:=BC
         have MS:=ae A;clear A sg;go_wp2;go_quiet (fail);go_wp2
         go_roundg (E rs-(k+1))
         case measure=>omega
         case rel=>exact⟨k+1,HV,G,λj hj bb um=>V C j hj (by have:=V MS;omega) um,kv (V q) nq⟩
        ·have a0:((k:Int)==i)=ao:=kB
         obtain⟨b6,b7,t,o,⟨az,av,aA,rfl⟩,⟨Z,aa,Y,rfl⟩⟩:=V aC wr sg k hlk;have au:=aF.2.2 rs[k]<|eP hlk;have⟨x,hx⟩:=bi<|rs[k];rw[<- hx]at t o au;obtain⟨cS,a2,a3,iZ,a4⟩:=t;have⟨e0,e1,e2,e3,e4⟩:=V aB wr<|V q;rw[g8]at e1 e2 e3 e4;have P:=Un (aL K L wc) (aL Z aa Y) (a5.below sg.drew) al ((bg wr q).below cd.drew) ar (o.below cd.drew) au;unfold As at P;have aR:=ae P;have F7:=ae hx;have MS:=ae A;have B:aD (bq wr) (M g 0)=ag (aL u y w)/\aD (bq wr) (M g 1)=ag (J r.aP)/\aD (bq wr) (M g 2)=ag (J r.type)/\aD (bq wr) (M g 3)=ag (aZ r.data)/\aD (bq wr) (M g 4)=ag (aL K L wc)/\aD (bq wr) (M a 1)=ag (bC n ay (E rs) F)/\aD (bq wr) (M n<|ay+k*5)=ag (aL az av aA)/\aD (bq wr) (M n<|ay+k*5+1)=ag (J x.aP)/\aD (bq wr) (M n<|ay+k*5+2)=ag (J x.type)/\aD (bq wr) (M n<|ay+k*5+3)=ag (aZ x.data)/\aD (bq wr) (M n<|ay+k*5+4)=ag (aL Z aa Y):=⟨e0,e1,e2,e3,e4,y1,cS,a2,a3,iZ,a4⟩
         clear A P o hx sg;go_wp2
         go_region_held (λe=>aD e (M g 0)=ag (aL u y w)/\aD e (M g 1)=ag (J r.aP)/\aD e (M g 2)=ag (J r.type)/\aD e (M g 3)=ag (aZ r.data)/\aD e (M g 4)=ag (aL K L wc)/\aD e (M a 1)=ag (bC n ay (E rs) F)/\aD e (M n<|ay+k*5)=ag (aL az av aA)/\aD e (M n<|ay+k*5+1)=ag (J x.aP)/\aD e (M n<|ay+k*5+2)=ag (J x.type)/\aD e (M n<|ay+k*5+3)=ag (aZ x.data)/\aD e (M n<|ay+k*5+4)=ag (aL Z aa Y)) (first|assumption|go_keep)
          (first|(go_at_call 120;go_loud (refine aR.m λb5 R=>?_;have Q:=Up R B)))
         have T:=(dz (U wr.1) wr).drew.trans R;have a9:=ae<|bN q<|bV T q.4;have hE:=ae<|bN MR<|bV T MR.4;clear R Q B T;cases HT:us c r x
         ·exact QA
         ·replace HT:=ae HT;go_wp2
          go_roundg (E rs-(k+1))
          case measure=>omega
          case rel=>exact⟨k+1,HV,G,λj hj bb um=>by
           by_cases aV:j=k
           ·subst aV;rw[<- V F7];exact HT
           ·exact C j hj G um,V a9⟩
       ·have aQ:¬(k:Int)<E rs:=G;have aeB:=ae<|V bu ⟨cE,aY,λj hj um=>V C j hj G um⟩;exact P2
    ·have aY:Hid (¬(0<i/\r.type=6)):=λh=>bE h.1;go_wp2
     go_loopg [8] (E rs) (λa8 bh bk=>∃(k:Nat),bh=J k/\k+a8=E rs/\(∀j (hj:j<E rs),j<k->j≠i->us c r rs[j]=aE)/\Hid (a7 W bk))
     ·exact⟨0,af,G,λj _ hj=>G,bD⟩
     ·obtain⟨k,rfl,bO,C,q⟩:=hrel;have aU:=ae C;have sg:=bN X<|bV q X.4;have MR:=ae sg;have⟨z,y1⟩:=V ad wr sg;clear C;by_cases hlk:k<E rs
      ·have aQ:(k:Int)<E rs:=G;by_cases A:k=i
       ·have a0:((k:Int)==i)=aE:=BC
        have MS:=ae A;clear A sg;go_wp2;go_quiet (fail);go_wp2
        go_roundg (E rs-(k+1))
        case measure=>omega
        case rel=>exact⟨k+1,HV,G,λj hj bb um=>V aU j hj (by have:=V MS;omega) um,kv (V q) nq⟩
       ·have a0:((k:Int)==i)=ao:=kB
        obtain⟨b6,b7,t,o,⟨az,av,aA,rfl⟩,⟨Z,aa,Y,rfl⟩⟩:=V aC wr sg k hlk;have au:=aF.2.2 rs[k]<|eP hlk;have⟨x,hx⟩:=bi<|rs[k];rw[<- hx]at t o au;obtain⟨cS,a2,a3,iZ,a4⟩:=t;have⟨e0,e1,e2,e3,e4⟩:=V aB wr<|V q;rw[g8]at e1 e2 e3 e4;have P:=Un (aL K L wc) (aL Z aa Y) (a5.below sg.drew) al ((bg wr q).below cd.drew) ar (o.below cd.drew) au;unfold As at P;have aR:=ae P;have F7:=ae hx;have MS:=ae A;have B:aD (bq wr) (M g 0)=ag (aL u y w)/\aD (bq wr) (M g 1)=ag (J r.aP)/\aD (bq wr) (M g 2)=ag (J r.type)/\aD (bq wr) (M g 3)=ag (aZ r.data)/\aD (bq wr) (M g 4)=ag (aL K L wc)/\aD (bq wr) (M a 1)=ag (bC n ay (E rs) F)/\aD (bq wr) (M n<|ay+k*5)=ag (aL az av aA)/\aD (bq wr) (M n<|ay+k*5+1)=ag (J x.aP)/\aD (bq wr) (M n<|ay+k*5+2)=ag (J x.type)/\aD (bq wr) (M n<|ay+k*5+3)=ag (aZ x.data)/\aD (bq wr) (M n<|ay+k*5+4)=ag (aL Z aa Y):=⟨e0,e1,e2,e3,e4,y1,cS,a2,a3,iZ,a4⟩
        clear A P o hx sg;go_wp2
        go_region_held (λe=>aD e (M g 0)=ag (aL u y w)/\aD e (M g 1)=ag (J r.aP)/\aD e (M g 2)=ag (J r.type)/\aD e (M g 3)=ag (aZ r.data)/\aD e (M g 4)=ag (aL K L wc)/\aD e (M a 1)=ag (bC n ay (E rs) F)/\aD e (M n<|ay+k*5)=ag (aL az av aA)/\aD e (M n<|ay+k*5+1)=ag (J x.aP)/\aD e (M n<|ay+k*5+2)=ag (J x.type)/\aD e (M n<|ay+k*5+3)=ag (aZ x.data)/\aD e (M n<|ay+k*5+4)=ag (aL Z aa Y)) (first|assumption|go_keep)
         (first|(go_at_call 120;go_loud (refine aR.m λb5 R=>?_;have Q:=Up R B)))
        have T:=(dz (U wr.1) wr).drew.trans R;have a9:=ae<|bN q<|bV T q.4;have hE:=ae<|bN MR<|bV T MR.4;clear R Q B T;cases HT:us c r x
        ·exact QA
        ·replace HT:=ae HT;go_wp2
         go_roundg (E rs-(k+1))
         case measure=>omega
         case rel=>exact⟨k+1,HV,G,λj hj bb um=>by
          by_cases aV:j=k
          ·subst aV;rw[<- V F7];exact HT
          ·exact aU j hj G um,V a9⟩
      ·have aQ:¬(k:Int)<E rs:=G;have aeB:=ae<|V bu ⟨cE,aY,λj hj um=>V aU j hj G um⟩;exact P2
   ·have b1:¬(i:Int)<E rs:=G;have bJ:=ae<|V bK cE cE λj hj=>V bT j G hj;go_wp2;go_ret;exact⟨aaJ<|V bJ,an⟩
 ·have aW:(rs[0].type != 6)=aE:=by rw[BF];exact ax
  have aX:=ae ax;have⟨ty,fM⟩:=bi<|rs[0].type;rw[<- fM]at aw aW;go_wp2;go_ret;refine⟨GX ?_,dz _ _⟩;rintro⟨⟨_,h,_⟩,_⟩;have:=V aX;rw[h]at this
  revert this;decide
end Go.Proofs.YtkkpahmoljiepaaGreatDoor
