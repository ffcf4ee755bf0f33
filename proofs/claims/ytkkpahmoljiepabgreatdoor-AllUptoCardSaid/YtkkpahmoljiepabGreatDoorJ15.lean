import Derived.Test.YtkkpahmoljiepabGreatDoorJ10
import Derived.Test.YtkkpahmoljiepabGreatDoorJ14
import Derived.Deep.DeepHandedRow
import Derived.Deep.SlicePairs
set_option maxRecDepth 1000000
set_option maxHeartbeats 12800000
set_option linter.all false
open Array renaming size->J
open Bool renaming false->ak,true->aD
open Go renaming Calls->a_,TypeId->dP,Value->bk,World->aQ,bytesRow->gW
open Go.Ending renaming returned->bh
open Go.IntKind renaming i64->ai
open Go.Obj renaming cells->aZ
open Go.Proofs.Tryz renaming prog->aL
open Go.RowKit renaming Below->cv,Hid->ao
open Go.RowKit.Below renaming alloc->cf,mono->bN,trans->bC
open Go.Value renaming agg->ce,bool->aG,int->ag,pointer->cz,slice->aE,string->am,tuple->bZ
open Go.World renaming alloc->aN,cell?->aA
open List renaming drop->bi,length->E
open Option renaming none->af,some->ae
open Or renaming inl->bJ,inr->bE
namespace Go.Proofs.YtkkpahmoljiepabGreatDoor
open Go.RowKit Go.Proofs.Tryz
variable{a c g n v L:Nat}{b f m u K:World}{d h o:ap}{e:Value}{i:List aK}{j:Int}{s:List ap}{z X:TypeId}{A:Nat->Prop}{Q:List UInt8}
def cq.sS(a:ap):cq:=⟨a,[],[],0,[],ak,ak,ak,0⟩
def vS(e:pj b a g d):cZ b a (cq.sS d)/\∀c,eD b a c->c=a\/c=g:=by let h:mW b a g (bX) (bX) (bX) (cq.sS d):=⟨e.1,e.2,bd U<|.inl (bd rfl rfl),bd rfl<|.inl (bd rfl rfl),none,0,rfl,cO _,.inl<|bd rfl rfl⟩;refine⟨⟨_,_,_,_,h⟩,λc i=>?_⟩;rcases(q8 h).1 i with e|e|e|e|e;{omega};{omega};{cases e};{cases e};{cases e}
def GH(a):(cq.sS a).Ok 0:=⟨cO _,cO _,cO _,cO _⟩
def UM{ρ}(i:∀m,E (ρ m)<=1232)(c:E h=6)(g:E d=4)(f):E (nF ρ h d f)<=1524:=by
 let a:∀(b:Nat) (e:ap),E (e.take b)<=b:=λb e=>by grind
 unfold nF;split;{simp};split;{unfold t7;split;{simp};{let:=a 6<|bi 8<|bi 14 f;let:=a 7<|bi 14 f;let:=a 10<|bi 8<|bi 14 f;simp only[dj,c,g,dW,gG];omega}};split;{simp};split;{simp};{rename_i m j _;split;{simp};{let:=a 6<|bi 6 f;let:=a 4<|bi 26 f;let:=i m;simp only[dj,c,g,dW,gG,oN,pi,nJ,oy];omega}}
def UN{p ρ h}(x:∀m,l4 d i m<|ρ m)(A:E Q=6)(z:E h=4)(n:hW d i)(k:gJ b a d c 0 g<|ck i)(u:dx b)(q:p 0)(r:p a)(t:p c){o}(B:E o<=1524)(e:co p b f):a_ aL 18 #[bv a,ce #[aS Q,aS h],aS o] f (cI (aS<|nF ρ Q h o) f):=by refine HJ A z G<|HN x n (FT k e.4 (e.5 a k.1 r)<|e.5 c (FS k) t) ?_;let⟨l,y,w⟩:=u;exact⟨eA l e.4,y,(dR<|e.5 0 l q).trans w⟩
def afj{ρ g cL}(u:∀d,l4 h i d<|ρ d)(x:E Q=6)(w:E g=4)(p:hW h i)(r:pw f cL a h i)(o:co (λj=>cL<=j) f b)(q:∀j,cL<=j->j<J f.1->A j){e}(y:E e<=1524)(c:co A b m):a_ aL 19 #[bv a,ce #[aS Q,aS g],aS e] m (cI (aS<|nF ρ Q g e) m):=by let t:=r m ⟨c.1.trans o.1,c.2.trans o.2,c.3.trans o.3,cJ o.4 c.4,λj aO k=>(c.5 j (eA aO o.4)<|q j k aO).trans<|o.5 j aO k⟩;exact N3 G x w<|N7 u p t cc
def afk(ρ):nF ρ hY iO oC=Ad:=by rfl
def afl:(List.range 42).map (λa=>p2 oC<|1036+a)=oC:=dl
def GI:s_ (p2 oC) 770 2=0/\s_ (p2 oC) 258 2=1/\s_ (p2 oC) 260 4=0/\s_ (p2 oC) 264 4=54:=by decide +kernel
def Cf:qr (Aa oC Ad) 642 2=1/\qr (Aa oC Ad) 644 2=0/\qr (Aa oC Ad) 512 8=13312/\qr (Aa oC Ad) 520 4=54/\qr (mK (mK (mK (Aa oC Ad) 772 0 4) 776 0 4) 770 1 2) 642 2=1:=by decide +kernel
def afm(a):(binOp .eql 139 (ce #[M 1,M 1,M 0,aG ak])<|ce #[M 1,M 1,M 0,aG ak]).run aL a=.ok (aG aD) a:=b6
def afn:(kl v6).isSome=aD:=by rw[Fz];rfl
def afo:nw hY iO=aD:=bW
def afp(c:qq b a e [d]):∃v s,e=bL v 0 1 s/\aA b (N v 0)=ae (aS d):=by let g:=c;obtain⟨l,⟨_,j⟩|⟨v,s,i,rfl,k,h,o,n,p,q⟩⟩:=c;{grind};{exact⟨v,s,U,by rw[lG g 0 ax];rfl⟩}
def zW(h:cG A a f m)(k:cv c b f)(n:c<=J f.1)(j:∀e,e<c->¬A e)(l:∀e,e<c->¬eD f a e):cv c b m:=
 bC k ⟨h.1,h.2,h.3,h.4,λe aO=>h.5 e G (j e aO)<|l e aO⟩
def afq(W:dx b):a_ aL 20 #[] b (cI (aG aD) b):=by
 have bV:=O<|T7 af 0 b;have:=W.1;replace W:=O W;go_in;go_wp21;refine bV.m λaK ⟨co,bP⟩=>?_;have bs:ao (a_ aL 17 #[am ⟨#[]⟩,am ⟨#[]⟩] aK<|cI (jW hY iO) aK):=GO [] [] aK bW bW;have b4:=O co;have a0:=O bP;go_wp21;refine bs.m λY a7=>?_;have b_:=s7 (V b4) a7;have K:=bC a0<|bN a7 a0.4;have⟨I,al⟩:=bm<|aN Y<|aZ #[am<|D hY,am<|D iO] 47;have a1:=al▸cf cc bo _
 have⟨a3,b9⟩:=vS<|s7 b_ a1;have an:=al▸bq.fF Y _ _
 have k:=bC K<|bN a1 K.4;have bn:=W.below k;have ay:=O<|TD v6 hY iO bn a3 (GH _) G;rw[al]at ay;have aR:=O al;have be:=O (show cZ I (J b.1+1) (cq.sS<|List.replicate 25600 0)/\(∀a,eD I (J b.1+1) a->a=J b.1+1\/a=J b.1)/\a6 b I/\bq I (J Y.1) [aS hY,aS iO] 47 from⟨a3,b9,k,an⟩);go_wp21;refine ay.mono ?_;rw[<-V aR];rintro d e a5;rw[s8,b8 afn,b8 afo]at a5;obtain⟨j,r,o,q,p,T,bL,rfl,aj,l,⟨b1,b2,b3⟩,bT,R,L,aq⟩:=a5;have⟨ah,a8,K,an⟩:=V be;have ba:=K.4;have⟨c,av⟩:=bm<|J b.1+1;rw[<-av]at aj l aq ah a8⊢;have k:=zW l K ba (λ_ _ bM=>bM) λa aO n=>by grind
 have aC:=gX l ah an bW id;have⟨h,P⟩:=bm<|aN e<|aZ #[cz<|ae ⟨c,0,af⟩,ag ai 0,ag ai 0,ag ai 0,ag ai 0] 70;have F:=P▸cf cc bo _
 have z:jr h (J e.1) c (0,0,0,0):=P▸bq.fF e _ _
 have y:=uY aj F;have t:=aC.below F aC.lt;have x:=bC k<|bN F k.4;have aX:gE (cq.sS<|List.replicate 25600 0).1 λ_=>0:=bd agQ<|λa aO=>by show(List.replicate 25600 (0:UInt8)).getD a 0=0;grind
 have⟨ad,aH,aa⟩:=acA (gE.aKi aX) oC U;have⟨w,ac⟩:=bm<|(cq.sS<|List.replicate 25600 0).AE;have ab:w.3=[]:=by rw[ac];rfl
 rw[<-ac]at aH;have az:gy h j r o q c hY iO ⟨w,8,0,0,0,ms,0,0,0,ak⟩ (0+276):=ac▸y
 have bD:ao (a_ aL 28 #[bv<|J e.1,aS oC,M 0] h λd A=>d=bh (aG aD)/\cZ A c {w with b:=ad}/\jr A (J e.1) c (1,1,0,0)/\cG (λa=>a=J e.1) c h A):=by
  have:=Ko (J e.1) c oC 0 w az.1 z G G bW;unfold xB at this;rw[aH]at this;exact this
 have cl:bY h (J Y.1) 0 (aS hY):=t.cell 0 ax;have cm:bY h (J Y.1) 1 (aS iO):=t.cell 1 ax;have⟨aM,ar⟩:=bm<|hY++[2,111,116,104,101,114,8,6,0,1,8,0,6,4,0,1,2,111,116,104,101,114,10,0,0,2,110,111,98,111,100,121]
 have cw:D hY++⟨#[2,111,116,104,101,114,8,6,0,1,8,0,6,4,0,1,2,111,116,104,101,114,10,0,0,2,110,111,98,111,100,121]⟩=D aM:=by rw[ar];rfl
 have cx:D aM++D iO=D oC:=by rw[ar];rfl
 have cs:(D aM).size=38:=by rw[ar];rfl
 have:(D hY).size=6:=U;have:(D iO).size=4:=U;have⟨ρ,bb⟩:=GP p.1 p.2;have bB:∀a,a<J I.1->eD e c a->a=c\/a=J b.1:=λa aO n=>by
  rcases l.6 a n with n|n
  ·grind
  ·omega
 have cn:=L.1;have b5:=FS L;have b0:=O (show gy h j r o q c hY iO ⟨w,8,0,0,0,ms,0,0,0,ak⟩ (0+276)/\jr h (J e.1) c (0,0,0,0)/\a6 b h/\gJ h r p.1 T 0 bL (ck p.2)/\(∀a,a=0\/a=r\/a=T->¬fE j o q a/\¬eD h c a/\a<J e.1)/\(∀a,a<J b.1->¬eD h c a/\¬fE j o q a/\a≠J e.1)from by
  have:∀a,eD h c a->eD e c a:=λa n=>mH (F.5 c<|ir aj.1) n;refine⟨az,z,x,L.below F,λa aO=>?_,λa aO=>⟨λn=>?_,λcy=>?_,cd k.4⟩⟩
  ·grind
  ·grind
  omega)
 have bl:=O<|cj aa<|cj ab R;have:=O (show c=J b.1+1/\J b.1+1<J I.1 from bd av<|av▸ir ah);have aV:=O bb;clear ar aj l b1 b2 b3 bT R L aq ah a8 K an ba av k aC F z y t x aX aH aa ac ab az bb bB cn b5 ay be aR;rw[P]at cl cm;replace P:=O P;go_wp2_with fail;rw[<-V P];refine bD.m λu ⟨bR,t,X⟩=>?_;have⟨y,z,k,L,b6,i⟩:=V b0;have bF:({w with b:=ad}:cq).Ok (0+276):=y.6.1;have B:=Kq y bR X (λa aO d=>by
  subst d;rcases aO with d|d|d
  ·exact h6 z y.4 bW d
  ·exact h6 z y.2 bW d
  ·exact h6 z y.3 bW d) bF
 have x:=zW X k k.4 (λa aO d=>(i a aO).2.2 d) λa aO=>(i a aO).1;have bc:∀a,a<J h.1->¬eD h c a->¬eD u c a:=λa aO aq n=>(X.6 a n).elim aq λbU=>by omega
 have:=k.4;have aw:∀a,a=0\/a=r\/a=T->a<J h.1/\u.1[a]? = h.1[a]?/\¬fE j o q a/\¬eD u c a:=λa aO=>by
  have⟨cb,bf,cg⟩:=b6 a aO;have aF:=Nat.lt_trans cg<|bq.lt z;exact⟨aF,X.5 a aF G bf,cb,bc a aF bf⟩
 have bt:=FT L X.4 (aw r<|bE<|bJ U).2.1 (aw T<|bE<|bE U).2.1;have bx:=W.below x;have⟨aa,ab,R⟩:=V bl;have bG:=λm=>GG R<|aV m;have⟨Z,ca,bO⟩:=acC (S:={w with b:=ad}) (H:=nF ρ hY iO) aa ab afl U (afk ρ) GI.1 GI.2.1 GI.2.2.1 GI.2.2.2;have ci:ao (a_ aL 60 #[bv j] u λd A=>d=bh (M 0)/\gy A j r o q c hY iO ⟨Z,9,1,1,0,ms.set 0 aD,1,1,0,ak⟩ (0+276+30100)/\cG (fE j o q) c u A):=by
  have:=TP B G (UM bG U U) λf ct bQ l=>UN (p:=λa=>a=0\/a=r\/a=T) (V aV) U U R bt bx (bJ U) (bE<|bJ U) (bE<|bE U) bQ ⟨l.1,l.2,l.3,l.4,λa aO a9=>l.5 a aO (aw a a9).2.2.1 (aw a a9).2.2.2⟩;rw[ca]at this;exact this
 have bw:=O (show gy u j r o q c hY iO ⟨{w with b:=ad},8,0,0,0,ms,0,0,0,ak⟩ (0+276)/\jr u (J e.1) c (1,1,0,0)/\a6 b u/\∀a,a<J b.1->¬eD u c a/\¬fE j o q a/\a≠J e.1 from⟨B,t,x,λa aO=>⟨bc a G (i a aO).1,(i a aO).2⟩⟩);have⟨bK,aJ,b7,bS⟩:=acD bO Cf.1 Cf.2.1 Cf.2.2.1 Cf.2.2.2.1 Cf.2.2.2.2;have aU:=O<|cj b7 bS;go_wp21;refine ci.m λC ⟨Q,aI⟩=>?_;have⟨B,t,x,i⟩:=V bw;have ap:jr C (J e.1) c (1,1,0,0):=gX aI B.1 t bW (λaO=>by
  rcases aO with d|d|d
  ·exact h6 t B.4 bW d
  ·exact h6 t B.2 bW d
  ·exact h6 t B.3 bW d)
 have bz:=x.4;have au:=zW aI x bz (λa aO=>(i a aO).2.1) λa aO=>(i a aO).1;have bX:=λa aO n=>(aI.6 a n).elim (i a aO).1 λbU=>by omega
 have ch:ao (a_ aL 27 #[bv<|J e.1,M 8] C λd A=>Kd (J e.1) c Z (bK,(1,1,1,1),[aJ]) C d A):=by
  have:=Kg (J e.1) c 8 Z Q.1 ap ⟨bW,bW,bW,bW⟩;rw[show(min (8:Int) 8).toNat=8 from U,aU.1]at this;exact this
 have bp:=O (show gy C j r o q c hY iO ⟨Z,9,1,1,0,ms.set 0 aD,1,1,0,ak⟩ (0+276+30100)/\jr C (J e.1) c (1,1,0,0)/\a6 b C/\∀a,a<J b.1->¬eD C c a/\a≠J e.1 from⟨Q,ap,au,λa aO=>⟨bX a aO,(i a aO).2.2⟩⟩);go_wp21;refine ch.mono ?_;rintro d bg ⟨v,rfl,br,cr,cp,aT⟩;have⟨Q,ap,au,i⟩:=V bp;have bH:oi bg j r o q hY iO 1 1 0 ak:=gX aT Q.1 Q.4 bW<|h6 Q.4 ap bW;obtain⟨aB,cu,rfl,bu⟩:=afp br;have bI:=O<|Tx bH;have a4:=O<|zW aT au au.4 (λa aO=>(i a aO).2) λa aO=>(i a aO).1;have aW:=O bu;go_wp21;refine bI.m λbj a2=>?_;have aY:=(a2.cell<|g_ bg (N aB 0)<|V aW).trans aW;have:bY (aN bj<|aZ #[ag ai 1,ag ai 1,ag ai 0,aG ak] 139) aB 0 (aS aJ):=(dR<|dv _ _ _<|g_ bj (N aB 0) aY).trans aY;have aP:=bC a4<|bN a2 a4.4;have bA:=O<|cf aP aP.4<|aZ #[ag ai 1,ag ai 1,ag ai 0,aG ak] 139;have cA:(D aJ).size=42:=by rw[cV];exact aU.2
 have:=afm;go_wp2;go_ret;exact bd U bA
structure B_ where
 Cn:Int
 fr:List ap
 Co:List Int
 p_:List iY
def GN(i:aQ)(v:bk)(d:List ap):Prop:=∃a h,v=aE a (E d) h/\∀c g,d[c]? = ae g->∃b e,a=ae (N b e)/\aA i (N b<|e+c)=ae (aS g)
def LJ(i:aQ)(v:bk)(d:List Int):Prop:=∃a h,v=aE a (E d) h/\∀c g,d[c]? = ae g->∃b e,a=ae (N b e)/\aA i (N b<|e+c)=ae (M g)
def aft(a:aQ)(b c:Nat)(d:B_):Prop:=∃e g h,aA a (N b c)=ae (M d.1)/\aA a (N b<|c+1)=ae e/\aA a (N b<|c+2)=ae g/\aA a (N b<|c+3)=ae h/\GN a e d.2/\LJ a g d.3/\ti a h d.4
def LO(i:aQ)(v:bk)(d:List B_):Prop:=∃a h,v=aE a (E d) h/\∀c g,d[c]? = ae g->∃b e,a=ae (N b e)/\aft i b (e+c*4) g
section
variable {w W:World} (hb:a6 w W)
include hb
theorem tj{a}(b:aA w a=ae e):aA W a=ae e:=(hb.cell<|g_ w a b).trans b
theorem VB{h}(n:ti w e h):ti W e h:=by let⟨i,j,k,l⟩:=n;refine⟨i,j,k,l.imp id ?_⟩;rintro⟨q,ay,o,p,g⟩;exact⟨q,ay,o,eA p hb.4,λv a b c d=>⟨tj hb (g v a b c d).1,tj hb (g v a b c d).2.1,tj hb (g v a b c d).2.2⟩⟩
end
def VC{h}(g:ti b e h)(o:J b.1<=a):∀d ay v c,e=bL d ay v c->0<v->d≠a:=λd ay v c k p=>by
 obtain⟨i,j,l,n⟩:=g
 grind
def afu(a):(cq.sS a).AE.6=ak:=b6
def aeT:(cq.sS d).AE.2=[]:=b6
def aeU(m a):nw (un m) (vW a)=aD:=by rw[nw,LN,LM,show(un m).getD 0 0=2 from U];rfl
def aeV{a}(c:u_ a):u_ (sh d a h j).2.1:=by let⟨f,i,g,e⟩:=c;unfold sh;split;{unfold xx;split;{exact⟨qY _ G,qY _ G,g,e⟩};grind};grind
def VD:∀(c:Nat) (d:ap) (b:Nat×Nat×Nat×Nat) (e:List ap),u_ b->u_ (pb c d b e).2.1
 |0,_,_,_,a=>a
 |c+1,d,b,e,a=>by rw[pb];split;{unfold z8;split;{exact VD c _ _ _ ⟨a.1,a.2.1,qY _ G,qY _ G⟩};grind};omega
def VE(c d b cL aO:Nat)(a:Nat):Prop:=a<c\/a=d\/a=b\/(cL<=a/\a<aO)
def aeW{s:ap}{k l p M w Q}{z:ap×List aK}(N:a6 f m)(aB:J f.1<=c)(aC:c<a)(aF:a<v)(aH:v<g)(W:g<J m.1)(S:pj m a c o)(T:pj m g v o)(H:gy b n L k l a d h (cq.sS o).x0 276)(F:cG bH a m b)(ay:J m.1<=n/\J m.1<=k/\J m.1<=l)(I:gJ b L z.1 p 0 M<|ck z.2)(P:∀j,j=L\/j=p->¬fE n k l j/\¬eD b a j/\J m.1<=j)(O:hi K w Q g d h (cq.sS o).x0 276)(x:cG bH g b K)(az:J u.1<=w)(ax:J b.1<J u.1)(av:co (λj=>J b.1<j) u K)(ad:∀j,eD K g j->eD b g j\/J u.1<=j):pc K K (VE (J f.1) L p (J b.1+1)<|J u.1) (fE n k l) (λj=>j=w) ⟨n,L,k,l,a,0,w,Q,g,0,d,h⟩ (cq.sS o).x0 (cq.sS o).x0 276/\a6 f K/\gJ K L z.1 p 0 M (ck z.2):=by
 let:=vS S;let⟨aj,V⟩:=vS T;let aa:=N.4;let ab:=x.4;let xN:=xN H;let ac:=I.1;let Y:=FS I;let R:=F.5 g W id λe=>by grind
 let:=λj e=>V j<|mH R e;let:∀j,eD b a j->j=a\/j=c\/J m.1<=j:=λj e=>(F.6 j e).elim (λe=>by grind) λi=>bE<|bE i;let y:∀j,j<J b.1->j≠g->j≠v->K.1[j]? = b.1[j]?:=λj aO al an=>x.5 j aO id λe=>by grind
 let jf:∀j,fE n k l j\/eD b a j->j<J b.1/\j≠g/\j≠v:=λj aO=>by{rcases aO with r|e;{omega};{let:=qd H.1 e;grind}};let:∀j,eD K a j->eD b a j:=λj e=>mH (y a xN.2.2.2 G G) e;let:∀j,eD K g j->j=g\/j=v\/J b.1<=j:=λj e=>(x.6 j e).elim (λe=>by grind) λi=>bE<|bE i;let X:=zW F N aa (λ_ _ D=>D) λj aO e=>by grind
 let Z:=zW x X G (λ_ _ D=>D) λj aO e=>by grind
 let aI:∀j,eD K a j\/fE n k l j->(j=a\/j=c\/J m.1<=j)/\j<J b.1:=λj aO=>by{grind};let:=bq.lt O.2;refine⟨⟨zn H λj aO=>y j (jf j aO).1 (jf j aO).2.1 (jf j aO).2.2,O,λj r=>G,λj ah=>G,λj r=>r,U,λj aq ar=>?_,λj t=>?_,co.refl _ _⟩,Z,FT I ab (y L ac (cd<|(P L<|bJ U).2.2)<|by grind)<|y p Y (cd<|(P p<|bE U).2.2)<|by grind⟩;{grind};{let au:∀q,eD K g q\/q=w->q=g\/q=v\/J b.1<=q:=λq aw=>by{grind};rcases t with t|t|t|t;{exact⟨G,λe=>by grind,λe=>by grind⟩};{grind};{grind};grind}
def zZ(g:aQ)(e:Nat->Prop)(d:si)(c:Nat)(wr:aQ):Prop:=∃(a:cw) (b:Nat×Nat×Nat×Nat),a.1.6=ak/\u_ b/\mn g wr e d a a b b c
def aeZ(s bn bs k:ap)(X:List B_)(eT:bk)(w:aQ)(dg:dx w)(eK:E bn<=10000000)(eJ:E bs<=10000000)(fv:E k<=9223372036854775807)(fj:LO w eT X)(fZ:E X<=2000000)(aI:∀a∈X,E a.4<=2000000/\∀f∈a.2,E f<=2000000):a_ aL 7 #[am<|D s,am<|D bn,am<|D bs,am<|D k,eT] w λl q=>l=bh (aG aD)/\cv (J w.1) w q:=by
 obtain⟨fP,fW,rfl,eP⟩:=fj;have fh:=O eP;have e3:=O aI;have ch:=O dg;have b5:=O<|afq dg;have cL:=O λc=>GO bn bs c eK eJ;have⟨A,aH⟩:=du<|un bn;have⟨z,dc⟩:=du<|vW bs;have dD:=aeU bn bs;have bB:=LN bn;have bD:=LM bs;rw[aH,dc]at cL dD;rw[aH]at bB;rw[dc]at bD;have cY:=O dD;have dm:=λc=>Dn (P:=aL) c 9 53 5 (D k) underlying9 underlying53 underlying5;have eu:=cV k;have cR:ao (∀c:aQ,∀B,a_ aL 21 #[aE (ae ⟨J c.1,0,af⟩) (E k) B] (aN c.drew<|aZ (gW (D k) B) 5 (J<|gW (D k) B,J (gW (D k) B)+1)) λl q=>l=bh (cz<|ae ⟨J c.1+2,0,af⟩)/\pj q (J c.1+2) (J c.1+1) (B1 k)/\cv (J c.1) c q):=λc B=>by{have cC:J (aN c.drew<|aZ (gW (D k) B) 5 (J<|gW (D k) B,J (gW (D k) B)+1)).1=J c.1+1:=eE _ _;have fm:cv (J c.1) c (aN c.drew<|aZ (gW (D k) B) 5 (J<|gW (D k) B,J (gW (D k) B)+1)):=(cU (J c.1) c).drew.alloc (cO _) _;have:=acs B U fv<|Dd c k B;rw[cC]at this;refine this.mono ?_;rintro l q ⟨ac,aF,bS⟩;exact⟨ac,aF,bC fm<|bN bS G⟩};rw[eu]at dm;have cN:=O dm;clear dg eu dm eP aI aH dc dD eK eJ;generalize B1 k=aa at*;go_in;go_wp2_with (fail);refine(V b5).m ?_;intro bf b0;have e9:=V cN bf;have ee:=O<|V cR bf<|grownCap bf (E k) 0 5;have cr:=O b0;generalize grownCap bf (E k) 0 5=c5 at*;generalize aN bf.drew (aZ (gW (D k) c5) 5 (J<|gW (D k) c5,J (gW (D k) c5)+1))=fA at*;clear b0 b5;go_wp2_with (fail);refine(V ee).m ?_;rintro F ⟨bg,bp⟩;have fr:=V cN F;have en:=O<|V cR F<|grownCap F (E k) 0 5;have c2:=O<|(V cr).trans<|bN bp (V cr).4;have eL:=O bg;have dE:=O<|cj (V cr).4 bp.4;generalize grownCap F (E k) 0 5=c6 at*;generalize aN F.drew (aZ (gW (D k) c6) 5 (J<|gW (D k) c6,J (gW (D k) c6)+1))=fB at*;clear bp bg ee cr e9 cN cR;go_wp2_with (fail);refine(V en).m ?_;rintro al ⟨dt,de⟩;have⟨j,dp⟩:=bm<|J bf.1+2;have⟨cs,eM⟩:=bm<|J bf.1+1;have⟨e,ds⟩:=bm<|J F.1+2;have⟨a6,bp⟩:=bm<|J F.1+1;have bg:=V eL;rw[<-dp,<-eM]at bg;rw[<-ds,<-bp]at dt;rw[<-dp,<-ds];have fu:=qg bg.1;have fa:=V dE;have cu:ao (J w.1<=cs/\cs<j/\j<a6/\a6<e):=E2
 have bP:=O (show pj al j cs aa/\pj al e a6 aa/\cv (J w.1) w al from⟨s7 bg de,dt,(V c2).trans<|bN de (V c2).4⟩);clear dp eM ds bp bg dt fu fa de en eL c2 dE fr;dsimp only;go_wp2_with (fail);refine(V cL _).m ?_;intro an b1;have⟨N,bF⟩:=bm<|aN an<|aZ #[am<|D A,am<|D z] 47;have a9:cv (J an.1) an N:=by rw[bF];exact(cU _ _).alloc (cO _) _
 have ah:bq N (J an.1) [am<|D A,am<|D z] 47:=by rw[bF];exact bq.fF an _ _
 have u:=s7 (s7 (V bP).1 b1) a9;have t:=s7 (s7 (V bP).2.1 b1) a9;have S:=(V bP).2.2.trans<|(bC b1<|bN a9 b1.4).mono (V bP).2.2.4;have cc:=O<|TD s A z ((V ch).below S) (vS u).1 (GH _) G;rw[bF]at cc;have cP:=O bF;have cF:=O (show pj N j cs aa/\pj N e a6 aa/\cv (J w.1) w N/\bq N (J an.1) [am<|D A,am<|D z] 47 from⟨u,t,S,ah⟩);clear b1 a9 ah u t S bF cL bP;go_wp2_with (fail);refine(V cc).mono ?_;rw[<-V cP];rintro l aq I;have⟨u,t,S,ah⟩:=V cF;have bI:=V cu;have⟨dh,a1⟩:=vS u;unfold s8 at I;cases bj:kl s with
 |none=>{rw[bj,bV bW]at I;obtain⟨rfl,br⟩:=I;have cS:aA aq ⟨J an.1,0,af⟩=ae (am<|D A):=(ah.below br ah.lt).cell 0 ax;have bQ:aA aq ⟨J an.1,1,af⟩=ae (am<|D z):=(ah.below br ah.lt).cell 1 ax;have bK:=O<|Tt s A z (vS<|s7 t br).1 (GH _) G;have ek:=O<|cj (s7 u br)<|bC S<|bN br S.4;have bL:=O bj;clear u t S ah bI dh a1 br cc cP cF cu bj;go_wp2_with (fail);refine(V bK).mono ?_;rintro l y I;unfold s5 at I;rw[V bL,bV bW]at I;obtain⟨rfl,c8⟩:=I;have⟨eH,dk⟩:=V ek;have⟨fT,dy,fF,c7,fe,Q⟩:=Ab (vS<|s7 eH c8).1;have fU:aA y ⟨j,9,af⟩=ae (ag ai 0):=Q.7;have bG:aA y ⟨j,1,af⟩=ae (aE dy 0 c7):=Q.3;have T:=O<|bC dk<|bN c8 dk.4;have cg:=O fun(c:aQ) (dC:Int)=>K6 dC c;clear c8 eH dk Q bK ek bL cS bQ;go_wp2_with (go_at_call 24;refine(V cg _ _).m ?_;rintro y rfl);go_ret;exact⟨U,V T⟩}
 |some aM=>{
 rw[bj,b8 dl,b8<|V cY]at I;obtain⟨a0,ar,aX,aY,p,aC,B,rfl,aH,h,b4,cC,Z,bU,bM⟩:=I;obtain rfl:aM=p:=gm cC;have c0:=gX h dh ah bW id;have cS:aA aq ⟨J an.1,0,af⟩=ae (am<|D A):=c0.cell 0 ax;have bQ:aA aq ⟨J an.1,1,af⟩=ae (am<|D z):=c0.cell 1 ax;have bv:=qg t.1;have dW:=t.2.2.lt;have d2:pj aq e a6 aa:=⟨nS t.1<|h.5 e bv id λaj=>cd<|a1 e aj,rm t.2<|h.5 a6 dW id λaj=>cd<|a1 a6 aj⟩;have bK:=O<|Tt s A z (vS d2).1 (GH _) G;have dV:=O (show gy aq a0 ar aX aY j A z (cq.sS aa).x0 276/\cG bH j N aq/\(J N.1<=a0/\J N.1<=aX/\J N.1<=aY)/\hW aM.1 aM.2/\gJ aq ar aM.1 aC 0 B (ck aM.2)/\(∀g,g=ar\/g=aC->¬fE a0 aX aY g/\¬eD aq j g/\J N.1<=g)/\e<J N.1 from⟨aH,h,b4,Z,bU,bM,bv⟩);have bL:=O bj;clear u t S ah bI dh a1 aH h b4 cC Z bU bM c0 bv dW d2 cc cP bj;go_wp2_with (fail);refine(V bK).mono ?_;rintro l y I;unfold s5 at I;rw[V bL,b8 dl,b8<|V cY]at I;obtain⟨ca,bw,e8,fw,rfl,ep,dO,ey,dU,ex,ew,bb,d1⟩:=I;obtain rfl:aM=fw:=gm ey;obtain⟨u,t,S,-⟩:=V cF;have⟨bI,eq,er,es⟩:=V cu;have⟨aH,h,b4,Z,bU,bM,bv⟩:=V dV;have⟨bo,dw,dX⟩:=aeW (s:=s) S bI eq er es bv u t aH h b4 bU bM ep dO ex ew bb d1;have⟨ρ,cD⟩:=GP aM.1 aM.2;have d3:=(V ch).below dw;have⟨cK,cB⟩:=bm<|nF ρ A z;have e2:∀f,E (cK f)<=1524:=by rw[cB];exact UM (λm=>GG Z<|cD m) bB bD
 have⟨av,bO⟩:=bm<|VE (J w.1) ar aC (J aq.1+1)<|J e8.1;have ev:=(V ch).1;have fd:ao (∀(f:ap) (c:aQ),E f<=1524->co av y c->a_ aL 18 #[cz<|ae ⟨ar,0,af⟩,ce #[am<|D A,am<|D z],am<|D f] c λl q=>l=bh (am<|D<|cK f)/\cv (J c.1) c q):=by{rw[cB,bO];exact λf c aV h=>UN cD bB bD Z dX d3 (bJ ev) (bE<|bJ U) (bE<|bE<|bJ U) aV h};have e4:ao (∀(f:ap) (c:aQ),E f<=1524->co av y c->a_ aL 19 #[cz<|ae ⟨bw,0,af⟩,ce #[am<|D A,am<|D z],am<|D f] c λl q=>l=bh (am<|D<|cK f)/\cv (J c.1) c q):=by{rw[cB,bO];exact λf c aV h=>afj cD bB bD Z dU ⟨bb.1,bb.2,bb.3,bb.4,λg aO fY=>bb.5 g aO G⟩ (λg ac aF=>bE<|bE<|bE ⟨ac,aF⟩) aV h};have cl:ao (∀g,g<J w.1->av g):=λg aO=>by rw[bO];exact bJ aO
 rw[<-bO]at bo;have⟨fR,dy,fF,c7,fe,ba⟩:=Ab bo.x.1;have⟨fS,fK,f0,fV,fL,cA⟩:=Ab bo.y.1;have cp:=afu aa;have cX:E (cq.sS aa).AE.2=0:=by rw[aeT];rfl
 have⟨bl,cQ⟩:=bm<|(cq.sS aa).AE;have eZ:(cq.sS aa).x0=⟨bl,8,0,0,0,ms,0,0,0,ak⟩:=by rw[cQ];rfl
 rw[eZ]at bo ba cA;rw[<-cQ]at cp cX;have az:aA y ⟨j,1,af⟩=ae (aE dy 0 c7):=by have:=ba.3;simp only at this;rw[cX]at this;exact this
 have Y:=ba.4;have e7:aA y ⟨j,6,af⟩=ae (aG ak):=by have:=ba.6;simp only at this;rw[cp]at this;exact this
 have e6:=ba.2;have fc:=cA.2;have e_:=λdq=>Gp (w:=y.drewN dq) ba.1;have fb:=λdq=>Gp (w:=y.drewN dq) cA.1;have cg:=O fun(c:aQ) (dC:Int)=>K6 dC c;have e0:=O bo;have T:=O dw;have d4:=O cp;have dN:ao (J w.1<=j/\J w.1<=e):=E2
 clear ep dO ey dU ex ew bb d1 u t S bI eq er es aH h b4 Z bU bM bv bo dw dX cD d3 cB bO ev ba cA cX cQ eZ bK dV bL cF cu cS bQ bB bD cp ch cY;generalize bl.1=f1 at*;go_wp2_with (go_at_call 24;refine(V cg _ _).m ?_;rintro y rfl);go_quiet (fail);have ac:=TT (V e0)<|jn (cU _ _) nq;have fD:=O<|jn (V T) nq;generalize y.drewN nq=f4 at*;have Z:=ac.x.6.1;have dR:=O<|s9 j 258 2 0 bl ac.x.1 G G;have dH:=O ac;clear ac e0 e_ fb e6 az Y e7 fc cg;go_wp2_with (fail);refine(V dR).m ?_;rintro eV ⟨o,h⟩;have⟨a3,bz⟩:=bm ({bl with b:=ki bl.1 258 0 2}:cq);have cn:a3.Ok 276:=by rw[bz];exact Z
 rw[<-bz]at o;have aF:=K0 (V dH) o h cn;have m8:ao (a_ aL 25 #[cz<|ae ⟨e,0,af⟩,ag ai 258,ag ai 2,ag ai 0] eV λl q=>l=bh (bZ #[])/\cZ q e a3/\cG bH e eV q):=by{rw[bz];exact s9 e 258 2 0 bl aF.y.1 G G};have eY:ao (a3.6=ak):=by rw[ao,bz];exact V d4
 have ej:=O aF;clear aF o h bz Z dR dH;go_wp2_with (fail);refine(V m8).m ?_;rintro eW ⟨o,h⟩;have bS:=K1 (V ej) o h cn;have dS:=O<|s9 j 770 2 0 a3 bS.x.1 G G;have eN:=O bS;clear bS o h m8 ej;go_wp2_with (fail);refine(V dS).m ?_;rintro eU ⟨o,h⟩;have⟨a4,b9⟩:=bm ({a3 with b:=ki a3.1 770 0 2}:cq);have ci:a4.Ok 276:=by rw[b9];exact cn
 rw[<-b9]at o;have c9:=K0 (V eN) o h ci;have dT:ao (a_ aL 25 #[cz<|ae ⟨e,0,af⟩,ag ai 770,ag ai 2,ag ai 0] eU λl q=>l=bh (bZ #[])/\cZ q e a4/\cG bH e eU q):=by{rw[b9];exact s9 e 770 2 0 a3 c9.y.1 G G};have ez:ao (a4.rest.6=ak):=by rw[ao,b9];exact V eY
 have b5:=O c9;clear c9 o h b9 cn dS eN eY;go_wp2_with (fail);refine(V dT).m ?_;rintro fM ⟨o,h⟩;have c_:=K1 (V b5) o h ci;have d5:=O<|FZ j a4 c_.x.1;have dM:=O c_;clear c_ o h dT b5;go_wp2_with (fail);refine(V d5).m ?_;rintro f3 ⟨o,h⟩;have cW:a4.rest.Ok 276:=ci;have da:=K0 (V dM) o h cW;have d6:=O<|FZ e a4 da.y.1;have dG:=O da;clear da o h d5 dM;go_wp2_with (fail);refine(V d6).m ?_;rintro au ⟨o,h⟩;have em:=K1 (V dG) o h cW;have⟨c,bX⟩:=bm<|aN (aN au<|aZ #[cz<|ae ⟨j,0,af⟩,ag ai 0,ag ai 0,ag ai 0,ag ai 0] 70)<|aZ #[cz<|ae ⟨e,0,af⟩,ag ai 0,ag ai 0,ag ai 0,ag ai 0] 70;have a9:cv (J au.1) au c:=by rw[bX];exact((cU _ _).alloc (cO _) _).alloc ax _
 have aK:jr c (J au.1) j (0,0,0,0):=by rw[bX];exact(bq.fF au [cz<|ae ⟨j,0,af⟩,ag ai 0,ag ai 0,ag ai 0,ag ai 0] _).alloc _
 have be:jr c (J au.1+1) e (0,0,0,0):=by{have:=bq.fF (aN au<|aZ #[cz<|ae ⟨j,0,af⟩,ag ai 0,ag ai 0,ag ai 0,ag ai 0] 70) [cz<|ae ⟨e,0,af⟩,ag ai 0,ag ai 0,ag ai 0,ag ai 0] 70;rw[eE]at this;rw[bX];exact this};have db:=acI em (λ_ ft=>ft) (λ_ l=>l) a9 aK be (cO _) G G;have⟨a8,cI⟩:=bm<|J au.1;have⟨R,df⟩:=bm<|J au.1+1;rw[<-df,<-cI]at db;have c1:=O<|cj cI df;have dI:=O bX;have⟨dK,bT⟩:=bm (⟨a0,ar,aX,aY,j,a8,ca,bw,e,R,A,z⟩:si);have dF:ao (zZ y av dK (276+60200*0) c):=⟨⟨a4.rest,8,0,0,0,ms,0,0,0,ak⟩,(0,0,0,0),V ez,⟨bW,bW,bW,bW⟩,by rw[bT];exact db⟩;have eF:=O bT;clear em o h a9 aK be db cI df bX bT ci cW d6 dG ez d4;go_wp2;rw[<-V dI,<-(V c1).2,<-(V c1).1];go_loopw [21] (λdj wr=>∃g:Nat,dj=ag ai g/\g<=E X/\ao (zZ y av dK (276+60200*g) wr)) λdj _=>E X-(intOf dj).toNat;·exact⟨0,U,dJ _,dF⟩
 ·(
 obtain⟨g,rfl,aO,c3⟩:=hrel;clear dF dI c1 fD;have⟨r,ct,aU,K,n⟩:=V c3;have a2:=(V T).trans<|n.fr.below (λd bc=>V cl d bc) (V T).4;by_cases et:g<E X;case neg=>(obtain rfl:g=E X:=G;have fz:=O a2;have fq:¬(E X:Int)<(E X:Int):=G;clear aU K n a2 et aO c3;go_wp2_with (fail);go_ret;exact⟨U,V fz⟩)
 obtain⟨a,di⟩:∃a,X[g]? = ae a:=⟨_,fs et⟩;obtain⟨b,aj,fk,fJ⟩:=V fh g a di;obtain⟨cE,aI⟩:=V e3 a<|pE di;obtain⟨fA,fB,fC,d7,bG,d8,d9,⟨az,u,rfl,ef⟩,⟨Y,t,rfl,eg⟩,aJ⟩:=fJ;obtain⟨H,L,fn⟩:∃H L,fC=aE H (E a.4) L:=by obtain⟨H,L,l,_⟩:=aJ;exact⟨H,L,l⟩
 subst fk fn;have fq:(g:Int)<E X:=G;have cS:=tj a2 d7;have bQ:=tj a2 bG;have ff:=tj a2 d8;have hN:=tj a2 d9;have⟨aW,cb⟩:=bm<|J wr.1;have⟨cT,bY⟩:=bm<|aN wr<|aZ #[ag ai a.1,aE az (E a.2) u,aE Y (E a.3) t,aE H (E a.4) L] 72;have b0:cv (J wr.1) wr cT:=by rw[bY];exact(cU _ _).alloc (cO _) _
 have bd:bq cT aW [ag ai a.1,aE az (E a.2) u,aE Y (E a.3) t,aE H (E a.4) L] 72:=by rw[bY,cb];exact bq.fF wr _ _
 have bT:=V eF;subst bT;have ad:=Gm n b0;have⟨ay,Q⟩:=du<|pb (min a.1 8).toNat r.1.1 ct [];have M:=O<|Kg a8 j a.1 r.1 ad.x.1 ad.2 K;rw[Q]at M;have eQ:aA cT ⟨aW,0,af⟩=ae (ag ai a.1):=bd.cell 0 ax;have eh:=O<|cj ad bd;have a5:=O Q;have cH:=O<|cj bY cb;have a7:=O (show(∀d b_,a.2[d]? = ae b_->∃aC aj,az=ae ⟨aC,aj,af⟩/\aA w ⟨aC,aj+d,af⟩=ae (am<|D b_))/\(∀d b_,a.3[d]? = ae b_->∃aC aj,Y=ae ⟨aC,aj,af⟩/\aA w ⟨aC,aj+d,af⟩=ae (ag ai b_))/\ti w (aE H (E a.4) L) a.4/\E a.4<=2000000/\∀f∈a.2,E f<=2000000 from⟨ef,eg,aJ,cE,aI⟩);have aP:=O<|cj aU K;rw[bY,cb]at eQ;clear n a2 di cE aI d7 bG d8 d9 ef eg aJ b0 bd ad Q bY cb aU K c3 eF;go_wp2_with (fail);rw[<-(V cH).1,<-(V cH).2];refine(V M).mono ?_;rintro l F ⟨v,rfl,-,aR,b2,W⟩;obtain⟨ad,bd⟩:=V eh;have x:=gX W ad.x.1 bd bW<|h6 bd ad.2 bW;have i:=K3 ad aR b2 W ad.x.6.1;have aw:=O<|Kg R e a.1 r.1 i.y.1 i.3 (V aP).2;rw[V a5]at aw;have fx:aA F ⟨aW,0,af⟩=ae (ag ai a.1):=x.cell 0 ax;have aB:=O<|cj i x;clear ad bd x i aR b2 W M eh cH eQ cS bQ ff hN;go_wp2_with (fail);refine(V aw).mono ?_;rintro l al ⟨f2,rfl,-,aS,b3,ab⟩;obtain⟨i,x⟩:=V aB;have bu:=gX ab i.y.1 x bW<|h6 x i.3 bW;have aT:=K4 i aS b3 ab i.y.4.1;have cy:ao (zZ y av ⟨a0,ar,aX,aY,j,a8,ca,bw,e,R,A,z⟩ (276+60200*g) al/\bq al aW [ag ai a.1,aE az (E a.2) u,aE Y (E a.3) t,aE H (E a.4) L] 72):=⟨⟨{r with s:={r.1 with b:=ay.1}},ay.2.1,(V aP).1,by rw[<-V a5];exact VD _ _ _ _ (V aP).2,aT⟩,bu⟩;have aK:=bu.cell 1 ax;clear i x bu aT aS b3 ab aw aB fx aP a5;go_wp2_with (fail);clear aK;go_loopw [23] (λdn eX=>∃d:Nat,dn=ag ai d/\d<=8/\ao (zZ y av ⟨a0,ar,aX,aY,j,a8,ca,bw,e,R,A,z⟩ (276+60200*g) eX/\bq eX aW [ag ai a.1,aE az (E a.2) u,aE Y (E a.3) t,aE H (E a.4) L] 72)) λdn _=>8-(intOf dn).toNat;case atStart=>exact⟨0,U,G,cy⟩
 ·(
 clear cy;obtain⟨d,rfl,eS,cM⟩:=hrel;have⟨⟨r,ct,aU,K,n⟩,C⟩:=V cM;have b7:=(V T).trans<|n.fr.below (λd bc=>V cl d bc) (V T).4;have aK:=C.cell 1 ax;have be:=C.cell 2 ax;have dv:=C.cell 3 ax;simp only[eB,eG]at aK be dv;by_cases cm:d<E a.2/\d<8;{
 obtain⟨f,aV⟩:∃f,a.2[d]? = ae f:=⟨_,fs cm.1⟩;have⟨ei,eO,cw,dA⟩:=(V a7).1 d f aV;have dA:=tj b7 dA;have aI:=(V a7).2.2.2.2 f<|pE aV;rw[cw]at aK;have eA:(d:Int)<E a.2:=G;have fo:(d:Int)<8:=G;have⟨bt,a1⟩:=bm<|a.3.getD d 0;obtain⟨d_,dZ,ea,eb⟩:=ct;have⟨ay,Q⟩:=du<|sh r.1.1 (d_,dZ,ea,eb) f bt;have M:=O<|Ko a8 j f bt r.1 n.x.1 n.2 K.1 K.2.1 aI;unfold xB at M;rw[Q]at M;have bx:ao (∀c,cZ c e r.1->jr c R e (d_,dZ,ea,eb)->a_ aL 28 #[cz<|ae ⟨R,0,af⟩,am<|D f,ag ai bt] c λl q=>l=bh (aG ay.2.2)/\cZ q e {r.1 with b:=ay.1}/\jr q R e ay.2.1/\cG (λg=>g=R) e c q):=λc ac aF=>by{have:=Ko R e f bt r.1 ac aF K.1 K.2.1 aI;unfold xB at this;rw[Q]at this;exact this};have bA:=O<|cj n C;have a5:=O (show u_ ay.2.1/\r.1.6=ak from⟨by rw[<-Q];exact aeV K,aU⟩);have dr:(∃bR b6,Y=ae ⟨bR,b6,af⟩/\aA wr ⟨bR,b6+d,af⟩=ae (ag ai bt)/\(d:Int)<E a.3)\/(¬(d:Int)<E a.3/\bt=0):=by{by_cases o:d<E a.3;{have⟨bR,b6,cx,e1⟩:=(V a7).2.1 d _<|fs o;refine bJ ⟨bR,b6,cx,?_,G⟩;rw[a1,iA,fs o];exact tj b7 e1};{exact bE ⟨G,by rw[a1,iA,Ph G];rfl⟩}};have ec:ao (∀c,bq c aW [ag ai a.1,aE az (E a.2) u,aE Y (E a.3) t,aE H (E a.4) L] 72->aA c ⟨aW,1,af⟩=ae (aE (ae ⟨ei,eO,af⟩) (E a.2) u)):=λc el=>by have:=el.cell 1 ax;rw[<-cw];exact this
 have eC:=O (show aA w ⟨ei,eO+d,af⟩=ae (am<|D f)from by have⟨fX,fO,ed,fG⟩:=(V a7).1 d f aV;rw[cw]at ed;cases ed;exact fG);clear n C b7 aV cw aU K Q a1 eS cM aI;have dY:=O cm.2;clear cm;rcases dr with⟨bR,b6,cx,e1,fp⟩|⟨fp,rfl⟩;all_goals try (rw[cx]at be;clear cx)
 all_goals(go_wp2_with (fail);refine(V M).m ?_;rintro F ⟨aR,b2,W⟩;have⟨n,C⟩:=V bA;have x:=gX W n.x.1 C bW<|h6 C n.2 bW;have i:=K3 n aR b2 W n.x.6.1;have eo:=(V T).trans<|i.fr.below (λd bc=>V cl d bc) (V T).4;have fH:=tj eo<|V eC;have fy:=V ec F x;have aw:=O<|V bx F i.y.1 i.3;have aB:=O<|cj i x;clear n C x i eo aR b2 W M bx bA dA aK be dv;go_wp2_with (fail);refine(V aw).m ?_;rintro al ⟨aS,b3,ab⟩;have⟨i,x⟩:=V aB;have bu:=gX ab i.y.1 x bW<|h6 x i.3 bW;have aT:=K4 i aS b3 ab i.y.4.1;have cy:ao (zZ y av ⟨a0,ar,aX,aY,j,a8,ca,bw,e,R,A,z⟩ (276+60200*g) al/\bq al aW [ag ai a.1,aE az (E a.2) u,aE Y (E a.3) t,aE H (E a.4) L] 72):=⟨⟨{r with s:={r.1 with b:=ay.1}},ay.2.1,(V a5).2,(V a5).1,aT⟩,bu⟩;clear i x bu aT aS b3 ab aw aB fH fy a5 ec eC;go_wp2;exact⟨⟨d+1,dd,cd<|V dY,cy⟩,by have:=V dY;exact qD⟩)};{obtain⟨aJ,cE⟩:ti w (aE H (E a.4) L) a.4/\E a.4<=2000000:=⟨(V a7).2.2.1,(V a7).2.2.2.1⟩;have⟨P,c4⟩:=du<|rj r.1.4 [] a.4;have dB:r.1.4<=1000000000000:=cJ n.x.6.1.2.1 G;have M:=O<|VA j n.x.1 (VB b7 aJ) (VC aJ (V dN).1) G dB;have bx:ao (∀c,cv (J w.1) w c->cZ c e r.1->a_ aL 29 #[cz<|ae ⟨e,0,af⟩,aE H (E a.4) L] c λl q=>l=bh (bZ #[])/\cZ q e {r.1 with p:=P}/\cG bH e c q):=λc fl o=>by{rw[<-c4];exact VA e o (VB fl aJ) (VC aJ (V dN).2) G dB};rw[c4]at M;have dr:(¬(d:Int)<E a.2/\decide ((d:Int)<E a.2)=ak)\/((d:Int)<E a.2/\¬(d:Int)<8/\decide ((d:Int)<8)=ak):=by{by_cases el:d<E a.2;{exact bE ⟨G,G,fI G⟩};{exact bJ ⟨G,fI G⟩}};have bA:=O<|cj n C;have aP:=O<|cj aU K;have fi:276+60200*g<=500000000000:=G;clear n C b7 aU K aJ cE c4 dB cm eS cM a7;rcases dr with⟨eA,fQ⟩|⟨eA,fo,fN⟩;all_goals(go_wp2_with (fail);refine(V M).m ?_;rintro F ⟨aR,W⟩;have⟨n,C⟩:=V bA;have x:=gX W n.x.1 C bW id;have i:=TV n aR W n.x.6.1;have aw:=O<|V bx F ((V T).trans<|i.fr.below (λd bc=>V cl d bc) (V T).4) i.y.1;have eR:=x.cell 3 ax;simp only[eB,eG]at eR;have aB:=O i;clear n C x i aR W M bx bA aK be dv;go_wp2_with (fail);refine(V aw).m ?_;rintro al ⟨aS,ab⟩;have aT:=TW (V aB) aS ab (V aB).y.4.1;have dL:=O<|acq {r with s:={r.1 with p:=P}} aT fi e2 (V aP).1 (V fd) (V e4);have d0:=O (V aP).2;clear aT aS ab aw aB eR aP;go_wp2_with (fail);refine(V dL).m ?_;rintro eW ⟨e5,dQ,eI⟩;have fg:ao (zZ y av ⟨a0,ar,aX,aY,j,a8,ca,bw,e,R,A,z⟩ (276+60200*(g+1)) eW):=⟨e5,ct,dQ,V d0,by rw[show 276+60200*(g+1)=276+60200*g+60200 by omega];exact eI⟩;clear dQ eI dL d0;go_wp2;exact⟨⟨g+1,dd,G,fg⟩,dz⟩)}))}
def af_(s r:ap)(q:List<|ap×Int)(x t u w:bk)(c:aQ)(k:dx c)(K:H3 c x q)(N:E q<=10000000)(P:∀i∈q,E i.1<=2000000)(G:∀a,a6 c a->∃b,C0 a t b/\E b<=10000000/\∀i∈b,E i<=2000000)(H:∀a,a6 c a->∃b,C0 a u b/\E b<=10000000/\∀i∈b,E i<=2000000)(I:∀a,a6 c a->∃p,LO a w p/\E p<=2000000/\∀L∈p,E L.4<=2000000/\∀f∈L.2,E f<=2000000)(M:E r<=9223372036854775807):a_ aL 3 #[aS s,x,t,u,aS r,w] c (cI (aG aD) c):=by
 have y:=O<|agb s q x c k K N P;have z:ao (∀a,a6 c a->a_ aL 5 #[aS s,t] a (cI (aG aD) a)):=λa d=>by{let⟨b,l,n,o⟩:=G a d;exact agl s b t a (k.below d) l n o}
 have A:ao (∀a,a6 c a->a_ aL 6 #[aS s,am ⟨#[]⟩,am ⟨#[]⟩,u] a (cI (aG aD) a)):=λa d=>by{let⟨b,l,n,o⟩:=H a d;exact agp s [] [] b u a (k.below d) bW bW l n o}
 have B:ao (∀a,a6 c a->a_ aL 7 #[aS s,am ⟨#[]⟩,am ⟨#[]⟩,aS r,w] a (cI (aG aD) a)):=λa d=>by{let⟨p,l,n,o⟩:=I a d;exact aeZ s [] [] r p w a (k.below d) bW bW M l n o}
 clear k K G H I;go_enter func3,ntmps3;go_wp21;refine y.m ?_;intro Q h;have C:=O<|z Q h;have h:=O h;clear y z;go_wp21;refine C.m ?_;intro R e;have e:=bC h<|bN e h.4;have D:=O<|A R e;have e:=O e;clear h C A;go_wp21;refine D.m ?_;intro S g;have g:=bC e<|bN g e.4;have F:=O<|B S g;have g:=O g;clear e D B;go_wp21;refine F.m ?_;intro T j;have j:=bC g<|bN j g.4;let j:=O j;clear g F;go_wp2;go_ret;exact bd U j
section
open Go.ChangeShapes Go.WideShapes Go.ChangeAt Go.RowKit
section
open Go.ChangeMaps (open_string shut_string)
variable {H:Type}{enc:TypeId×Value->H}
def yr{P:Prop}(h:P:=by simp[Rows.uptoBulk]):P:=h
def afb(a:DataW H):1<=Rows.uptoBulk a:=by
 cases a with
 |lit b=>cases b<;>simp[Rows.uptoBulk]
 |nil=>exact yr
 |ptr a=>exact yr
 |slice c d=>exact yr
 |agg b=>exact yr
 |iface g a=>exact yr
 |map b=>exact yr
 |held e=>exact yr
def VG:∀a:List<|DataW H,E a<=Rows.uptoBulkAll a
 |[]=>dJ _
 |b::a=>by have:=afb b;have:=VG a;simp only[Rows.uptoBulkAll,dW];omega
def VH:∀(c:List<|DataW H) (b:DataW H),b∈c->Rows.uptoBulk b<=Rows.uptoBulkAll c
 |[],_,a=>by cases a
 |d::c,b,a=>by simp only[Rows.uptoBulkAll];rcases fw.1 a with rfl|a;{omega};{have:=VH c b a;omega}
def HM:aL.underlying 23=ae (.slice 9):=b6
def afc:aL.underlying 61=ae (.slice 3):=b6
def afd:aL.underlying 62=ae (.slice 158):=b6
def VI:aL.underlying 24=ae (.slice 72):=b6
def LP:aL.cellsOf 9=1:=b6
def afe:aL.cellsOf 5=1:=b6
def C3:aL.cellsOf 3=1:=b6
def Vu:aL.cellsOf 158=3:=b6
def Vw:aL.cellsOf 72=4:=b6
def aeM:aL.cellsOf 23=1:=b6
def aeN:aL.cellsOf 61=1:=b6
def aeO:aL.cellsOf 62=1:=b6
def CR:laidOutB aL=aD:=b6
def N6:aL.readableRec 24=aD:=b6
def aeP(c:(Lit.int .u8 j).wf=aD):∃b:UInt8,j=(b.toNat:Int):=by simp[Lit.wf,IntKind.min,IntKind.max,IntKind.signed,IntKind.bits]at c;refine⟨UInt8.ofNat j.toNat,?_⟩;rw[pB];omega
def Hr{P:Prop}(h:P:=by simp only[Rows.uptoBulk];omega):P:=h
def C4{α:Type}[Inhabited α]{r:DataW H}{R:List MemPlace}{q:Addr->α->DataW H->Prop}(P:aL.underlying z=ae (.slice X))(h:DataW.trod enc aL b 0 (λ_=>aD) aD n z [e]=ae (r,R))(M:∀Q y v l S,b.cells? 0 v (aL.cellsOf X)=ae y->DataW.trod enc aL b 0 (λ_=>aD) aD Q X y=ae (l,S)->∃c,q v c l)(O:∀v c l,q v c l->v.3=af):∃x o,∃w:List α,e=aE x (E w) o/\E w<=Rows.uptoBulk r/\∀a c,w[a]? = ae c->∃j B l,x=ae (N j B)/\q (N j<|B+a*aL.cellsOf X) c l/\Rows.uptoBulk l<=Rows.uptoBulk r:=by
 rcases Deep.open_slice P h with⟨t,g⟩|⟨v,d,o,m,Y,i,gs,t,_,W,C,A,g,L⟩;{
 obtain rfl:e=bX:=by simpa using t
 exact⟨af,0,[],U,dJ _,λa c h=>yo⟩};{
 obtain rfl:e=aE (ae v) d o:=by simpa using t
 simp only[mM]at A;subst A;simp only[Dh]at g;obtain⟨rfl,rfl⟩:=g;let⟨f,k⟩:=Deep.choose_lt (α:=α) (p:=λa c=>q (v.add<|a*aL.cellsOf X) c<|i a) (n:=d) (λa aO=>by{let⟨V,I,K⟩:=L a G;exact M _ _ _ _ _ I K});have u:E ((List.range d).map f)=d:=ax;refine⟨ae v,m,(List.range d).map f,by rw[u],?_,λa c g=>?_⟩;{have:=VG<|(List.range d).map i;simp only[ff,agP]at this;rw[u];simp only[Rows.uptoBulk];omega};{
 have aO:a<d:=by have:=(iW.1 g).1;rwa [u]at this
 rw[sG,List.getElem?_range aO]at g;obtain rfl:=gm g;let⟨D,ay,T⟩:=v;have F:=O _ _ _<|k 0 G;obtain rfl:T=af:=by simpa [Addr.add]using F
 have k:=k a aO;rw[add_plain]at k;refine⟨D,ay,i a,U,k,?_⟩;have:=VH ((List.range d).map i) (i a)<|kE.2 ⟨a,DN.2 aO,U⟩;exact Hr}}
def Vx{c:Addr}{a:List bk}(d:b.cells? 0 c 1=ae a):∃v,a=[v]/\aA b c=ae v:=by
 let⟨_,e,g⟩:=Gv d;match a,e with
 |[v],_=>exact⟨v,U,by simpa [Addr.add]using g 0 G⟩
def HL{v:DataW H}{C:List MemPlace}(g:DataW.trod enc aL b 0 (λ_=>aD) aD a 23 [e]=ae (v,C)):∃A,GN b e A/\E A<=Rows.uptoBulk v/\∀f∈A,E f<=Rows.uptoBulk v:=by
 let⟨o,p,A,r,w,h⟩:=C4 (α:=ap) (q:=λk c d=>aA b k=ae (aS c)/\E c<=Rows.uptoBulk d) HM g (λG F k d L l u=>by{
 rw[LP]at l;obtain⟨D,rfl,z⟩:=Vx l;let⟨s,y,i,_⟩:=DataW.trod_string Tryz.underlying9 u;obtain rfl:D=am s:=by simpa using y
 obtain rfl:d=.lit (.string s.1.1):=eQ Prod.fst i;exact⟨s.1.1,z,by exact Hr⟩}) λ_ _ _ g=>Cq g.1
 rw[LP]at h;refine⟨A,⟨o,p,r,λj c i=>?_⟩,w,λf x=>?_⟩;{obtain⟨t,B,d,rfl,⟨n,_⟩,_⟩:=h j c i;rw[r5]at n;exact⟨t,B,U,n⟩};{let⟨j,aO⟩:=List.getElem?_of_mem x;let⟨_,_,d,_,⟨_,I⟩,K⟩:=h j f aO;omega}
def aeQ{l:DataW H}{A:List MemPlace}(c:DataW.trod enc aL b 0 (λ_=>aD) aD a 61 [e]=ae (l,A)):∃d,LJ b e d:=by
 let⟨j,k,d,o,_,h⟩:=C4 (α:=Int) (q:=λy v _=>aA b y=ae (M v)) afc c (λD C y n F g r=>by{
 rw[C3]at g;obtain⟨B,rfl,u⟩:=Vx g;let⟨v,t,_⟩:=Am Tryz.underlying3 r;obtain rfl:B=M v:=by simpa using t
 exact⟨v,u⟩}) λ_ _ _ c=>Cq c
 rw[C3]at h;refine⟨d,j,k,o,λx v w=>?_⟩;obtain⟨p,z,n,rfl,i,_⟩:=h x v w;rw[r5]at i;exact⟨p,z,U,i⟩
def aeR{n:DataW H}{W:List MemPlace}(g:DataW.trod enc aL b 0 (λ_=>aD) aD a 62 [e]=ae (n,W)):∃c,ti b e c/\E c<=Rows.uptoBulk n:=by
 let⟨D,F,c,K,P,j⟩:=C4 (α:=iY) (q:=λT d _=>aA b (T.add 0)=ae (M d.1)/\aA b (T.add 1)=ae (M d.2.1)/\aA b (T.add 2)=ae (ag .u8 d.2.2.toNat)) afd g (λS I T ac al x N=>by{
 rw[Vu]at x;let⟨_,O,h⟩:=Gv x;let⟨Y,S,ah,aa,_,R,i⟩:=DataW.trod_struct Tryz.underlying158 N;match Y,R,I,O with
 |[ar,au,av],_,[an,ap,aq],_=>{have r:=i 0 _ U;have t:=i 1 _ U;have u:=i 2 _ U;simp[C3,afe]at r t u;let⟨d,A,_⟩:=Am Tryz.underlying3 r;let⟨Z,B,_⟩:=Am Tryz.underlying3 t;let⟨aw,C,_,X⟩:=Am Tryz.underlying5 u;obtain⟨l,rfl⟩:=aeP X;simp only[List.cons.injEq,and_true]at A B C;subst A B C;exact⟨(d,Z,l),h 0 G,h 1 G,h 2 G⟩}}) (λT _ _ g=>by let:=Cq g.1;simpa [Addr.add]using this)
 rw[Vu]at j;refine⟨c,⟨D,F,K,?_⟩,P⟩;by_cases w:c=[];{exact bJ w};{obtain⟨d,k⟩:∃d,c[0]? = ae d:=eR _<|fs (tn.2 w);let⟨L,V,_,o,⟨v,_⟩,_⟩:=j 0 d k;rw[add_plain]at v;refine bE ⟨L,V,o,g_ _ _ v,λQ T ab l k=>?_⟩;let⟨ad,aj,_,p,⟨y,v,z⟩,_⟩:=j Q _ k;rw[o]at p;cases p;rw[add_plain]at y v z;exact⟨y,v,z⟩}
instance:Inhabited B_:=⟨⟨0,[],[],[]⟩⟩
def aeS{k:DataW H}{au:List MemPlace}{ap:Nat}(n:DataW.trod enc aL b 0 (λ_=>aD) aD ap 24 [e]=ae (k,au)):∃j,LO b e j/\E j<=Rows.uptoBulk k/\∀a∈j,E a.4<=Rows.uptoBulk k/\∀f∈a.2,E f<=Rows.uptoBulk k:=by
 let⟨Q,S,j,V,Z,o⟩:=C4 (α:=B_) (q:=λh a i=>∃d v g,aA b (h.add 0)=ae (M a.1)/\aA b (h.add 1)=ae d/\aA b (h.add 2)=ae v/\aA b (h.add 3)=ae g/\GN b d a.2/\LJ b v a.3/\ti b g a.4/\E a.4<=Rows.uptoBulk i/\∀f∈a.2,E f<=Rows.uptoBulk i) VI n (λab T h i aC C X=>by{
 rw[Vw]at C;let⟨_,Y,l⟩:=Gv C;let⟨aw,ab,ay,P,_,aa,c⟩:=DataW.trod_struct Tryz.underlying72 X;match aw,aa,T,Y with
 |[t,u,w,x],_,[aF,d,v,g],_=>{
 have y:=c 0 _ U;have z:=c 1 _ U;have A:=c 2 _ U;have B:=c 3 _ U;simp[C3,aeM,aeN,aeO]at y z A B;let⟨av,O,_⟩:=Am Tryz.underlying3 y;simp only[List.cons.injEq,and_true]at O;subst O;let⟨al,ar,_,R⟩:=HL z;let⟨an,fa⟩:=aeQ A;let⟨L,fy,ax⟩:=aeR B;obtain rfl:i=.agg [t.1,u.1,w.1,x.1]:=by simpa using eQ Prod.fst P
 let N:Rows.uptoBulk (.agg [t.1,u.1,w.1,x.1]:DataW H)=Rows.uptoBulk t.1+(Rows.uptoBulk u.1+(Rows.uptoBulk w.1+(Rows.uptoBulk x.1+0)))+1:=U;exact⟨⟨av,al,an,L⟩,d,v,g,l 0 G,l 1 G,l 2 G,l 3 G,ar,fa,fy,by rw[N];show E L<=_;omega,λf c=>by rw[N];let:=R f c;omega⟩}}) (λh _ _ ⟨_,_,_,n,_⟩=>by let:=Cq n;simpa [Addr.add]using this)
 rw[Vw]at o;refine⟨j,⟨Q,S,V,λr a p=>?_⟩,Z,λa p=>?_⟩;{obtain⟨W,aq,i,rfl,⟨d,v,g,D,F,I,K,ac,ad,ah,_⟩,_⟩:=o r a p;rw[add_plain]at D F I K;exact⟨W,aq,U,d,v,g,D,F,I,K,ac,ad,ah⟩};{let⟨r,aO⟩:=List.getElem?_of_mem p;let⟨_,_,i,_,⟨d,v,g,_,_,_,_,_,_,_,az,aj⟩,aB⟩:=o r a aO;exact bd G<|λf c=>cd<|aj f c}
def H2:aL.underlying 22=ae (.slice 43):=b6
def Ox:aL.cellsOf 43=2:=b6
def FF:aL.readableRec 23=aD:=b6
def Oy:aL.readableRec 22=aD:=b6
def af9{n:DataW H}{X:List MemPlace}(c:DataW.trod enc aL b 0 (λ_=>aD) aD a 22 [e]=ae (n,X)):∃v,H3 b e v/\E v<=Rows.uptoBulk n/\∀f∈v,E f.1<=Rows.uptoBulk n:=by
 let⟨K,t,v,u,Q,k⟩:=C4 (α:=ap×Int) (q:=λg T h=>aA b (g.add 0)=ae (aS T.1)/\aA b (g.add 1)=ae (M T.2)/\E T.1<=Rows.uptoBulk h) H2 c (λS L g h aj A O=>by{
 rw[Ox]at A;let⟨_,P,B⟩:=Gv A;let⟨Y,S,ab,I,_,R,j⟩:=DataW.trod_struct Tryz.underlying43 O;match Y,R,L,P with
 |[l,r],_,[al,an],_=>{
 have x:=j 0 _ U;have y:=j 1 _ U;simp[C3,LP]at x y;let⟨s,D,o,_⟩:=DataW.trod_string Tryz.underlying9 x;let⟨Z,F,_⟩:=Am Tryz.underlying3 y;simp only[List.cons.injEq,and_true]at D F;subst D F;obtain rfl:h=.agg [l.1,r.1]:=by simpa using eQ Prod.fst I
 have i:l.1=.lit (.string s.1.1):=eQ Prod.fst o
 have V:Rows.uptoBulk (.agg [l.1,r.1]:DataW H)=Rows.uptoBulk l.1+(Rows.uptoBulk r.1+0)+1:=U;exact⟨(s.1.1,Z),B 0 G,B 1 G,by rw[V,i];exact Hr⟩}}) (λg _ _ c=>by have:=Cq c.1;simpa [Addr.add]using this)
 rw[Ox]at k;refine⟨v,?_,Q,λf j=>?_⟩;{by_cases z:v=[];{subst z;exact bJ ⟨⟨K,t,u⟩,U⟩};{obtain⟨T,o⟩:∃T,v[0]? = ae T:=eR _<|fs (tn.2 z);let⟨N,W,_,i,⟨d,_⟩,_⟩:=k 0 T o;rw[add_plain]at d;refine bE ⟨N,W,t,by rw[u,i],g_ _ _ d,λp c=>?_⟩;let⟨aa,ah,_,w,⟨C,d,_⟩,_⟩:=k p _<|fs c;rw[i]at w;cases w;rw[add_plain]at C d;exact bd C d}};{let⟨p,aO⟩:=List.getElem?_of_mem j;let⟨_,_,h,_,⟨_,_,ac⟩,ad⟩:=k p f aO;omega}
def Oz(a:GN b e s):C0 b e s:=by
 let⟨l,v,g,k⟩:=a;by_cases j:s=[];{subst j;exact bJ ⟨⟨l,v,g⟩,U⟩};{obtain⟨c,o⟩:∃c,s[0]? = ae c:=eR _<|fs (tn.2 j);let⟨n,t,h,r⟩:=k 0 c o;refine bE ⟨n,t,v,by rw[g,h],g_ _ _ r,λp a=>?_⟩;let⟨u,w,i,q⟩:=k p _<|fs a;rw[h]at i;cases i;exact q}
def FG{i:DataW H}{v:List MemPlace}(o:aL.readableRec z=aD)(p:z<aL.types.size)(q:∃j t k,e=aE j t k)(c:DataW.Trod enc aL b 0 (λ_=>aD) aD z e i v)(n:∀g∈v,g.block<J b.1)(l:a6 b f):∃d,DataW.trod enc aL f 0 (λ_=>aD) aD d z [e]=ae (i,v):=by
 let⟨d,c⟩:=WideElems.Trod_stays (sp':=λ_=>aD) CR o p c (λg r=>l.same<|n g r) λ_ _=>U;obtain⟨u,w,x,rfl⟩:=q;exact⟨d,by simpa [Value.cells]using c⟩
def aff(Z:Stop.Interp)(b:aQ)(ah:Nat)(i:Array bk)(w y:List<|DataW H)(aj:List MemPlace)(ad:∀(K:Nat) c v,Tryz.f3.4[K]? = ae c->i[K]? = ae v->Value.okWide aL b .any ah c v)(F:DataW.Whole enc aL Tryz.f3.4.1 (Rows.OpenSpec.upto Rows.allSpec).2 ak b i.1 w y aj)(ay:Rows.uptoSmall H (w++y)=aD) (ab:b.ShapedOpen aL):a_ aL 3 i b λx k=>∃v,x=bh v/\((Rows.OpenSpec.upto Rows.allSpec).at Z).post enc aL Tryz.f3 ak aD ak ak b i v k:=by
 have e:=ad;have h:=F;obtain⟨bb,be,Y,aw,rfl,a8,a9⟩:=F;have D:=Y;rw[Tryz.params3]at D e;obtain⟨W,aV,cS,a2,bc,bf,aW,rfl,rfl,au,aI⟩:=Ak D;obtain⟨q,bo,an,a3,R,bg,rfl,rfl,rfl,z,aJ⟩:=Ak aI;obtain⟨r,bp,ap,a4,fa,bj,rfl,rfl,rfl,A,aK⟩:=Ak aJ;obtain⟨t,bq,hN,a5,fy,bl,rfl,rfl,rfl,B,aM⟩:=Ak aK;obtain⟨X,aX,a1,aY,bd,bm,rfl,rfl,rfl,av,aO⟩:=Ak aM;obtain⟨u,br,aq,a6,S,bn,rfl,rfl,rfl,C,aP⟩:=Ak aO;obtain⟨rfl,rfl,rfl⟩:=trodAll_nil aP;obtain rfl:i=#[W,q,r,t,X,u]:=by cases i;simp_all
 obtain⟨rfl,rfl⟩:=trodVars_none aw;obtain⟨aR,rfl,rfl,rfl,aT⟩:=open_string Tryz.underlying9 (e 0 9 W U U) au;obtain⟨V,rfl,rfl,rfl,aU⟩:=open_string Tryz.underlying9 (e 4 9 X U U) av;have a7:Rows.uptoBulk an<=1048576/\Rows.uptoBulk ap<=1048576/\Rows.uptoBulk hN<=1048576/\Rows.uptoBulk aq<=1048576/\E V.1.1<=1048576:=by{have:=oH ay;simp only[fN,iF,Rows.uptoBulkAll,Rows.uptoBulk]at this⊢;omega}
 have aB:=okWide_slice H2<|e 1 22 q U U;have aC:=okWide_slice HM<|e 2 23 r U U;have aF:=okWide_slice HM<|e 3 23 t U U;have aH:=okWide_slice VI<|e 5 24 u U U
 have M:∀a∈R,a.block<J b.1:=λa g=>h.lt a (by simp[g]);have N:∀a∈fa,a.block<J b.1:=λa g=>h.lt a (by simp[g]);have O:∀a∈fy,a.block<J b.1:=λa g=>h.lt a (by simp[g]);have P:∀a∈S,a.block<J b.1:=λa g=>h.lt a (by simp[g])
 simp only[kW]at h;let⟨ba,aS⟩:=FG Oy (oH b6) aB z M<|cU _ _;let⟨aa,ac,a0,al⟩:=af9 aS
 have az:=af_ aR.1.1 V.1.1 aa q r t u b (ae1 ab) ac G (λf d=>cd<|al f d) (λk l=>by{let⟨Q,c⟩:=FG FF (oH b6) aC A N l;let⟨p,o,L,j⟩:=HL c;exact⟨p,Oz o,G,λf d=>cd<|j f d⟩}) (λk l=>by{let⟨Q,c⟩:=FG FF (oH b6) aF B O l;let⟨p,o,L,j⟩:=HL c;exact⟨p,Oz o,G,λf d=>cd<|j f d⟩}) (λk l=>by{let⟨Q,c⟩:=FG N6 (oH b6) aH C P l;let⟨p,o,L,j⟩:=aeS c;exact⟨p,o,G,λT I=>⟨cd<|(j T I).1,λf d=>cd<|(j T I).2 f d⟩⟩}) G
 refine az.mono λx k ⟨ax,n⟩=>?_;subst ax;exact⟨_,U,_,_,_,[],[]++(R++(fa++(fy++([]++(S++[]))))),[],h,(trodAll_cons_mk (shut_bool Tryz.underlying4 _) trodAll_mk0),(trodAll_cons_mk (shut_string Tryz.underlying9 aT)<|trodAll_cons_mk (Below.trod CR Oy (oH b6) z n M)<|trodAll_cons_mk (Below.trod CR FF (oH b6) A n N)<|trodAll_cons_mk (Below.trod CR FF (oH b6) B n O)<|trodAll_cons_mk (shut_string Tryz.underlying9 aU)<|trodAll_cons_mk (Below.trod CR N6 (oH b6) C n P) trodAll_mk0),U,n.frame _,λar=>by cases ar⟩
def afv(a:Os)(q:a.Started)(H:Type)(enc:dP×bk->H)(b:Stop.Interp):ReturnsInHanded {} Tryz.checked a 3 .any ((Rows.OpenSpec.upto Rows.allSpec).preRow enc aL Tryz.f3 Rows.allUptoRow.15 ak Rows.allUptoRow.16) (((Rows.OpenSpec.upto Rows.allSpec).at b).post enc aL Tryz.f3 ak aD ak ak):=by let p:DataW.whole enc aL ((World.laidAll aL a Rows.allUptoRow.16).forCall (λ_ _=>0) ⟨#[],#[am ⟨#[]⟩,bX,bX,bX,am ⟨#[]⟩,bX],[]⟩).memory Tryz.f3.4.1 (Rows.OpenSpec.upto Rows.allSpec).2 ak (#[am ⟨#[]⟩,bX,bX,bX,am ⟨#[]⟩,bX]:Array bk).1 8=ae ([.lit<|.string [],.nil,.nil,.nil,.lit<|.string [],.nil],[],[]):=b6;exact returnsInHanded_of_row (C:=Tryz.checked) (s:=Rows.OpenSpec.upto Rows.allSpec) ae0 q b6 Tryz.func3 ⟨World.laidAll aL a Rows.allUptoRow.16,λ_ _=>0,⟨#[],#[am ⟨#[]⟩,bX,bX,bX,am ⟨#[]⟩,bX],[]⟩,World.laidAll_os _ _ _,World.shaped_of_ZipB b6 b6,U,(Input.okWide_of_okWideB b6).2,OpenSpec.preRow_of_cond 8 p b6 (λr n=>by cases n;kernel_rfl) b6<|(MakeChecks.laidMetH_plain _ _ _ b6)▸laidMet_laidAll _ b6 b6,by{simp only[Assume.holds];exact⟨ax,ax,λ_=>Modest.zero,ax,ax⟩}⟩ λe h g j k i o l _ d _ _ c _=>aff b e h g j k i o l (d _ U) c
def afw:Tryz.f3.isInstance aL Rows.allUptoRow.5 Rows.allUptoRow.6:=oH b6
def afy:Tryz.f3.isWrapper aL Rows.allUptoRow.7 Rows.allUptoRow.8:=by unfold Func.isWrapper;first|(rw[b8<|by decide +kernel];kernel_rfl)|(rw[bV<|by decide +kernel];exact bd U U)
def afz:Rows.AllUptoSaid:=
 OpenClaim.holds_of_cond 3 Tryz.f3 U U U U U U U ⟨U,U,U,U,U⟩ U U U U U VF Tryz.func3 afa afw afy
  (λb c H enc _ a=>by rw[OpenClaim.pre_eq_preRow];exact afv b c H enc a)
end
end
end Go.Proofs.YtkkpahmoljiepabGreatDoor
