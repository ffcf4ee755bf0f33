import Derived.Test.YtkkpahmoljiepabGreatDoorJ07
import Derived.Deep.RegionHeldLaw
import Derived.Test.YtkkpahmoljiepabGreatDoorJ08
set_option maxRecDepth 1000000
set_option maxHeartbeats 12800000
set_option linter.all false
open Array renaming size->J
open Bool renaming false->ak,true->aD
open Eq renaming symm->b5,trans->cQ
open Go renaming Addr->gU,Calls->a_,Ending->kP,Obj->g7,TypeId->dP,Value->bk,World->aQ,maxLen->fk,results->c_,run_takeDeferred->lf
open Go.Calls renaming mono->eb
open Go.Ending renaming returned->bh
open Go.Fence renaming wide->e6
open Go.IntKind renaming i64->ai,u8->ch
open Go.Lib renaming trimPrefix->l6
open Go.Obj renaming cells->aZ,deferred->df,loop->dq
open Go.Proofs renaming intOf->fj
open Go.Proofs.Tryz renaming prog->aL
open Go.RowKit renaming Below->cv,Hid->ao
open Go.RowKit.Below renaming alloc->cf,mono->bN,setCell->fc,trans->bC
open Go.Value renaming agg->ce,bool->aG,func->ez,iface->cP,int->ag,ownBlock->bA,pointer->cz,slice->aE,string->am,tuple->bZ
open Go.World renaming alloc->aN,alloc_heap_new->cW,cell?->aA,drew->bx,drewN->dS,putObj->ep,putObj_heap_other->jB,putObj_size->wj,setCell->a7
open Int renaming toNat->cM
open List renaming flatMap->ex,length->E,map->b9,take->be
open Option renaming none->af,some->ae
open Or renaming inl->bJ,inr->bE
open UInt8 renaming toNat->bg
namespace Go.Proofs.YtkkpahmoljiepabGreatDoor
variable{φ:Prop}
open Go.RowKit Go.Proofs.Tryz
variable{a g:Nat}{f m K:World}{d:ap}{e r:Value}{i p:List aK}{j q y:Int}{l:Bool}{s:List ap}{z:TypeId}{B Z:cq}{Q:List UInt8}
def Sf(e:aQ)(d:UInt8):∀b c,[ag ch<|bg d][b]? = ae c->aA (aN e<|aZ #[ag ch<|bg d] 5) (((N (J e.1) 0):gU).add b)=ae c:=λb c a=>by
 match b,a with
 |0,a=>simp at a;subst a;simp[Addr.add]
 |g+1,a=>grind
def Sg(c:UInt8):∀b∈[ag ch<|bg c],b.oneCell'=aD:=λb a=>by simp at a;subst a;rfl
def abd{h n j x b:Nat}{e:List Bool}(t:fZ f h z a g n j x e)(k:b<8)(u:∀c,c<b->e[c]? = ae aD)(q:e[b]? = ae ak):a_ aL 250 #[bL h 5 8 8,aG ak] f λp y=>p=bh (M b)/\y=f:=by
 let i:=O t;let l:=O u;let:=qj t b q;go_wp2;go_loopw [8] (λc wr=>∃d:Nat,c=M d/\d<=b/\wr=f) λc _=>8-cM (fj c);·exact⟨0,U,G,U⟩
 ·(obtain⟨d,rfl,A,rfl⟩:=hrel;let:d<8:=G;by_cases r:d<b;{let:=qj i d<|l d r;go_wp2;exact⟨⟨d+1,dd,G,by first|trivial|rfl⟩,dz⟩};{have o:d=b:=G;subst o;go_wp2;go_ret;exact oa})
def abe{i k h u:Nat}{d:List Bool}(q:fZ f a z g i k h u d)(p:∀b,b<8->d[b]? = ae aD):a_ aL 250 #[bL a 5 8 8,aG ak] f λn w=>n=bh (M<|-1)/\w=f:=by
 let t:=O q;let j:=O p;go_wp2;go_loopw [8] (λb wr=>∃c:Nat,b=M c/\c<=8/\wr=f) λb _=>8-cM (fj b);·exact⟨0,U,G,U⟩
 ·(obtain⟨c,rfl,x,rfl⟩:=hrel;by_cases o:c<8;{let:=qj t c<|j c o;go_wp2;exact⟨⟨c+1,dd,G,by first|trivial|rfl⟩,dz⟩};{have l:c=8:=G;subst l;go_wp2;go_ret;exact oa})
def abf{n h e o:Nat}{c:List Bool}(l:fZ f a z n g h e o c)(k:∀b,b<8->c[b]? = ae aD):a_ aL 225 #[bv a,aS d] f λj p=>j=bh (aG ak)/\p=f:=by let i:=O<|abe l k;go_in;go_wp21;refine i.m ?_;rintro f rfl;go_wp2;go_ret;exact bd U U
def qd(e:cZ f a B)(h:eD f a g):g<J f.1:=by let⟨i,j,d,_⟩:=ui e h;exact(dK.1 d).1
structure ox(w wr:World)(mb:Nat)(v:Value)(s:ap)(T:cq):Prop where
 o:gO wr w.heap.size v s
 m:cZ wr mb T
 a:∀i,eD wr mb i->some i≠v.ownBlock
 f:cG bH mb w wr
def ox.aq3{wr:aQ}(g:ox f wr a e d B)(o:cZ m a Z)(n:cG bH a wr m):ox f m a e d Z:=
 ⟨lA g.1 λi j=>n.5 i (nT g.1 j) id λb=>g.3 i b<|b5 j,o,λk b h=>(n.6 k b).elim (λb=>g.3 k b h) λp=>by have:=nT g.1<|b5 h;omega,dm g.4 n⟩
def ox.aq4{wr:aQ}{i q:Nat}{s:UInt8}(b:ox f wr a e d B)(y:m.ownsRow (J f.1) 5 1 (bL g 0 i q) i<|b9 (λs=>ag ch<|bg s) d++[ag ch<|bg s])(w:i=E d+1)(h:(aN wr<|aZ #[ag ch<|bg s] 5).grownBy m<|bA e)(t:bA e=ae g\/g=J wr.1+1):ox f m a (bL g 0 i q) (d++[s]) B:=by let l:=λp aO x=>(h.5 p ct x).trans<|dv _ _ _ aO;let z:J wr.1<=J m.1:=cJ ax h.4;let n:∀p,eD m a p->eD wr a p:=λp c=>mH (l a (ir b.2)<|b.3 a<|bJ U) c;refine⟨by rw[gO,dj,jg,show E d + [s].length=i by rw[w];rfl];exact y,zA b.2 λp c=>l p (qd b.2 c)<|b.3 p c,λp c k=>?_,?_⟩;{let aO:=qd b.2<|n p c;rcases t with r|r;{exact b.a p (n p c)<|r▸k};{let:p=g:=gm k;omega}};{refine⟨cQ h.1 b.4.1,cQ h.2 b.4.2,cQ h.3 b.4.3,cJ b.4.4 z,λp aO u c=>(l p (eA aO b.4.4) λk=>?_).trans<|b.4.5 p aO u c,λp c=>b.4.6 p<|n p c⟩;let:=(qh b.1<|b5 k).1;omega}
def abg{aT n aP bj:Nat}(l:Nat){p:Nat}(k:Nat){S:Nat}{bd:List Bool}(r:cZ f g B)(an:fZ f a z g aT n aP bj bd)(ap:oJ z)(aH:n<=100000)(a5:l<=100)(ad:p=12+k)(bs:p<=1536)(bF:n+1536*l+1536<=25600)(Z:B.Ok S)(bz:S<=900000000000):a_ aL 249 #[bv a,M l,M p] f λu az=>u=bh (aS (B.gv (n+1536*l+12) k).2)/\cZ az g (B.gv (n+1536*l+12) k).1/\cG bH g f az:=by
 let⟨av,aO,aq,ar,au⟩:=im zj;let⟨bn,bI,ah,ab⟩:=run_make_own (P:=aL) f (J f.1) 53 5 av (ag ch 0) 1 xp aO aq ar ai ai k (by rw[au];omega) lN bo;have bG:ai.wrap ((p:Int)-12)=(k:Int):=fl
 have b:=cc.grown ab bo (λw ac=>by cases ac);have aV:=O r;have bp:ao (ox f bn g (bL (J f.1) 0 0 k) [] B):=⟨ah,q9 r b,λj ba u=>by have:=qd r<|mH (b.5 g<|ir r) ba;have:j=J f.1:=gm u;omega,n5 b<|ir r⟩
 have H:=O an;have y:=O ad;have aR:=O Z;have:k<=1524:=G;let⟨d,L⟩:=bm<|n+1536*l+12;rw[<-L];have aB:=O L;clear r an ah ab b ad Z L;go_wp2
 go_loopw [7,8] (λv j wr=>∃(w:Nat) (bl:bk),bl=v/\j=M (12+w:Nat)/\w<=k/\ox f wr g v (B.gv d w).2 (B.gv d w).1) λ_ j _=>p-cM (fj j)
 ·exact⟨0,_,U,U,dJ _,bp⟩
 ·obtain⟨w,v,rfl,rfl,ac,h⟩:=hrel;have aI:=F4 B d w;by_cases bB:w<k
  ·have C:=kd H h.4 aV ap id;have ay:=bq.cell C 0 ax;simp only[fN,eB,eG]at ay;have:=Sl g;have:=Sn;let⟨aw,al⟩:=bm<|n+1536*l;let⟨j,D⟩:=bm<|12+w;let⟨q,a4⟩:=bm<|aw+j;have W:q=d+w:=by rw[aB];omega
   have a8:ao (B.gv d (w+1)=((B.gv d w).1.uA q,(B.gv d w).2++[(B.gv d w).1.tL q])):=by rw[ao,cq.gv,W]
   have bu:ai.wrap ((aw:Int)+j)=(q:Int):=by have:=y;rw[tv];omega
   have X:=O<|J6 l (bx wr) C aH a5;rw[<-al]at X;let⟨bb,bc,_⟩:=BG aR d w;have bf:=O<|FY q (bx wr) h.2 (cd<|V y) G G;have:aA (bx wr) (N a 0)=ae (cP 51<|bv g):=ay;have a6:ao (∀c:aQ,cG bH g (bx wr) c->bY c a 0 (cP 51<|bv g)):=λc x=>bq.cell (kd (w:=bx wr) C x h.2 ap id) 0 ax;have aK:ao (∀c F,cZ c g F->cG bH g (bx wr) c->ox f c g v (B.gv d w).2 F):=λc F a1 x=>ox.aq3 h a1<|dm kH x;have aJ:ao (∀c,cG bH g f c->a<J c.1):=λc x=>eA (bq.lt H) x.4;rw[<-D];have bi:(j:Int)<p:=cd<|V y
   let⟨a3,T⟩:=bm<|12+(w+1);have:(j:Int)+1=a3:=G;have R:=O T;have aM:=O D;have aF:ae a≠bA v:=λu=>by have:=(qh h.1<|b5 u).1;have:=bq.lt H;omega
   have aC:ao (∀(o:UInt8) (e A:aQ),a<J e.1->(aN e<|aZ #[ag ch<|bg o] 5).grownBy A (bA v)->bY e a 0 (cP 51<|bv g)->bY A a 0 (cP 51<|bv g)):=λo e A a2 a0 aY=>(dR<|(a0.5 a ct aF).trans<|dv _ _ _ a2).trans aY;generalize (B.gv d w).1.tL q=o,(B.gv d w).2=s at*;generalize (B.gv d w).1.uA q=br at*;clear h al a4 C D T W bb bc;go_wp2
   go_region_held_law (λaz=>aA az (N a 0)=ae (cP 51<|bv g)) (first|assumption|go_keep)
    (first|(go_at_call 183;go_loud (refine X.m ?_;rintro az rfl))|(go_at_call 130;go_loud (refine bf.m λe ⟨Y,I⟩=>?_;have aW:=a6 e I;have t:=aK e _ Y I;have Q:e.ownsRow (J f.1) 5 1 v w (s.map λaU=>ag ch<|bg aU):=by {have:=t.1;rw[gO,aI]at this;exact this}))|(refine step_append_lies _ dl (.tmp 17) (.tmp 33) 53 dl (J f.1) 5 av (ag ch 0) 1 1 xp aO aq ar au U bW v w _ dl (Q.alloc _) (N (J e.1) 0) 1 1 [ag ch<|bg o] dl U (Sf e o) (Sg o) bW lN G (by have:=t.4.4;simp;omega) (J e.1+1) ax ?_;intro bw bt A aj K aa bD;have:=aC o e A (aJ e t.4) K aW))
   all_goals
    have a9:=O<|ox.aq4 t aj G K aa;clear Y I Q aj K t aa;go_wp2;exact⟨⟨w+1,_,U,by rw[<-R],G,a8▸a9⟩,by have:=y;have:=R;have:=aM;exact v7⟩
  ·have aX:w=k:=G;subst aX;have:=uD h.1;let bi:¬12+(w:Int)<p:=cd<|V y
   replace h:=O h;go_wp2;go_ret;exact⟨U,h.2,h.4⟩
def abh{g:g7}(b:cZ f a B):¬eD (aN f g) a (J f.1):=λe=>by
 have:=qd b<|mH (dv _ _ _<|ir b) e;omega
def Sh{d o c r s n:Nat}{k:List Bool}(j:cZ f a B)(p:fZ f g z a d o c r k)(F:oJ z)(w:d<=1000)(t:c<65536)(u:E k=8)(L:s<8)(A:B.Ok n)(l:n<=900000000000):a_ aL 124 #[bv g,bL (J f.1) 0 1 1] (aN f<|aZ #[ag ai s] 3) λe h=>e=bh (bZ #[])/\cZ h a (B.off d c [s])/\fZ h g z a d o ((c+1)%65536) r (k.set s aD)/\cG (λI=>I=g) a f h:=by
 let q:a6 f (aN f<|aZ #[ag ai s] 3):=cf cc bo _;let D:=bq.lt p;refine(J8 (J f.1) 1 [s] _ (q9 j q) ((dv _ _ _ D).trans p) F w t u (λN H=>by simp at H;omega) ax A l (bE U) (λe=>by cases e) (λK C=>by{
 have:K=0:=by simp at C;omega
 subst this;exact bq.cell (bq.fF f [M s] 3) 0 ax}) λ_=>⟨ax,G,abh j⟩).mono ?_
 rintro e h ⟨rfl,x,y,i⟩;exact⟨U,x,y,dm (n5 q<|ir j) i⟩
def zl(b d:Nat)(a:cw)(e:Nat)(i:aQ)(g:kP)(c:aQ):Prop:=
 g=bh (bZ #[aS<|a.kM.2.getD [],aG a.kM.2.isSome])/\cZ c b a.kM.1.1/\fZ c d 221 b 0 1024 a.kM.1.2 a.kM.1.3 sw/\(a.kM.1.2<65536/\a.kM.1.3<65536/\a.kM.1.1.Ok (e+1600))/\cG (λh=>h=d) b i c
def Hs(h:φ:=by go_wp2;refine dQ (v:=bZ #[am ⟨#[]⟩,aG ak]) ?_ U (V jD);simp[c_,results224,go_sem]):φ:=h
def abi{i:Nat}{d:cw}(b:cZ f g d.1)(z:fZ f a 221 g 0 1024 d.2 d.3 sw)(aw:d.2<65536)(an:d.3<65536)(Q:d.1.Ok i)(bi:i<=800000000000):a_ aL 224 #[bv a] f λu h=>zl g a d i f u h:=by
 have⟨o,y⟩:=bm<|260+8*(d.3%8);have⟨p,au⟩:=bm<|o+4;have F:=O<|Sp f z an;have aq:ao (a_ aL 221 #[bv a,M o,M 4] f _):=F1 o 4 f b z bW G G Q G;rw[<-y]at F;have bf:ai.wrap ((o:Int)+4)=(p:Int):=fl
 have:(o:Int)+4=p:=G;have ax:=O z;have az:=O b;have:p<=320:=G;have aj:d.lB=d.1.b_ (0+o) 4:=by rw[cw.lB,y,fM]
 have al:d.gT=d.lB.1.b_ (0+p) 4:=by rw[cw.gT,au,y,fM]
 rw[<-aj]at aq;have a6:=O al;have aR:ao (d.lB.1.Ok<|i+4):=by rw[ao,aj];exact qi Q _ 4
 have H:ao (d.gT.1.Ok<|i+8):=by rw[ao,al];exact qi (V aR) _ 4
 clear b z y au aj al Q;have aT:ao (d.lB.2<8/\12<=d.gT.2/\d.gT.2<=1536->d.kM=({d with s:=(d.gT.1.gv (1024+1536*d.lB.2+12)<|d.gT.2-12).1.off 0 d.2 [d.lB.2],ra:=(d.2+1)%65536,eH:=(d.3+1)%65536},ae (d.gT.1.gv (1024+1536*d.lB.2+12)<|d.gT.2-12).2)):=λY=>by rw[cw.kM,cw.vJ,b8 Y]
 have ab:ao (¬(d.lB.2<8/\12<=d.gT.2/\d.gT.2<=1536)->∀n h,cZ h g d.gT.1->fZ h a 221 g 0 1024 d.2 d.3 sw->cG (λk=>k=a) g n h->zl g a d i n (bh<|bZ #[am ⟨#[]⟩,aG ak]) h):=λY n h a1 a2 a3=>by{rw[zl,cw.kM,cw.vJ,bV Y];exact⟨U,a1,a2,⟨aw,an,oP (V H) G⟩,a3⟩};generalize d.lB.2=sd,hle:d.gT.2=e at*;replace hle:=O hle;go_in;go_wp2_with fail;refine F.m ?_;rintro f rfl;go_wp2_with fail;refine aq.m ?_;rintro n ⟨aa,N⟩;have T:=kd (V ax) N (V az) bW id;have aV:ao (a_ aL 221 #[bv a,M p,M 4] n λu h=>u=bh (ag .u32 e)/\cZ h g d.gT.1/\cG bH g n h):=by{have:=F1 p 4 n aa T bW G G (V aR) G;rw[<-V a6,V hle]at this;exact this};have ad:=O<|cj T aa;have aC:=O N;clear aq ax az aa T N F;go_wp2_with fail;refine aV.m ?_;rintro a8 ⟨aB,R⟩;have W:=kd ad.1 R ad.2 bW id;have I:=O<|Sw sd W an U;have r:=O aB;have A:=O W;have P:=O<|h7 (K:=λk=>k=a) (dm (V aC) R) λ_ b=>b.elim;clear aV ad aC aB W R;by_cases Z:12<=e/\e<=1536;{
 have B:¬(e:Int)<12:=G;have aI:¬1536<(e:Int):=G;have:=iV (e:Int)
 have aW:=fI B;have:=fI aI;go_wp2_with fail;refine eb I ?_;rintro u a9 ⟨l,bj,bb,bc,rfl,aH,t,bd,a5,S⟩;have w:=O<|vi (V r) (V A) bW λk aO a4=>S.5 k aO a4;have ac:=O<|dm (V P)<|tf (L:=λk=>k=a) S U (vj (V r) (V A) bW) (ir<|V r);have C:=O aH;clear I r A P aH S;have x:(sw[sd]? = ae aD)↔sd<8:=by{
 constructor;{intro b;exact(iW.1 b).1};{
 intro b;match sd,b with
 |0,_|1,_|2,_|3,_|4,_|5,_|6,_|7,_=>rfl}};unfold BI at t;by_cases q:sd<8;{
 rw[b8<|x.2 q]at t;obtain⟨rfl,rfl,rfl,rfl⟩:=t;have X:=V aT ⟨q,Z⟩;obtain⟨j,rfl⟩:∃j,e=12+j:=⟨e-12,G⟩;rw[DT]at X;have ar:=O<|abg l j (V w) (V C) bW G G U G G (V H) G;have aX:=O X;clear X x aT ab;go_wp2_with fail;refine ar.m ?_;rintro bl ⟨aF,ah⟩;have aU:=kd (V C) ah (V w) bW id;have av:ao ((d.gT.1.gv (1024+1536*l+12) j).1.Ok<|i+8+j):=BG (V H) _ j;have aK:=O<|Sh aF aU bW G aw a5 q (V av) G;have aJ:=O<|dm (V ac)<|h7 ah λ_ b=>b.elim;clear ar C ac w aF ah aU;go_wp2_with fail;refine aK.m ?_;rintro ba ⟨aP,ap,aM⟩;have aY:ao (zl g a d i f (bh<|bZ #[aS (d.gT.1.gv (1024+1536*l+12) j).2,aG aD]) ba):=by{
 unfold ao zl;rw[V aX];refine⟨U,aP,?_,⟨qY _ G,qY _ G,oP (ay<|V av) ct⟩,dm (V aJ) aM⟩;have a0:(sw.set l ak).set l aD=sw:=by{
 rw[List.set_set];match l,q with
 |0,_|1,_|2,_|3,_|4,_|5,_|6,_|7,_=>rfl};rw[a0]at ap;exact ap};clear aK aP ap aM aJ;go_wp2;refine dQ (v:=bZ #[am<|D (d.gT.1.gv (1024+1536*l+12) j).2,aG aD]) ?_ U (V aY);simp[c_,results224,go_sem]};{rw[bV λb=>q<|x.1 b]at t;obtain⟨rfl,rfl,rfl⟩:=t;have jD:=O<|ab (λb=>q b.1) f a9 (V w) (V C)<|V ac;clear x;exact Hs}};{have jD:=O<|ab (λb=>Z b.2) f a8 (V r) (V A)<|V P;clear I;by_cases B:(e:Int)<12;{exact Hs};{have aI:1536<(e:Int):=G;have aW:=fI B;clear B Z;exact Hs}}
def oi(i:aQ)(j k g h:Nat)(a c:ap)(e s d:Nat)(b:Bool):Prop:=
 bq i j [bv k,aS a,aS c,bv g,bv h,M e,M s,M d,aG b] 147
def Ku{i e b c s j}(k:oi f a i e g b d c s j l)(v:Nat):oi (a7 f ⟨a,5,af⟩<|ag ai v) a i e g b d v s j l/\oi (a7 f ⟨a,6,af⟩<|ag ai v) a i e g b d c v j l/\oi (a7 f ⟨a,7,af⟩<|ag ai v) a i e g b d c s v l:=
 ⟨bq.set k 5<|M v,bq.set k 6<|M v,bq.set k 7<|M v⟩
def abw{aq p ap aF}(o){W}{aC}(s)(r:cZ f g B)(R:fZ f a z g aq p ap aF aC)(ay:oJ z)(an:p<=100000)(az:o<=100)(aw:p+1536*o+12+E s<=25600)(aa:B.Ok W)(aI:W<=900000000000):a_ aL 251 #[bv a,M o,aS s] f λar t=>ar=bh (bZ #[])/\cZ t g (B.nH (p+1536*o) (kJ++s)<|12+E s)/\cG bH g f t:=by
 have⟨d,ac⟩:=bm<|p+1536*o;have X:=O<|J6 o f R an az;rw[<-ac]at X⊢;have:d+12+E s<=25600:=G;have:=Sk g;have:=Sm;have:=cV s;have cA:=O r;have F:=O<|J7 aa d<|kJ++s;have c:ao (∀C,cG bH g f C->bY C a 0 (cP 51<|bv g)):=λC b=>bq.cell (kd R b r ay id) 0 ax;have⟨l,P⟩:=bm<|kJ++s;have Z:=O P;rw[<-P]at F⊢;clear r R ac aw aa P;go_in;go_wp2_with fail;refine X.m ?_;rintro f rfl;go_wp2
 go_loopw [14] (λk wr=>∃i:Nat,k=M i/\i<=12/\cZ wr g (B.nH d l i)/\cG bH g f wr) λk _=>12-cM (fj k)
 ·exact G3
 ·obtain⟨i,rfl,aJ,e,b⟩:=hrel;by_cases ab:i<12
  ·have⟨h,w⟩:=bm<|d+i;have au:ai.wrap ((d:Int)+i)=(h:Int):=fl
   have:(d:Int)+i=h:=G;have ad:=V c wr b;have⟨_,_,S,T⟩:=V F i;have y:ao (a_ aL 126 #[bv g,M h,ag ch 0] wr _):=BE h 0 wr e G G G;have A:ao ((B.nH d l i).st h 0=B.nH d l (i+1)):=by
    rw[ao,cq.nH,w,V Z,iA,Cr<|by simpa [kJ]using ab];congr 1
    match i,ab with
    |0,_|1,_|2,_|3,_|4,_|5,_|6,_|7,_|8,_|9,_|10,_|11,_=>rfl
   have q:=O b;clear e b w S T;go_wp2_with fail;refine y.m ?_;rintro ah ⟨j,n⟩;rw[V A]at j;have I:=O j;have u:=O<|dm (V q) n;clear j n y;go_wp2;exact bd (⟨i+1,dd,G,I,u⟩) dz
  ·have K:i=12:=G;subst K;have I:=O e;have q:=O b;clear e b;go_wp2
   go_loopw [8,29] (λ_ k wr=>∃i:Nat,k=M i/\i<=E s/\cZ wr g (B.nH d l<|12+i)/\cG bH g f wr) λ_ k _=>E s-cM (fj k)
   ·exact⟨0,U,dJ _,I,q⟩
   ·obtain⟨i,rfl,aK,e,b⟩:=hrel;by_cases al:i<E s
    ·have⟨l5,Y⟩:=bm<|d+12;have⟨h,w⟩:=bm<|l5+i;have aH:ai.wrap ((d:Int)+12)=(l5:Int):=fl
     have au:ai.wrap ((l5:Int)+i)=(h:Int):=fl
     have ad:=V c wr b;have⟨H,Q⟩:=du<|s[i]
     have:∀r:i<(D s).size,(D s)[i]=H:=λr=>Q;have⟨_,_,S,T⟩:=V F<|12+i;have y:=O<|BE h H (bx wr) e G G G;have A:ao ((B.nH d l<|12+i).st h H=B.nH d l (12+(i+1))):=by
      rw[ao,<-pL,cq.nH,w,Y,pL,V Z,iA,pv<|by simp[kJ],show 12+i-E kJ=i by simp[kJ],fs al,Q];rfl
     have q:=O b;have:aA (bx wr) (N a 0)=ae (cP 51<|bv g):=ad;have aB:=O λaj av=>V c aj<|dm b<|dm kH av;clear e b w Y Q S T;go_wp2
     go_region_held (λt=>aA t (N a 0)=ae (cP 51<|bv g)) (first|assumption|go_keep)
      (first|(go_at_call 126;go_loud (refine y.m λah ⟨j,n⟩=>?_;have:=V aB ah n)))
     all_goals
      rw[V A]at j;have L:=O j;have u:=O<|dm (V q)<|dm kH n;clear j n;go_wp2;refine bd (⟨_,_,_,_,_,_,_,_,_,_,_,_,_,_,_,_,_,_,_,_,⟨i+1,dd,G,L,u⟩,U⟩) dz
    ·have K:i=E s:=G;subst K;have L:=O e;have u:=O b;clear e b;go_wp2;exact kh (v:=bZ #[]) (by simp[c_,results251]) U ⟨U,L,u⟩
def abx{o:List Bool}(b:o.findIdx? (· == ak)=af)(a)(aO:a<E o):o[a]? = ae aD:=by have:=Pf.1 b o[a]<|ei aO;rw[fs aO];cases c:o[a]<;>simp_all
def aby{o:List Bool}(d:o.findIdx? (· == ak)=ae a):a<E o/\(∀b,b<a->o[b]? = ae aD)/\o[a]? = ae ak:=by have⟨c,h,e⟩:=If.1 d;refine⟨c,λb aO=>?_,?_⟩;{have:=e b aO;rw[fs G];cases g:o[b]<;>simp_all};{rw[fs c];cases g:o[a]<;>simp_all}
def FO(b d:Nat)(a:cw)(f:ap)(e:Nat)(i:aQ)(g:kP)(c:aQ):Prop:=
 g=bh (aG (a.6.findIdx? (· == ak)).isSome)/\cZ c b (a.snd f).1/\fZ c d 222 b 512 13312 (a.snd f).4 a.5 (a.snd f).6/\((a.snd f).4<65536/\E (a.snd f).6=8/\(a.snd f).1.Ok (e+1600))/\cG (λh=>h=d) b i c
def abz{k s}(c:cZ f g s.1)(d:fZ f a 222 g 512 13312 s.4 s.5 s.6)(C:s.4<65536)(q:E s.6=8)(ap:E Q<=1524)(l:s.1.Ok k)(al:k<=800000000000):a_ aL 225 #[bv a,aS Q] f λah Y=>FO g a s Q k f ah Y:=by
 cases e:s.6.findIdx? (· == ak)with
 |none=>{refine(abf d λx aO=>abx e x G).m ?_;rintro Y rfl;rw[FO,cw.snd,e];exact⟨U,c,d,⟨C,q,oP l G⟩,qJ _ _ _⟩}
 |some b=>{
 have⟨an,n,N⟩:=aby e;have I:b<8:=G;have L:=O<|abd d I n N;have B:=O<|abw b Q c d bW G G G l G;have p:=O<|cj d c;have:=cV Q;have⟨i,F⟩:=bm<|16*b+8;have⟨h,D⟩:=bm<|12+E Q;have:16*(b:Int)+8=i:=G;have:12+(E Q:Int)=h:=G;have:i<=120:=G;have:h<=1536:=G;have H:=O<|J7 l (13312+1536*b) (kJ++Q)<|12+E Q;have Z:=O<|jp (V H) (512+i) h 4;have ac:ao (s.snd Q = {s with s:=((s.1.nH (13312+1536*b) (kJ++Q)<|12+E Q).fo (512+i) h 4).off 512 s.4 [b],sa:=(s.4+1)%65536,o:=s.6.set b aD,t:=s.8+1}):=by{rw[ao,F,D];rw[cw.snd,e]};have ab:ao ((s.6.findIdx? (· == ak)).isSome=aD):=by rw[ao,e];rfl
 clear c d n N F D l e;go_in;go_wp2_with fail;refine L.m ?_;rintro f rfl;go_wp2_with fail;refine B.m ?_;rintro aq ⟨w,r⟩;have u:=kd p.1 r p.2 bW id;have A:=O<|F0 i 4 h w u bW G G G (V H) G;have M:=O r;have y:=O<|cj u w;clear B L p w r u;go_wp2_with fail;refine A.m ?_;rintro ar ⟨P,z⟩;have aa:=kd y.1 z y.2 bW id;have S:=O<|Sh P aa bW G C q I (V Z) G;have R:=O<|h7 (K:=λx=>x=a) (dm (V M) z) λ_ c=>c.elim;clear A y M P z aa;go_wp2_with fail;refine S.m ?_;rintro aj ⟨W,X,T⟩;have ad:ao (FO g a s Q k f (bh<|aG aD) aj):=by{rw[ao,FO,V ab,V ac];exact⟨U,W,X,⟨qY _ G,by simp[q],oP (ay<|V Z) ct⟩,dm (V R) T⟩};clear S W X T R;go_wp2;go_ret;exact ad}
def pj(b:aQ)(d a:Nat)(c:ap):Prop:=hQ b d a (bX) (bX) ak 0 ak ak ak 0/\m_ b a c
def agw:madeCells (ag ch 0).cells a=((List.replicate a (0:UInt8)).map λb=>ag ch<|bg b).toArray:=by apply Array.ext';simp only[madeCells,Value.cells,Array.toList_map,Array.toList_range];apply List.ext_getElem;{simp};{intro e c d;simp[Nat.mod_one]}
structure Wv(o n:ap)(rs:List aK)(k:Int):Prop where
 fit:tR o rs
 len:n.length<=2900
 ad2:∀r∈jb (dF rs o) 6,xm r/\r.data.length<=3000/\r.aP<=1000000000
 kk:k=5\/k=255
 ad3:(d3 rs n).1.length<=3001
structure Ww(V:ap->Prop)(o:ap)(rs:List aK)(k:Int):Prop where
 fit:tR o rs
 ad2:∀r∈jb (dF rs o) 6,xm r/\r.data.length<=3000/\r.aP<=1000000000
 ad4:(k==5)=false
 ad5:(k==255)=false
 ad3:∀n,V n->(d3 rs n).1.length<=3001
 amy:∀n r,V n->i6 o rs n=some r->r.data.length<=2900/\V r.data
def El(h o k:Nat)(d:Int)(j:Bool)(n:bk)(e:ap)(g l:List aK)(c:Option ap)(i:aQ):Prop:=
 ∃b a,fV i h o d (tT e g c) j b a n k/\dH i (h+1) b (l++sE e g d c)/\dH i (h+1) a (tF e g d c)/\nE b a
def Nw(h:φ:=by
 go_wp2
 go_roundg 0
 ·exact bE<|bE ⟨U,bn⟩
 ·omega):φ:=h
def Wx(Y:ap->Prop){q K an ay aW I:Nat}{c:ap}(aH:fV f a g j 0 l (bX) (bX) e q)(bm:gJ f g d an ay aW i)(bb:dx f)(aj:g<a)(aq:an<a)(av:0<a)(a8:np f q K ak)(bf:q≠K)(ba:q<a)(aw:K<a)(a1:I<=K)(bd:E c<=2900)(bl:Y c)(bi:Ww Y d i j):a_ aL 136 #[bv a,aS c] f λu t=>(hH d i 8 c=af/\u=bh (aG ak)/\cv I f t)\/(∃n y,hH d i 8 c=ae (n,y)/\E n<=8/\u=bh (aG aD)/\El a g q j l e d i n y t/\cv a f t):=by
 let⟨_,_,_,_,_,_,_,bt⟩:=aH.cells;let aR:=O aH;let aY:=O bm;let aP:=O bb;let aO:=O a8;let h:=O bi;go_wp2
 go_loopg [1,5] 10 (λau bo X wr=>
  (∃(n:List aK) (k:ap) (H:bk),bo=aS k/\X=aG aD/\E n<=8/\au+E n=10/\ao (hH d i 8 c=(hH d i (8-E n) k).map λB=>(n++B.1,B.2))/\E k<=2900/\ao (Y k)/\ao (fV wr a g j 0 l H (bX) e q)/\ao (dH wr (a+1) H n)/\ao (cv a f wr)) \/
  (au=1/\X=aG aD/\ao (hH d i 8 c=af)/\ao (∃H,fV wr a g j 0 l H (bX) e q)/\ao (np wr q K aD)/\ao (cv I f wr)) \/
  (X=aG ak/\ao (∃n y,hH d i 8 c=ae (n,y)/\E n<=8/\El a g q j l e d i n y wr/\cv a f wr)))
 ·refine bJ ⟨[],c,bX,U,U,ax,ax,?_,bd,bl,aR,ih _ _ _ _,cU _ _⟩;rw[ao];simp
 ·rcases hrel with⟨n,k,H,rfl,rfl,aU,bs,Q,ab,ah,ad,ac,z⟩|⟨rfl,rfl,Q,ad,a9,z⟩|⟨rfl,aV⟩
  ·let p:=ad;let⟨_,_,_,_,_,_,_,bp⟩:=p.cells;let L:=aO.below z ba aw;let S:=aY.low z aj aq;let aa:=Wr aP z av;let N:=O<|Ei L;let:=O L;cases A:i6 d i k with
   | none=>
    let P:=O<|Wt p ac U S aa aj aq av h.1 ab G h.2 h.3 h.4 (Ws A)<|h.5 k ah;let Z:ao (hH d i 8 c=ae (n,ae k)):=by
     rw[ao,Q];let:hH d i (8-E n) k=ae ([],ae k):=by
      cases u:8-E n with
      |zero=>rw[hH,A]
      |succ m=>rw[hH,A]
     rw[this];simp
    go_wp21;refine N.m ?_;rintro wr rfl;go_wp21;refine P.m λM ⟨⟨D,aX,bj,a3,a4,bq⟩,a5⟩=>?_;let bn:ao (∃n y,hH d i 8 c=ae (n,y)/\E n<=8/\El a g q j l e d i n y M/\cv a f M):=⟨n,ae k,Z,aU,⟨D,aX,bj,a3,a4,bq⟩,bC z a5⟩
    exact Nw
   | some r=>
    let⟨ar,az,aB,aC⟩:=IS A;let aM:=(h.6 k r ah A).1;let aT:=O (h.6 k r ah A).2;let a0:=h.1.2.1;by_cases aF:E n=8
    ·let al:∀C,a6 wr C->a_ aL 231 #[bv a,r.zN] C λu t=>u=bh (bZ #[aS r.data,aG aD])/\(fV t a g j 0 l H (bX) e q/\np t q K aD/\cv I wr t):=λC x=>by
      let W:=p.kept<|x.5 a p.lt;exact(Wq W (ac.below x) (L.below x L.1 L.lt) bf aw aF).m λt ⟨w,o,F⟩=>⟨U,w,o,(bN x<|cd L.lt).trans<|F I a1⟩
     let P:=O<|QD p S aa h.1 ab h.3 h.4 ar az aB aC al;let Z:ao (hH d i 8 c=af):=by
      rw[ao,Q,aF,pX,hH,A];rfl
     go_wp21;refine N.m ?_;rintro wr rfl;go_wp21;refine P.m λM ⟨w,o,F⟩=>?_;let R:=O w;let T:=O o;let V:=O<|(bN z<|show I<=a by omega).trans F;go_wp2
     go_roundg 1
     ·exact bE<|bJ ⟨U,U,Z,⟨_,R⟩,T,V⟩
     ·omega
    ·let al:∀C,a6 wr C->a_ aL 231 #[bv a,r.zN] C λu t=>u=bh (bZ #[aS r.data,aG<|fx r.data d])/\((∃D,fV t a g j 0 l D (bX) e q/\dH t (a+1) D (n++[r]))/\cv a wr t):=λC x=>by
      let W:=p.kept<|x.5 a p.lt;exact(Wo r W (ac.below x) (S.below x) aj G a0 G).m λt ⟨w,o⟩=>⟨U,w,(bN x<|cd p.lt).trans o⟩
     let P:=O<|QD p S aa h.1 ab h.3 h.4 ar az aB aC al;obtain⟨m,bc⟩:∃m,8-E n=m+1:=⟨7-E n,G⟩
     let aI:ao (hH d i 8 c=if fx r.data d=aD then(hH d i (8-E (n++[r])) r.data).map (λB=>((n++[r])++B.1,B.2))else ae (n++[r],af)):=by
      rw[ao,Q,bc,hH,A];have u:8-E (n++[r])=m:=ct;rw[u];dsimp only;split
      ·cases hH d i m r.data<;>simp
      ·simp
     go_wp21;refine N.m ?_;rintro wr rfl;go_wp21;refine P.m λM ⟨⟨D,w,o⟩,F⟩=>?_;let R:=O w;let T:=O o;let V:=O<|bC z F;cases aJ:fx r.data d
     ·let bn:ao (∃n y,hH d i 8 c=ae (n,y)/\E n<=8/\El a g q j l e d i n y M/\cv a f M):=by
       refine⟨n++[r],af,?_,ct,⟨D,bX,R,?_,ih _ _ _ _,λbr _ o=>by cases o⟩,V⟩
       ·rw[aI,aJ];rfl
       ·rw[sE,kW];exact T
      exact Nw
     ·let bn:ao (hH d i 8 c=(hH d i (8-E (n++[r])) r.data).map λB=>((n++[r])++B.1,B.2)):=by
       rw[ao,aI,aJ];rfl
      go_wp2
      go_roundg (9-E n)
      ·exact bJ ⟨n++[r],r.data,D,U,U,ct,ct,bn,aM,aT,R,T,V⟩
      ·omega
  ·let⟨H,p⟩:=ad;let⟨_,_,_,_,_,_,_,bp⟩:=p.cells;let N:=O<|Ei a9;go_wp21;refine N.m ?_;rintro wr rfl;go_wp2;go_ret;exact bJ ⟨Q,U,z⟩
  ·go_wp2;go_ret;let⟨n,y,w,o,F,a2⟩:=aV;exact bE ⟨n,y,w,o,U,F,a2⟩
def Wy{o B t ay D:Nat}{x:bk}{b:ap}(u:fV f a g j 0 l e x r o)(y:e=bX)(N:x=bX)(K:gJ f g d t ay D i)(I:dx f)(L:g<a)(C:t<a)(G:0<a)(H:np f o B ak)(k:Wv d b i j):a_ aL 136 #[bv a,aS b] f λF p=>F=bh (aG aD)/\(∃c w,fV p a g j (lP d i b) l c w r o/\dH p (a+1) c (mv d i j b)/\dH p (a+1) w (nf d i j b)/\nE c w)/\cv a f p:=by
 have A:=O<|Wu [] u (by subst y;exact ih _ _ _ _) N K I L C G k.1 k.2 ax k.3 k.4 k.5;let z:=O<|Ei H;let⟨P,Q,R,S,T,V,W,X⟩:=u.cells;go_in;go_wp21;go_loopw [1,5] (λM n wr=>(M=aS b/\n=aG aD/\wr=f)\/(n=aG ak/\(∃c w,fV wr a g j (lP d i b) l c w r o/\dH wr (a+1) c (mv d i j b)/\dH wr (a+1) w (nf d i j b)/\nE c w)/\cv a f wr)) λ_ n _=>Qx n;case atStart=>exact bJ ⟨U,U,U⟩
 case round=>(
 rcases hrel with⟨rfl,rfl,rfl⟩|⟨rfl,h⟩;{
 go_wp21;refine z.m ?_;rintro f rfl;go_wp21;refine A.m λY h=>?_;rw[iF]at h;replace h:=O h;go_wp2;go_roundw;·exact bE<|bd U h
 ·simp[Qx]};{replace h:=O h;go_wp2;go_ret;exact bd U h})
def RB(j:Option<|Int×List aK×List aK)(g l ay u:Nat)(r:Int)(x w:ap)(y:List aK):Prop:=
 ∀(a c e:Nat) (n:Bool) (b:aQ),fV b a g r 0 n (bX) (bX) (bX) c->gJ b g x l ay u y->dx b->g<a->l<a->0<a->np b c e ak->c≠e->c<a->e<a->∀o,o<=e ->
  a_ aL 136 #[bv a,aS w] b λq d=>
   (j=af/\q=bh (aG ak)/\cv o b d)\/(∃t k p i h,j=ae (t,k,p)/\q=bh (aG aD)/\fV d a g r t n i h (bX) c/\dH d (a+1) i k/\dH d (a+1) h p/\nE i h/\cv a b d)
def RC(i:Option<|Int×List aK×List aK)(n l:ap)(k:List aK)(h:aQ)(e:Nat)(v:bk):Prop:=
 (i=af/\v=ce #[M 2,aG aD,bX,bX,bX]) \/
 ∃j a g b c d,i=ae (j,a,g)/\v=ce #[M j,aG<|decide (E (fm n k l)=0),b,c,d]/\dH h e b a/\dH h e c g/\dH h e d (nA k a<|a++g).2/\nE b c/\nE b d/\nE c d
def Hb(h:φ:=by simp[c_,results71,go_sem,n0,n1,n2,n3,n4]):φ:=h
def Yu{R ay aO h}(K:gJ f a h g ay aO i)(bL:dx f)(cd:E d<=2900)(bQ:fx d h=aD)(aX:tR h i)(bS:E i<=60)(bw:RB R a g ay aO j h d i)(bP:∀e X Z,R=ae (e,X,Z)->E X<=500/\E Z<=500/\∀b1∈X++Z,E b1.data<=3000):a_ aL 71 #[bv a,aS d,M j] f λz a0=>(∃v,z=bh v/\RC R h d i a0 (J f.1) v)/\a6 f a0:=by
 have:=K.1;have:=K.2.2.2.2.1;have:=K.2.1;have ac:=O K;have aw:=O bL;have bz:=O bw;have bF:=aX.2.1;have bM:=aX.1;have bG:a6 f (aN f<|aZ #[ag ai 0,aG ak,aE af 0 0,aE af 0 0,aE af 0 0] 79):=cf cc bo _;have az:=O (λa5=>by{have:=AZ (D d) (D h) a5 lv lv;rw[o8,o8,bQ]at this;exact this});have bV:=O bP;go_in;go_wp21;refine(az _).m λb3 aT=>?_;have al:a6 f b3:=by grind
 have ar:=aT▸Dl f _
 clear aT bG az;go_wp2_with fail;refine(WR).mono ?_;rintro z b ⟨F,bD,rfl,aq,ca,cb,bO,an⟩;have bY:=O aq;have:=(dK.1 ar).1;have aR:=aq.lt;have aJ:=aq.1;have c:=bC al<|bN an al.4;have aY:=(an.5 (J f.1) (dK.1 ar).1).trans ar;go_wp21;have ap:a6 b (aN b<|aZ #[cz<|ae ⟨a,0,af⟩,ag ai j,ag ai 0,aG ak,aE af 0 0,aE af 0 0,aE af 0 0,cz<|ae ⟨F,0,af⟩] 233):=cf cc bo _;have a3:fV (aN b<|aZ #[cz<|ae ⟨a,0,af⟩,ag ai j,ag ai 0,aG ak,aE af 0 0,aE af 0 0,aE af 0 0,cz<|ae ⟨F,0,af⟩] 233) (J b.1) a j 0 ak (bX) (bX) (bX) F:=Dl b _;have:=an.4;have:=al.4;refine(DB d ((ac.below c).below ap) ((aw.below c).below ap) bM G bF).mono ?_;rintro z b4 ⟨⟨ck,rfl,bR⟩,aP⟩;obtain⟨b_,cB,rfl⟩:=bR.slice;have S:=a3.kept<|aP.5 (J b.1) ax;have ba:=bC ap<|bN aP ax;obtain⟨co,cp,cq,cr,cs,ct,cu,cw⟩:=S.cells;have:=S.frozen 3;have bU:=O S;obtain⟨k,b8,Y⟩:∃k:Bool,((E (fm h i d):Int)==0)=k/\decide (E (fm h i d)=0)=k:=⟨_,U,by{grind}⟩;replace Y:=O Y;have a4:=bU.lM k;have q:a6 b (a7 b4 ⟨J b.1,3,af⟩<|aG k):=fc ba (p:=⟨J b.1,3,af⟩) bo _;have bB:=O<|bz (J b.1) F bD k _ a4 (ac.below<|bC c<|bN q c.4) (aw.below<|bC c<|bN q c.4) G G G (bY.below q aJ aR) bO aJ aR (J f.1+1) G;go_wp21;refine eb bB ?_;rintro z b6 (⟨I,rfl,H⟩|⟨e,n,u,cl,cm,I,rfl,av,N,L,bK,H⟩);{have C:=(bC c<|bN q c.4).trans<|bN H G;have l:fd b6 (J f.1) (M 0) (aG ak) (bX) (bX) (bX):=((H.5 (J f.1) G).trans<|q.5 (J f.1) G).trans aY;have bT:=fd.cells l;have bb:=fd.frozen l 0;have bc:=fd.frozen l 1;have bf:=fd.frozen l 2;have bi:=fd.frozen l 3;have bj:=fd.frozen l 4;have P:=((((fd.set0 l<|M 2).set1<|aG aD).set2<|bX).lM<|bX).o6<|bX;have⟨n0,n1,n2,n3,n4⟩:=P.cells;go_wp2;refine dQ (v:=ce #[ag ai 2,aG aD,aE af 0 0,aE af 0 0,aE af 0 0]) ?_ U ?_;{exact Hb};{exact⟨⟨_,U,bJ<|bd I U⟩,((((fc C (p:=⟨J f.1,0,af⟩) bo _).setCell (p:=⟨J f.1,1,af⟩) bo _).setCell (p:=⟨J f.1,2,af⟩) bo _).setCell (p:=⟨J f.1,3,af⟩) bo _).setCell (p:=⟨J f.1,4,af⟩) bo _⟩}};{have⟨bt,bu,bW⟩:=V bV e n u I;have bl:=O bW;have a9:=O bt;have bm:=O bu;have bn:=O I;have a2:=O bK;have C:=bC q H;have l:=(C.5 (J f.1) G).trans aY;have:=av.cells;obtain⟨T,aa,rfl⟩:=N.slice;obtain⟨W,ab,rfl⟩:=L.slice;have a1:=O<|YQ e k (bX) (ac.below<|bC c<|bN C c.4) bS N.rv L.rv (V a9) (V bm)<|V bl;have aB:=O<|cj N.ue L.ue;have b0:=O av;have a8:=O N;have bs:=O L;have bp:=av.lt;go_wp21;refine eb a1 ?_;rintro z au ⟨⟨cn,rfl,r⟩,A⟩;obtain⟨w,x,rfl⟩:=r.slice;have aC:=r.ue;replace r:=O r;have⟨t,aF⟩:=du<|(nA i n<|n++u).2;rw[aF]at r aC⊢;have bq:=O aF;have aH:=O aC;have Q:=b0.kept<|A.5 (J b.1) bp;have:=Q.cells;have:=Q.frozen 6;have b7:=Q.yA<|aE w (E t) x;have:=b7.cells;have o:=(A.5 (J f.1) G).trans l;have br:=O<|cj (a8.below A)<|bs.below A;have⟨bT,aU,aV,cg,ci⟩:=fd.cells o;have bb:=fd.frozen o 0;have bc:=fd.frozen o 1;have bf:=fd.frozen o 2;have bi:=fd.frozen o 3;have bj:=fd.frozen o 4;go_wp2;have P:=((((fd.set0 (show fd (a7 au ⟨J b.1,6,af⟩<|aE w (E t) x) (J f.1) _ _ _ _ _ from(dr _ _ _ _<|by grind).trans o)<|M e).set1<|aG k).set2<|aE T (E n) aa).lM<|aE W (E u) ab).o6<|aE w (E t) x;have⟨n0,n1,n2,n3,n4⟩:=P.cells;have b2:=bC C<|bN A G;have aI:=V br;refine dQ (v:=ce #[ag ai e,aG k,aE T (E n) aa,aE W (E u) ab,aE w (E t) x]) ?_ U ?_;{exact Hb};{have ad:∀{v:bk} {aW:List aK},dH au (J b.1+1) v aW->dH (a7 (a7 (a7 (a7 (a7 (a7 au ⟨J b.1,6,af⟩<|aE w (E t) x) ⟨J f.1,0,af⟩<|ag ai e) ⟨J f.1,1,af⟩<|aG k) ⟨J f.1,2,af⟩<|aE T (E n) aa) ⟨J f.1,3,af⟩<|aE W (E u) ab) ⟨J f.1,4,af⟩<|aE w (E t) x) (J f.1) v aW:=λbH=>((((((bH.ri (k:=J b.1) (i:=6) G _).ri (k:=J f.1) (i:=0) G _).ri (k:=J f.1) (i:=1) G _).ri (k:=J f.1) (i:=2) G _).ri (k:=J f.1) (i:=3) G _).ri (k:=J f.1) (i:=4) G _).base G;refine⟨⟨_,U,bE ⟨e,n,u,_,_,_,bn,by rw[V Y],ad aI.1,ad aI.2,?_,a2,λB ah aj=>?_,λB ah aj=>?_⟩⟩,?_⟩;{rw[V bq];exact ad<|r.base fi};{have aU:=(aB.1 B ah).2;have aV:=(aH B aj).1;omega};{have aU:=(aB.2 B ah).2;have aV:=(aH B aj).1;omega};{have bI:=bC c<|bN b2 c.4;exact(((((fc bI (p:=⟨J b.1,6,af⟩) (by grind) _).setCell (p:=⟨J f.1,0,af⟩) bo _).setCell (p:=⟨J f.1,1,af⟩) bo _).setCell (p:=⟨J f.1,2,af⟩) bo _).setCell (p:=⟨J f.1,3,af⟩) bo _).setCell (p:=⟨J f.1,4,af⟩) bo _}}}
def jd(e:ap)(a:List aK)(g:Int):Nat->Bool->Bool->List aK->ap->Int×Bool×List aK×List aK
 |0,first,b,c,d=>((fK e a g first b c d).1,(fK e a g first b c d).2.1,(fK e a g first b c d).2.2.1,(fK e a g first b c d).2.2.2.1)
 |f+1,first,b,c,d=>match fK e a g first b c d with
  |(l,h,i,j,none)=>(l,h,i,j)
  |(_,h,i,_,some k)=>jd e a g f ak h i k
structure oV(rs:List aK)(r:aK):Prop where
 dat:∃r0∈rs,r.type=r0.type/\r.data=r0.data
 own:r.owner.length<=260
section
variable {o:ap}{rs:List aK} (hz:hW o rs)
include hz
theorem Ew{c}(n:gD d)(j:i6 o (ck rs) d=ae c):∃a∈rs,c=gw d a/\a.type=5/\eL c.data=aD:=by
 let⟨_,q,k,l⟩:=IS j;rcases Jp (pr hz) n with⟨_,p⟩|⟨s,_,_,e⟩;{grind};{
 rw[k]at e;cases h:dF (ck rs) s with
 |nil=>grind
 |cons a r=>{
 rw[h]at e;let b:c=gw d a:=by grind
 let i:a∈rs:=(Bu (by rw[h];simp)).1;let g:a.type=5:=by{
 rw[oM,b]at l;let:((gw d a).type==5)=aD:=fi
 let:(a.type==5)=aD:=this;grind};refine⟨a,i,b,g,?_⟩;rw[b];exact(Rz hz i g).2}}
omit hz in
theorem Yn{m h}(c:E m<=260):∀a∈b9 (gw m) (f_ rs d h),oV rs a:=by intro a e;obtain⟨b,h0,rfl⟩:=kE.1 e;let g:b∈rs:=by{exact Nm};exact⟨⟨b,g,U,U⟩,c⟩
theorem Rn:∀a∈jw o (ck rs),oV rs a:=by
 intro a c;let⟨e,g,h,i,_,_,_,d,_⟩:=Ft hz;rw[d]at c;obtain rfl:a=_:=by simpa using c
 let b:=ei<|qK hz;exact⟨⟨_,b,U,U⟩,cJ (ul (hz.2 _ b).1).2 G⟩
theorem Yo{a}(b:a∈rs):oV rs a:=⟨⟨a,b,U,U⟩,cJ (ul (hz.2 a b).1).2 G⟩
theorem BO(g:gD d)(b):kZ b (d3 (ck rs) d).1=[]\/∃s,kZ b (d3 (ck rs) d).1=b9 (gw d) (f_ rs s b):=by rcases Jp (pr hz) g with⟨_,c⟩|⟨s,_,_,a⟩;{left;let:(d3 (ck rs) d).1=[]:=by{unfold d3 at c⊢;split;{grind};{rename_i e;rw[bV e]at c;split;{simp_all};{rfl}}};rw[this];rfl};{right;exact⟨s,by rw[a,Jj s d b<|pr hz]⟩}
theorem Ro(a:gD d)(g:fx d o=aD):∀c∈fm o (ck rs) d,c∈rs:=by rcases Fr (pr hz) a g with⟨_,b⟩|⟨h,_,_,b,_⟩;{grind};{rw[b];intro c e;exact(ig.1 e).1}
theorem Yp(c:gD d)(a:fx d o=aD):E (fm o (ck rs) d)<=60:=by rcases Fr (pr hz) c a with⟨_,b⟩|⟨e,_,_,b,_⟩;{grind};{rw[b];exact Ry hz}
theorem Rq:E (jw o<|ck rs)=1:=by let⟨a,b,c,d,_,_,_,e,_⟩:=Ft hz;grind
structure Yq(rs ans:List aK)(q:Int×Bool×List aK×List aK×Option ap):Prop where
 ZH:∀r∈q.2.2.1,oV rs r
 aoU:∀r∈q.2.2.2.1,oV rs r
 aoV:q.2.2.1.length<=ans.length+60
 aoW:q.2.2.2.1.length<=60
 aoX:∀d,q.2.2.2.2=some d->eL d=true/\q.1=0/\q.2.2.2.1=[]/\q.2.2.1.length=ans.length+1/\ans.length≠8
theorem JQ(g:gD d)(t:E d<=260)(h first y)(k:∀c∈i,oV rs c):Yq rs i (fK o (ck rs) h first y i d):=by
 cases e:fx d o with
 |false=>{rw[fK,b8 e];exact⟨k,ax,Bh _ _,dJ _,ax⟩}
 |true=>{
 by_cases r:E (fm o (ck rs) d)=0;{
 let b:=hq r;cases u:(d3 (ck rs) d).2 with
 |false=>{rw[JO e b u];exact⟨k,Rn hz,Bh _ _,(by show(jw o<|ck rs).length<=60;rw[Rq hz];omega),ax⟩}
 |true=>{
 by_cases n:(h=5\/h=255)\/i6 o (ck rs) d=af;{rw[JP e b u n];let F:∀c∈kZ h (d3 (ck rs) d).1,oV rs c:=by{rcases BO hz g h with a|⟨s,a⟩;{grind};{rw[a];exact Yn t}};let K:(kZ h (d3 (ck rs) d).1).length<=60:=by{rcases BO hz g h with a|⟨s,a⟩;{grind};{rw[a,ff];exact zK hz s h}};refine⟨λc j=>?_,λc j=>?_,?_,?_,ax⟩;{grind};{have w:=j;split at w;{grind};{exact Rn hz c w}};{grind};{show(if tw h (d3 (ck rs) d).1 then []else jw o (ck rs)).length<=60;split;{simp};{rw[Rq hz];omega}}};{
 let p:=λa=>n<|bJ<|bJ a;let x:=λa=>n<|bJ<|bE a;cases l:i6 o (ck rs) d with
 |none=>grind
 |some c=>{
 let⟨C,A,z,_,I⟩:=Ew hz g l;by_cases q:E i=8;{rw[Ev e b l p x q];exact⟨ax,ax,dJ _,dJ _,ax⟩};{
 rw[BN e b l p x q];refine⟨λD B=>?_,ax,?_,dJ _,λH G=>?_⟩;{
 rcases i_.1 B with a|a;{grind};{
 obtain rfl:D=c:=by grind
 rw[z];exact⟨⟨C,A,U,U⟩,t⟩}};{simp};grind}}}}};{rw[Eu e r];exact⟨k,λc j=>Yo hz<|Ro hz g e c j,Bh _ _,Yp hz g e,ax⟩}}
theorem vU(e):∀(f:Nat) (first b:Bool) (c:List aK) (d:ap),gD d->E d<=260->(∀g∈c,oV rs g)->E c<=8->(∀g∈(jd o (ck rs) e f first b c d).2.2.1,oV rs g)/\(∀g∈(jd o (ck rs) e f first b c d).2.2.2,oV rs g)/\E (jd o (ck rs) e f first b c d).2.2.1<=68/\E (jd o (ck rs) e f first b c d).2.2.2<=60
 |0,first,b,c,d,j,i,h,n=>by
  have a:=JQ hz j i e first b h
  exact⟨a.1,a.2,by have:=a.3;show(fK o (ck rs) e first b c d).2.2.1.length<=68;omega,a.4⟩
 |f+1,first,b,c,d,j,i,h,n=>by
  have a:=JQ hz j i e first b h
  unfold jd;generalize fK o (ck rs) e first b c d=t at a
  obtain⟨y,q,u,w,r⟩:=t;cases r with
  |none=>exact⟨a.1,a.2,by have:=a.3;grind,a.4⟩
  |some k=>{obtain⟨l,_,_,p,x⟩:=a.5 k U;simp only at p;exact vU e f ak q u k (hC l).1 (cJ (hC l).2 G) a.1 G}
theorem Ys{a}(h:oV rs a)(n:lq a=aD):∃ci b,I 32 a.data=ci++[b]/\ib a.data=b/\eL b=aD/\E a.data<=3000:=by let⟨⟨c,l,o,e⟩,_⟩:=h;let d:=hz.2 c l;let g:c.type=2\/c.type=15:=by{unfold lq at n;grind};let⟨ci,b,i,j,k⟩:=XI d g;rw[e];exact⟨ci,b,i,j,k,d.4⟩
end
def rK(b:ap)(a:List aK)(c:Int)(d:ap):Option (Int×List aK×List aK):=
 if c=5\/c=255 then ae (lP b a d,mv b a c d,nf b a c d)else(hH b a 8 d).map λe=>(tT b a e.2,e.1++sE b a c e.2,tF b a c e.2)
section
variable {o:ap} {L:List aK}{t:Int}
def JR{a:Bool}(c:fx d o=ak):fK o L t l a i d=((if l then 5 else 0),a,i,[],af):=by rw[fK,b8 c]
def Ex{e:Bool}(g:fx d o=aD)(h:(t=5\/t=255)\/i6 o L d=af):fK o L t l e i d=(lP o L d,(if(fm o L d).length=0 then aD else e || !l),i++mv o L t d,nf o L t d,af):=by by_cases b:E (fm o L d)=0;{let a:(if t=5\/t=255 then af else i6 o L d)=af:=by{rcases h with c|c;{rw[b8 c]};{rw[c,ite_self]}};rw[fK,bV<|by simp[g],bV<|by simp[b],a,b8 b]};{rw[Eu g b,bV b];rw[lP,mv,nf,bV b,bV b,bV b,kW]}
def vC{a:Bool}{e:Bool}{c:List aK}(f:Nat)(h:fK o L t l a p d=(j,e,i,c,af)):jd o L t f l a p d=(j,e,i,c):=by
 cases f with
 |zero=>rw[jd,h]
 |succ f=>rw[jd,h]
def Rr{a:Bool}{c:ap}{g:Bool}{h:List aK}(f:Nat)(e:fK o L t l a i d=(j,g,p,h,ae c)):jd o L t (f+1) l a i d=jd o L t f ak g p c:=by
 conv=>lhs;unfold jd
 rw[e]
def JS{c:aK}(b:i6 o L d=ae c):fm o L d=[]:=hq (IS b).1
def Yt(h:t≠5)(j:t≠255):∀(m:Nat) (e:List aK) (c:ap),E e+m=8->fx c o=aD ->
  jd o L t (m+1) ak aD e c=match hH o L m c with
   |none=>(2,aD,[],[])
   |some d=>(tT o L d.2,aD,e++(d.1++sE o L t d.2),tF o L t d.2):=by
 intro m;induction m with
 |zero=>{
 intro e c l g;cases a:i6 o L c with
 |none=>{rw[vC 1<|Ex g<|bE a];unfold hH;rw[a];simp[tT,sE,tF]}
 |some b=>{rw[vC 1<|Ev g (JS a) a h j G];unfold hH;rw[a]}}
 |succ m n=>{
 intro e c l g;cases a:i6 o L c with
 |none=>{rw[vC (m+2)<|Ex g<|bE a];unfold hH;rw[a];simp[tT,sE,tF]}
 |some b=>{
 rw[Rr (m+1)<|BN g (JS a) a h j G];have k:hH o L (m+1) c=if fx b.data o=aD then(hH o L m b.data).map (λd=>(b::d.1,d.2))else ae ([b],af):=by{
 conv=>lhs;unfold hH
 rw[a]}
 rw[k];cases i:fx b.data o with
 |false=>{rw[vC (m+1)<|JR i];simp[tT,sE,tF]}
 |true=>{
 rw[n (e++[b]) b.data ct i];simp only[mM];cases hH o L m b.data with
 |none=>rfl
 |some d=>simp}}}
def Rt(h:fx d o=aD):jd o L t 9 aD ak [] d=match rK o L t d with
  |none=>(2,aD,[],[])
  |some c=>(c.1,decide (E (fm o L d)=0),c.2.1,c.2.2):=by
 have k:(if(fm o L d).length=0 then aD else(ak || ! aD))=decide (E (fm o L d)=0):=by{by_cases a:E (fm o L d)=0<;>simp[a]};unfold rK;by_cases g:t=5\/t=255;{rw[vC 9<|Ex h<|bJ g,b8 g,k];rfl};{
 rw[bV g];have i:t≠5:=λa=>g<|bJ a;have n:t≠255:=λa=>g<|bE a;cases e:i6 o L d with
 |none=>{
 rw[vC 9<|Ex h<|bE e,k];have:hH o L 8 d=ae ([],ae d):=by unfold hH;rw[e]
 rw[this];simp[tT,sE,tF]}
 |some b=>{
 have j:=JS e;rw[Rr 8<|BN h j e i n ax,j];have p:hH o L 8 d=if fx b.data o=aD then(hH o L 7 b.data).map (λc=>(b::c.1,c.2))else ae ([b],af):=by{
 conv=>lhs;unfold hH
 rw[e]}
 rw[p];cases l:fx b.data o with
 |false=>{rw[vC 8<|JR l];simp[tT,sE,tF]}
 |true=>{
 rw[Yt i n 7 ([]++[b]) b.data ax l];simp only[mM];cases hH o L 7 b.data with
 |none=>rfl
 |some c=>simp}}}
theorem MZ(h:φ:=by rw[hk]at h;obtain rfl:=gm h;exact⟨λr hr=>(by cases hr),λf hf=>by obtain rfl:=gm hf;exact hn⟩):φ:=h
section
variable {rs:List aK} (hz:hW o rs)
include hz
def zL(rs b:List aK):Prop:=∀c,b.any (λa=>a.owner==c&&a.type==1)=aD->∀s∈fY rs c 1,s∈b
theorem YA(b:jI (ck rs) d=ak)(g:Int):fY rs d g=[]:=by rw[fY,pU];intro e a c;simp only[e9,iE]at c;rw[Jo<|pr hz]at b;have:p8 rs (cE d)=aD:=by{refine ni.2 ⟨e,a,?_⟩;rw[Jf (pr hz e a).2.2,c.1];exact OD d};rw[b]at this;cases this
theorem Zb(g:gD d)(t:Int):kZ t (d3 (ck rs) d).1=[]\/kZ t (d3 (ck rs) d).1=f_ rs d t\/(fY rs d 1=[]/\∀a∈kZ t (d3 (ck rs) d).1,a.owner=d):=by
 by_cases c:jI (ck rs) d=aD;{
 let:(d3 (ck rs) d).1=dF (ck rs) d:=by rw[d3,b8 c]
 rw[this,Ji d t<|pr hz];exact bE<|bJ U};{
 let e:jI (ck rs) d=ak:=by simpa using c
 rcases BO hz g t with b|⟨s,b⟩;{exact bJ b};{refine bE<|bE ⟨YA hz e 1,?_⟩;rw[b];intro a h;obtain⟨i,_,rfl⟩:=kE.1 h;rfl}}
omit hz in
theorem Zc{t:Int}{e:aK}(b:e∈f_ rs d t)(g:e.type=1):∀s∈fY rs d 1,s∈f_ rs d t:=by
 intro s c;unfold f_ at b⊢;split at b;{rename_i a;rw[b8 a];exact tI.2 ⟨1,ax,c⟩};{
 rename_i a;rw[bV a];have:=(ig.1 b).2;simp only[e9,iE]at this;let h:t=1:=by rw[<-this.2,g]
 rw[h];exact c}
omit hz in
theorem Zd{t:Int}{c:aK}(a:c∈f_ rs d t):c.owner=d:=by unfold f_ at a;split at a;{let⟨e,_,b⟩:=tI.1 a;have:=(ig.1 b).2;simp only[e9,iE]at this;exact this.1};{have:=(ig.1 a).2;simp only[e9,iE]at this;exact this.1}
theorem Ze(l:gD d){t:Int}(o:∀p∈i,p.type=5):zL rs (i++kZ t (d3 (ck rs) d).1):=by intro q n s g;let⟨e,k,b⟩:=ni.1 n;simp only[e9,iE]at b;rcases i_.1 k with a|a;{have:=o e a;rw[this]at b;exact absurd b.2 bW};{refine List.mem_append_right _ ?_;rcases Zb hz l t with c|c|⟨h,j⟩;{rw[c]at a;cases a};{rw[c]at a⊢;have:=Zd a;rw[b.1]at this;subst this;exact Zc a b.2 s g};{have:=j e a;rw[b.1]at this;subst this;rw[h]at g;cases g}}
omit hz in
theorem JT(g:∀h∈i,h.type=5):zL rs i:=by intro j e s b;let⟨c,d,a⟩:=ni.1 e;simp only[e9,iE]at a;let:=g c d;rw[this]at a;exact absurd a.2 bW
theorem Rl{ls:List aK}(c:gD d)(t:Int)(a:∀b∈ls,b.type=5):zL rs (ls++mv o (ck rs) t d):=by unfold mv;split;{split;{exact Ze hz c a};{rw[kW];exact JT a}};{rw[kW];exact JT a}
theorem Zf:∀(m:Nat) (a:ap) (c:List aK×Option ap),gD a->hH o (ck rs) m a=ae c->(∀r∈c.1,r.type=5)/\∀f,c.2=ae f->gD f:=by
 intro m;induction m with
 |zero=>{
 intro a c hn h;unfold hH at h;cases hk:i6 o (ck rs) a with
 |none=>exact MZ
 |some r=>rw[hk]at h;cases h}
 |succ m l=>{
 intro a c hn h;unfold hH at h;cases hk:i6 o (ck rs) a with
 |none=>exact MZ
 |some r=>{
 rw[hk]at h;let⟨t,_,i,j,k⟩:=Ew hz hn hk;let g:r.type=5:=i▸j
 simp only at h;split at h;{
 cases e:hH o (ck rs) m r.data with
 |none=>rw[e]at h;cases h
 |some q=>{rw[e]at h;obtain rfl:=gm h;let⟨n,p⟩:=l r.data q (hC k).1 e;exact⟨λd b=>by rcases fw.1 b with rfl|b;exact g;exact n d b,p⟩}};{obtain rfl:=gm h;exact⟨λd b=>(show d=r by simpa using b)▸g,λf hf=>by cases hf⟩}}}
theorem Zg(b:gD d){t:Int}{g:Int×List aK×List aK}(a:rK o (ck rs) t d=ae g):zL rs g.2.1:=by
 unfold rK at a;split at a;{obtain rfl:=gm a;have:=Rl hz (ls:=[]) b t (λl j=>by cases j);rw[iF]at this;exact this};{
 cases c:hH o (ck rs) 8 d with
 |none=>rw[c]at a;cases a
 |some h=>{
 rw[c]at a;obtain rfl:=gm a;let⟨e,k⟩:=Zf hz 8 d h b c;let⟨ls,i⟩:=h;cases i with
 |none=>{show zL rs (ls++[]);rw[kW];exact JT e}
 |some f=>exact Rl hz (k f U) t e}}
omit hz in
theorem Zh(n:zL rs i)(j:List aK):nA (ck rs) i j=jX rs i j:=by
 let q:∀s b,rV (ck rs) i s b=nX rs i s b:=by{
 intro s b;unfold rV nX;cases r:lq b with
 |false=>simp
 |true=>{
 cases d:s.1.contains (ib b.data)with
 |true=>simp
 |false=>{
 simp only[AT,DD,mM];rw[zG];congr 1;generalize ib b.data=e;by_cases g:i.any (λc=>c.owner==e&&c.type==1)=aD;{rw[b8 g];let:(fY rs e 1).filter (λc=>!i.any (c == ·))=[]:=by{rw[pU];intro s h d;let p:=n e g s h;let:i.any (s == ·)=aD:=ni.2 ⟨s,p,ax⟩;rw[this]at d;cases d};rw[this,kW]};{
 rw[bV g];let:(fY rs e 1).filter (λc=>!i.any (c == ·))=fY rs e 1:=by{
 rw[uP];intro s h;rw[wA,<-sY];intro d;let⟨a,o,k⟩:=ni.1 d;let l:s=a:=by simpa using k
 let:=(ig.1 h).2;exact g<|ni.2 ⟨a,o,l▸this⟩};rw[this]}}}};unfold nA jX;congr 1;funext s b;exact q s b
end
end
def gn(b:ap)(c:List aK)(d:Int)(a:ap):Int×Bool×List aK×List aK:=jd b (ck c) d 9 aD ak [] a
def kN(c:ap)(a:List aK)(d:Int)(b:ap):List aK:=(jX a (gn c a d b).2.2.1<|(gn c a d b).2.2.1++(gn c a d b).2.2.2).2
def JV(b:List aK)(a:Int×Bool×List aK×List aK):List aK:=(jX b a.2.2.1<|a.2.2.1++a.2.2.2).2
def YY(b:Nat->Prop)(g:aQ)(c:Nat)(v:bk)(a:Int×Bool×List aK×List aK)(j:List aK):Prop:=
 ∃d i e,v=ce #[M a.1,aG a.2.1,d,i,e]/\ek b g c d a.2.2.1/\ek b g c i a.2.2.2/\ek b g c e j/\∀h,bA e=ae h->bA d≠ae h
def YZ{e b}(f)(h:(fK e i j l b p d).2.2.2.2=af):jd e i j f l b p d=((fK e i j l b p d).1,(fK e i j l b p d).2.1,(fK e i j l b p d).2.2.1,(fK e i j l b p d).2.2.2.1):=by
 cases f with
 |zero=>rfl
 |succ f=>{grind[jd]}
def Y0{first g h}(f)(c:(fK d i j l first p g).2.2.2.2=ae h):jd d i j (f+1) l first p g=jd d i j f ak (fK d i j l first p g).2.1 (fK d i j l first p g).2.2.1 h:=by
 conv=>lhs;unfold jd
 grind
def JW{ay}(i:gR f a ay s)(k:0<E s)(c:fC f g j l (bX) (bX)<|bX):a≠g:=by
 rintro rfl;have h:=i.2 0 k;rw[h8]at h;let:=c.cells;match ay,h with
 |0,h=>grind
 |1,h=>grind
 |2,h=>grind
 |3,h=>grind
 |4,h=>grind
 |d+5,h=>{unfold fC at c;unfold aA at h;grind}
def BP(a s):0<E (I a s):=by let:=nL a s;grind
def Ez(s):0<E (cE s):=by rw[rU];exact BP 46 s
def AM{p d:Nat->Prop}{base'}(A:ek p f a e i)(K:∀b,d b->p b)(F:base'<=a)(h:fC f g j l (bX) (bX)<|bX):ek (λb=>b=g\/d b) f base' e i:=by let⟨L,B,C,D⟩:=A;refine⟨L,B,wT C F,λM G=>?_⟩;let⟨⟨y,H,bG,t,w,n,v⟩,⟨z,I,r,u,x,o,k⟩⟩:=D M G;exact⟨⟨y,H,bG,t,w,n,λq=>q.elim (λq=>q.elim (JW n (Ez _) h) λq=>v<|bJ<|K _ q) λq=>v<|bE q⟩,⟨z,I,r,u,x,o,λq=>q.elim (λq=>q.elim (JW o (BP _ _) h) λq=>k<|bJ<|K _ q) λq=>k<|bE q⟩⟩
def N0{v}(c:ek v f a e i)(k:g<=a):ek v f g e i:=by let⟨l,h,b,j⟩:=c;exact⟨l,h,wT b k,j⟩
structure JD(X:Nat->Prop)(w0 wr:World)(ab:Nat)(o:ap)(rs:List aK)(t:Int)(RES:Int×Bool×List aK×List aK)(first aa:Bool)(ans:List aK)(n:ap)(va:Value)(g bH nc:Nat):Prop where
 an:fC wr ab 0 aa va (bX) (bX)
 H7:ek X wr (ab+1) va ans
 tx:gR wr g bH (cE n)
 nc:(cE n).length<=nc
 ga:g≠ab
 gx:¬X g
 go:some g≠va.ownBlock
 ne:gD n
 nl:n.length<=260
 ok:∀r∈ans,oV rs r
 eq:jd o (ck rs) t (9-ans.length) first aa ans n=RES
 bl:a6 w0 wr
def JE(c:Nat->Prop)(g wr:aQ)(b:Nat)(a:Int×Bool×List aK×List aK):Prop:=∃d e,fC wr b a.1 a.2.1 d e (bX)/\ek c wr (b+1) d a.2.2.1/\ek c wr (b+1) e a.2.2.2/\a6 g wr
def M2(h:φ:=by exact((((fc hB (p:=⟨J w.1,0,af⟩) bo _).setCell (p:=⟨J w.1,1,af⟩) bo _).setCell (p:=⟨J w.1,2,af⟩) bo _).setCell (p:=⟨J w.1,3,af⟩) bo _).setCell (p:=⟨J w.1,4,af⟩) bo _):φ:=h
def LL{I}(z c){l w}(ci:lu f a I i)(aO:a6 f w)(cy:∀b,b<J f.1->¬l b)(cA:∀b,J w.1<=b->¬l b)(aY:hW I i)(ab:(∃n bH u g,e=bL n bH (E<|cE g) u/\¬l n/\gR w n bH (cE g)/\E (cE g)<=u/\gD g/\E g<=260/\gn I i z g=c)\/(e=bX/\c=(0,ak,[],[]))):a_ aL 97 #[bv a,e,M z] w λr bw=>(∃v,r=bh v/\YY l bw (J w.1) v c (JV i c))/\a6 w bw:=by
 have⟨B,bt⟩:=bm (aZ #[ag ai 0,aG ak,aE af 0 0,aE af 0 0,aE af 0 0] 102:g7)
 have bq:a6 w (aN w B):=cf cc bo _;have aF:J (aN w B).1=J w.1+1:=eE w _;have ca:cv (J (aN w B).1) (aN w B) (aN (aN w B) B):=cf cc bo _;have cq:fC (aN (aN w B) B) (J w.1+1) 0 ak (bX) (bX) (bX):=by
  have:=cW (aN w B) B;rw[aF]at this;unfold fC
  grind
 have ba:=O ci;have an:=O<|bC aO<|bN bq aO.4;have:=aO.4;have W:=O aY;have bs:ao ((aN w B).1[J w.1]? = ae (aZ #[ag ai 0,aG ak,aE af 0 0,aE af 0 0,aE af 0 0] 102)):=by
  rw[ao,cW,bt]
 have aa:=O cq;have b1:=O ab;have ar:=O bq;have X:=O ca;have⟨o,b_⟩:=du<|J w.1+1
 rw[b_]at aa aF;have bP:ao ((∀C∈c.2.2.1,oV i C)/\(∀C∈c.2.2.2,oV i C)/\E c.2.2.1<=68/\E c.2.2.2<=60):=by
  rcases ab with⟨n,bH,u,g,_,_,_,_,aB,aC,rfl⟩|⟨_,rfl⟩
  ·exact vU aY z 9 aD ak [] g aB aC (λC t=>by cases t) (dJ _)
  simp_all
 obtain⟨h,b8⟩:∃h:Nat->Prop,h=λb=>b=o\/l b:=eR _ U
 have j:ao (h o/\(∀b,b<J f.1->¬h b)/\(∀b,J w.1<=b->b≠o->¬h b)/\(∀b,h b->b<=o)/\(∀b,l b->h b)/\(∀b,b≠o->¬l b->¬h b)):=by
  subst b8;refine⟨bJ U,λb R A=>?_,λb R x A=>?_,λb A=>?_,λb A=>bE A,λb aw ay A=>A.elim aw ay⟩
  ·grind
  ·grind
  grind
 go_wp2;rw[<-bt];have⟨D,cg⟩:=du<|aN w B
 rw[cg]at an bs aa ar X aF⊢;have bQ:ao ((∃(g:ap) (n bH u:Nat),e=bL n bH (E<|cE g) u/\JD h D (aN D B) o I i z c aD ak [] g (bX) n bH u)\/(e=bX/\JE h D (aN D B) o c)):=by
  rcases V b1 with⟨n,bH,u,g,aH,bR,x,cs,aB,aC,t⟩|⟨aH,t⟩
  ·have:=x.1;have b3:=(x.below ar).below X;exact bJ ⟨g,n,bH,u,aH,aa,ek.nil _ _ _,b3,cs,G,j.2.2.2.2.2 n G bR,(λr=>by cases r),aB,aC,(λC t=>by cases t),t,X⟩
  ·rw[t];exact bE ⟨aH,bX,bX,aa,ek.nil _ _ _,ek.nil _ _ _,X⟩
 go_loopg [1,8] 10 (λb4 e bf wr=>
  (∃(first F:Bool) (q:List aK) (ac:ap) (al:bk) (av aM aq:Nat),e=bL av aM (E<|cE ac) aq/\bf=aG first/\b4+E q=10/\E q<=8/\ao (JD h D wr o I i z c first F q ac al av aM aq)) \/
  (e=bX/\(∃a4:Bool,bf=aG a4)/\ao (JE h D wr o c)))
 ·rcases V bQ with⟨g,n,bH,u,rfl,K⟩|⟨rfl,K⟩
  ·exact bJ ⟨aD,ak,[],g,bX,n,bH,u,U,U,U,ax,K⟩
  grind
 ·rcases hrel with⟨first,F,q,ac,al,av,aM,aq,rfl,rfl,cF,bY,ab⟩|⟨rfl,⟨a4,rfl⟩,P⟩
  ·have d:=V ab;have aT:=O<|Yz z first (V ba) (V an) j.1 j.2.1 (λb R x=>j.2.2.1 b G x) j.2.2.2.1 (V W) d.12 G d.1 d.2 bY d.3 d.4 d.5 d.6 d.7 d.8 d.9;have a0:=JQ (V W) d.8 d.9 z first F d.10
   have a2:=O d.11;have⟨T,bn⟩:=du<|fK I (ck i) z first F q ac
   have Z:=O bn;rw[bn]at aT a0;have a3:=O a0;go_wp21;refine eb aT ?_;rintro r bz ⟨bc,bS,ct,rfl,au,bB,b0,ah,bl⟩;cases aj:T.2.2.2.2 with
   | none=>
    rw[aj]at ah;have bM:ct=bX:=ah;subst bM;have:ao (JE h D bz o c):=by
     have Q:=V a2;rw[YZ _ (by rw[V Z];omega),V Z]at Q;rw[<-Q];exact⟨bc,bS,au,bB,b0,bl⟩
    go_wp2
    go_roundg 0
    ·grind
    omega
   | some a9=>
    have⟨br,b7,cD,cx,cG⟩:=a3.5 a9 aj;rw[aj]at ah;obtain⟨bT,b6,Y,rfl,cb,cr,aI⟩:=ah;subst bT;rw[b7]at au;have:ao (JD h D bz o I i z c ak T.2.1 T.2.2.1 a9 bc b6 0 Y):=by
     refine⟨au,bB,cr,cb,λr=>aI<|bJ<|r▸j.1,λr=>aI<|bJ r,λr=>aI<|bE r,(hC br).1,cJ (hC br).2 G,a3.1,?_,bl⟩;have Q:=V a2;rw[show 9-E q=(9-E T.2.2.1)+1 by omega,Y0 _<|(V Z)▸aj,V Z]at Q;exact Q
    go_wp2
    go_roundg (10-(E q+1))
    ·grind
    omega
  ·have⟨al,cK,d,bj,bp,hB⟩:=V P;have⟨pC,cH,cB,cC⟩:=V bP;have bI:=O<|Zs j.1 j.2.1 (λb R=>j.2.2.1 b (cd hB.4)<|cd d.lt) j.2.2.2.1 (V ba) (V W) (bC an<|bN hB an.4) G d bj bp G G (λC t x=>Ys (V W) (by grind) x) λC t=>cd<|(pC C t).2;have bb:=O bj;have bK:=O bp;have aX:=O hB;go_wp21;refine bI.m λcw ⟨cu,cI,H⟩=>?_;have az:∀b,bA cu=ae b->bA al≠ae b:=λb aw ay=>by
    have:=(H.4.lt b aw).1;have:=(bb.lt b ay).2;omega
   replace az:=O az;have bi:=H.Zv (V aX) G;have aS:=H.own<|V bb;have a1:=H.own<|V bK;have L:fC cw (J w.1) 0 ak (bX) (bX) (bX):=(bi.5 (J w.1) G).trans<|V bs;have bO:=O<|AM aS j.2.2.2.2.1 (base':=J w.1+1) G L;have bU:=O<|AM a1 j.2.2.2.2.1 (base':=J w.1+1) G L;have bV:=O<|AM H.4 (λb R=>bJ<|j.2.2.2.2.1 b R) (base':=J w.1+1) (cd aX.4) L;have b2:=O bi;obtain⟨aU,bG,rfl⟩:=aS.slice;obtain⟨aV,a5,rfl⟩:=a1.slice;obtain⟨aW,Y,rfl⟩:=H.4.slice;have:=H.1.cells;have:=L.cells;have:=L.frozen;have cj:=O L;have bW:ao (JV i c=(jX i c.2.2.1<|c.2.2.1++c.2.2.2).2):=U;generalize (jX i c.2.2.1<|c.2.2.1++c.2.2.2).2=aR at*;obtain⟨bu,F,q,a8⟩:=c;simp only at*;go_wp2;have bF:=(((((cj.set0 bu).set1 F).set2<|aE aU (E q) bG).lM<|aE aV (E a8) a5).o6<|aE aW (E aR) Y)
   have⟨cl,cm,cn,co,cp⟩:=bF.cells;refine dQ (v:=ce #[ag ai bu,aG F,aE aU (E q) bG,aE aV (E a8) a5,aE aW (E aR) Y]) ?_ U ?_
   ·simp[c_,results97,go_sem,cl,cm,cn,co,cp]
   ·rw[V bW];have k:∀{v:bk} {S:List aK} {N:aQ} (aJ:Nat) (aP:bk),ek (λb=>b=J w.1\/l b) N (J w.1+1) v S->ek (λb=>b=J w.1\/l b) (a7 N ⟨J w.1,aJ,af⟩ aP) (J w.1+1) v S:=λaJ aP K=>K.set (a:=⟨J w.1,aJ,af⟩) aP (bJ U) ax;have P:∀{v:bk} {S:List aK} {N:aQ},ek (λb=>b=J w.1\/l b) N (J w.1+1) v S->ek l N (J w.1) v S:=λK=>N0 (K.imp (y:=l) λ_ _ x _ A=>x<|bE A) G;refine bd (⟨_,U,_,_,_,U,P<|k 4 _<|k 3 _<|k 2 _<|k 1 _<|k 0 _<|V bO,P<|k 4 _<|k 3 _<|k 2 _<|k 1 _<|k 0 _<|V bU,P<|k 4 _<|k 3 _<|k 2 _<|k 1 _<|k 0 _<|V bV,az⟩) ?_;have hB:=bC ar<|bN b2 G;exact M2
def As(g:aQ)(e:Nat)(v:bk)(a:Int×Bool×List aK×List aK)(h:List aK):Prop:=
 ∃b c d,v=ce #[M a.1,aG a.2.1,b,c,d]/\dH g e b a.2.2.1/\dH g e c a.2.2.2/\dH g e d h/\nE b c/\nE b d/\nE c d
def rq(b):nE (bX) b:=λc a=>by cases a
section
variable {o:ap}{rs:List aK} (hz:hW o rs)
include hz
theorem JF:tR o (ck rs):=by let c:=(td rs).length_eq;refine⟨by rw[c];let:=vT hz;omega,cd<|(hC hz.1).2,λb d=>?_⟩;let a:=(td rs).mem_iff.1 d;exact⟨cd<|(ul (hz.2 b a).1).2,(hz.2 b a).4⟩
theorem RZ:∀a∈jb (dF (ck rs) o) 6,xm a/\E a.data<=3000/\a.aP<=1000000000:=by let⟨_,_,_,_,_,_,_,_,b⟩:=Ft hz;exact b
theorem R0(e:gD d):E (d3 (ck rs) d).1<=3001:=by have b:=BO hz e 255;let a:kZ 255 (d3 (ck rs) d).1=(d3 (ck rs) d).1:=by{let c:=AY c8 (E (d3 (ck rs) d).1) 0 (d3 (ck rs) d).1 bo;rw[kZ,mU,uP.2 λg _=>dl];exact c};rw[a]at b;rcases b with b|⟨s,b⟩;{grind};{rw[b,ff];let:=zK hz s 255;omega}
theorem Y1(F p ay q b)(j:gD d)(y:E d<=260):RB (rK o (ck rs) b d) F p ay q b o d (ck rs):=by
 intro Y M L I H k l i n e g h A w x K r;by_cases D:b=5\/b=255;{
 let C:rK o (ck rs) b d=ae (lP o (ck rs) d,mv o (ck rs) b d,nf o (ck rs) b d):=by grind[rK]
 refine(Wy k U U l i n e g h ⟨JF hz,G,RZ hz,D,R0 hz j⟩).mono ?_;grind};{
 let C:rK o (ck rs) b d=(hH o (ck rs) 8 d).map (λc=>(tT o (ck rs) c.2,c.1++sE o (ck rs) b c.2,tF o (ck rs) b c.2)):=by grind[rK]
 refine(Wx (λm=>gD m/\E m<=260) k l i n e g h A w x r G ⟨j,y⟩ ⟨JF hz,RZ hz,by grind,by grind,λm a=>R0 hz a.1,λm X a z=>?_⟩).mono ?_;{let⟨_,_,_,_,B⟩:=Ew hz a.1 z;let:=hC B;grind};{rintro O Z (⟨t,rfl,u⟩|⟨W,Q,t,_,rfl,⟨P,N,R,S,T,V⟩,u⟩);{grind};grind}}
theorem Y2(h)(q:gD d)(n:E d<=260)(r:fx d o=aD):∀g b c,rK o (ck rs) h d=ae (g,b,c)->E b<=500/\E c<=500/\∀a∈b++c,E a.data<=3000:=by intro g b c k;have l:=vU hz h 9 aD ak [] d q n (λa e=>by cases e)<|dJ _;rw[Rt r,k]at l;refine⟨by grind,by grind,λa e=>?_⟩;let j:oV rs a:=by{grind};let⟨t,p,_,i⟩:=j.1;rw[i];exact(hz.2 t p).4
theorem Y3(k:gD d)(l:fx d o=aD)(v:RC (rK o (ck rs) j d) o d (ck rs) f a e):As f a e (gn o rs j d) (kN o rs j d):=by have c:gn o rs j d=_:=Rt l;rcases v with⟨b,rfl⟩|⟨z,h,i,u,w,x,b,rfl,n,p,y,q,r,t⟩;{rw[b]at c;rw[kN,c];exact⟨_,_,_,U,ih _ _ _ _,ih _ _ _ _,ih _ _ _ _,rq _,rq _,rq _⟩};{rw[b]at c;rw[kN,c];let:=Zh (Zg hz k b)<|h++i;refine⟨u,w,x,U,n,p,?_,q,r,t⟩;grind}
end
def R1{ay q b}(n:gJ f a d g ay q i)(z:E b<=2900)(y:E d<=2900)(u:fx b d=ak):a_ aL 71 #[bv a,aS b,M j] f (cI (ce #[M 5,aG ak,bX,bX,bX]) f):=by
 have:=n.2.1;have:=n.1;have r:a6 f (aN f<|aZ #[ag ai 0,aG ak,aE af 0 0,aE af 0 0,aE af 0 0] 79):=cf cc bo _;have x:=O (λl=>by{have:=AZ (D b) (D d) l lv lv;rw[o8,o8,u]at this;exact this});go_in;go_wp21;refine(x _).m λc h=>?_;have t:a6 f c:=by grind
 have w:fd c (J f.1) (M 0) (aG ak) (bX) (bX) (bX):=h▸Dl f _
 have:=fd.cells w;have:=fd.frozen w;have e:=((((fd.set0 w<|M 5).set1<|aG ak).set2<|bX).lM<|bX).o6<|bX;have⟨n0,n1,n2,n3,n4⟩:=e.cells;have o:=O<|cj n0<|cj n1<|cj n2<|cj n3 n4;clear h r x w e n0 n1 n2 n3 n4;go_wp2;have⟨n0,n1,n2,n3,n4⟩:=V o;refine dQ (v:=ce #[ag ai 5,aG ak,aE af 0 0,aE af 0 0,aE af 0 0]) ?_ U (bd U<|((((fc t (p:=⟨J f.1,0,af⟩) bo _).setCell (p:=⟨J f.1,1,af⟩) bo _).setCell (p:=⟨J f.1,2,af⟩) bo _).setCell (p:=⟨J f.1,3,af⟩) bo _).setCell (p:=⟨J f.1,4,af⟩) bo _);exact Hb
def N1{ay n t c}(b:hW d i)(p:gJ f a d g ay n<|ck i)(r:dx f)(j:gD c)(u:E c<=260):a_ aL 71 #[bv a,aS c,M t] f λo h=>(∃v,o=bh v/\As h (J f.1) v (gn d i t c) (kN d i t c))/\a6 f h:=by
 cases e:fx c d with
 |false=>{let:=(hC b.1).2;refine(R1 p G G e).m λh l=>?_;let q:gn d i t c=(5,ak,[],[]):=vC 9<|JR e;refine bd (⟨_,U,?_⟩) l;rw[kN,q];exact⟨_,_,_,U,ih _ _ _ _,ih _ _ _ _,ih _ _ _ _,rq _,rq _,rq _⟩}
 |true=>{let w:=(td i).length_eq;refine(Yu p r G e (JF b) (w▸vT b) (Y1 b a g ay n t j u)<|Y2 b t j G e).mono ?_;rintro o h ⟨⟨v,rfl,x⟩,l⟩;exact bd (⟨v,U,Y3 b j e x⟩) l}
def pw(g:aQ)(b h:Nat)(d:ap)(e:List aK):Prop:=∀a,co (λc=>b<=c) g a->lu a h d e
def pw.Zv(c:pw f a g d i):lu f g d i:=c f<|co.refl _ _
def pw.fr(c:pw f a g d i)(k:co (λl=>a<=l) f m):pw m a g d i:=λh j=>c h<|k.trans j
def zm(s:ap)(d:Nat)(e:kP)(h:aQ):Prop:=
 match jE s with
 |none=>e=bh (cz af)
 |some g=>∃c a b,e=bh (bv c)/\d<=c/\pw h d c a b/\hW a b/\jm s=ae (a,b)/\g=(a,ck b)
section
def aaR(a:Option gU)(d c:Nat)(b:aQ):(binOp .eql 92 (aE a d c)<|bX).run aL b=.ok (aG a.isNone) b:=LF b _ _ a d c 0 0 yk
attribute [local go_sem] aaR
def tY(b:jE d=af):zm d a (bh<|cz af) f:=by rw[zm,b]
def xK(a:jm d=af):jE d=af:=by rw[jE,a];rfl
def aaS{o:ap}{rs:List aK}(b:jm d=ae (o,rs))(c:60<E rs):jE d=af:=by
 rw[jE,b];show(if lO o rs&&ln o (ck rs)then _ else _)=_;rw[bV];intro a;rw[e9]at a;have:=a.1;unfold lO at this;cases rs with
 |nil=>simp at this
 |cons s e=>simp at this c;omega
def S1{b:ap}(c:jm d=ae (b,i))(g:∀h∈i,jh h.owner=aD)(e:¬(tC b i/\E i<=60)):jE d=af:=by rw[jE,c];show(if lO b i&&ln b (ck i)then _ else _)=_;rw[bV];intro a;exact e<|(QT b g).2 a
def aaT{b:ap}(a:jm d=ae (b,i))(h:∀s∈i,jh s.owner=aD)(g:tC b i)(e:E i<=60):jE d=ae (b,ck i)/\lO b i=aD/\ln b (ck i)=aD:=by have c:=(QT b h).1<|bd g e;rw[jE,a];refine⟨?_,by rw[e9]at c;exact c.1,by rw[e9]at c;exact c.2⟩;show(if lO b i&&ln b (ck i)then _ else _)=_;rw[b8 c]
def S2{a:ap}(b:List ap)(c:I 32 d=[vy,a])(g:eL a=aD):sV (d::b)=(ji b).map (λh=>(a,h)):=by let⟨f,e⟩:=aaP c;show(if Lib.hasPrefix d kX&&eL (l6 d kX)then _ else _)=_;rw[f,e,g];rfl
def J0(c:∀a,I 32 d=[vy,a]->eL a=ak):sV (d::s)=af:=by show(if Lib.hasPrefix d kX&&eL (l6 d kX)then _ else _)=_;rw[bV];intro e;let⟨a,g,b,_⟩:=aaQ e;rw[c a g]at b;cases b
def aaU{f:ap}(e:jm f=sV (d::s))(i:60<E s):jE f=af:=by
 cases b:sV (d::s)with
 |none=>exact xK (by rw[e,b])
 |some j=>{
 let⟨o,rs⟩:=j;refine aaS (o:=o) (rs:=rs) (by rw[e,b]) ?_;have a:(if Lib.hasPrefix d kX&&eL (l6 d kX)then(ji s).map (λrs=>(l6 d kX,rs))else af)=ae (o,rs):=b;split at a;{
 cases c:ji s with
 |none=>rw[c]at a;cases a
 |some g=>{rw[c]at a;let h:g=rs:=eQ Prod.snd<|gm a;rw[<-h,FL s g c];exact i}};{cases a}}
def aa5{W:aQ}{q:Nat}{b:bk}{r:aK}{x:Nat->Prop}(c:W.1[q]? = ae (aZ #[e,ag ai r.aP,ag ai r.type,am<|D r.data,b] 98))(g:iI W (λa=>x a\/a=q) e<|cE r.owner)(h:iI W (λa=>x a\/a=q) b<|I 32 r.data):ek x W 0 (bL q 0 1 1) [r]:=by
 refine⟨[(e,b,r)],U,bd U<|bE ⟨q,1,_,U,dJ _,c,cO _,lN,U,U⟩,?_⟩;intro k hy;obtain rfl:k=_:=EY
 let aO:∀a,a<J W.1->¬(x a\/a=q)->¬(x a\/ae a=bA (aE (ae<|N q 0) 1 1)):=λa _ j i=>j (i.imp id λd=>by simpa [bA]using d);exact⟨g.imp aO,h.imp aO⟩
structure vA(w wr:World)(zb g go oc:Nat)(f y:ap)(ls:List ap)(k:Nat)(rs:List aK)(vl:Value):Prop where
 II:wr.heap[zb]? = some (.cells #[.slice (some ⟨go,0,none⟩) (I 46 y).length oc,vl] 96)
 al:ji (ls.take k)=some rs
 H7:ek (λj=>j=zb\/j<w.heap.size) wr (zb+1) vl rs
 li:gR wr g 0 (f::ls)
 nm:gR wr go 0 (I 46 y)
 bl:a6 w wr
 nil:rs=[]->vl=bX
 gl:w.heap.size<=go
def vA.fr{wr:aQ}{j c h:Nat}{o:ap}(k:vA f wr a j c h d o s g i e)(b:a6 wr m):vA f m a j c h d o s g i e:=
 ⟨(b.5 a (dK.1 k.1).1).trans k.1,k.2,k.3.below b,k.4.below b,k.5.below b,bC k.6<|bN b k.6.4,k.7,k.8⟩
def vA.add{wr:aQ}{k w:Nat}{z:ap}{o:Nat}(q:vA f wr a g k w d z s o i e)(O:o<E s){y:aK}(P:iB s[o]=ae y)(Q:ek (λc=>(c=a\/c<J f.1)\/ae c=bA e) wr 0 r [y])(V:E i<=90000)(K:J f.1<=a)(M:g<a)(N:k<a):∃b l,(Builtin.append_ #[94,94] 94 #[e,r]).run aL wr=.ok b l/\l.1[a]? = ae (aZ #[aE (ae ⟨k,0,af⟩) (E<|I 46 z) w,e] 96)/\vA f (a7 l ⟨a,1,af⟩ b) a g k w d z s (o+1) (i++[y]) b/\(∃H u,b=aE H (E i+1) u):=by
 let S:=(dK.1 q.1).1;let⟨b,l,T,F,h,W⟩:=AQ q.3 Q (λc _ L=>L) G ct (λc n=>by let:=q.6.4;rcases n with rfl|n<;>omega);let B:=q.3.lt;let R:ae a≠bA e:=λj=>cd<|(B a<|b5 j).1
 let A:=(h.5 a S R).trans q.1;let D:=co.Yg h λ_ q=>q;let C:co (λc=>c≠a) l (a7 l ⟨a,1,af⟩ b):=co.j9 (a:=⟨a,1,af⟩) b λ_ q=>q;let x:∀c,c<a->ae c≠bA e:=λc n j=>cd<|(B c<|b5 j).1
 refine⟨b,l,T,A,⟨?_,?_,?_,?_,?_,?_,?_,q.8⟩,?_⟩;{simp only[a7,ru,mM,A];rfl};{rw[g8 O,SX,q.2,P];rfl};{exact F.set (a:=⟨a,1,af⟩) b (bJ U) (by show a<a+1;omega)};{exact(q.4.fr D<|x g M).fr C G};{exact(q.5.fr D<|x k N).fr C G};{exact(bC q.6 ⟨h.1,h.2,h.3,h.4,λc n=>h.5 c G<|x c G⟩).setCell (p:=⟨a,1,af⟩) K _};{intro j;simp at j};{let⟨H,u,j⟩:=F.slice;rw[dj]at j;exact⟨H,u,j⟩}
def GX(h:φ:=by
 refine lw (rs:=[7]) b6 ax (jv U (λK hK=>?_) kU);rw[b8 dl];refine GQ (.tmp 82) (.tmp 84) dl dl dl uu ?_;refine hK.out _ _ cy λhS=>?_;clear hK K;try simp only[Act.put,kB,iR,iy]
 refine fT 8 cy ?_;refine fT 9 cy ?_;refine lw (rs:=[10]) b6 ax (jv U (λK hK=>?_) kU);go_simp;refine hK.out _ _ cy λhS=>?_;clear hK K;refine su b6 ?_ _;go_wp2;exact bd (⟨k+1,rs++[r],_,G,dd,ahb⟩) dz):φ:=h
def abI(R:E d<=3000):a_ aL 10 #[am<|D d] f λQ cr=>zm d (J f.1) Q cr/\a6 f cr:=by
 rcases pf d with rfl|⟨b,aj,t⟩;{have e:Hid (jE []=af):=xK<|FK λb h=>yo;have:(D ([]:ap)).size=0:=U;go_wp2;go_ret;exact⟨tY e,cU _ _⟩};rw[pe]at t;have dF:(D d).size=E b+1:=by rw[cV,t];simp
 have dD:E b+1<=3000:=by rw[t]at R;simpa using R
 have c4:∀h:E b<(D d).size,(D d)[E b]=aj:=λh=>by{show d.toArray[E b]'_=aj;simp[t]};have:¬(3000:Int)<((E b+1:Nat):Int):=G;have:¬((E b+1:Nat):Int)<1:=G;have:((E b+1:Nat):Int)-1=(E b:Int):=G;by_cases j:aj=10;{
 have cB:((bg aj:Int) != 10)=ak:=by rw[j];rfl
 have bS:ao ((D d).extract 0 (E b)=D b):=by rw[ao,y5,t];simp
 have B:ao (jm d=sV (I 10 b)):=by rw[ao,t,j];exact SV
 have br:=O λW=>y6 b 10 W G;have aW:ao (∀x∈I 10 b,E x<=3000):=λx o=>cd<|n6 10 (E b) b bo x o
 have bI:E (I 10 b)<=3001:=cd<|nM 10 b
 obtain⟨s,a,bn⟩:∃s a,I 10 b=s::a:=by{
 cases h:I 10 b with
 |nil=>exact absurd h<|nL 10 b
 |cons s a=>exact⟨s,a,U⟩};rw[bn]at B br aW bI;have:=O t;clear j t R bn;generalize D d=S at*;go_in;go_wp2_with fail;rw[bS];refine(br _).mono ?_;rintro Q cs ⟨⟨dU,rfl,b3⟩,b1⟩;obtain⟨aC,dx,rfl,c2,dB,aM⟩:=sF b3 ax;have cY:aA cs (N aC 0)=ae (am<|D s):=aM.2 0 ax;have cD:=O aM;have bn:=aW s ax;have bV:=O<|y6 s 32 cs G;have bT:=O b1;have:=aM.1;simp only[dW]at bI c2⊢;clear aM b3 b1 br bS c4;go_wp2_with fail;refine eb bV ?_;rintro Q bD ⟨⟨dV,rfl,b4⟩,aI⟩;obtain⟨b0,dy,rfl,bH,dw,bL⟩:=sF b4<|nL 32 s;have dc:=bT.4;have:=aI.4;have P:=O<|bC bT<|bN aI dc;have cG:=O<|cD.below aI;have a0:=O bL;clear b4 aI bV cY bL;by_cases A:E (I 32 s)=2;rotate_left
 {
 have dr:((E (I 32 s):Int) != 2)=aD:=by simp only[yC,ne_eq];omega
 have e:=O<|xK (by rw[B];exact J0 λu h=>absurd uo A);go_wp2;go_ret;exact bd (tY e) P};obtain⟨x,u,av⟩:∃x u,I 32 s=[x,u]:=by{
 cases bc:I 32 s with
 |nil=>rw[bc]at A;cases A
 |cons x dg=>{
 cases dg with
 |nil=>rw[bc]at A;cases A
 |cons u dh=>{
 cases dh with
 |nil=>exact⟨x,u,U⟩
 |cons dZ dH=>rw[bc]at A;simp at A}}};rw[av]at bH a0⊢;simp only[dW,gG]at bH⊢;have cS:aA bD (N b0 0)=ae (am<|D x):=a0.2 0 ax;have c1:aA bD (N b0 1)=ae (am<|D u):=a0.2 1 ax;have ds:E u<=3000:=by have:=n6 32 (E s) s bo u (by rw[av];simp);omega
 have V:=O av;clear A av;by_cases o:x=vy;rotate_left
 {have b7:((D x).toList==vy)=ak:=by{rw[gC];show(x==vy)=ak;simpa using o};have bM:((D x).toList==[111,114,105,103,105,110])=ak:=b7;have e:=O<|xK (by rw[B];exact J0 λcA h=>absurd (by have:=V;rw[h]at this;exact(A7 this).1.symm) o);clear o b7;go_wp2;go_ret;exact bd (tY e) P};have bM:((D x).toList==[111,114,105,103,105,110])=aD:=by{rw[gC,o];rfl};rw[o]at V;clear o;have:((E a+1:Nat):Int)-1=(E a:Int):=G;by_cases cT:60<E a;{have cH:60<(E a:Int):=G;have e:=O<|aaU B cT;go_wp2;go_ret;exact bd (tY e) P};have cH:¬60<(E a:Int):=G;have cn:=O<|yj u ak bD G;go_wp2_with fail;refine eb cn ?_;rintro Q au ⟨⟨dk,rfl,al⟩,aJ⟩;have aB:=O<|bC P<|bN aJ P.4;have:=aJ.4;have cI:=O<|cG.below aJ;clear cn aJ cS c1 bM;cases C:hO ak u with
 |none=>{rw[C]at al;have cK:dk=bX:=al;subst cK;have e:=O (xK<|by{rw[B];refine J0 λcA h=>?_;have:=V;rw[h]at this;obtain rfl:cA=u:=(A7 (A7 this).2).1;rw[<-rp,C];rfl});clear al;go_wp2;go_ret;exact bd (tY e)<|cf aB G _}
 |some an=>{
 rw[C]at al;obtain rfl:=Tg C;have da:eL u=aD:=by rw[<-rp,C];rfl
 obtain⟨_,aH,aT,rfl,dj,c8,a2⟩:=al;have:=a2.1;let⟨cl,a1⟩:=bm (aZ #[aE (ae ⟨aH,0,af⟩) (E<|I 46 u) aT,aE af 0 0] 96:g7);have w:a6 au (aN au cl):=cf cc bo _;have cw:ao (vA f (aN au cl) (J au.1) aC aH aT s u a 0 []<|bX):=⟨by rw[cW,a1],U,ek.nil _ _ _,cI.below w,a2.below w,bC aB<|bN w aB.4,λ_=>U,cJ P.4 c8⟩;have:=aB.4;have X:=O<|cj C<|cj da dj;clear w C a2;go_wp2;rw[<-a1];let⟨i,de⟩:=du<|J au.1;rw[de]at cw⊢;clear a1;go_loopw [6] (λbp wr=>∃(k:Nat) (rs:List aK) (cq:bk),k<=E a/\bp=M ((k+1:Nat):Int)/\vA f wr i aC aH aT s u a k rs cq) λbp _=>E a+1-cM (fj bp);·exact⟨0,[],_,dJ _,U,cw⟩
 ·(
 obtain⟨k,rs,cq,dC,rfl,c⟩:=hrel;obtain⟨aR,aS,rfl⟩:=c.3.slice;have bW:=O c;have db:E rs=k:=by rw[FL _ _ c.2,iv];omega
 have b_:=(dK.1 c.1).1;have bU:=c.6.4;by_cases ba:k<E a;{
 have cF:((k+1:Nat):Int)<((E a+1:Nat):Int):=G;have c0:aA wr (N aC<|k+1)=ae (am<|D a[k]):=by{have:=c.4.2 (k+1) ct;rw[fM]at this;exact this};have b2:=aW a[k]<|l8 _<|ei ba;have aP:=O<|aa4 wr b2;let⟨cE,bj⟩:=du<|a[k];rw[bj]at c0 aP;have a9:=O bj;clear c bj;go_wp2_with fail;refine eb aP ?_;rintro Q n ⟨⟨bw,bB,bz,dT,dG,dA,bt,a4,bu,rfl,bF⟩,w⟩;have:=w.4;have Y:=bW.fr w;have cR:=O Y;cases aV:iB cE with
 |none=>{have e:=O (xK<|by{rw[B,S2 a V X.2.1,SZ a k ba (by rw[a9];exact aV)];rfl});have ar:=O Y.6;clear bF w Y aP;go_wp2;go_ret;exact⟨tY e,cf ar G _⟩}
 |some r=>{
 obtain⟨rfl,rfl,rfl,cg,ci⟩:=bF r aV;let⟨l,T⟩:=bm (aZ #[aE bw bB bz,ag ai r.aP,ag ai r.type,am<|D r.data,aE bt a4 bu] 98:g7);have bY:a6 n (aN n l):=cf cc bo _;have aO:=bY.drew;have hnew:(bx<|aN n l).1[J n.1]? = ae l:=cW n l;have bK:J (bx<|aN n l).1=J n.1+1:=eE n l;have bO:=Y.fr aO;have ck:xJ (bx<|aN n l) (J wr.1) (aE bw bB bz) (I 46 r.owner):=by{let⟨H,aa,ab,ac,ad,L,ay⟩:=cg;exact⟨H,aa,ab,ac,ad,L.below aO,ay⟩};have cb:xJ (bx<|aN n l) (J wr.1) (aE bt a4 bu) (I 32 r.data):=by{let⟨H,aa,ab,ac,ad,L,ay⟩:=ci;exact⟨H,aa,ab,ac,ad,L.below aO,ay⟩};have a5:=O bO;have a3:=O<|cj ck cb;have aX:=O hnew;have ca:=O aV;clear bF w Y aP cg ci bO ck cb hnew bY aO aV;go_upto_region 16 with fail;rw[<-T];refine Gw (S:=λ_=>True) b6 cy λhS=>?_;generalize bx (aN n l)=g at*;let⟨ah,y⟩:=du<|J n.1;rw[y]at aX bK⊢;have hnew:=aX;rw[T]at hnew;have aq:aA g (N ah 0)=ae (aE bw bB bz):=by exact lL
 have dI:aA g (N ah 1)=ae (M r.aP):=by exact lL
 have dL:aA g (N ah 2)=ae (M r.type):=by exact lL
 have dM:aA g (N ah 3)=ae (am<|D r.data):=by exact lL
 have dN:aA g (N ah 4)=ae (aE bt a4 bu):=by exact lL
 have bP:=a5.1;have dp:aA g (N i 1)=ae (aE aR (E rs) aS):=by unfold aA;rw[bP];rfl
 have:¬i=J g.1:=G;have:=λdi=>(dR<|dv g di i G).trans dp;have bb:a6 g (aN g l):=cf cc bo _;have aY:=bW.3.lt;have bs:∀{v:bk} {an:List ap},xJ g (J wr.1) v an->iI (aN g l) (λp=>((p=i\/p<J f.1)\/ae p=bA (aE aR (E rs) aS))\/p=J g.1) v an:=λh=>by{let⟨H,aa,ab,ac,ad,L,ay⟩:=h;refine⟨H,aa,ab,ac,ad,L.below bb,λj=>?_⟩;have:=L.1;rcases j with((j|j)|j)|j;{omega};{omega};{have:=(aY H<|b5 j).2;omega};{omega}};have o:=aa5 (W:=aN g l) (q:=J g.1) (r:=r) (x:=λp=>(p=i\/p<J f.1)\/ae p=bA (aE aR (E rs) aS)) (by rw[cW,T]) (by rw[rn<|CP (S0 (by rw[<-a9];exact b2) ca).1];exact bs a3.1) (bs a3.2);let⟨dX,cu,bl,a8,bQ,dt,mO,dn⟩:=(a5.fr bb).add ba (by rw[a9];exact ca) o G G G G;subst dn;rw[T]at bl;have uu:=O bl;have ahb:=O bQ;have dY:aA cu (N i 1)=ae (aE aR (E rs) aS):=by unfold aA;rw[a8];rfl
 have dO:cu.frozen? (N i 1)=ak:=by unfold World.frozen?;rw[a8];rfl
 clear bl bQ a8 o bs bb hnew bP y aX a5 cR a3 T bK db;refine fT 0 cy ?_;refine fT 1 cy ?_;refine fT 2 cy ?_;refine fT 3 cy ?_;refine lw (rs:=[4,5]) b6 ax (jv U (λK hK=>?_)<|jv U (λK hK=>?_) kU);{
 go_simp;refine hK.out _ _ cy λhS=>?_;clear hK K;try simp only[Act.put,kB,iR,iy]
 refine CQ 5 ?_;refine CQ 6 ?_;exact GX};{
 go_simp;refine hK.out _ _ cy λhS=>?_;clear hK K;try simp only[Act.put,kB,iR,iy]
 refine lw (rs:=[4,6]) b6 ax (jv U (λK hK=>?_)<|jv U (λK hK=>?_) kU);{
 go_simp;refine hK.out _ _ cy λhS=>?_;clear hK K;try simp only[Act.put,kB,iR,iy]
 refine CQ 6 ?_;exact GX};{
 go_simp;refine hK.out _ _ cy λhS=>?_;clear hK K;try simp only[Act.put,kB,iR,iy]
 refine CQ 4 ?_;exact GX}}}};{
 have cF:¬((k+1:Nat):Int)<((E a+1:Nat):Int):=G;have cC:k=E a:=G;have cx:ao (ji a=ae rs):=by{have:=c.2;rw[cC,jc]at this;exact this};have az:ao (jm d=ae (u,rs)):=by{rw[ao,B,S2 a V X.2.1,cx];rfl};have Z:=O<|JZ a rs (λan R=>aW an<|l8 _ R) cx;have cL:E rs<=60:=G;cases rs with
 |nil=>{have aY:=c.7 U;have F:=c.1;rw[aY]at F;have bG:=O<|aaM F;have e:=O<|S1 az (λr z=>by cases z) (λh=>by let⟨bf,_⟩:=h.1.1;simp at bf);have ar:=O c.6;clear c F;go_wp2_with fail;refine bG.m ?_;intro dm y;have aF:=O<|bC ar<|bN y bU;clear y;go_wp2;go_ret;exact bd (tY e) aF}
 |cons aq aU=>{
 have bq:pw wr (J f.1) i u (aq::aU):=λW bi=>by{have b_:=(dK.1 c.1).1;rcases(c.3.fr bi (λp _ dE _=>G) λp c9=>cd<|(c.3.lt p c9).1).recs (λr z=>CP (Z r z).1)with⟨_,h⟩|⟨c3,cZ,bf,_,c5,c6⟩;{cases h};{have F:=(bi.5 i b_ G).trans c.1;rw[bf]at F;exact⟨_,c3,0,cZ,F,⟨aH,0,aT,U,X.2.2,c.5.fr bi c.8⟩,c5,c6⟩}};have bR:=bq.Zv;have:=(hC X.2.1).2;have cm:tH u (aq::aU):=⟨G,G,λr z=>cd<|(ul (Z r z).1).2⟩;have bG:=O<|W_ bR cm ax;have cN:=O bq;have ar:=O c.6;clear c bR bq cm;go_wp2_with fail;refine eb bG ?_;rintro Q dm ⟨⟨cX,rfl,aw⟩,y⟩;have aF:=O<|bC ar<|bN y bU;have cO:=O<|cN.fr<|co.zY y;clear y;cases cX with
 |false=>{have e:=O<|S1 az (λr z=>(Z r z).1) (λh=>by have:=aw.2 h.1;cases this);clear aw;go_wp2;go_ret;exact bd (tY e) aF}
 |true=>{let⟨cp,fa,fy⟩:=aaT az (λr z=>(Z r z).1) (aw.1 U) cL;have e:ao (∀W,pw W (J f.1) i u (aq::aU)->zm d (J f.1) (bh<|bv i) W):=λW c7=>by{unfold zm;rw[cp];exact⟨i,u,aq::aU,U,G,c7,⟨X.2.1,Z,fa,fy⟩,az,U⟩};clear aw cp fa fy;go_wp2;go_ret;exact bd (e _ cO) aF}}})}};{have cB:((bg aj:Int) != 10)=aD:=by{simp only[yC,ne_eq];intro h;exact j<|wK.1 (by show _=10;omega)};have e:ao (jE d=af):=xK (FK λdQ h=>by{rw[t]at h;have:=eQ List.getLast? h;simp at this;exact j this});clear t R;generalize D d=S at*;go_wp2;go_ret;exact⟨tY e,cU _ _⟩}
end
def kl(s:ap):Option (ap×List aK):=if E s<=3000/\(jE s).isSome=aD then jm s else af
def ss(s:ap)(c:Nat)(d:kP)(h:aQ):Prop:=
 match kl s with
 |none=>d=bh (bZ #[cz af,M 1])
 |some a=>hW a.1 a.2/\∃b e g,d=bh (bZ #[bv b,M 0])/\c<=b/\c<=e/\gJ h b a.1 e 0 g (ck a.2)
def tt(s:ap)(b:Nat)(c:kP)(e:aQ):Prop:=
 match kl s with
 |none=>c=bh (cz af)
 |some d=>∃a,c=bh (bv a)/\b<=a/\pw e b a d.1 d.2
def abk(j:sV s=ae (d,i))(o:∀g∈s,E g<=3000):eL d=aD/\(∀q∈i,zJ q)/\E i<=E s:=by
 cases s with
 |nil=>cases j
 |cons f s=>{
 have b:(if Lib.hasPrefix f kX&&eL (l6 f kX)then(ji s).map (λi=>(l6 f kX,i))else af)=ae (d,i):=j;split at b;{
 rename_i k;cases e:ji s with
 |none=>grind
 |some h=>{rw[e]at b;let c:=gm b;let l:l6 f kX=d:=eQ Prod.fst c;have n:h=i:=eQ Prod.snd c;subst n;rw[e9,l]at k;refine⟨k.2,JZ s h (λg p=>o g<|l8 _ p) e,?_⟩;rw[FL s h e];simp}};grind}
def SR(q:E d<=3000){e}(a:jm d=ae (e,i)):eL e=aD/\(∀l∈i,zJ l)/\E i<=3001:=by
 rcases pf d with rfl|⟨b,g,c⟩;{rw[FK λb a=>by grind]at a;cases a};{
 rw[pe]at c;by_cases j:g=10;{
 rw[c,j,SV]at a;let:E b<=3000:=by grind
 let⟨h,s,p⟩:=abk a λn k=>cd<|n6 10 (E b) b bo n k;refine⟨h,s,?_⟩;let:=nM 10 b;omega};{rw[FK λr o=>wg]at a;cases a}}
def abl(j:E d<=3000):∀a b,jm d=ae (a,b)->tR a b:=λa b g=>by
 obtain⟨h,c,i⟩:=SR j g;refine⟨i,by have:=(hC h).2;omega,λe s=>⟨by have:=(ul (c e s).1).2;omega,(c e s).4⟩⟩
def SS(k:E d<=3000){e}(c:jE d=ae e):∃a b,jm d=ae (a,b)/\e=(a,ck b)/\hW a b/\kl d=ae (a,b):=by
 let n:=c;unfold jE at c;cases h:jm d with
 |none=>grind
 |some l=>{let⟨a,b⟩:=l;rw[h]at c;have g:(if lO a b&&ln a (ck b)then ae (a,ck b)else af)=ae e:=c;split at g;{rename_i s;rw[e9]at s;let⟨i,j,_⟩:=SR k h;refine⟨a,b,U,b5<|gm g,⟨i,j,s.1,s.2⟩,?_⟩;grind[kl]};grind}
def Ta(a:jE d=af):kl d=af:=by grind[kl]
def abm(s)(d:3000<E s):a_ aL 9 #[aS s] f λb c=>b=bh (bZ #[cz af,M 1])/\c=f:=by let:=cV s;let:3000<(E s:Int):=G;go_wp2;go_ret2;simp
def abn(s)(d:3000<E s):a_ aL 10 #[aS s] f λb c=>b=bh (cz af)/\c=f:=by let:=cV s;let:3000<(E s:Int):=G;let:¬(E s:Int)<1:=G;go_wp2;go_ret;simp
def wk(s)(k:dx f):a_ aL 9 #[aS s] f λe d=>ss s (J f.1) e d/\a6 f d:=by
 by_cases g:E s<=3000;{
 refine(X3 (D s) k fi<|o8▸abl g).mono ?_;rintro e d ⟨a,j⟩;rw[o8]at a;refine bd ?_ j;unfold ss;cases b:jE s with
 |none=>rw[b]at a;rw[Ta b];exact a
 |some o=>{rw[b]at a;obtain⟨n,p,l,rfl,h,i⟩:=SS g b;rw[i];exact bd h a}};{
 refine(abm s G).m ?_;rintro d rfl;let:kl s=af:=by grind[kl]
 refine bd ?_<|cU _ _;grind[ss]}
def Fv(s d):a_ aL 10 #[aS s] d λe c=>tt s (J d.1) e c/\a6 d c:=by
 by_cases g:E s<=3000;{
 refine(abI g).mono λe c ⟨a,h⟩=>bd ?_ h;unfold zm at a;unfold tt;cases b:jE s with
 |none=>rw[b]at a;rw[Ta b];exact a
 |some n=>{rw[b]at a;obtain⟨l,o,i,rfl,j,k⟩:=SS g b;grind}};{
 refine(abn s G).m ?_;rintro c rfl;let:kl s=af:=by grind[kl]
 refine bd ?_<|cU _ _;grind[tt]}
def nw(a b:ap):Bool:=E a==6&&bg (a.getD 0 0)%2==0&&E b==4
def abo(e:g<2)(aO:a<8)(d):a_ aL 67 #[M (512*g:Nat),M a] d λc b=>c=bh (M ((if g=0 then 1024 else 13312)+1536*a:Nat))/\b=d:=by
 match g,e with
 |0,_=>{go_wp2;go_ret;simp}
 |1,_=>{let c:(1024:Int)+1536*((a:Int)+8)=((13312+1536*a:Nat):Int):=G;go_wp2;go_ret;simp}
structure gy(w:World)(xb zb rb sb mb:Nat)(aB ip:ap)(X:cw)(C:Nat):Prop where
 mem:cZ w mb X.s
 rr:fZ w rb 221 mb 0 1024 X.ra X.eH sw
 sr:fZ w sb 222 mb 512 13312 X.sa X.eW X.o
 aB:oi w xb zb rb sb aB ip X.n X.t X.d X.b
 ok:X.ra<65536/\X.eH<65536/\X.sa<65536/\X.eW<65536/\X.o.length=8
 sz:X.s.Ok C/\X.n<=C/\X.t<=C/\X.d<=C
abbrev fE(d b c:Nat)(a:Nat):Prop:=a=d\/a=b\/a=c
def cw.GM(a:cw)(b:ap):cw:=if b=[]then a else a.snd b
def xL{g C}(c:cG g a f m)(o:a<J f.1)(i:C.4=m.4)(j:C.2=m.2)(k:C.5=m.5)(l:J m.1<=J C.1)(h:∀b,b<J f.1->C.1[b]? = m.1[b]?):cG g a f C:=
 ⟨cQ i c.1,cQ j c.2,cQ k c.3,cJ c.4 l,λb aO n p=>(h b aO).trans<|c.5 b aO n p,λb q=>c.6 b<|mH (h a o) q⟩
def FR{d}(l:cG d g f m)(p:cZ f g B)(n:¬d a){i}(k:f.1[a]? = ae i)(o:∀e j r,i≠aZ e j r):m.1[a]? = f.1[a]? :=
 l.5 a (dK.1 k).1 n λt=>by
  obtain⟨e,j,q,_⟩:=ui p t;exact o _ _ _<|gm<|(b5 k).trans q
section
variable {w w':World} {xb zb rb sb mb C C':Nat} {aB ip:ap}{X Y:cw}
def xN(a:gy w xb zb rb sb mb aB ip X C):xb<J w.1/\rb<J w.1/\sb<J w.1/\mb<J w.1:=⟨bq.lt a.4,bq.lt a.2,bq.lt a.3,ir a.1⟩
def B9(a:gy w xb zb rb sb mb aB ip X C):xb≠rb/\xb≠sb/\rb≠sb/\mb≠xb:=⟨h6 a.4 a.2 bW,h6 a.4 a.3 bW,h6 a.2 a.3 bW,vj a.1 a.4 bW⟩
def zn(a:gy w xb zb rb sb mb aB ip X C)(c:∀b,fE xb rb sb b\/eD w mb b->w'.1[b]? = w.1[b]?):gy w' xb zb rb sb mb aB ip X C:=
 ⟨zA a.1 λb d=>c b<|bE d,(c rb<|bJ<|bE<|bJ U).trans a.2,(c sb<|bJ<|bE<|bE U).trans a.3,(c xb<|bJ<|bJ U).trans a.4,a.5,a.6⟩
def Kv(b:gy w xb zb rb sb mb aB ip X C)(aO:fE xb rb sb a\/eD w mb a):∃c d g,w.1[a]? = ae (aZ c d g):=by rcases aO with(rfl|rfl|rfl)|aO;{exact⟨_,_,_,b.4⟩};{exact⟨_,_,_,b.2⟩};{exact⟨_,_,_,b.3⟩};{let⟨c,d,e,_⟩:=ui b.1 aO;exact⟨_,_,_,e⟩}
def uY(a:gy w xb zb rb sb mb aB ip X C)(b:a6 w w'):gy w' xb zb rb sb mb aB ip X C:=
 zn a λc aO=>b.5 c (by obtain⟨_,_,_,d⟩:=Kv a aO;exact(dK.1 d).1)
def Kw(b:gy w xb zb rb sb mb aB ip X C)(d:∀(a:Nat) (c:Array bk) (h:dP) (g:Nat×Nat),w.1[a]? = ae (aZ c h g)->w'.1[a]? = w.1[a]?):gy w' xb zb rb sb mb aB ip X C:=
 zn b λa aO=>by obtain⟨_,_,_,e⟩:=Kv b aO;exact d a _ _ _ e
def Ky{g}(c:gy w xb zb rb sb mb aB ip X C)(i:bq w a g z)(k:oJ z)(e:¬fE xb rb sb a)(j:∀d,d<J w.1->d≠a->w'.1[d]? = w.1[d]?):gy w' xb zb rb sb mb aB ip X C:=
 zn c λd aO=>j d (by obtain⟨_,_,_,l⟩:=Kv c aO;exact(dK.1 l).1) λh=>by
  subst h;rcases aO with aO|aO
  ·exact e aO
  ·exact BF c.1 i k aO
def tZ(a:gy w xb zb rb sb mb aB ip X C)(b:C<=C'):gy w xb zb rb sb mb aB ip X C':=⟨a.1,a.2,a.3,a.4,a.5,oP a.6.1 b,by have:=a.6;omega⟩
def Tu{t d b}(n:gy w xb zb rb sb mb aB ip X C)(e:ey xb w w')(i:oi w' xb zb rb sb aB ip a t d b)(j:a<=C/\t<=C/\d<=C):gy w' xb zb rb sb mb aB ip {X with n:=a,t:=t,d:=d,b:=b} C:=by let⟨g,h,_,q⟩:=B9 n;let⟨r,o,p,u⟩:=xN n;exact⟨vi n.1 n.4 bW λl aO k=>e.5 l aO k,(e.5 rb o λc=>g<|b5 c).trans n.2,(e.5 sb p λc=>h<|b5 c).trans n.3,i,n.5,n.6.1,j⟩
end
def Kz(a:cw)(b):(a.snd b).7=a.7/\(a.snd b).2=a.2/\(a.snd b).3=a.3/\(a.snd b).5=a.5/\(a.snd b).10=a.10/\(a.snd b).8=a.8+(if(a.6.findIdx? (· == ak)).isSome then 1 else 0)/\(a.snd b).9=a.9+(if(a.6.findIdx? (· == ak)).isSome then 0 else 1):=by unfold cw.snd;cases a.6.findIdx? (· == ak)<;>exact⟨U,U,U,U,U,U,U⟩
def Hc(h:φ:=by simp[c_,results181]):φ:=h
def ab4{o i t u n c f h}(l:gy h a o i g t d n f u)(ap:a_ aL 18 #[bv o,ce #[aS d,aS n],aS Q] (bx h) λk p=>k=bh (aS c)/\cv (J (bx h).1) (bx h) p)(aR:E c<=1524)(bb:u<=700000000000):a_ aL 181 #[bv a,aS Q] h λk p=>k=bh (bZ #[])/\gy p a o i g t d n (f.GM c) (u+1600)/\cG (fE a i g) t h p:=by
 let⟨aB,aC,a9,aF⟩:=B9 l;let⟨bc,bf,bi,aU⟩:=xN l;have aI:=O l;have P:=O ap;have r:=l.4;have aV:aA (bx h) (N a 0)=ae (bv o):=bq.cell r 0 ax;have aW:aA (bx h) (N a 1)=ae (aS d):=bq.cell r 1 ax;have aX:aA (bx h) (N a 2)=ae (aS n):=bq.cell r 2 ax;have aT:ao (∀e,cv (J (bx h).1) (bx h) e->aA e (N a 0)=ae (bv o)/\aA e (N a 1)=ae (aS d)/\aA e (N a 2)=ae (aS n)):=λe aP=>by
  have k:oi e a o i g d n f.7 f.8 f.9 f.10:=(aP.5 a<|bq.lt r).trans r;exact⟨bq.cell k 0 ax,bq.cell k 1 ax,bq.cell k 2 ax⟩
 clear l ap r;go_wp2
 go_region_held (λp=>aA p (N a 0)=ae (bv o)/\aA p (N a 1)=ae (aS d)/\aA p (N a 2)=ae (aS n)) (first|assumption|exact⟨aV,aW,aX⟩|go_keep)
  (first|(go_at_call 18;go_loud (refine P.m ?_;intro I H;have aq:=aT I H)))
 all_goals
  have B:a6 h I:=bC cc.drew H;have j:=uY aI B;have aj:=O<|n5 (L:=fE a i g) B aU;by_cases ho:c=[]
  ·have aa:((D c).toList==[])=aD:=by rw[ho,gC];rfl
   have ba:(D c).toList.isEmpty=aD:=CB
   have a8:(D c).toList=[]:=CB
   have y:ao (gy I a o i g t d n (f.GM c)<|u+1600):=by rw[ao,cw.GM,b8 ho];exact tZ j G
   clear j B H aq P ho;go_wp2;refine dQ (v:=bZ #[]) Hc U ?_;exact⟨U,y,aj⟩
  ·have aa:((D c).toList==[])=ak:=by
    rw[ju,gC];exact ho
   let⟨a1,a2,a3,a4,a5⟩:=j.5;have ad:=O<|abz j.1 j.3 a3 a5 aR j.6.1 G;have:aA I (N a 4)=ae (bv g):=bq.cell j.4 4 ax;have y:=O j;have aH:ao (f.GM c=f.snd c):=by rw[ao,cw.GM,bV ho]
   clear j B H aq P ho;go_wp2_with fail;refine ad.m ?_;rintro x ⟨T,Z,⟨au,av,aw⟩,C⟩;have j:=y;have q:oi x a o i g d n f.7 f.8 f.9 f.10:=gX C j.1 j.4 bW G;have K:=kd j.2 C j.1 bW G;let⟨V,W,X,Y,an,z,A⟩:=Kz f c;have a0:=j.6;have:aA x (N a 6)=ae (M f.8):=bq.cell q 6 ax;have:aA x (N a 7)=ae (M f.9):=bq.cell q 7 ax;have:=bq.frozen q;let⟨ac,ay⟩:=bm<|f.8+1;let⟨S,al⟩:=bm<|f.9+1;have:(f.8:Int)+1=ac:=G;have:(f.9:Int)+1=S:=G;have ah:ao (∀(ab:Nat) (v:bk) (e:aQ),e=a7 x ⟨a,ab,af⟩ v->oi e a o i g d n f.7 (f.snd c).8 (f.snd c).9 f.10->gy e a o i g t d n (f.GM c) (u+1600)/\cG (fE a i g) t h e):=λab v e aM aK=>by
    have F:ey a x e:=by rw[aM];exact jx (lI _ _) ab v
    rw[aH];refine⟨⟨vi T q bW λar aO aa=>F.5 ar aO aa,?_,?_,?_,by rw[W,X,Y];exact⟨a1,a2,au,a4,av⟩,aw,by rw[V];omega,by rw[z];split<;>omega,by rw[A];split<;>omega⟩,dm aj<|dm (h7 C λar l=>bE<|bE l)<|tf (L:=fE a i g) F (bJ U) aF (ir T)⟩
    ·rw[W,X];exact(F.5 i (bq.lt K) λk=>aB<|b5 k).trans K
    ·rw[Y];exact(F.5 g (bq.lt Z) λk=>aC<|b5 k).trans Z
    ·rw[V,an];exact aK
   have aJ:=O (Ku q ac).2.1;have az:=O (Ku q S).2.2;have b:ao ((f.6.findIdx? (· == ak)).isSome=aD->(f.snd c).8=ac/\(f.snd c).9=f.9):=λl=>by rw[z,A,l];exact⟨by rw[ay];rfl,U⟩
   have R:ao ((f.6.findIdx? (· == ak)).isSome=ak->(f.snd c).8=f.8/\(f.snd c).9=S):=λl=>by rw[z,A,l];exact bd U<|by rw[al];rfl
   have:f.8<=800000000000:=G;have:f.9<=800000000000:=G;generalize (f.6.findIdx? (· == ak)).isSome=aY at*;clear T Z C q K j ad y ay al V W X Y an z A au av aw a0;cases aY with
   |true=>
    have w:=O<|b U;clear b R;go_wp2;refine kh (v:=bZ #[]) Hc U ?_;exact bd U<|ah 6 _ _ U (by rw[w.1,w.2];exact aJ)
   |false=>
    have w:=O<|R U;clear b R;go_wp2;refine kh (v:=bZ #[]) Hc U ?_;exact bd U<|ah 7 _ _ U (by rw[w.1,w.2];exact az)
def Tv{b h}(e:aA f b=ae (aG aD)):CallsD aL 122 #[cz<|ae b,cz<|ae h] .returning f λd i j=>d=bh (bZ #[])/\i=.returning/\j=f:=by refine callsD_of_wpS func122 U λc k g=>?_;apply wpS_seq;apply wpS_region;simp[wpOpsS,go_sem,recoverD,g,e,ntmps122,Exit.thenS];refine wpS_cond (t:=ak) (by simp[Act.eval,Array.replicate]) ?_;simp only[DE,if_false];refine wpS_of_wp<|wp_skip ?_;cases c;simp_all [bodyPostS,c_,results122]
def ab5(b a):(callFunc 121 b).run aL a=.ok (.enter 121 b) a:=b6
def ab6(b a):(callFunc 64 b).run aL a=.ok (.enter 64 b) a:=b6
def rx(a:aQ)(b:Nat):aQ:=aN (aN a<|aZ #[cz<|ae ⟨b,0,af⟩] 54)<|aZ #[aG ak] 4
def zp(a b):bq (rx a b) (J a.1+1) [aG ak] 4:=by have:=bq.fF (aN a<|aZ #[cz<|ae ⟨b,0,af⟩] 54) [aG ak] 4;rw[eE]at this;exact this
def Tw(a b):a6 a (rx a b):=(cf cc bo _).alloc ax _
def ab7(a b):J (rx a b).1=J a.1+2:=by simp[rx]
def ab9{j}(h:aQ->Prop)(i:a_ aL 64 #[bv g,bv j] (rx f a) λc b=>c=bh (aG aD)/\h b/\bq b (J f.1+1) [aG ak] 4):a_ aL 63 #[bv a,ez (.func 64) #[] #[bv g,bv j]] f λc p=>c=bh (bZ #[])/\∃b,h b/\bq b (J f.1+1) [aG ak] 4/\p=a7 b ⟨J f.1+1,0,af⟩ (aG aD):=by let:=ab6;let:=bq.cell (zp f a) 0 ax;let:=bq.frozen (zp f a) 0;replace i:=O i;go_enter_defers func63,ntmps63;go_wp21;refine i.m λb ⟨o,d⟩=>?_;let k:=O o;let:bY b (J f.1+1) 0 (aG ak):=bq.cell d 0 ax;let:=bq.frozen d 0;let n:=bq.cell (bq.set d 0<|aG aD) 0 ax;let l:=O d;go_wp2;refine leaves_cons (f:=122) (args:=#[bv<|J f.1+1,bv<|J f.1]) ax dl ((Tv n).mono ?_);rintro c q r ⟨rfl,rfl,rfl⟩;simp[Leaves,settle,c_,results63,go_sem];exact⟨b,k,l,U⟩
def Tx{k n j e s c}(b:oi f a g k n d j e s c l):a_ aL 61 #[bv a] f (cI (ce #[M e,M s,M c,aG l]) f):=by
 let i:oi (aN f<|aZ #[ag ai 0,ag ai 0,ag ai 0,aG ak] 139) a g k n d j e s c l:=(dv _ _ _<|bq.lt b).trans b;have fe:=bq.cell i 5 ax;have fJ:=bq.cell i 6 ax;have o:=bq.cell i 7 ax;have mO:=bq.cell i 8 ax;simp only[eB,eG]at fe fJ o mO;have p:=bq.cell b 5 ax;have q:=bq.cell b 6 ax;have r:=bq.cell b 7 ax;have t:=bq.cell b 8 ax;simp only[eB,eG]at p q r t
 go_wp2;refine dQ (v:=ce #[ag ai e,ag ai s,ag ai c,aG l]) ?_ U ?_;{simp[c_,results61,go_sem]};{refine bd U ?_;repeat (first|exact cU _ _|refine Below.alloc ?_ bo _|refine Below.setCell ?_ (Nat.le_refl _) _)}
def FS{ay c:Nat}(e:gJ f g d a ay c i):a<J f.1:=e.2.2.2.2.1
def FT{b ay:Nat}(k:gJ f a d b ay g i)(j:J f.1<=J m.1)(h:m.1[a]? = f.1[a]?)(l:m.1[b]? = f.1[b]?):gJ m a d b ay g i:=
 ⟨eA k.1 j,(dR h).trans k.2.1,(dR h).trans k.2.2.1,k.2.2.2.1,sW k.2.2.2.2 j l⟩
def s7(e:pj f a g d)(b:cv (J f.1) f m):pj m a g d:=⟨nS e.1<|b.5 a<|qg e.1,rm e.2<|b.5 g e.2.2.lt⟩
def ab_:∀a:Nat,a<256->bits .and ch (a:Int) 1=((a%2:Nat):Int):=by decide +kernel
def aca(a c:ap)(g:aQ):a_ aL 62 #[ce #[am<|D a,am<|D c]] g λr x=>r=bh (aG<|nw a c)/\cv (J g.1) g x:=by
 let⟨k,hc0⟩:=bm<|a.getD 0 0;have y:∀h:0<(D a).size,(D a)[0]=k:=λh=>MI;let⟨d,p⟩:=bm<|bg k%2;have:bits .and ch (bg k:Int) 1=(d:Int):=by rw[ab_ _<|gp k,p]
 have j:ao (nw a c=((D a).size==6&&d==0&&(D c).size==4)):=by{rw[ao,nw,cV,cV,p,hc0]};have i:=O<|(cU (J g.1) g).alloc (cO _)<|aZ #[am<|D a,am<|D c] 47;have:d<2:=G;clear hc0 p;generalize D a=m,D c=q at*;generalize nw a c=l at*;go_in;by_cases o:m.size=6;{
 let w:((m.size:Int)==6)=aD:=by simp[o]
 by_cases e:d=0;{
 have t:((d:Int)==0)=aD:=by simp[e]
 by_cases n:q.size=4;{
 have b:l=aD:=by rw[j,o,e,n];rfl
 let u:((q.size:Int)==4)=aD:=by simp[n]
 subst b e;go_wp2;go_ret;exact bd U i};{
 have b:l=ak:=by rw[j];simp[n]
 let u:((q.size:Int)==4)=ak:=ct;subst b e;go_wp2;go_ret;exact bd U i}};{
 have b:l=ak:=by rw[j];simp[e]
 let t:((d:Int)==0)=ak:=ct;let:¬(d:Int)=0:=G;subst b;go_wp2;go_ret;exact bd U i}};{
 have b:l=ak:=by rw[j];simp[o]
 let w:((m.size:Int)==6)=ak:=ct;subst b;go_wp2;go_ret;exact bd U i}
abbrev rg:g7:=aZ #[cz af] 54
abbrev kx(a b:ap)(c:Nat):g7:=aZ #[cz<|ae ⟨c,0,af⟩,am<|D a,am<|D b,cz af,cz af,ag ai 0,ag ai 0,ag ai 0,aG ak] 147
def Ty{X:aQ}(b:cv (J (aN X rg).1) (aN X rg) f):bq f (J X.1) [cz af] 54:=(b.5 (J X.1) ax).trans<|cW X rg
def acb(a:cv (J (bx<|aN f rg).1) (bx<|aN f rg) m):bq m (J f.1) [cz af] 54:=Ty (X:=f) ⟨a.1,a.2,a.3,a.4,a.5⟩
def acc(c:bq f a [cz af] 54)(e:cv (J f.1) f m):bq m a [cz af] 54:=(e.5 a c.lt).trans c
def Kk(c e:ap)(a:aQ)(g b d:Nat):Prop:=bq a b [cz<|ae ⟨g,0,af⟩,am<|D c,am<|D e,cz af,cz af,ag ai 0,ag ai 0,ag ai 0,aG ak] 147/\bq a d [cz<|ae ⟨b,0,af⟩] 54
def Tz{c:ap}:Kk d c (aN (aN f<|kx d c a)<|aZ #[cz<|ae ⟨J f.1,0,af⟩] 54) a (J f.1) (J f.1+1):=by have e:=bq.fF (aN f<|kx d c a) [cz<|ae ⟨J f.1,0,af⟩] 54;rw[eE]at e;exact bd ((dv _ _ _ ax).trans<|cW f _) e
def TA{c:ap}:Kk d c (aN (aN f<|aZ #[cz<|ae ⟨J f.1+1,0,af⟩] 54)<|kx d c a) a (J f.1+1) (J f.1):=by have e:=cW (aN f<|aZ #[cz<|ae ⟨J f.1+1,0,af⟩] 54)<|kx d c a;rw[eE]at e;exact bd e<|(bq.fF f [cz<|ae ⟨J f.1+1,0,af⟩] 54).alloc _
def FU{c:ap}(h:bq f g [cz af] 54):Kk c d (aN (a7 f ⟨g,0,af⟩<|cz<|ae ⟨J f.1,0,af⟩)<|kx c d a) a (J f.1) g:=by have b:=cW (a7 f ⟨g,0,af⟩<|cz<|ae ⟨J f.1,0,af⟩)<|kx c d a;rw[show(a7 f ⟨g,0,af⟩<|cz<|ae ⟨J f.1,0,af⟩).1.size=J f.1 from mo]at b;exact bd b<|(bq.set h 0<|cz<|ae ⟨J f.1,0,af⟩).alloc _
def TB(g:cv a f m)(h:a<=J m.1)(c d:g7):cv a f (aN (aN m c) d):=(cf g h c).alloc ct d
def TC(c:cv a f m)(i:a<=J m.1)(h:a<=g)(v:bk)(d:g7):cv a f (aN (a7 m ⟨g,0,af⟩ v) d):=(fc c (p:=⟨g,0,af⟩) h v).alloc (by simp[a7];omega) d
def acd(c:cv (J (bx f).1) (bx f) m):cv (J f.1) f m:=(cU _ _).drew.trans c
def ace(c:cv (J (bx<|aN f rg).1) (bx<|aN f rg) m):cv (J f.1) f m:=(((cU _ _).alloc (cO _) rg).drew).trans<|bN c (by show J f.1<=J (aN f rg).1;simp)
def acf(c:cv (J f.1) f m)(e:cv (J m.1) m K):cv (J f.1) f K:=bC c<|bN e c.4
def ach(b:cv (J f.1) f m)(e:cv (J (aN m rg).1) (aN m rg) K):cv (J f.1) f K:=(cf b b.4 rg).trans<|bN e (by have:=b.4;simp;omega)
section
variable {P:Program}{α:Type}
def ko.of{e:Loop}(d:ko a e f)(g:m.1[a]? = f.1[a]?)(h:m.1[a+1]? = f.1[a+1]?):ko a e m:=⟨cQ h d.1,cQ g d.2⟩
end
section
variable {P:Program}{α:Type}
def abU(c:Nat)(d e:aQ->Prop)(b:aQ):Exit->Act->aQ->Prop
 |.normal,_,a=>io c b a/\d a
 |.ret,_,a=>io c b a/\e a
 |_,_,_=>False
def abV{I:Operand}{F:Array Tmp}{G H:Code}{A:Exit->Act->aQ->Prop}{o:Act}{gf:Nat}{lb:Array bk}(ab:o.eval I=ez (.func gf) #[] lb)(V:∀args f,(callFunc gf args).run P f=.ok (.enter gf args) f){encs:α->Array bk}(ah:∀d,J (encs d)=J F)(z j r:aQ->Prop)(p q:Nat->α->aQ->Prop)(O:∀e y:Loop,(∀g d a,q g d a->ko (J f.1) e a->YieldAt e6 0 P (J f.1+1) (encs d) a λn i=>(n=bh (aG aD)/\p g d i/\ko (J f.1) e i)\/(n=bh (aG ak)/\j i/\ko (J f.1) y i)) ->
   ∀t,z t->ko (J f.1) e t->CallsIn e6 0 P gf (#[ez (.yield<|J f.1+1) #[] #[]]++lb) t λn i=>(∃v,n=bh v)/\((r i/\ko (J f.1) e i)\/(j i/\ko (J f.1) y i)))(ar:∀g d h e l,p g d h->h.1[J f.1+1]? = ae (dq e)->p g d (ep h (J f.1+1) l))(Q:∀h e l,r h->h.1[J f.1+1]? = ae (dq e)->r (ep h (J f.1+1) l))(K:∀h e l,j h->h.1[J f.1+1]? = ae (dq e)->j (ep h (J f.1+1) l))(R:∀g d h e l,q g d h->h.1[J f.1+1]? = ae (dq e)->q g d (ep h (J f.1+1) l))(B:∀e,z<|aN (aN f<|df<|ae [])<|dq e)(L:∀(x g:Nat) (d:α) (u a:aQ),q g d a->J f.1+2<=J a.1->a.1[J f.1]? = ae (df<|ae [])->(∃e,a.1[J f.1+1]? = ae (dq e)) ->
   G.wpIn (e6.inRound x) 0 P (Exit.then (λT M=>M=u/\H.wpIn (e6.inRound x) 0 P (abU (J f.1) (p g d) j a) T a) λ_ _ _=>False) {tmps:=(F.zip<|encs d).foldl (λaq (al,v)=>aq.setIfInBounds al v) o.1,defers:=[]} u)(aa:∀a,r a->a.1[J f.1]? = ae (df<|ae [])->J f.1+2<=J a.1->A .normal {o with defers:={target:=.collected<|J f.1,args:=#[]}::o.2} a)(au:∀a,j a->a.1[J f.1]? = ae (df<|ae [])->J f.1+2<=J a.1->Code.ret.wpIn e6 0 P A {o with defers:={target:=.collected<|J f.1,args:=#[]}::o.2} a):(Code.rangeFunc I F G H).wpIn e6 0 P A o f:=
 Ob ab V ah z r q (λg d _=>p g d) (λg d _=>p g d) (λk _ a=>k=.ret/\j a) (λk _ a=>k=.ret/\j a) (λk a=>k=.ret/\j a)
  (λe y ad t B Y=>(O e (y .ret) (λg d a c D=>(ad g d a c D).mono λn i c=>c.imp id λ⟨c,k,⟨Z,W⟩,X⟩=>⟨c,W,Z▸X⟩) t B Y).mono λn i c=>⟨c.1,c.2.imp id λc=>⟨.ret,⟨U,c.1⟩,c.2⟩⟩)
  R Q (λk h e l c aj=>⟨c.1,K h e l c.2 aj⟩) (λg d a e an ap N _ _ C w=>ar _ _ _ _ _ w C) (λk a e an ap N _ _ C w=>⟨w.1,K _ _ _ w.2 C⟩) B
  (λx g d u a c ac S D=>CS (L x g d u a c ac S D) λn _ _ c=>by cases n<;>first|exact c|exact⟨c.1,rfl,c.2⟩|exact c.elim) aa λk a c=>c.1▸au a c.2
end
section
attribute [local go_sem] Oper.semAt_some
end
section
attribute [local go_sem] Oper.semAt_some
end
section
attribute [local go_sem] Oper.semAt_some
def abW(b:Nat)(a:aQ):a_ aL 180 #[bv b] a λc d=>c=bh (ez (.func 223) #[] #[bv<|J a.1])/\d=aN a (aZ #[cz<|ae ⟨b,0,af⟩] 144):=by go_wp2;go_ret;exact oa
def H4{l:Loop}(j:f.1[a]? = ae (dq l))(k:g7):∀(b:Nat) (c:Array bk) (h:dP) (g:Nat×Nat),f.1[b]? = ae (aZ c h g)->(ep f a k).1[b]? = f.1[b]?:=λb c h g d=>
 jB (λi=>by subst i;rw[j]at d;simp at d)
def Tl{l:Option<|List Deferred}(j:f.1[a]? = ae (df l))(k:g7):∀(b:Nat) (c:Array bk) (h:dP) (g:Nat×Nat),f.1[b]? = ae (aZ c h g)->(ep f a k).1[b]? = f.1[b]?:=λb c h g d=>
 jB (λi=>by subst i;rw[j]at d;simp at d)
end
section
attribute [local go_sem] Oper.semAt_some
def abX(L w o c:Nat)(i:Nat->aQ->Prop)(p:Nat->ap×Bool->aQ->Prop)(y:aQ->Prop)(q:aQ)(ab:aA q ⟨w,0,af⟩=ae (cz<|ae ⟨o,0,af⟩))(A:∀a d,i a d->aA d ⟨w,0,af⟩=ae (cz<|ae ⟨o,0,af⟩))(H:a_ aL 219 #[cz<|ae ⟨o,0,af⟩] q λh g=>h=bh (bZ #[ag ai c,aG<|decide (c<=8)])/\i 0 g)(I:8<c->∀d,i 0 d->p 0 ([],ak) d)(N:∀a d,a<c->c<=8->i a d->a_ aL 224 #[cz<|ae ⟨o,0,af⟩] d λh g=>∃e:ap×Bool,h=bh (bZ #[am<|D e.1,aG e.2])/\p a e g)(F:∀a e d,p a e d->YieldAt e6 0 aL L #[am<|D e.1,aG e.2] d λh g=>(h=bh (aG aD)/\e.2=aD/\i (a+1) g)\/(h=bh (aG ak)/\y g)):CallsIn e6 0 aL 223 (#[ez (.yield L) #[] #[]]++#[cz<|ae ⟨w,0,af⟩]) q λh g=>(∃v,h=bh v)/\((c<=8/\i c g)\/y g):=by
 have x:=O H;have Z:=O N;have K:=O F;have R:=O A;have S:=O I;clear H N F A I;refine OW func223 U cy ?_;simp only[ntmps223,mA,dW,gG,Nat.reduceAdd,Nat.reduceSub,mx,mP,mR,mQ,iF,fN];gi_wp2_with fail;refine⟨cy,U,(ec.2 x).m λz k=>?_⟩;by_cases n:c<=8;{
 rw[lx n];have T:=O k;clear k x;gi_wp2_with fail;gi_loopw [19] (λu wr=>∃a:Nat,u=ag ai a/\a<=c/\i a wr) λu _=>c-cM (fj u);·exact⟨0,U,dJ _,T⟩
 ·(obtain⟨a,rfl,ac,j⟩:=hrel;by_cases Y:a<c;{have:=R a wr j;have B:=O<|Z a wr Y n j;clear j;gi_wp2_with fail;refine⟨cy,U,(ec.2 B).mono ?_⟩;rintro h P ⟨⟨s,M⟩,rfl,C⟩;let⟨X,aa,V,W,l,t⟩:=K a (s,M) P C;clear B C;gi_wp2_with fail;refine bd U<|t.mono ?_;rintro e Q (⟨rfl,r,b⟩|⟨rfl,b⟩);{obtain rfl:M=aD:=r;replace b:=O b;gi_wp2_with fail;exact bd (⟨a+1,dd,G,b⟩) dz};{replace b:=O b;gi_wp2;exact dQ (v:=bZ #[]) (by simp[c_,results223]) U ⟨eR _ U,bE b⟩}};{obtain rfl:a=c:=G;replace j:=O j;gi_wp2;go_end0;exact⟨eR _ U,by first|exact bJ (bd n j)|exact .inl j⟩})};{rw[fI n];let⟨X,aa,V,W,l,t⟩:=K 0 ([],ak) z<|S G z k;have l:_:=l;simp only[show D []=⟨#[]⟩from U]at l;clear k x;gi_wp2_with fail;refine bd U<|t.mono ?_;rintro e Q (⟨rfl,r,b⟩|⟨rfl,b⟩);{cases r};{replace b:=O b;gi_wp2;exact dQ (v:=bZ #[]) (by simp[c_,results223]) U ⟨eR _ U,by first|exact bE b|exact b⟩}}
def Kl{a:cw}(c:a.10=ak): {a with b:=ak}=a:=by cases a;cases c;rfl
def abY(a:cw):a.lC.2=a.2/\a.lC.3=a.3/\a.lC.4=a.4/\a.lC.7=a.7/\a.lC.8=a.8/\a.lC.9=a.9:=by unfold cw.lC;split<;>exact⟨U,U,U,U,U,U⟩
def abZ{a:cw}{b:ap->ap}:a.ans b d=cw.GM {a with n:=a.7+1} (b d):=rfl
def Tm{H:ap->ap}{Y:cw}{m:Nat}(a:Y.kM.2=af):cw.pY H Y (m+1) = {Y.kM.1 with b:=aD}:=Ss a
def Tn{H:ap->ap}{Y:cw}{m:Nat}{f:ap}(a:Y.kM.2=ae f):cw.pY H Y (m+1)=cw.pY H (Y.kM.1.ans H f) m:=Su a
def ab0{a:cw}{b c:cq×Nat}:(a.vJ b c).1.4=a.4/\(a.vJ b c).1.5=a.5/\(a.vJ b c).1.6=a.6/\(a.vJ b c).1.7=a.7/\(a.vJ b c).1.8=a.8/\(a.vJ b c).1.9=a.9/\(a.vJ b c).1.10=a.10/\E ((a.vJ b c).2.getD [])<=1524:=by unfold cw.vJ;split;{exact⟨U,U,U,U,U,U,U,by simp only[Dg];rw[F4];omega⟩};{exact⟨U,U,U,U,U,U,U,ax⟩}
def To(a:cw):a.kM.1.4=a.4/\a.kM.1.5=a.5/\a.kM.1.6=a.6/\a.kM.1.7=a.7/\a.kM.1.8=a.8/\a.kM.1.9=a.9/\a.kM.1.10=a.10/\E (a.kM.2.getD [])<=1524:=by exact ab0
def Km{b:ap->ap}{a:cw}:cw.pY b a 0=a:=rfl
def xw(p q n o l g:Nat)(j k:ap)(h:ap->ap)(c:Nat)(e:cw)(d:Nat)(i:aQ):Prop:=
 d<=c/\∃a,gy i p q n o l j k a (g+3300*d)/\a.10=ak/\(c<=8->cw.pY h a (c-d)=e)/\(8<c->{a with b:=aD}=e)
def zq(q r o p n i:Nat)(k l:ap)(g:ap->ap)(e:Nat)(h:cw)(c:Nat)(d:ap×Bool)(j:aQ):Prop:=
 ∃a,gy j q r o p n k l a (i+3300*c+1600)/\a.10=ak/\E d.1<=1524/\c<8/\(d.2=aD->c<e/\e<=8/\cw.pY g (a.ans g d.1) (e-(c+1))=h)/\(d.2=ak->{a with b:=aD}=h)
def l7(l n j k i c:Nat)(g h:ap)(d:cw)(b:Bool)(e:aQ):Prop:=∃a,gy e l n j k i g h a (c+30000)/\a.10=ak/\{a with b:=b}=d
def l7.ahJ{j k i c:Nat}{h:ap}{b:cw}(p:l7 a g j k i c d h b l f):b.10=l/\gy f a g j k i d h {b with b:=ak} (c+30000):=by obtain⟨r,e,q,rfl⟩:=p;exact bd U<|by have o:=Kl q;rw[<-o]at e;exact e
section
variable {xb zb rb sb mb C n k:Nat} {aB ip:ap} {H:ap->ap} {R:cw} {b:Bool} {x:ap×Bool}{W W':World}
def xw.cells(d:xw xb zb rb sb mb C aB ip H n R k W)(i:∀(a:Nat) (c:Array bk) (l:dP) (j:Nat×Nat),W.1[a]? = ae (aZ c l j)->W'.1[a]? = W.1[a]?):xw xb zb rb sb mb C aB ip H n R k W':=by let⟨e,b,g,h⟩:=d;exact⟨e,b,Kw g i,h⟩
def zq.cells(d:zq xb zb rb sb mb C aB ip H n R k x W)(h:∀(a:Nat) (c:Array bk) (j:dP) (i:Nat×Nat),W.1[a]? = ae (aZ c j i)->W'.1[a]? = W.1[a]?):zq xb zb rb sb mb C aB ip H n R k x W':=by let⟨b,e,g⟩:=d;exact⟨b,Kw e h,g⟩
def l7.cells(e:l7 xb zb rb sb mb C aB ip R b W)(i:∀(a:Nat) (d:Array bk) (k:dP) (j:Nat×Nat),W.1[a]? = ae (aZ d k j)->W'.1[a]? = W.1[a]?):l7 xb zb rb sb mb C aB ip R b W':=by let⟨c,g,h⟩:=e;exact⟨c,Kw g i,h⟩
def l7.other{h:List bk}(i:l7 xb zb rb sb mb C aB ip R b W)(l:bq W a h z)(o:oJ z)(e:¬fE xb rb sb a)(n:∀d,d<J W.1->d≠a->W'.1[d]? = W.1[d]?):l7 xb zb rb sb mb C aB ip R b W':=by let⟨g,j,k⟩:=i;exact⟨g,Ky j l o e n,k⟩
end
def G1(h:φ:=by simp[c_,results121,go_sem,cr]):φ:=h
def Mj(h:φ:=by rintro A r ob ⟨hA,hG⟩ hl';exact⟨l7.cells hA<|H4 hl' ob,hput (B:=A) hG⟩):φ:=h
def ab1{x c e C:Nat}{u:ap}{H:ap->ap}{P:cw}{w:aQ}(k:gy w a x c e g d u P C)(cp:P.10=ak)(dl:C<=600000000000)(cu:∀f,E (H f)<=1524)(b0:∀(f:ap) (q:aQ),E f<=1524->cG (fE a c e) g w q->a_ aL 18 #[cz<|ae ⟨x,0,af⟩,ce #[am<|D d,am<|D u],am<|D f] q λj aX=>j=bh (am<|D<|H f)/\cv (J q.1) q aX):a_ aL 121 #[cz<|ae ⟨a,0,af⟩] w λj aX=>j=bh (aG !(P.tN H).10)/\gy aX a x c e g d u {P.tN H with b:=ak} (C+30100)/\cG (fE a c e) g w aX:=by
 let⟨F,bf⟩:=du<|P.tN H;rw[bf];let⟨dd,de,dg,cD⟩:=B9 k;let⟨dp,ds,dt,aV⟩:=xN k;let⟨aY,ac⟩:=bm<|aN (aN w<|aZ #[cz<|ae ⟨a,0,af⟩] 54)<|aZ #[aG ak] 4;have a6:cv (J w.1) w aY:=ac▸((cU _ _).alloc (cO _) _).alloc ax _
 have dh:J aY.1=J w.1+2:=by rw[ac];simp
 have co:bq aY (J w.1) [cz<|ae ⟨a,0,af⟩] 54:=ac▸(bq.fF w _ _).alloc _
 have cs:bq aY (J w.1+1) [aG ak] 4:=by{have:=bq.fF (aN w<|aZ #[cz<|ae ⟨a,0,af⟩] 54) [aG ak] 4;rw[eE]at this;rw[ac];exact this};have z:=uY k a6;have aW:=O<|abb z.1 z.3 z.5.2.2.2.1 z.5.2.2.2.2 z.6.1 G;have c6:bY (aN (aN w<|aZ #[cz<|ae ⟨a,0,af⟩] 54)<|aZ #[aG ak] 4) a 4 (cz<|ae ⟨e,0,af⟩):=ac▸bq.cell z.4 4 ax
 have c7:=bq.cell k.4 4 ax;simp only[eB,eG]at c7;have:a≠J w.1:=G;have bc:=O<|cj co cs;have aM:=O z;have bM:=O<|n5 (L:=fE a c e) a6 aV;have cx:=O b0;let⟨h,bu⟩:=du P.lC;let⟨V,Q,W,X,Z,aa⟩:=abY P;have bL:ao (F=if h.10 then h else cw.IA H h):=by rw[ao,<-bf,cw.tN,cp,bV bW,bu]
 rw[bu]at aW V Q W X Z aa;have cH:=O<|cj V<|cj Q<|cj W<|cj X<|cj Z aa;rw[ac]at aW;clear k b0 co cs z bf a6 bu V Q W X Z aa;refine(ec (n:=0)).1 (callsIn_of_wp_marks func121 U cy ?_);simp only[ntmps121,mA,dW,gG,Nat.reduceAdd,Nat.reduceSub,mx,mP,mR,mQ,iF,fN];gi_wp2_with fail;refine⟨cy,U,(ec.2 aW).mono ?_⟩;rw[<-ac];rintro j o ⟨rfl,b7,b_,⟨cV,cT,cK⟩,ar⟩;have S:∀{i},J w.1<=i->¬fE a c e i:=λaO k=>by rcases k with k|k|k<;>omega
 have bs:gy o a x c e g d u {h with b:=ak} (C+40):=by{let⟨V,Q,W,X,Z,aa⟩:=cH;have z:=aM;have cc:oi o a x c e d u P.7 P.8 P.9 P.10:=gX ar z.1 z.4 bW G;rw[cp]at cc;refine⟨b7,?_,?_,?_,?_,cK,?_⟩;{show fZ o c _ g 0 1024 h.2 h.3 sw;rw[V,Q];exact kd z.2 ar z.1 bW G};{show fZ o e _ g 512 13312 h.4 h.5 h.6;rw[W];exact b_};{show oi o a x c e d u h.7 h.8 h.9 ak;rw[X,Z,aa];exact cc};{show h.2<65536/\h.3<65536/\h.4<65536/\h.5<65536/\E h.6=8;rw[V,Q,W];exact⟨z.5.1,z.5.2.1,z.5.2.2.1,cV,cT⟩};{show h.7<=_/\h.8<=_/\h.9<=_;rw[X,Z,aa];have:=z.6;omega}};have aj:=gX ar aM.1 bc.1 bW G;have t:=gX ar aM.1 bc.2 bW G;have c8:bY o (J w.1) 0 (cz<|ae ⟨a,0,af⟩):=bq.cell aj 0 ax;have c9:bY o a 3 (cz<|ae ⟨c,0,af⟩):=bq.cell bs.4 3 ax;have aP:=O<|dm bM<|h7 ar λi k=>bE<|bE k;have aB:=O bs;have ba:=O aj;have ad:=O t;let⟨y,aR⟩:=bm ({h with b:=ak}:cw);have ct:F=if h.10 then {y with b:=aD} else cw.IA H y:=by{
 rw[bL,aR];cases h with
 |mk s dv dk dy db aH n dz di b=>cases b<;>rfl}
 rw[<-aR]at aB;have b1:y.10=ak:=by rw[aR]
 have bt:=O ct;generalize h.10=cE at*;clear b7 b_ ar bs aj t aW aM bc bM c6 ac aR ct bL;cases cE with
 |true=>{have bb:=bt;rw[b8 U]at bb;have a1:ao (l7 a x c e g (C+100) d u F aD o):=⟨y,tZ aB G,b1,b5 bb⟩;have:aA o ⟨J w.1+1,0,af⟩=ae (aG ak):=bq.cell ad 0 ax;have:=bq.frozen ad;have bS:=O<|l7.ahJ<|l7.other (W':=a7 o ⟨J w.1+1,0,af⟩<|aG ak) a1 ad bW (S G) λi _ bj=>dr _ _ _ _ bj;have cB:ao (cG (fE a c e) g w<|a7 o ⟨J w.1+1,0,af⟩<|aG ak):=xL aP aV U U U mo λi aO=>dr _ _ _ _ (by show i≠J w.1+1;omega);have cr:bY (a7 o ⟨J w.1+1,0,af⟩<|aG ak) (J w.1+1) 0 (aG ak):=bq.cell (bq.set ad 0<|aG ak) 0 ax;clear bb;gi_wp2_with fail;exact⟨aG ak,G1,by rw[bS.1];rfl,bS.2,cB⟩}
 |false=>
 have cI:ao (F=cw.IA H y):=by have:=bt;rw[bV bW]at this;exact this
 clear bt;gi_wp2_with fail;refine⟨cy,U,(ec.2<|abW c o).m λW2 aS=>?_⟩;have aw:cv (J o.1) o W2:=aS▸(cU _ _).alloc (cO _) _
 have bO:J W2.1=J o.1+1:=by rw[aS];simp
 have cR:bq W2 (J o.1) [cz<|ae ⟨c,0,af⟩] 144:=aS▸bq.fF _ _ _
 have al:=uY aB aw;have da:bq W2 (J w.1) [cz<|ae ⟨a,0,af⟩] 54:=(aw.5 _ ba.lt).trans ba;have bv:bq W2 (J w.1+1) [aG ak] 4:=(aw.5 _ ad.lt).trans ad;have:=aP.4;have:=ad.lt;have a8:=O<|dm aP<|n5 aw<|ir aB.1;let a5:=ir al.1;clear aw aB ba ad aP aS c8 c9;gi_wp2_with fail;let⟨n,bi⟩:=bm<|lT (y.1.b_ 258 2).2 y.3;have ay:F=if n<=8 then cw.pY H {y with s:=(y.1.b_ 258 2).1} n else {y with s:=(y.1.b_ 258 2).1,b:=aD}:=by rw[cI,cw.IA,<-bi]
 have c5:=O bi;have c1:=O ay;clear bi ay;have hput:∀{A B:aQ} {ob:g7},cG (fE a c e) g W2 A->cG (fE a c e) g W2 (ep A (J W2.1+1) ob):=λhG=>xL hG a5 U U U (wj▸cO _) λi aO=>jB G;refine abV (α:=ap×Bool) (encs:=λN=>#[am<|D N.1,aG N.2]) (gf:=223) (lb:=#[cz<|ae ⟨J o.1,0,af⟩]) U (enters_of func223 b6 U) (λ_=>U) (λq=>gy q a x c e g d u y (C+40)/\cG (fE a c e) g W2 q) (λq=>l7 a x c e g (C+100) d u F aD q/\cG (fE a c e) g W2 q) (λq=>l7 a x c e g (C+100) d u F ak q/\cG (fE a c e) g W2 q) (λp N q=>(N.2=aD/\xw a x c e g (C+100) d u H n F (p+1) q)/\cG (fE a c e) g W2 q) (λp N q=>zq a x c e g (C+100) d u H n F p N q/\cG (fE a c e) g W2 q) ?iter ?p1 ?kK ?fa ?fy ?h0 ?round ?done ?stop;case h0=>(intro r;let aU:cv (J W2.1) W2 (aN (aN W2<|df<|ae [])<|dq r):=((cU _ _).alloc (cO _) _).alloc ax _;exact⟨uY al aU,n5 aU a5⟩)
 case p1=>(rintro i N A r ob ⟨⟨aO,hA⟩,hG⟩ hl';exact⟨⟨aO,xw.cells hA<|H4 hl' ob⟩,hput (B:=A) hG⟩)
 case kK=>(exact Mj)
 case fa=>(exact Mj)
 case fy=>(rintro i N A r ob ⟨hA,hG⟩ hl';exact⟨zq.cells hA<|H4 hl' ob,hput (B:=A) hG⟩)
 case iter=>(
 rintro r c3 cN cC ⟨I,bF⟩ cF;have bH:∀{A B:aQ} {cA:cq},cZ A g cA->cG (fE a c e) g A B->ko (J W2.1) r A->ko (J W2.1) r B:=λb4 bX R=>R.of (FR bX b4 (S G) R.2 λ_ _ _ j=>by cases j) (FR bX b4 (S G) R.1 λ_ _ _ j=>by cases j);have b2:∀{q},cG (fE a c e) g W2 q->bY q (J o.1) 0 (cz<|ae ⟨c,0,af⟩):=λhG=>bq.cell (gX hG al.1 cR bW<|S G) 0 ax;refine(abX (J W2.1+1) (J o.1) c n (λp q=>(xw a x c e g (C+100) d u H n F p q/\cG (fE a c e) g W2 q)/\ko (J W2.1) r q) (λp N q=>(zq a x c e g (C+100) d u H n F p N q/\cG (fE a c e) g W2 q)/\ko (J W2.1) r q) (λq=>(l7 a x c e g (C+100) d u F aD q/\cG (fE a c e) g W2 q)/\ko (J W2.1) c3 q) cC (b2 bF) (λp q k=>b2 k.1.2) ?fr ?j0 ?nx ?Y).mono ?fin;case fr=>(have an:=Sx I.1 I.2 bW U G I.5.2.1 I.6.1 G;rw[fM]at an;refine an.m λW' ⟨aK,ah⟩=>?_;have aF:=h7 (K:=fE a c e) ah λ_ k=>k.elim;have ay:=c1;rw[<-c5];exact⟨U,⟨⟨dJ _,{y with s:=(y.1.b_ 258 2).1},⟨aK,kd I.2 ah I.1 bW id,kd I.3 ah I.1 bW id,gX ah I.1 I.4 bW id,I.5,oP (qi I.6.1 _ 2) G,by have:=I.6;show y.7<=_/\y.8<=_/\y.9<=_;omega⟩,b1,λk=>by rw[ay,b8 k,Nat.sub_zero],λk=>by rw[ay,bV G]⟩,dm bF aF⟩,bH I.1 aF cF⟩)
 case j0=>(rintro aI q ⟨⟨⟨_,Y,l,M,_,aC⟩,hG⟩,R⟩;exact⟨⟨⟨Y,tZ l G,M,ax,G,λj=>(Bool.noConfusion j),λ_=>aC aI⟩,hG⟩,R⟩)
 case nx=>(
 rintro p q cS aI ⟨⟨⟨_,Y,l,M,au,_⟩,hG⟩,R⟩;refine(abi l.1 l.2 l.5.1 l.5.2.1 l.6.1 G).mono λj W' bl=>?_;have aC:=au aI;rw[show n-p=(n-(p+1))+1 by omega]at aC;have aT:=Tm (H:=H) (Y:=Y) (m:=n-(p+1));have an:=λf=>Tn (H:=H) (Y:=Y) (m:=n-(p+1)) (f:=f);have cd:=To Y;rw[aC]at aT an;unfold zl at bl;clear au aC;generalize Y.kM=c2 at bl aT an cd;let⟨h,aH⟩:=c2;let⟨V,Q,W,X,Z,aa,bd,bT⟩:=cd;obtain⟨rfl,aK,bP,⟨cl,cm,cn⟩,ah⟩:=bl;simp only at V Q W X Z aa bd bT aK bP cl cm cn aT an;have aF:=h7 (K:=fE a c e) ah λi k=>bE<|bJ k;refine⟨(aH.getD [],aH.isSome),U,⟨⟨h,?_,bd▸M,bT,G,λbn=>⟨cS,aI,?_⟩,λbn=>?_⟩,dm hG aF⟩,bH l.1 aF R⟩;{refine⟨aK,bP,?_,?_,by rw[V,Q,W];exact⟨cl,cm,l.5.2.2⟩,cn,by have:=l.6;rw[X,Z,aa];omega⟩;{rw[V,Q,W];exact kd l.3 ah l.1 bW G};{rw[X,Z,aa,bd];exact gX ah l.1 l.4 bW G}};{
 cases aH with
 |none=>cases bn
 |some f=>exact(an f U).symm};{
 cases aH with
 |none=>exact(aT U).symm
 |some f=>cases bn})
 case Y=>(rintro p N q ⟨aU,R⟩;refine(cN p N q aU R).mono ?_;rintro j W' (⟨rfl,⟨⟨h0,l⟩,au⟩,M⟩|⟨rfl,l,M⟩);{exact bJ ⟨U,h0,⟨l,au⟩,M⟩};{exact bE ⟨U,l,M⟩})
 case fin=>(rintro j W' ⟨cb,⟨cL,⟨⟨_,Y,l,M,au,_⟩,hG⟩,R⟩|⟨l,M⟩⟩;{refine⟨cb,bJ ⟨⟨⟨Y,tZ l G,M,?_⟩,hG⟩,R⟩⟩;rw[<-au cL,pX,Kl M,Km]};{exact⟨cb,bE ⟨l,M⟩⟩}))
 ·(
 rintro cY p ⟨s,c0⟩ dc q ⟨⟨Y,T,a2,cX,dx,bo,bp⟩,hG⟩ ca aq a4;have aj:=gX hG al.1 da bW<|S<|cO _;have t:=gX hG al.1 bv bW<|S G;have bG:bY q (J w.1) 0 (cz<|ae ⟨a,0,af⟩):=bq.cell aj 0 ax;cases c0 with
 |false=>{have:aA q ⟨J w.1+1,0,af⟩=ae (aG ak):=bq.cell t 0 ax;have Q:=bq.frozen t;have aJ:∀i,(a7 q ⟨J w.1+1,0,af⟩<|aG ak).1[i]? = q.1[i]?:=λi=>by{by_cases j:i=J w.1+1;{subst j;exact(bq.set t 0<|aG ak).trans<|b5 t};{exact dr _ _ _ _ j}};have a1:ao (l7 a x c e g (C+100) d u F aD<|a7 q ⟨J w.1+1,0,af⟩<|aG ak):=⟨Y,tZ (zn T λi _=>aJ i) G,a2,bp U⟩;have a0:ao (io (J W2.1) q<|a7 q ⟨J w.1+1,0,af⟩<|aG ak):=⟨mo,aJ _,aJ _⟩;have a3:ao (cG (fE a c e) g W2<|a7 q ⟨J w.1+1,0,af⟩<|aG ak):=xL hG a5 U U U mo λi _=>aJ i;clear T hG aj t aJ bo bp;gi_wp2_with fail;exact⟨by have:=a0;rwa [bO]at this,a1,a3⟩}
 |true=>{let⟨dn,aI,b3⟩:=bo U;let⟨ab,cg⟩:=bm<|Y.7+1;have:aA q ⟨a,5,af⟩=ae (ag ai Y.7):=bq.cell T.4 5 ax;have:(Y.7:Int)+1=ab:=G;have cJ:=bq.frozen T.4;have c4:=T.6;have bQ:gy (a7 q ⟨a,5,af⟩<|ag ai ab) a x c e g d u {Y with n:=ab} (C+100+3300*p+1601):=Tu (tZ T G) (jx (lI _ _) 5<|ag ai ab) (Ku T.4 ab).1 G;have dj:aA (a7 q ⟨a,5,af⟩<|ag ai ab) ⟨J w.1,0,af⟩=ae (cz<|ae ⟨a,0,af⟩):=by{rw[zM _ _ _ _ (λj=>by have:=eQ Addr.block j;exact At),bG]};have a9:cG (fE a c e) g q (a7 q ⟨a,5,af⟩<|ag ai ab):=tf (jx (lI _ _) 5 _) (bJ U) cD<|ir T.1;have bD:=O<|ab4 bQ (cx s (bx<|a7 q ⟨a,5,af⟩<|ag ai ab) cX<|dm (dm a8<|dm hG a9) kH) (cu s) G;have bR:=O a9;have bz:=O hG;have bI:=O T.1;have ci:ao (cw.pY H (cw.GM {Y with n:=ab} (H s)) (n-(p+1))=F/\(cw.GM {Y with n:=ab} (H s)).10=ak):=by{refine⟨by rw[<-b3,abZ,cg],?_⟩;unfold cw.GM;split;{exact a2};{exact(Kz _ _).2.2.2.2.1.trans a2}};have:Y.7<=900000000000:=G;clear T hG bQ a9 aj t cg bo bp b3 c4;gi_wp2_with fail;refine⟨cy,U,(CallsIn.inRound cY<|ec.2 bD).m λbK ⟨bw,bU⟩=>?_⟩;have av:=dm bR bU;have a0:ao (io (J W2.1) q bK):=⟨av.4,FR av bI (S G) aq (λ_ _ _ j=>by cases j),by let⟨dw,a4⟩:=a4;exact FR av bI (S G) a4 λ_ _ _ j=>by cases j⟩;have ck:ao (xw a x c e g (C+100) d u H n F (p+1) bK):=⟨G,_,tZ bw G,ci.2,λ_=>ci.1,λk=>G⟩;have a3:=O<|dm bz av;clear bw bU av bD bR bz;gi_wp2_with fail;exact⟨by have:=a0;first|exact this|rwa [bO]at this,by first|exact⟨U,ck⟩|exact ck,a3⟩})
 case done=>(rintro q ⟨hA,hG⟩ aq ca;have t:=gX hG al.1 bv bW<|S G;have:aA q ⟨J w.1+1,0,af⟩=ae (aG ak):=bq.cell t 0 ax;have cJ:=bq.frozen t;let bB:(a7 q ⟨J w.1+1,0,af⟩<|aG aD).1[J W2.1]? = ae (df<|ae []):=(dr _ _ _ _ Hi).trans aq;have az:=O<|l7.ahJ<|l7.cells (l7.other (W':=a7 q ⟨J w.1+1,0,af⟩<|aG aD) hA t bW (S G) λi _ bj=>dr _ _ _ _ bj) (Tl bB<|df af);have br:ao (cG (fE a c e) g w<|ep (a7 q ⟨J w.1+1,0,af⟩<|aG aD) (J W2.1)<|df af):=xL (dm a8 hG) aV U U U (by rw[wj];simp[a7]) λi aO=>(jB G).trans<|dr _ _ _ _ (by show i≠J w.1+1;omega);have cr:aA (ep (a7 q ⟨J w.1+1,0,af⟩<|aG aD) (J W2.1)<|df af) ⟨J w.1+1,0,af⟩=ae (aG aD):=(dR<|jB (by dsimp only;omega)).trans<|bq.cell (bq.set t 0<|aG aD) 0 ax;clear hA hG t;gi_wp2_with fail;exact⟨ax,bJ ⟨_,_,U,lf bB,⟨aG aD,G1,by rw[az.1];rfl,az.2,br⟩⟩⟩)
 case stop=>(rintro q ⟨hA,hG⟩ aq ca;have t:=gX hG al.1 bv bW<|S G;have az:=O<|l7.ahJ<|l7.cells hA<|Tl aq<|df af;have br:ao (cG (fE a c e) g w<|ep q (J W2.1)<|df af):=xL (dm a8 hG) aV U U U (wj▸cO _) λi aO=>jB G;have cr:aA (ep q (J W2.1)<|df af) ⟨J w.1+1,0,af⟩=ae (aG ak):=(dR<|jB (by dsimp only;omega)).trans<|bq.cell t 0 ax;clear hA hG t;gi_wp2_with fail;exact⟨ax,bJ ⟨_,_,U,lf aq,⟨aG ak,G1,by rw[az.1];rfl,az.2,br⟩⟩⟩)
end
def hw(b:ap)(c:Nat):Nat->Int
 |0=>0
 |a+1=>ai.wrap<|hw b c a+ai.wrap ((bg (b.getD (c+a) 0):Int)*2^(8*a))
def ki(b:ap)(c:Nat)(v:Int):Nat->ap
 |0=>b
 |a+1=>(ki b c v a).set (c+a)<|UInt8.ofNat<|cM<|v/2^(8*a)%256
def qU(b:ap)(c:Nat)(f:ap):Nat->ap
 |0=>b
 |a+1=>(qU b c f a).set (c+a)<|f.getD a 0
def jr(c:aQ)(cb b:Nat)(a:Nat×Nat×Nat×Nat):Prop:=bq c cb [bv b,M a.1,M a.2.1,M a.2.2.1,M a.2.2.2] 70
abbrev u_(a:Nat×Nat×Nat×Nat):Prop:=a.1<65536/\a.2.1<65536/\a.2.2.1<65536/\a.2.2.2<65536
def OE(b:ap)(a:Nat×Nat×Nat×Nat)(f:ap)(c:Nat)(e:Nat)(d:Int):ap×(Nat×Nat×Nat×Nat)×Bool:=
 (ki (ki (ki (qU b (e+12) f<|E f) (260+8*(a.2.1%8)) c 4) (264+8*(a.2.1%8)) d 4) 258 ((a.2.1+1)%65536:Nat) 2,((a.1+1)%65536,(a.2.1+1)%65536,a.2.2),aD)
def xx(c:ap)(b:Nat×Nat×Nat×Nat)(f:ap)(d:Nat)(a e:Int):ap×(Nat×Nat×Nat×Nat)×Bool:=
 if 0<=a/\a<=24064 then OE c b f d (cM a) e else(c,((b.1+1)%65536,b.2),ak)
def sh(a:ap)(b:Nat×Nat×Nat×Nat)(f:ap)(c:Int):ap×(Nat×Nat×Nat×Nat)×Bool:=
 if hw a 130 2≠b.1/\E f<=1524/\hw a (132+2*(b.1%8)) 2<=7 then
  xx a b f (cM<|hw a (132+2*(b.1%8)) 2) (hw a (16*cM (hw a (132+2*(b.1%8)) 2)) 8) (ai.wrap<|12+E f+c)
 else(a,b,ak)
def Ti(a b):0<=hw a b 2/\hw a b 2<65536:=by have:=gp<|a.getD (b+0) 0;have:=gp<|a.getD (b+1) 0;simp only[hw];generalize bg (a.getD (b+0) 0)=x,bg (a.getD (b+1) 0)=c at*;simp only[tv];omega
def Tj{y}(c:mW f a g e r y B)(h:m_ m g d)(t:ey g f m):mW m a g e r y {B with b:=d}/\cG bH a f m:=by let A:=@q8 _ _ _ _ _ _ _ c;let⟨n,x,o,p,C⟩:=c;let D:=h6 n x.2 bW;let u:=t.5 a (qg n) D;exact⟨⟨nS n u,h,lA o λk l=>t.5 k (nT o l) λj=>jK x.2 o bW<|by grind,lA p λk l=>t.5 k (nT p l) λj=>jK x.2 p bW<|by grind,xE C λw G _ c=>t.5 w c.lt<|h6 c x.2 bW⟩,⟨t.1,t.2,t.3,t.4,λw aO _ z=>t.5 w aO λj=>z<|A.2<|bE<|bJ j,λw F=>bJ<|mH u F⟩⟩
def xy(b size:Nat){S}(d)(g:cZ d a S)(L:size<=8)(K:b+size<=25600):a_ aL 68 #[bv a,M b,M size] d λx B=>x=bh (M<|hw S.1 b size)/\B=d:=by
 obtain⟨t,N,P,Q,g⟩:=g;have:=pu g.1;have r:=O g.2.1;have:=g.2.1.1;go_wp2;go_loopw [7,8] (λA l wr=>∃p:Nat,A=M (hw S.1 b p)/\l=M p/\p<=size/\wr=d) λ_ l _=>size-cM (fj l);·exact⟨0,U,U,dJ _,U⟩
 ·(
 obtain⟨p,rfl,rfl,H,z⟩:=hrel;obtain rfl:d=wr:=b5 z;by_cases I:p<size;{
 have⟨c,o⟩:=bm<|b+p;have⟨i,q⟩:=bm<|8*p;have y:c<E S.1:=G;have⟨e,j⟩:=bm<|bg<|S.1.getD c 0;have:e<256:=j▸gp _
 have F:bY d t c (ag ch e):=by{have:=r.2.cell c (by grind);grind};have n:hw S.1 b (p+1)=ai.wrap (hw S.1 b p+ai.wrap ((e:Int)*2^i)):=by{rw[hw,q,j,<-o]};have⟨W,h⟩:=bm<|hw S.1 b<|p+1;have u:=O h;rw[n]at h;generalize hw S.1 b p=R at*;have C:ai.wrap ((b:Int)+p)=(c:Int):=fl
 have D:ai.wrap (8*(p:Int))=(i:Int):=fl
 have:=iV (e:Int)
 have⟨T,k⟩:=bm<|ai.wrap<|(e:Int)*2^i;rw[<-k]at h
 have:=b5 k;have:=b5 h;have:c<25600:=G;have:i<64:=G;clear o q j n h y k;go_wp2;exact⟨⟨p+1,by rw[V u],dd,G,ax⟩,dz⟩};{have w:p=size:=G;subst w;go_wp2;go_ret;simp})
def s9(h d size:Nat)(v c)(o:cZ f h c)(W:size<=8)(V:d+size<=25600):a_ aL 25 #[bv h,M d,M size,M v] f λF C=>F=bh (bZ #[])/\cZ C h {c with b:=ki c.1 d v size}/\cG bH h f C:=by
 replace o:=O o;go_wp2;go_loopw [8] (λt wr=>∃a:Nat,t=M a/\a<=size/\cZ wr h {c with b:=ki c.1 d v a}/\cG bH h f wr) λt _=>size-cM (fj t);·exact⟨0,U,dJ _,o,qJ _ _ _⟩
 ·(
 obtain⟨a,rfl,S,g,p⟩:=hrel;by_cases T:a<size;{
 let⟨k,I,K,L,g⟩:=g;let⟨e,x⟩:=bm<|d+a;let⟨u,A⟩:=bm<|8*a;let⟨N,r⟩:=bm<|v/2^u;let⟨l,q⟩:=bm<|UInt8.ofNat<|cM<|N%256;have P:ai.wrap ((d:Int)+a)=(e:Int):=fl
 have Q:ai.wrap (8*(a:Int))=(u:Int):=fl
 have R:ch.wrap (v/2^min u 64)=(bg l:Int):=by{rw[ro G,<-r,q,ur,pB];omega};have:=pu g.1;have j:=g.2.1;have H:e<E (ki c.1 d v a):=by rw[j.1];omega
 obtain⟨B,X⟩:∃B,aA wr ⟨k,e,af⟩=ae B:=eR _<|j.2.cell e (by grind);have:=j.2.frozen;have w:m_ (a7 (bx wr) ⟨k,e,af⟩<|ag ch<|bg l) k (ki c.1 d v<|a+1):=by{have:=BM j e l;rw[show(ki c.1 d v a).set e l=ki c.1 d v (a+1) by rw[ki,x,q,r,A]]at this;exact this};let⟨y,z⟩:=Tj g w<|jx (ey.CD cc.drew) _ _;have i:=O<|cj (⟨k,I,K,L,y⟩:cZ _ h {c with b:=ki c.1 d v (a+1)}) (dm p z);have:e<25600:=G;clear g p j x A r q H w y z;go_wp2;go_region;all_goals(go_wp2;exact bd (⟨a+1,dd,G,i.1,i.2⟩) dz)};{have D:a=size:=G;subst D;have i:=O<|cj g p;go_wp2;exact kh (v:=bZ #[]) (by simp[c_,results25]) U ⟨U,i.1,i.2⟩})
def xB(h d:Nat)(f:ap)(e:Int)(a:cq)(c:Nat×Nat×Nat×Nat)(k:aQ)(i:kP)(g:aQ):Prop:=
 i=bh (aG (sh a.1 c f e).2.2)/\cZ g d {a with b:=(sh a.1 c f e).1}/\jr g h d (sh a.1 c f e).2.1/\cG (λj=>j=h) d k g
structure gc(w0 w:World)(cb mb:Nat)(S:cq)(c:Nat×Nat×Nat×Nat):Prop where
 m:cZ w mb S
 c:jr w cb mb c
 f:cG (λi=>i=cb) mb w0 w
section
variable {w0 w w':World} {cb mb:Nat} {S T:cq}{c c':Nat×Nat×Nat×Nat} (h:gc w0 w cb mb S c)
include h
theorem gc.go(b:cZ w' mb T)(a:cG bH mb w w'):gc w0 w' cb mb T c:=⟨b,gX a h.1 h.2 bW id,dm h.3<|h7 a λ_ h=>h.elim⟩
theorem gc.set{o:Nat}(a:jr (a7 w ⟨cb,o,af⟩ e) cb mb c'):gc w0 (a7 w ⟨cb,o,af⟩ e) cb mb S c':=
 ⟨vi h.1 h.2 bW λc _ b=>dr _ _ _ _ b,a,dm h.3<|tf (jx (lI _ _) o e) U (vj h.1 h.2 bW)<|ir h.1⟩
theorem gc.drew:gc w0 (bx w) cb mb S c:=⟨h.1,h.2,dm h.3 kH⟩
theorem gc.c0:aA w (N cb 0)=ae (bv mb):=bq.cell h.2 0 ax
end
def CM(h:φ:=by go_wp2;go_ret;exact bI):φ:=h
def Ko(p d:Nat)(j:ap)(P:Int)(e:cq){h q:Nat}(r:cZ f d e)(B:jr f p d (h,a,g,q))(cB:h<65536)(cD:a<65536)(cj:E j<=2000000):a_ aL 28 #[bv p,aS j,M P] f λA z=>xB p d j P e (h,a,g,q) f A z:=by
 have cS:aA f (N p 0)=ae (bv d):=bq.cell B 0 ax;have b4:aA f (N p 1)=ae (M h):=bq.cell B 1 ax;have L:=O (show gc f f p d e (h,a,g,q)from⟨r,B,qJ _ _ _⟩);have⟨a2,aP⟩:=du<|sh e.1 (h,a,g,q) j P
 have u:ao (∀n aJ aI c',a2=(aI,c',aJ)->gc f n p d {e with b:=aI} c'->xB p d j P e (h,a,g,q) f (bh<|aG aJ) n):=λn aJ aI c' A t=>by
  unfold xB;rw[aP,A];exact⟨U,t.1,t.2,t.3⟩
 have⟨Y,aV⟩:=du<|hw e.1 130 2
 have W:ao (a_ aL 68 #[bv d,M 130,M 2] f λA z=>A=bh (M Y)/\z=f):=by
  rw[<-aV];exact xy 130 2 f r G G
 have⟨ee,a1⟩:=bm<|h%8
 have⟨ac,b6⟩:=bm<|2*ee
 have⟨fa,bP⟩:=bm<|132+ac
 have i1:(h:Int)%8=ee:=G;have bX:(h:Int).tmod 8=(ee:Int):=CA
 have:=iV (ee:Int)
 have cG:ai.wrap (2*(ee:Int))=(ac:Int):=fl
 have cH:ai.wrap (132+(ac:Int))=(fa:Int):=fl
 have:2*(ee:Int)=ac:=G;have:132+(ac:Int)=fa:=G;obtain⟨l,a0⟩:∃l:Nat,hw e.1 fa 2=(l:Int):=eR _<|b5 (DF (Ti _ _).1)
 have X:ao (∀k,a_ aL 68 #[bv d,M fa,M 2] (dS f k) λA z=>A=bh (M l)/\z=dS f k):=λk=>by
  rw[<-a0];exact xy fa 2 (dS f k) r G G
 have⟨H,aT⟩:=du<|hw e.1 (16*l) 8
 have⟨az,aw⟩:=du<|ai.wrap<|12+(E j:Int)+P
 have C:ao (a2=if Y≠h/\E j<=1524/\(l:Int)<=7 then xx e.1 (h,a,g,q) j l H az else(e.1,(h,a,g,q),ak)):=by
  rw[ao,<-aP,sh];simp only[show 132+2*(h%8)=fa by omega,a0,aV,sA,aT,aw]
 have T:ao (∀k,gc f (dS f k) p d e (h,a,g,q)):=λk=>⟨r,B,⟨U,U,U,cO _,λ_ _ _ _=>U,λ_ cn=>bJ cn⟩⟩
 have S:ao (∀n K,gc f n p d e K->l<=7->a_ aL 68 #[bv d,M (16*l:Nat),M 8] n λA z=>A=bh (M H)/\z=n):=λn K aR aO=>by
  rw[<-aT];exact xy (16*l) 8 n aR.1 G G
 have⟨k,aq⟩:=bm<|E j;have cC:(D j).size=k:=by rw[aq];exact cV j
 rw[<-aq]at C cj aw;have bb:=O aq;have cr:=O aw;have:(k:Int)<=2000000:=G;clear r B aP a1 b6 bP a0 aT aq aw aV;go_in;go_wp2_with fail;refine W.m ?_;rintro f rfl;by_cases w:Y=(h:Int)
 ·have c:=V C;rw[bV λr=>r.1 w]at c;have bI:=O<|u _ _ _ _ c L;subst w;clear c C u T S W X L;exact CM
 have cl:(Y==(h:Int))=ak:=by rw[ju];exact w
 by_cases an:k<=1524
 case neg=>
  have c:=V C;rw[bV λr=>an r.2.1]at c;have bI:=O<|u _ _ _ _ c L;have av:1536<(k:Int)+12:=G;clear c C u T S W X L an;exact CM
 have av:¬1536<(k:Int)+12:=G;have a6:=fI av;go_wp2;go_quiet (first|(go_at_call 68;exact Calls.quiet_of_same<|X _));have t:=V T nq;generalize dS f nq=bL at*;by_cases aU:l<=7
 case neg=>
  have c:=V C;rw[bV λr=>aU G]at c;have bI:=O<|u _ _ _ _ c t;have ck:7<(l:Int):=G;clear c C u T S W X L aU t w;exact CM
 have ck:¬7<(l:Int):=G;have⟨F,bi⟩:=bm<|(h+1)%65536;have bz:((h:Int)+1)%65536=F:=G;have b2:((h:Int)+1).tmod 65536=(F:Int):=by rw[oK G];exact bz
 have al:=gc.set t (c':=(F,a,g,q)) (bq.set t.2 1<|M F);have⟨y,ar⟩:=bm<|16*l;have:16*(l:Int)=y:=G;have aF:=O<|S _ _ al aU;rw[<-ar]at aF;have Z:=O al;have b7:=gc.c0 t;have b_:aA bL (N p 1)=ae (M h):=bq.cell t.2 1 ax;have ca:=gc.c0 al;have ci:=bq.frozen t.2;have c:=V C;rw[b8 ⟨w,an,G⟩]at c;have aj:=O c;have bO:=O bi;have cp:y<=200:=G;clear T W X S t al cS b4 c C ar bi w an cl L;go_wp2_with fail;refine aF.m ?_;rintro cx rfl;generalize a7 bL ⟨p,1,af⟩ (ag ai F)=cx at*;clear aF b7 b_ ci bz b2;by_cases aa:0<=H/\H<=24064
 case neg=>
  have c:=V aj;unfold xx at c;rw[bV aa]at c;have bI:=O<|u _ _ _ _ c (by rw[<-V bO];exact Z);have cm:H<0\/(¬H<0/\24064<H):=G;clear c aj u Z aa;rcases cm with bw|⟨bw,cF⟩
  ·exact CM
  ·have:=fI bw;exact CM
 obtain⟨o,cg⟩:∃o:Nat,H=(o:Int):=eR _<|b5 (DF aa.1)
 subst cg;have:o<=24064:=G;have c:=V aj;unfold xx at c;rw[b8 aa,sA]at c;have aH:¬(o:Int)<0:=G;have a8:=fI aH;have a9:¬24064<(o:Int):=G;have aY:=O c;clear aj c aa;go_wp2
 go_loopw [10] (λaX wr=>∃i:Nat,aX=M i/\i<=k/\gc f wr p d {e with b:=qU e.1 (o+12) j i} (F,a,g,q)) λaX _=>k-cM (fj aX)
 ·exact⟨0,U,dJ _,Z⟩
 ·obtain⟨i,rfl,bl,x⟩:=hrel;by_cases aW:i<k
  ·have bj:i<E j:=cd<|V bb
   have⟨K,B⟩:=du<|j[i]
   have Y:∀r:i<(D j).size,(D j)[i]=K:=λr=>B;have⟨l5,a4⟩:=bm<|o+12
   have⟨I,bu⟩:=bm<|l5+i
   have cI:ai.wrap ((o:Int)+12)=(l5:Int):=fl
   have cJ:ai.wrap ((l5:Int)+i)=(I:Int):=fl
   have⟨ah,ct,cu,cw,au⟩:=x.1;have ab:=au.2.1;have ba:=pu au.1;have a5:=gc.c0 x;have bs:I<E (qU e.1 (o+12) j i):=by rw[ab.1];omega
   obtain⟨bG,cE⟩:∃bG,aA wr ⟨ah,I,af⟩=ae bG:=eR _<|ab.2.cell I (by simpa using bs)
   have:=ab.2.frozen;have bf:m_ (a7 (bx wr) ⟨ah,I,af⟩<|ag ch<|bg K) ah (qU e.1 (o+12) j<|i+1):=by
    have:=BM ab I K;rw[show(qU e.1 (o+12) j i).set I K=qU e.1 (o+12) j (i+1) by rw[qU,bu,a4,iA,fs bj,B];rfl]at this;exact this
   have⟨bB,bD⟩:=Tj au bf<|jx (ey.CD cc.drew) _ _;have cb:=O<|gc.go x (⟨ah,ct,cu,cw,bB⟩:cZ _ d {e with b:=qU e.1 (o+12) j (i+1)}) bD;have:I<25600:=G;have bU:(i:Int)<k:=G;have bF:=O aW;clear x au ab bu a4 B bs bf bB bD bj aH a8 a9 av a6 bl aW Z aY u;go_wp2
   go_region
   all_goals
    go_wp2;exact⟨⟨i+1,dd,cd<|V bF,cb⟩,by have:=V bF;exact v7⟩
  ·obtain rfl:i=k:=G;have⟨b3,w⟩:=bm<|qU e.1 (o+12) j i;rw[<-w]at x;have⟨ee,a1⟩:=bm<|a%8
   have⟨ay,cs⟩:=bm<|8*ee
   have⟨y,ar⟩:=bm<|260+ay
   have⟨R,bR⟩:=bm<|y+4
   have i1:(a:Int)%8=ee:=G;have bX:(a:Int).tmod 8=(ee:Int):=CA
   have:8*(ee:Int)=ay:=G;have:260+(ay:Int)=y:=G;have:(y:Int)+4=R:=G;have:ee<8:=G;have:ay<64:=G;have cp:R<=400:=G;have⟨u1,bt⟩:=bm<|(a+1)%65536;have co:((a:Int)+1)%65536=u1:=G;have cA:((a:Int)+1).tmod 65536=(u1:Int):=by rw[oK G];exact co
   have:u1<65536:=G;have bI:ao (∀n,gc f n p d {e with b:=ki (ki (ki b3 y l 4) R az 4) 258 u1 2} (F,u1,g,q)->xB p d j P e (h,a,g,q) f (bh<|aG aD) n):=λn aR=>by
    refine V u n _ _ _ (V aY) ?_;rw[<-V bO,<-bt,show 260+8*(a%8)=y by omega,show 264+8*(a%8)=R by omega,<-V bb,<-w];exact aR
   have a3:ao (a_ aL 25 #[bv d,M y,M 4,M l] wr _):=s9 d y 4 l _ x.1 G G;have a5:=gc.c0 x;have b0:bY wr p 2 (M a):=bq.cell x.2 2 ax;have bc:=O x;have bU:¬(i:Int)<i:=G;clear x w bl aW aH a8 a9 av a6 Z ca a1 cs ar bR bt aY u;go_wp2_with fail;refine a3.m ?_;rintro cy ⟨aM,bn⟩;have aK:=gc.go (V bc) aM bn;have b1:=V cr;have m8:ao (a_ aL 25 #[bv d,M R,M 4,M az] cy _):=s9 d R 4 az _ aM G G;have ba:=gc.c0 aK;have bH:=O aK;clear aK aM bn bc a3 a5 b0;go_wp2_with fail;refine m8.m ?_;rintro aC ⟨br,bo⟩;have Q:=gc.go (V bH) br bo;have:=gc.c0 Q;have:aA aC (N p 2)=ae (M a):=bq.cell Q.2 2 ax;have:=bq.frozen Q.2;have ad:=gc.set Q (c':=(F,u1,g,q)) (bq.set Q.2 2<|M u1);have bW:ao (a_ aL 25 #[bv d,M 258,M 2,M u1] (bx<|a7 aC ⟨p,2,af⟩<|ag ai u1) _):=s9 d 258 2 u1 _ (gc.drew ad).1 G G;have:aA (bx<|a7 aC ⟨p,2,af⟩<|ag ai u1) (N p 0)=ae (bv d)/\aA (bx<|a7 aC ⟨p,2,af⟩<|ag ai u1) (N p 2)=ae (M u1):=bd (gc.c0<|gc.drew ad)<|bq.cell (gc.drew ad).2 2 ax
   have bQ:=O<|gc.drew ad;clear br bo Q bH m8 ba ad b1;go_wp2
   go_region_held (λz=>aA z (N p 0)=ae (bv d)/\aA z (N p 2)=ae (M u1)) (first|assumption|go_keep)
    (first|(go_at_call 25;go_loud (refine bW.m λbM ⟨bK,bp⟩=>?_;have aB:=gc.go (V bQ) bK bp;have bT:bY bM p 0 (bv d)/\bY bM p 2 (M u1):=bd (gc.c0 aB)<|bq.cell aB.2 2 ax)))
   all_goals
    have bS:=O<|bI _ aB;clear aB bK bp bT;go_wp2;go_ret;exact bS
def t6(b:ap):Nat->ap
 |0=>List.replicate 25600 0
 |a+1=>(t6 b a).set a<|b.getD (a%E b) 0
def B1(a:ap):ap:=if a=[]then List.replicate 25600 0 else t6 a 25600
def LT(h:φ:=by{refine bd ax ?_;rw[hw1,agw];exact bq.fF _ _ _}):φ:=h
def acr{c}(F:E d=c)(ah:0<c)(aI:c<=9223372036854775807)(r:sX f a d):a_ aL 21 #[bL a 0 c g] f λac Q=>ac=bh (bv<|J f.1+1)/\pj Q (J f.1+1) (J f.1) (t6 d 25600)/\a6 f Q:=by
 have R:=r.1;have K:List.replicate 25600 0=t6 d 0:=U;have Z:ao (∀ab,d.getD (ab%E d) 0=d.getD (ab%c) 0):=λab=>by rw[F]
 have⟨b,n⟩:=bm (25600:Nat);have:(b:Int)<=1000000:=G;replace n:=O n;have:=im zj;have au:(Instr.makeSlice 53 (M 25600)<|M 25600).run aL f=.ok (bL (J f.1) 0 25600 25600) (aN f<|aZ (madeCells (ag ch 0).cells 25600) 5):=by{rfl};have⟨j,hw1⟩:=bm<|aN f<|aZ (madeCells (ag ch 0).cells 25600) 5;have u:ao (m_ j (J f.1)<|List.replicate 25600 0):=LT;have I:J j.1=J f.1+1:=by rw[hw1];simp
 have z:ao (a6 f j):=by rw[ao,hw1];exact cf cc bo _
 rw[<-hw1]at au;have S:ao (∀ab,ab<c->aA f (N a ab)=ae (ag ch<|bg<|d.getD ab 0)):=λab aF=>by{have C:ab<E d:=G;rw[r.2.1 ab C,iA,fs C];rfl};rw[K]at u;have L:hQ (aN j<|aZ #[aE (ae ⟨J f.1,0,af⟩) 25600 25600,aE af 0 0,aG ak,aE af 0 0,ag ai 0,aE af 0 0,aG ak,aG ak,aG ak,ag ai 0] 66) (J f.1+1) (J f.1) (bX) (bX) ak 0 ak ak ak 0:=by{have:=bq.fF j [bL (J f.1) 0 25600 25600,bX,aG ak,bX,M (0:Nat),bX,aG ak,aG ak,aG ak,M (0:Nat)] 66;rw[I]at this;exact this};have az:=O L;have av:=O<|rm (V u)<|dv j (aZ #[aE (ae ⟨J f.1,0,af⟩) 25600 25600,aE af 0 0,aG ak,aE af 0 0,ag ai 0,aE af 0 0,aG ak,aG ak,aG ak,ag ai 0] 66) _ G;have ad:=O<|cf z G<|aZ #[aE (ae ⟨J f.1,0,af⟩) 25600 25600,aE af 0 0,aG ak,aE af 0 0,ag ai 0,aE af 0 0,aG ak,aG ak,aG ak,ag ai 0] 66;clear r L hw1 u z K F;go_wp2;try simp only[I]
 go_loopw [4] (λq wr=>∃w:Nat,q=M w/\w<=b/\hQ wr (J f.1+1) (J f.1) (bX) (bX) ak 0 ak ak ak 0/\m_ wr (J f.1) (t6 d w)/\a6 f wr) λq _=>b-cM (fj q);·exact⟨0,U,dJ _,az,av,ad⟩
 ·(
 obtain⟨w,rfl,D,o,h,l⟩:=hrel;have y:=pu o;have aa:=O o;have X:=O h;have W:=O l;rw[<-V n]at y;by_cases ap:w<b;{
 have⟨e,t⟩:=bm<|w%c;have T:e<c:=t▸qY _ ah
 have:(w:Int).tmod c=(e:Int):=by grind
 have:(w:Int)%c=e:=fi
 have al:=V S e T;have aB:ao ((t6 d w).set w (d.getD e 0)=t6 d (w+1)):=by rw[ao,t6,V Z w,t]
 generalize d.getD e 0=k at*;have:0<(c:Int):=G;have:¬(c:Int)=0:=G;have:(e:Int)<c:=G;have an:=(l.cell (p:=⟨a,e,af⟩) R).trans al;obtain⟨P,aH⟩:∃P,aA wr ⟨J f.1,w,af⟩=ae P:=eR _<|h.2.cell w (by simp;rw[h.1,<-V n];omega);have:=λq=>h.2.frozen q;have aq:ao (m_ (a7 (bx wr) ⟨J f.1,w,af⟩<|ag ch<|bg k) (J f.1)<|t6 d<|w+1):=(V aB)▸BM h w k
 have aj:ao (hQ (a7 (bx wr) ⟨J f.1,w,af⟩<|ag ch<|bg k) (J f.1+1) (J f.1) (bX) (bX) ak 0 ak ak ak 0):=nS (w:=wr) o (dr _ _ _ _ ax);have Y:=O<|(l.drew).setCell (p:=⟨J f.1,w,af⟩) bo (ag ch<|bg k);have aw:(w:Int)<b:=G;have⟨ar,B⟩:=bm<|w+1;have aC:ai.wrap ((w:Int)+1)=(ar:Int):=fl
 have x:=O B;have:aA (bx wr) (N (J f.1+1) 0)=ae (bL (J f.1) 0 b b)/\aA (bx wr) (N a e)=ae (ag ch<|bg k):=bd y an;have:a≠J f.1:=G;clear o h l t D B;go_wp2;go_region;all_goals(go_wp2;exact⟨⟨w+1,by rw[<-V x],G,aj,aq,Y⟩,by have:=V x;exact v7⟩)};{have A:w=b:=G;have ay:=O<|cQ A n;subst A;have aw:¬(w:Int)<w:=G;clear o h l ap D;go_wp2;go_ret;have H:=V X;rw[V ay]at H;exact⟨U,bd aa H,W⟩})
def T7(k l a):a_ aL 21 #[aE k 0 l] a λn i=>n=bh (bv<|J a.1+1)/\pj i (J a.1+1) (J a.1) (List.replicate 25600 0)/\a6 a i:=by
 let⟨j,e⟩:=bm (25600:Nat);have:(j:Int)<=1000000:=G;replace e:=O e;have:=im zj;have p:(Instr.makeSlice 53 (M 25600)<|M 25600).run aL a=.ok (bL (J a.1) 0 25600 25600) (aN a<|aZ (madeCells (ag ch 0).cells 25600) 5):=by{rfl};let⟨b,hw1⟩:=bm<|aN a<|aZ (madeCells (ag ch 0).cells 25600) 5;have h:ao (m_ b (J a.1)<|List.replicate 25600 0):=LT;have g:J b.1=J a.1+1:=by rw[hw1];simp
 have d:ao (a6 a b):=by rw[ao,hw1];exact cf cc bo _
 rw[<-hw1]at p;have c:hQ (aN b<|aZ #[aE (ae ⟨J a.1,0,af⟩) 25600 25600,aE af 0 0,aG ak,aE af 0 0,ag ai 0,aE af 0 0,aG ak,aG ak,aG ak,ag ai 0] 66) (J a.1+1) (J a.1) (bX) (bX) ak 0 ak ak ak 0:=by{have:=bq.fF b [bL (J a.1) 0 25600 25600,bX,aG ak,bX,M (0:Nat),bX,aG ak,aG ak,aG ak,M (0:Nat)] 66;rw[g]at this;exact this};have q:=O<|rm h<|dv b (aZ #[aE (ae ⟨J a.1,0,af⟩) 25600 25600,aE af 0 0,aG ak,aE af 0 0,ag ai 0,aE af 0 0,aG ak,aG ak,aG ak,ag ai 0] 66) _ G;have o:=O<|cf d G<|aZ #[aE (ae ⟨J a.1,0,af⟩) 25600 25600,aE af 0 0,aG ak,aE af 0 0,ag ai 0,aE af 0 0,aG ak,aG ak,aG ak,ag ai 0] 66;clear hw1 h d;have:=pu c;replace c:=O c;go_wp2;try simp only[g]
 refine OX 1 ?_;rw[rounds_succ];go_wp2;go_ret;exact⟨U,bd c q,o⟩
def acs(e)(k:E d=g)(l:g<=9223372036854775807)(i:sX f a d):a_ aL 21 #[bL a 0 g e] f λj h=>j=bh (bv<|J f.1+1)/\pj h (J f.1+1) (J f.1) (B1 d)/\a6 f h:=by
 by_cases c:d=[];{
 obtain rfl:g=0:=by grind
 rw[B1,b8 c];exact T7 (ae<|N a 0) e f};{rw[B1,bV c];exact acr k (by grind) l i}
abbrev eJ:=bk×bk×aK×List ap
def jq(a:eJ):List bk:=[a.1,M a.2.2.1.aP,M a.2.2.1.type,aS a.2.2.1.data,a.2.1]
def m5(b:List<|List eJ)(a:eJ):List (List eJ):=match b.getLast? with
 |some (c::d)=>if c.2.2.2=a.2.2.2/\c.2.2.1.type=a.2.2.1.type then b.dropLast++[(c::d)++[a]]else b++[[a]]
 |_=>b++[[a]]
def hV(a:List eJ):List (List eJ):=a.foldl m5 []
def adt{b:List eJ}(c:a<E b):hV (be (a+1) b)=m5 (hV<|be a b) b[a]:=by rw[hV,g8 c,wE];rfl
def adu{a}:m5 [] a=[[a]]:=rfl
def Uc(c){b}(d){a}(e:b.2.2.2=a.2.2.2/\b.2.2.1.type=a.2.2.1.type):m5 (c++[b::d]) a=c++[(b::d)++[a]]:=by grind[m5]
def Ud(c){b}(d){a}(e:¬(b.2.2.2=a.2.2.2/\b.2.2.1.type=a.2.2.1.type)):m5 (c++[b::d]) a=(c++[b::d])++[[a]]:=by grind[m5]
def adv{c d b}(a:b∈m5 c d):b∈c\/b=[d]\/∃e∈c,b=e++[d]:=by unfold m5 at a;split at a;{rename_i i h g;split at a;{rcases i_.1 a with a|a;{exact bJ<|(List.dropLast_sublist c).subset a};grind};grind};grind
def KX:∀(g:List eJ) (e:List<|List eJ) (c:eJ->Prop) (d:Nat),(∀b∈e,(∀a∈b,c a)/\E b<=d)->(∀a∈g,c a)->∀b∈g.foldl m5 e,(∀a∈b,c a)/\E b<=d+E g
 |[],e,c,d,h,_=>h
 |a::g,e,c,d,h,k=>by have p:=KX g (m5 e a) c (d+1) (λb j=>by{rcases adv j with i|i|⟨n,i,o⟩;{grind};{grind};grind}) (λl q=>k l<|by grind);grind
def Ck(b){a}(d:a∈hV b):∀c∈a,c∈b:=(KX b [] (·∈b) 0 (λa e=>by cases e) (λc g=>g) a d).1
def adw{b a}(c:a∈hV b):E a<=E b:=by let:=(KX b [] (·∈b) 0 (λa d=>by cases d) (λg e=>e) a c).2;omega
def ik(d:aQ)(v:bk)(b:List eJ):Prop:=(v=bX/\b=[])\/∃c ay e,v=bL c ay (E b) e/\E b<=e/\c<J d.1 /\
 ∀a (g:a<E b),aA d (N c<|ay+a*5)=ae b[a].1/\aA d (N c<|ay+a*5+1)=ae (M b[a].2.2.1.aP)/\aA d (N c<|ay+a*5+2)=ae (M b[a].2.2.1.type)/\aA d (N c<|ay+a*5+3)=ae (am<|D b[a].2.2.1.data)/\aA d (N c<|ay+a*5+4)=ae b[a].2.1
def ik.below{l}(a:ik f e l)(k:a6 f m):ik m e l:=by rcases a with a|⟨o,ay,n,p,q,r,b⟩;{exact .inl a};{let v:∀(g:Addr) (i:Value),f.cell? g=ae i->aA m g=ae i:=λg i a=>(k.cell<|g_ f g a).trans a;exact bE ⟨o,ay,n,p,q,eA r k.4,λd c=>⟨v _ _ (b d c).1,v _ _ (b d c).2.1,v _ _ (b d c).2.2.1,v _ _ (b d c).2.2.2.1,v _ _ (b d c).2.2.2.2⟩⟩}
def Cl:∀(c:List eJ) (a:Nat) (d:a<E c) (b:Nat),b<5->(ex jq c)[a*5+b]? = (jq c[a])[b]?
 |[],a,d,_,_=>by grind
 |g::c,0,_,b,e=>by rw[kj,o7,fM,Cr<|by assumption];rfl
 |g::c,a+1,d,b,e=>by
  have h:a<E c:=by grind
  rw[kj,pv (by show 5<=_;omega)];have:(a+1)*5+b-E (jq g)=a*5+b:=by show(a+1)*5+b-5=_;omega
  rw[this,Cl c a h b e];rfl
def Ge{c}(n:f.ownsRow a 98 5 e (E c)<|ex jq c):ik f e c:=by rcases n.2 with⟨rfl,o⟩|⟨g,k,t,rfl,u,i,l,w,x,r⟩;{exact .inl<|bd rfl<|hq o};{refine .inr ⟨g,0,k,rfl,l,(dK.1 i).1,λd p=>?_⟩;let v:∀b,b<5->aA f (N g<|0+d*5+b)=(jq c[d])[b]?:=by{intro b q;have h:=Cl c d p b q;rw[<-r,qA G]at h;rw[fM,<-h];grind[aA]};exact⟨v 0 G,v 1 G,v 2 G,v 3 G,v 4 G⟩}
structure oA(w:World)(base:Nat)(v:Value)(ps:List (Value×List eJ)):Prop where
 own:w.ownsRow base 94 1 v ps.length (ps.map (·.1))
 yf:∀p∈ps,w.ownsRow base 98 5 p.1 p.2.length (p.2.flatMap jq)/\p.2≠[]
 aiZ:ps.Pairwise λp q=>p.1.ownBlock≠q.1.ownBlock
 aw:∀p∈ps,p.1.ownBlock≠v.ownBlock
def oA.nil(c b):oA c b (bX) []:=⟨ih c b _ 1,λd a=>(by cases a),.nil,λd a=>(by cases a)⟩
def oA.below{i g}(v:oA f a e g)(c:a6 f i):oA i a e g:=⟨g6 v.1 c,λb d=>⟨g6 (v.2 b d).1 c,(v.2 b d).2⟩,v.3,v.4⟩
def Ag(e:aQ)(g:Nat)(v:bk)(a:List<|List eJ):Prop:=(v=bX/\a=[])\/∃b h,v=bL b 0 (E a) h/\E a<=h/\b<J e.1/\g<=b/\∀c (j:c<E a),a[c]≠[]/\∃d,aA e (N b c)=ae d/\ik e d a[c]/\∀i,bA d=ae i->g<=i
def Na(h:φ:=by rcases h with h|⟨g,ay,cap,h1,h2,h3,h4⟩;{exact .inl h};{let hb:=hf.5 g h3<|hp g (by rw[h1];rfl);let:∀(o:Nat) (u:bk),aA w (N g o)=ae u->aA w' (N g o)=ae u:=λo u hu=>(dR (a:=⟨g,o,af⟩) hb).trans hu;refine bE ⟨g,ay,cap,h1,h2,eA h3 hf.4,λj hj=>?_⟩;simp_all}):φ:=h
def ik.fr{p w w' b}(h:ik w e b)(hf:co p w w')(hp:∀g,bA e=ae g->p g):ik w' e b:=by exact Na
def Ag.fr{p h}(d:Ag f a e h)(g:co p f m)(l:∀b,a<=b->p b):Ag m a e h:=by rcases d with d|⟨c,r,t,u,i,j,w⟩;{exact .inl d};{refine .inr ⟨c,r,t,u,eA i g.size,j,λn x=>?_⟩;let⟨y,C,A,z,k⟩:=w n x;exact⟨y,C,(dR (a:=⟨c,n,af⟩) (g.5 c i<|l c j)).trans A,z.fr g λb B=>l b<|k b B,k⟩}
def oA.at{d a}(v:oA f d e a):Ag f d e (b9 (·.2) a):=by
 rcases v.1.2 with⟨rfl,u⟩|⟨k,j,r,rfl,n,i,t,w,x,q⟩;{exact bJ<|bd U<|by grind};{
 refine bE ⟨k,j,ax,by grind,(dK.1 i).1,n,λb g=>?_⟩;rw[ff]at g;let c:=v.2 a[b]<|ei g;rw[pH];refine⟨c.2,a[b].1,?_,Ge c.1,λp o=>(c.1.lt p o).1⟩;have l:(b9 (·.1) a)[b]? = ae a[b].1:=by grind
 rw[<-q,qA G]at l;grind[aA]}
section
variable {w w2 w3:World} {base:Nat} {v vl u v':Value} {ps:List (Value×List eJ)} {gl:List eJ}{x:eJ}
theorem oA.aMg{go cap}(b:oA w base v<|ps++[(vl,gl)])(k:v=bL go 0 (E ps+1) cap)(j:w.grownBy w2<|bA vl)(y:w2.ownsRow base 98 5 v' (E gl+1)<|ex jq gl++jq x)(C:bA v'=bA vl\/bA v'=ae (J w.1)):oA (a7 w2 ⟨go,E ps,af⟩ v') base v (ps++[(v',gl++[x])])/\∀n,n<=base->cv n w w2->cv n w (a7 w2 ⟨go,E ps,af⟩ v'):=by
 let B:(vl,gl)∈ps++[(vl,gl)]:=ax;let q:=b.4 _ B;have e:=b.1.kept j<|bE<|Ne.symm q;let u:=b.1.lt;rw[dj,jg]at e;let l:bA v=ae go:=by rw[k];rfl
 let:=u go l;have h:=Ip (g:=go) (n:=E ps+1) (cap:=cap) (by rw[k]at e;exact e) (E ps) v';have r:(b9 (·.1) ps++[(vl,gl)].map (·.1)).set (E ps) v'=b9 (·.1) (ps++[(v',gl++[x])]):=by{simp};rw[r]at h;let o:=nK.1 b.3;have z:=λp a=>o.2.2 p a (vl,gl) ax;let:∀(c:bk×List eJ),c∈ps++[(vl,gl)]->bA c.1≠ae (J w.1):=λc A d=>by{let:=((b.2 c A).1.lt _ d).2;omega}
 have G:bA v'≠bA v:=λd=>by{grind};have F:∀p∈ps,bA p.1≠bA v':=λp a d=>by{grind};refine bd (⟨?_,?_,?_,?_⟩) ?_;{grind};{intro p a;rcases i_.1 a with a|a;{let i:=b.2 p (by grind);exact⟨(i.1.kept j<|bE<|z p a).kept h.2<|bE<|l▸b.4 p (by grind),i.2⟩};{simp only[yR]at a;subst a;refine bd ?_ ax;let:=y.kept h.2 (bE<|by grind);grind}};{grind};{intro p a;rcases i_.1 a with a|a;{exact b.4 p<|by grind};grind};{intro n D t;exact fc t (p:=⟨go,E ps,af⟩) (by grind) _}
theorem oA.au7(c:oA w base v ps)(n:a6 w w2)(i:w2.ownsRow base 98 5 u 1<|jq x)(j:bA u=ae (J w.1))(h:w2.grownBy w3<|bA v)(q:w3.ownsRow base 94 1 v' (E ps+1) (b9 (·.1) ps++[u]))(l:bA v'=bA v\/bA v'=ae (J w2.1)):oA w3 base v' (ps++[(u,[x])]):=by
 let:=c.1.lt;let:=(i.lt _ j).2;have:=λb a o d=>((c.2 b a).1.lt o d).2;let k:bA u≠bA v:=λd=>by grind
 have p:∀b∈ps,bA b.1≠bA v':=λb a d=>by{rcases l with e|e;{exact c.aw b a<|d.trans e};grind};refine⟨?_,?_,?_,?_⟩;{grind};{intro b a;rcases i_.1 a with a|a;{have g:=c.2 b a;exact bd ((g6 g.1 n).kept h<|bE<|c.4 b a) g.2};{simp only[yR]at a;subst a;refine bd ?_ ax;let:=i.kept h<|bE k;assumption}};{refine nK.2 ⟨c.3,.cons (λ_ c=>by cases c) .nil,λb a t r=>?_⟩;grind};grind
end
def Ue:aL.underlying 212=ae (.slice 94):=b6
def adx:(aL.info? 94).map (λa=>(a.8,a.3,a.4))=ae (ae<|bX,1,24):=b6
def Uf(j:g=J f.1)(i:dP):∀(b:Nat) (d:bk),[e][b]? = ae d->aA (aN f<|aZ #[e] i) (((N g 0):gU).add b)=ae d:=λb d a=>by
 have h:=cW f<|aZ #[e] i;rw[<-j]at h
 match b,a with
 |0,a=>simp at a;subst a;simp[Addr.add,aA,h]
 |k+1,a=>grind
def ady(d:aQ)(o:a=J d.1){j k g}(n:dP):∀(c:Nat) (h:bk),[r,j,k,e,g][c]? = ae h->aA (aN d<|aZ #[r,j,k,e,g] n) (((N a 0):gU).add c)=ae h:=λc h i=>by
 have b:=cW d<|aZ #[r,j,k,e,g] n;rw[<-o]at b
 match c,i with
 |0,i=>simp at i;subst i;simp[Addr.add,aA,b]
 |1,i=>simp at i;subst i;simp[Addr.add,aA,b]
 |2,i=>simp at i;subst i;simp[Addr.add,aA,b]
 |3,i=>simp at i;subst i;simp[Addr.add,aA,b]
 |4,i=>simp at i;subst i;simp[Addr.add,aA,b]
 |p+5,i=>grind
def adc(b c a):a_ aL 93 #[aE b 0 c,bX] a λd g=>d=bh (aG aD)/\g=a:=by
 go_wp2;go_loopw [5] (λe wr=>e=M 0/\wr=a) λ_ _=>0;·simp
 ·(obtain⟨rfl,rfl⟩:=hrel;go_wp2;go_ret;simp)
def ade(j:fG f e s)(p:E s<=1000):a_ aL 95 #[e,bX] f λi k=>i=bh (aG aD)/\k=f:=by obtain⟨n,ay,g,rfl,o,l⟩:=j;have:=l.1;have:¬(E s:Int)<0:=G;have c:=O λd b=>adc d b f;generalize E s=h at*;by_cases q:g=h;all_goals(go_in;go_wp21;refine(c _ _).m ?_;rintro r rfl;go_wp2;go_ret;simp)
def adf(q:lu f a d i)(b:tH d i):a_ aL 113 #[bv a,bX] f λo u=>(∃t:Bool,o=bh (aG t))/\a6 f u:=by
 obtain⟨B,j,ay,n,w,D,F,x⟩:=q;have:=(dK.1 w).1;have H:aA f (N a 1)=ae (bL j ay (E i) n):=by unfold aA;grind
 have g:=O x;have:=b.2.1;have k:=O b;go_wp2;go_loopw [5] (λr wr=>r=M 0/\wr=f) λ_ _=>0;·simp
 ·(obtain⟨rfl,rfl⟩:=hrel;by_cases e:0<E i;{have⟨A,rw',l,bG,y,z,cB,fe,fJ⟩:=(V g) 0 e;have p:=k.2.2 i[0]<|ei e;have h:=O<|ade fe<|nD p;rw[o7,h8]at l;go_wp21;refine h.m ?_;rintro C rfl;go_wp2;go_ret;exact⟨⟨aD,U⟩,cU _ _⟩};{have:¬0<(E i:Int):=G;go_wp2;go_ret;exact⟨bJ U,cU _ _⟩})
structure oG(vb:Option Nat)(n:Nat)(w w':World):Prop where
 os:w'.os=w.os
 tape:w'.tape=w.tape
 output:w'.output=w.output
 size:w.heap.size<=w'.heap.size
 block:∀k,k<w.heap.size->some k≠vb->w'.heap[k]? = w.heap[k]?
 cell:∀g,vb=some g->∀ay,(∀j,j<n->ay≠j*5)->w'.cell? (N g ay)=w.cell? (N g ay)
def oG.refl(c b a):oG c b a a:=⟨U,U,U,cO _,λ_ _ _=>U,λ_ _ _ _=>U⟩
section
variable {vb:Option Nat} {n:Nat}{w A C:World}
def oG.below(b:oG vb n w A)(d:a6 A C)(k:∀c,vb=ae c->c<J w.1):oG vb n w C:=
 ⟨cQ d.1 b.1,cQ d.2 b.2,cQ d.3 b.3,cJ b.4 d.4,λh g i=>(d.5 h<|eA g b.4).trans<|b.5 h g i,
  λc e ay j=>(dR (a:=⟨c,ay,af⟩) (d.5 c<|eA (k c e) b.4)).trans (b.6 c e ay j)⟩
def oG.set(a:oG vb n w A){b}(d:vb=ae b)(k:g<n)(i):oG vb n w (a7 A ⟨b,g*5,af⟩ i):=
 ⟨a.1,a.2,a.3,cJ a.4 ax,λh l e=>(qZ A (N b<|g*5) h i λp=>e<|by grind).trans<|a.5 h l e,
  λj o ay c=>by
   obtain rfl:b=j:=gm<|(b5 d).trans o;refine Eq.trans ?_<|a.6 b d ay c;have:ay≠g*5:=c g k;unfold aA a7
   grind⟩
def oG.aMD(g:oG vb n w A)(o:∀e,vb=ae e->∀d,d<n->∃b m j,aA w (N e<|d*5)=ae (aE b m j)){ay i}(c:aA w (N a ay)=ae (am i)):aA A (N a ay)=ae (am i):=by by_cases h:ae a=vb;{refine(g.6 a (b5 h) ay λd l k=>?_).trans c;grind};{exact(dR (a:=⟨a,ay,af⟩) (g.5 a (g_ w (N a ay) c) h)).trans c}
def oG.nm(c:oG vb n w A)(o:∀a,vb=ae a->∀b,b<n->∃g m h,aA w (N a<|b*5)=ae (aE g m h))(p:fG w e s):fG A e s:=by let⟨a,ay,i,j,k,d⟩:=p;exact⟨a,ay,i,j,k,eA d.1 c.4,λb l=>c.aMD o<|d.2 b l⟩
def oG.row(h:oG vb n w A){k}(i:ik w e k)(c:(∀b,bA e=ae b->vb≠ae b)\/k=[]\/n=0):ik A e k:=by rcases i with i|⟨b,ay,t,l,x,o,y⟩;{exact .inl i};{refine .inr ⟨b,ay,t,l,x,eA o h.size,λr v=>?_⟩;let z:(ae b≠vb\/n=0)->∀(d:Nat) (j:bk),aA w (N b d)=ae j->aA A (N b d)=ae j:=λg d j q=>by{by_cases p:ae b=vb;{rcases g with g|g;{simp_all};{exact(h.cell b p.symm d λr v=>G).trans q}};{exact(dR (a:=⟨b,d,af⟩) (h.5 b o p)).trans q}};let:=y r v;have g:ae b≠vb\/n=0:=by{rcases c with c|c|c;{exact .inl λu=>c b (by rw[l];rfl)<|b5 u};{rw[c]at v;simp at v};omega};simp_all}
end
def lF(a:bk×bk×aK):eJ:=(a.1,a.2.1,a.2.2,cE a.2.2.owner)
def Cp{a:List<|bk×bk×aK}:ex jq (b9 lF a)=ex rk a:=by rw[List.flatMap_map];rfl
def qy(c:bk)(b:List ap)(a:eJ):eJ:=if cE a.2.2.1.owner=er b then(c,a.2.1,a.2.2.1,b)else a
def kw(d:bk)(c:List ap)(b:List eJ)(a:Nat):List eJ:=b9 (qy d c) (be a b)++b.drop a
def KE{b}:E (kw e s b a)=E b:=by grind[kw]
def KF(d c){b}(e:a<E b):(kw d c b a)[a]? = ae b[a]:=by grind[kw]
def UJ(d c){b}(e:a<E b):kw d c b (a+1)=(kw d c b a).set a (qy d c b[a]):=by
 unfold kw;let g:E (b9 (qy d c)<|be a b)=a:=by grind
 rw[g8 e,jg,jM e,sK _ _ G,g,pX,iR,iz];rfl
def adg(d){c}(e:a<E c)(j:cE c[a].2.2.1.owner≠er s):kw d s c (a+1)=kw d s c a:=by
 let i:qy d s c[a]=c[a]:=by grind[qy]
 rw[UJ d s e,i];have g:=KF d s e;let h:a<E (kw d s c a):=by grind
 rw[fs h]at g;rw[<-gm g,List.set_getElem_self]
def adh{c}:b9 (·.2.2.1) (kw e s c a)=b9 (·.2.2.1) c:=by rw[kw,jg,lV];let:b9 ((·.2.2.1) ∘ qy e s) (be a c)=b9 (·.2.2.1) (be a c):=nj λb _=>by{show(qy e s b).2.2.1=b.2.2.1;grind[qy]};simp_all
def adi{a}:kw e s a (E a)=b9 (qy e s) a:=by simp[kw]
def adj{a}:kw e s a 0=a:=rfl
def UK:∀(b:List eJ) (a:Nat) (e:a<E b) (c:bk),(ex jq b).set (a*5) c=ex jq (b.set a (c,b[a].2))
 |d::b,0,_,c=>U
 |d::b,a+1,e,c=>by
  have g:a<E b:=by grind
  rw[kj,sK _ _ (by show 5<=_;omega),iy,kj];have:(a+1)*5-E (jq d)=a*5:=by show(a+1)*5-5=_;omega
  rw[this,UK b a g c];rfl
def adk(b){d}(j:a<E d)(r:cE d[a].2.2.1.owner=er s):((ex jq<|kw b s d a).set (a*5) b)=ex jq (kw b s d<|a+1):=by
 let o:qy b s d[a]=(b,d[a].2.1,d[a].2.2.1,s):=by grind[qy]
 let l:a<E (kw b s d a):=by rw[KE];exact j
 have k:=KF b s j;rw [fs l] at k;let n:=gm k;rw [UJ b s j,o];rw [UK (kw b s d a) a l b,n]
 let p:∀(g:List eJ) (e:Nat) (h i:eJ),jq h=jq i->ex jq (g.set e h)=ex jq (g.set e i):=by{
 intro g;induction g with
 |nil=>simp
 |cons u g t=>{
 intro e h i q;cases e with
 |zero=>grind
 |succ e=>grind}};exact p _ _ _ _ U
def adl{b w w' c}(h:ik w e c)(hf:co b w w')(hp:∀g,bA e=ae g->b g):ik w' e c:=by exact Na
def KY(g:fG f e s)(o:0<E s)(p:fC f a j l (bX) (bX)<|bX)(n:co (λq=>q≠a) f m):fG m e s:=by let⟨i,ay,h,k,r,d⟩:=g;exact⟨i,ay,h,k,r,d.fr n<|JW d o p⟩
def UL{xs:List eJ}(g:f.ownsRow a 98 5 e (E xs)<|ex jq xs)(h:0<E xs):∃v,bA e=ae v/\aA f (N v 2)=ae (M xs[0].2.2.1.type):=by rcases g.2 with⟨_,n⟩|⟨v,j,k,rfl,o,d,l,p,q,i⟩;{omega};{refine⟨v,U,?_⟩;have b:=Cl xs 0 h 2 G;rw[<-i,qA G]at b;rw[aA,d];simpa [jq]using b}
structure adn(w':World)(v:Value)(q:Int×Bool×List aK×List aK)(add:List aK)(qn:List ap)(t:Bool)(va vu vd:Value)(xa cH xd:List eJ):Prop where
 v:v=.agg #[M q.1,.bool q.2.1,va,vu,vd]
 ra:ik w' va xa
 eH:ik w' vu cH
 aTP:ik w' vd xd
 ma:xa.map (·.2.2.1)=q.2.2.1
 mu:cH.map (·.2.2.1)=q.2.2.2
 md:xd.map (·.2.2.1)=add
 la:∀x∈xa,x.2.2.2=if t=false/\cE x.2.2.1.owner=er qn then qn else cE x.2.2.1.owner
 Fp:∀x∈cH++xd,x.2.2.2=cE x.2.2.1.owner
 nm:∀x∈xa++(cH++xd),fG w' x.1 x.2.2.2/\fG w' x.2.1 (I 32 x.2.2.1.data)
def LD(k:aQ)(c:kP)(d:Int×Bool×List aK×List aK)(a:List aK)(e:List ap):Prop:=∃v g h j i l b n,c=bh v/\adn k v d a e g h j i l b n
def L7(h:φ:=by simp[c_,results51,go_sem,n0,n1,n2,n3,n4]):φ:=h
def Mg(h:φ:=by exact ⟨this.1.nm.below zo,this.2.nm.below zo,U⟩):φ:=h
def adR{t B:Nat}{cr x:ap}{cw:Int}{dK w:aQ}(dy:lu dK a d i)(cn:a6 dK w)(cL:hW d i)(b6:gR w t 0 s)(e5:E s<=B)(eH:s≠[])(dk:cE x=er s)(cG:gD x)(d3:E x<=260)(cD:∀b∈s,E b<=255)(e_:E s<=300)(db:(gn d i j x).2.2.2≠[]->(∀aX∈(gn d i j x).2.2.1,aX.type=5)/\∀aX∈(gn d i j x).2.2.2,aX.type≠5):a_ aL 51 #[bv a,ce #[aS cr,bL t 0 (E s) B,M j,M q,aG l,M cw,M y]] w λe dY=>LD dY e (gn d i j x) (kN d i j x) s/\a6 w dY:=by
 have⟨eM,eR,eI,eK,eL⟩:=im wx;have⟨fO,cu⟩:=bm (aZ #[am<|D cr,aE (ae ⟨t,0,af⟩) (E s) B,ag ai j,ag ai q,aG l,ag ai cw,ag ai y] 122:g7);have⟨eV,cq⟩:=bm (aZ #[ag ai 0,aG ak,aE af 0 0,aE af 0 0,aE af 0 0] 102:g7);have a8:ao (a6 w<|aN (aN w fO) eV):=(cf cc bo _).alloc ax _;have dr:J (aN (aN w fO) eV).1=J w.1+2:=ax;have bl:ao ((aN (aN w fO) eV).1[J w.1]? = ae (aZ #[am<|D cr,aE (ae ⟨t,0,af⟩) (E s) B,ag ai j,ag ai q,aG l,ag ai cw,ag ai y] 122)):=by{rw[ao,<-cu];exact G9};have cm:ao (fC (aN (aN w fO) eV) (J w.1+1) 0 ak (bX) (bX)<|bX):=by{have:=cW (aN w fO) eV;rw[eE]at this;rw[fC,ao,this,cq]};have c6:=O dy;have a5:=O cL;have cR:=O cD;have Z:=O<|cj dk<|cj cG d3;have cy:=O db;have dX:=O λea (aq:a6 w ea)=>bC cn<|bN aq cn.4;have bF:=O b6;have dI:=b6.1;clear dy cL cD dk cG d3 db cn b6;go_wp2;rw[<-cu,<-cq];have⟨aR,dx⟩:=du<|aN (aN w fO) eV;rw[dx]at a8 dr bl cm⊢;have:J w.1+2<=J aR.1:=G;clear dx cu cq dr;go_loopw [5,6] (λeO av wr=>∃k:Nat,av=M k/\k<=E s/\lX wr (J aR.1) eO (be k<|er s)/\a6 aR wr) λ_ av _=>E s-cM (fj av);·exact⟨0,U,dJ _,⟨ih _ _ _ _,ax⟩,cU _ _⟩
 ·(
 obtain⟨k,rfl,hk,aM,aq⟩:=hrel;have aT:=O aq;have br:=O aM;have:=aq.4;have b0:wr.1[J w.1]? = _:=(aq.5 (J w.1) G).trans<|V bl;have bi:aA wr (N (J w.1) 1)=ae (bL t 0 (E s) B):=by simp[aA,b0]
 have eZ:aA wr (N (J w.1) 2)=ae (M j):=by simp[aA,b0]
 clear aq aM b0;by_cases hlk:k<E s;{
 have bG:aA wr (N t k)=ae (am<|D s[k]):=by{have aF:=bF.2 k hlk;rw[fM]at aF;exact((bC a8<|bN aT G).cell (p:=⟨t,k,af⟩) dI).trans aF};have eN:=V cR s[k]<|ei hlk;have ec:ao (be (k+1) (er s)=be k (er s)++[s[k].map gq]):=Ni;have cN:ao (E (be k<|er s)=k):=by rw[ao,iv,qc,ro hk]
 generalize s[k]=b at*;have dT:=O<|Qz b wr G;have d6:(k:Int)<E s:=G;generalize eo:be k (er s)=d9 at*;clear eo eN;go_wp2_with fail;refine dT.m λe8 ba=>?_;have bU:=O ba;have:=ba.4;have fU:=O<|g6 br.1 ba;have:=V cN;clear ba dT bG bi eZ;go_wp2_with (at_builtin;go_loud (refine sQ _ U (.tmp 18) (.tmp 25) 92 U (J aR.1) 9 eM (am ⟨#[]⟩) 1 16 yk eR eI eK eL U bW _ (E d9) _ U (fU.alloc _) (N (J e8.1) 0) 1 1 [aS<|b9 gq b] U U (Bm _ _ _) (λfr hu=>yn) lN G ct ?_));intro e7 r hown' hgrow Hx _;have c8:ao (lX r (J aR.1) e7 (be (k+1)<|er s)/\a6 aR r):=by{rw[ao,V ec];exact MO};clear hown' hgrow Hx;go_wp2;exact⟨⟨k+1,dd,G,c8.1,c8.2⟩,dz⟩};{
 obtain rfl:k=E s:=G;have aM:=V br;rw[mS (by rw[qc];exact cO _),<-Z.1]at aM;have d6:¬(E s:Int)<E s:=G;obtain⟨bT,ci,rfl,b3,fh,ca⟩:=sF aM<|Fl x;have d2:=O ca;have ed:=Ez x;have cs:=bC a8<|bN aT G;have cx:=O cs;have cF:=O<|LL j (gn d i j x) (V c6) (dX wr cs) (λ_ _ h=>h) (λ_ _ h=>h) (V a5)<|bJ ⟨bT,0,ci,x,U,λh=>h,ca,b3,Z.2.1,Z.2.2,U⟩;have:((E (cE x):Int)==0)=ak:=by simp[Fl x]
 clear aM br hlk hk ca cs cR;go_wp2_with fail;refine eb cF ?_;rintro e r ⟨⟨v,rfl,dw⟩,aH⟩;have⟨d_,a4⟩:=bm<|gn d i j x;have⟨cA,bH⟩:=bm<|kN d i j x;have dl:JV i (gn d i j x)=cA:=by rw[bH];rfl
 rw [dl,<-a4] at dw;rw [<-a4] at cy;have a2:=O<|cj a4 bH;obtain ⟨ft,fv,fu,rfl,eS,ek,eT,dm⟩:=dw;obtain ⟨H,dR,bB,cK⟩:=eS;obtain ⟨L,cV,u1,u2⟩:=ek;obtain ⟨u,dO,bQ,c4⟩:=eT;have:=aH.4;have dh:=bC cx<|bN aH cx.4;have aU:=O dh
 have bf:∀{v:bk} {c:Nat} {xs:List bk},r.ownsRow (J wr.1) 98 5 v c xs->∃cp bM,v=aE cp c bM:=λh=>by{rcases h.2 with⟨h,aF⟩|⟨g,fe,bP,h,_⟩;{exact⟨af,0,by rw[h,aF]⟩};{exact⟨_,_,h⟩}};have⟨z,F,d5⟩:=bf bB;have⟨P,Q,eq⟩:=bf u1;have⟨S,T,d8⟩:=bf bQ;have dG:=O<|(aH.5 (J w.1) G).trans<|(aT.5 (J w.1) G).trans<|V bl;have dH:ao (fC r (J w.1+1) 0 ak (bX) (bX)<|bX):=(aH.5 (J w.1+1) G).trans<|(aT.5 (J w.1+1) G).trans<|V cm;have bp:=O<|d2.below aH;have au:=O<|cj dR<|cj bB cK;have aj:=O<|cj cV<|cj u1 u2;have aW:=O<|cj dO<|cj bQ c4;have cH:=O dm;clear dR bB cK cV u1 u2 dO bQ c4 dm aH dh cF aT a8 cx bl cm d2 a4 bH dl bf;subst d5 eq d8;obtain⟨ar,al,az,aB⟩:=d_;simp only at*;go_wp2_with fail;have⟨a3,bw⟩:=bm (aZ #[ag ai ar,aG al,aE z (E H) F,aE P (E L) Q,aE S (E u) T] 102:g7);rw[<-bw];have bb:a6 r (aN r a3):=cf cc bo _;have cJ:ao (fC (aN r a3) (J r.1) ar al (aE z (E H) F) (aE P (E L) Q)<|aE S (E u) T):=by{rw[fC,ao,cW,bw]};have:J (aN r a3).1=J r.1+1:=ax;have cb:=O bb;have c5:=bC aU<|bN bb aU.4;have cX:E (cE x)<=1000:=by rw[Z.1,qc];omega
 have cC:=O<|Jl (c6.below<|dX _ c5) (Fs<|V a5) ⟨bT,0,ci,U,b3,bp.below bb⟩ cX ed;clear bb c5;generalize aN r a3=fw at*;refine cC.m λC bc=>?_;have zo:=bC cb<|bN bc cb.4;have⟨aw,dt⟩:=bm<|p8 i<|cE x;rw[<-dt];clear dt;have:=bc.4;have cY:ao (fC C (J r.1) ar al (aE z (E H) F) (aE P (E L) Q)<|aE S (E u) T):=(bc.5 (J r.1) G).trans<|V cJ;have e9:=O<|(zo.5 (J w.1) G).trans<|V dG;have e0:ao (fC C (J w.1+1) 0 ak (bX) (bX)<|bX):=(zo.5 (J w.1+1) G).trans<|V dH;have ee:=O<|bp.below zo;have a9:=O<|bC aU<|bN zo aU.4;have⟨o,a0⟩:=bm<|b9 lF H;have a1:E o=E H:=by rw[a0,ff]
 have bj:ao (C.ownsRow (J wr.1) 98 5 (aE z (E H) F) (E H)<|ex jq o):=by rw[ao,a0,Cp];exact g6 au.2.1 zo
 have aJ:ao (∀b∈o,fG C b.1 (cE b.2.2.1.owner)/\fG C b.2.1 (I 32 b.2.2.1.data)/\b.2.2.2=cE b.2.2.1.owner):=λb bO=>by{rw[a0]at bO;obtain⟨Y,ad,rfl⟩:=kE.1 bO;have:=au.2.2 Y ad;exact⟨this.1.nm.below zo,this.2.nm.below zo,U⟩};have bu:ao (b9 (·.2.2.1) o=az):=by rw[ao,a0,lV];exact au.1
 have bI:ao (ik C (aE P (E L) Q) (b9 lF L)/\ik C (aE S (E u) T) (b9 lF u)/\(∀b∈b9 lF L++b9 lF u,fG C b.1 (cE b.2.2.1.owner)/\fG C b.2.1 (I 32 b.2.2.1.data)/\b.2.2.2=cE b.2.2.1.owner)/\b9 (·.2.2.1) (b9 lF L)=aB/\b9 (·.2.2.1) (b9 lF u)=cA):=by{
 have dM:C.ownsRow (J wr.1) 98 5 (aE P (E L) Q) (E<|b9 lF L) (ex jq<|b9 lF L):=by rw[Cp,ff];exact g6 aj.2.1 zo
 have dN:C.ownsRow (J wr.1) 98 5 (aE S (E u) T) (E<|b9 lF u) (ex jq<|b9 lF u):=by rw[Cp,ff];exact g6 aW.2.1 zo
 refine ⟨Ge dM,Ge dN,λb bO=>?_,by rw [lV];exact aj.1,by rw [lV];exact aW.1⟩;rcases i_.1 bO with bO |bO;{obtain ⟨Y,ad,rfl⟩:=kE.1 bO;have:=aj.2.2 Y ad;exact Mg};{obtain ⟨Y,ad,rfl⟩:=kE.1 bO;have:=aW.2.2 Y ad;exact Mg}};have aa:ao ((∀g,bA (aE z (E H) F)=ae g->J wr.1<=g/\g<J r.1)/\(∀g,bA (aE P (E L) Q)=ae g->J wr.1<=g/\g<J r.1)/\(∀g,bA (aE S (E u) T)=ae g->J wr.1<=g/\g<J r.1)):=⟨fS au.2.1,fS aj.2.1,fS aW.2.1⟩
 have cI:ao (bA (aE P (E L) Q)≠bA (aE z (E H) F)\/b9 lF L=[]\/H=[]):=by{by_cases R:L=[];{exact bE<|bJ (by rw[R];rfl)};by_cases an:H=[];{exact bE<|bE an};refine bJ λW=>?_;have ef:aB≠[]:=λe=>R (by have:=aj.1;rw[e]at this;simpa using this);have⟨e1,e2⟩:=V cy ef;have cg:=tn.2 an;have bq:=tn.2 R;obtain⟨g,bS,dB⟩:=UL (xs:=b9 lF H) (by rw[Cp,ff];exact au.2.1) (by rw[ff];exact cg);obtain⟨dc,aV,dC⟩:=UL (xs:=b9 lF L) (by rw[Cp,ff];exact aj.2.1) (by rw[ff];exact bq);have d7:=gm<|(b5 bS).trans<|(b5 W).trans aV;rw[d7]at dB;rw[dB]at dC;have cZ:((b9 lF H)[0]'(by rw[ff];exact cg)).2.2.1.type=((b9 lF L)[0]'(by rw[ff];exact bq)).2.2.1.type:=by{have:=gm dC;simpa using this};rw[pH,pH]at cZ;refine e2 L[0].2.2 ?_ ?_;{rw[<-aj.1];exact Be<|ei bq};{refine(Eq.symm cZ).trans<|e1 H[0].2.2 ?_;rw[<-au.1];exact Be<|ei cg}};have X:ao (∀g,bA (aE z (E H) F)=ae g->∀ah,ah<E H->∃cp m bM,aA C (N g<|ah*5)=ae (aE cp m bM)):=λg K ah dn=>by{have en:z=ae (N g 0):=by{rcases bj.2 with⟨h,_⟩|⟨dc,c3,bP,h,_⟩;{rw[h]at K;cases K};{have R:=(js h).1;rw[R]at K⊢;simp[bA]at K;rw[K]}};have dp:=V bj;rw[en]at dp;have aI:=lG dp (ah*5) G;have bO:=Cl o ah G 0 G;rw[h8]at bO;rw[bO]at aI;have⟨de,fi,fd,aV,_,_⟩:=(aJ o[ah]<|ei _).1;exact⟨_,_,_,cQ aI<|eQ ae aV⟩};have el:=O (cj U U:(az=az/\aB=aB));have⟨c,b4⟩:=bm<|E H;rw[<-b4]at cY bj aa cI X a1 cH⊢;have eg:ao (H=[]->c=0):=λh=>by rw[b4,h];rfl
 clear b4 cC au aj aW cJ cb aU dG dH bp bc zo a0 bw el cy;have fl:c<=1000:=by{have h:=(vU (V a5) j 9 aD ak [] x Z.2.1 Z.2.2 (λaX b7=>by cases b7)<|dJ _).2.2.1;have e:jd d (ck i) j 9 aD ak [] x=(ar,al,az,aB):=b5 a2.1;rw[e]at h;have an:=eQ List.length<|V bu;rw[ff,a1]at an;simp only at h;omega};generalize wr=d0 at*;go_wp2;go_loopw [9] (λav wr=>∃bK:Nat,av=M bK/\bK<=c/\(aw=aD->bK=0)/\ao (wr.ownsRow (J d0.1) 98 5 (aE z c F) c (ex jq<|kw (bL t 0 (E s) B) s o bK)/\oG (bA<|aE z c F) c C wr)) λav _=>c-cM (fj av);·exact⟨0,U,dJ _,λ_=>U,by rw[kw,qW,pW];exact bj,oG.refl _ _ _⟩
 ·(
 obtain⟨bK,rfl,aO,cT,bR⟩:=hrel;have⟨ac,n⟩:=V bR;have dL:wr.1[J r.1]? = C.1[J r.1]?:=n.5 _ G λe=>cd<|(aa.1 _<|b5 e).2;have⟨eW,eX,fa,fy,eY⟩:=(cY.kept dL).cells;have em:∀g,bA (aE z c F)=ae g->g<J C.1:=λg K=>cd<|(aa.1 g K).2
 have dV:wr.1[J w.1]? = C.1[J w.1]?:=n.5 _ G λe=>cd<|(aa.1 _<|b5 e).1;have bi:aA wr (N (J w.1) 1)=ae (bL t 0 (E s) B):=by simp[aA,dV,V e9]
 have:=n.4;by_cases aI:bK<c/\aw=ak;{
 obtain⟨eG,rfl⟩:=aI;clear cT;have aP:bK<E o:=G;obtain⟨g,eh⟩:∃g,z=ae ⟨g,0,af⟩:=by{rcases ac.2 with⟨_,aF⟩|⟨g,c3,bP,h,_⟩;{omega};{exact⟨g,(js h).1⟩}};subst eh;have:=aa.1 g U;have fg:c<=F:=by{rcases ac.2 with⟨_,aF⟩|⟨dc,c3,bP,h,_,_,bY,_⟩;{omega};{have:=(js h).2.2;omega}};have b2:aA wr (N g<|bK*5)=ae o[bK].1:=by{
 have R:=lG ac (bK*5) G;have an:bK<E (kw (bL t 0 (E s) B) s o bK):=by rw[KE];exact aP
 have bY:=Cl _ bK an 0 G;have di:=KF (bL t 0 (E s) B) s aP;rw[fs an]at di;rw[h8,gm di]at bY;rw[R,bY];rfl};have eC:=Dj ac<|bK*5;have dU:=V aJ o[bK]<|ei aP;have dA:=n.nm (V X) dU.1;have dD:=n.nm (V X) ⟨bT,0,ci,U,b3,ee⟩;have c7:E (cE o[bK].2.2.1.owner)<=1000:=by{have h:=(vU (V a5) j 9 aD ak [] x Z.2.1 Z.2.2 (λaX b7=>by cases b7)<|dJ _).1;have e:jd d (ck i) j 9 aD ak [] x=(ar,al,az,aB):=b5 a2.1;rw[e]at h;have R:=(h o[bK].2.2.1<|(V bu)▸Be (ei aP)).2;have an:=nM 46 o[bK].2.2.1.owner;rw[rU];omega};have bs:=O<|rQ dA dD c7 cX;have dW:ao (cE o[bK].2.2.1.owner≠cE x->kw (bL t 0 (E s) B) s o (bK+1)=kw (bL t 0 (E s) B) s o bK):=λh=>adg _ aP<|Z.1▸h;have cB:ao (cE o[bK].2.2.1.owner=cE x->((ex jq<|kw (bL t 0 (E s) B) s o bK).set (bK*5)<|bL t 0 (E s) B)=ex jq (kw (bL t 0 (E s) B) s o<|bK+1)):=λh=>adk _ aP<|Z.1▸h;obtain⟨fb,fn,fm,cS,_,_⟩:=dA;have:(bK:Int)<c:=G;rw[cS]at bs b2;generalize E (cE o[bK].2.2.1.owner)=ol,cE o[bK].2.2.1.owner=eU at*;clear dU dD c7 cS ac n dL dV eW eX fy eY;go_wp2_with fail;refine bs.m λdZ aC=>?_;have⟨ac,n⟩:=V bR;have bD:=g6 ac aC;have c0:=n.below aC em;have:=(aC.cell (p:=⟨J w.1,1,af⟩) (by show J w.1<_;omega)).trans bi;have:aA dZ (N g<|bK*5)=_:=(aC.cell (p:=⟨g,bK*5,af⟩) Ct).trans b2;have:=Dj bD<|bK*5;have:aA dZ (N (J r.1) 2)=_:=(aC.cell (p:=⟨J r.1,2,af⟩) (by show J r.1<_;omega)).trans fa;have c1:=O bD;have c2:=O c0;clear ac n bD c0 aC bs bR bi b2 eC fa;by_cases aY:eU=cE x;{have bt:=O<|cB aY;rw[lx aY];clear aY cB dW;go_wp2;have ds:=Ip (V c1) (bK*5)<|bL t 0 (E s) B;rw[V bt]at ds;exact⟨⟨bK+1,dd,G,(λh=>by cases h),ds.1,c2.set U eG _⟩,dz⟩};{have bt:=O<|dW aY;rw[fI aY];go_wp2;exact⟨⟨bK+1,dd,G,(λh=>by cases h),(V bt)▸c1,c2⟩,dz⟩}};{
 have e4:wr.1[J w.1+1]? = C.1[J w.1+1]?:=n.5 _ G (λe=>by have:=(aa.1 _<|b5 e).1;omega);have b1:=e0.kept e4;obtain ⟨fo,dM,dN,fp,fq⟩:=b1.cells;have:=b1.frozen;have et:=bC a9 ⟨n.1,n.2,n.3,n.4,λk hk=>n.5 k (by have:=a9.4;omega) (λe=>by have:=(aa.1 _<|b5 e).1;omega)⟩
 have eu:ao (∃ay,ik wr (aE z c F) ay/\b9 (·.2.2.1) ay=az/\(∀b∈ay,b.2.2.2=if aw=ak/\cE b.2.2.1.owner=er s then s else cE b.2.2.1.owner)/\∀b∈ay,fG wr b.1 b.2.2.2/\fG wr b.2.1 (I 32 b.2.2.1.data)):=by{
 refine⟨kw (bL t 0 (E s) B) s o bK,Ge (by rw[KE,a1];exact ac),by rw[adh];exact bu,?_⟩;cases aw with
 |true=>{rw[cT U,adj];refine⟨λb bO=>?_,λb bO=>?_⟩;{rw[bV ax];exact(aJ b bO).2.2};{have h:=V aJ b bO;rw[h.2.2];exact⟨n.nm (V X) h.1,n.nm (V X) h.2.1⟩}}
 |false=>{have eD:bK=E o:=by{rw[a1];exact Nat.le_antisymm aO<|Nat.le_of_not_lt λh=>aI ⟨h,U⟩};rw[eD,adi];have ej:=n.nm (V X) ⟨t,0,B,U,e5,eA bF.1 a9.4,λah dn=>(a9.cell (p:=⟨t,0+ah,af⟩) dI).trans (bF.2 ah dn)⟩;refine⟨λb bO=>?_,λb bO=>?_⟩;{obtain⟨Y,ad,rfl⟩:=kE.1 bO;have h:=V aJ Y ad;unfold qy;by_cases W:cE Y.2.2.1.owner=er s;{rw[b8 W,b8 ⟨U,W⟩]};{rw[bV W,bV λh=>W h.2];exact h.2.2}};{obtain⟨Y,ad,rfl⟩:=kE.1 bO;have h:=V aJ Y ad;unfold qy;by_cases W:cE Y.2.2.1.owner=er s;{rw[b8 W];exact⟨ej,n.nm (V X) h.2.1⟩};{rw[bV W,h.2.2];exact⟨n.nm (V X) h.1,n.nm (V X) h.2.1⟩}}}};have es:ao (ik wr (aE P (E L) Q) (b9 lF L)/\ik wr (aE S (E u) T) (b9 lF u)/\∀b∈b9 lF L++b9 lF u,b.2.2.2=cE b.2.2.1.owner/\fG wr b.1 b.2.2.2/\fG wr b.2.1 (I 32 b.2.2.1.data)):=by{have⟨bS,aV,ev,_,_⟩:=V bI;refine⟨n.row bS ?_,n.row aV<|bJ λg K=>V cH g K,λb bO=>?_⟩;{rcases V cI with h|h|h;{exact .inl λg K W=>h<|cQ K<|b5 W};{exact bE<|bJ h};{exact bE<|bE<|eg h}};{have h:=ev b bO;rw[h.2.2];exact⟨U,n.nm (V X) h.1,n.nm (V X) h.2.1⟩}};have dF:=O et;have dE:=O b1;have eP:¬(bK:Int)<c\/((bK:Int)<c/\aw=aD):=by{by_cases R:bK<c;{right;refine⟨G,?_⟩;cases aw;{exact absurd ⟨R,U⟩ aI};{rfl}};{left;omega}};rcases eP with R|⟨R,fx⟩;all_goals(go_wp2;have bn:=(((((dE.set0 ar).set1 al).set2<|aE z c F).lM<|aE P (E L) Q).o6<|aE S (E u) T);have ab:co (λk=>k≠J w.1+1) wr (a7 (a7 (a7 (a7 (a7 wr ⟨J w.1+1,0,af⟩<|ag ai ar) ⟨J w.1+1,1,af⟩<|aG al) ⟨J w.1+1,2,af⟩<|aE z c F) ⟨J w.1+1,3,af⟩<|aE P (E L) Q) ⟨J w.1+1,4,af⟩<|aE S (E u) T):=(((((co.j9 (A:=wr) (a:=⟨J w.1+1,0,af⟩) _ λ_ h=>h).trans (co.j9 (a:=⟨J w.1+1,1,af⟩) _ λ_ h=>h)).trans (co.j9 (a:=⟨J w.1+1,2,af⟩) _ λ_ h=>h)).trans (co.j9 (a:=⟨J w.1+1,3,af⟩) _ λ_ h=>h)).trans (co.j9 (a:=⟨J w.1+1,4,af⟩) _ λ_ h=>h));have bz:=bC dF ⟨ab.1,ab.2,ab.3,ab.4,λk hk=>ab.5 k (cd dF.4) G⟩;revert bn ab bz;generalize a7 _ _ _=d1;intro bn ab bz;have⟨n0,n1,n2,n3,n4⟩:=bn.cells;have⟨ay,ew,ey,c9,da⟩:=V eu;have⟨eB,de,dg⟩:=V es;refine dQ (v:=ce #[ag ai ar,aG al,aE z c F,aE P (E L) Q,aE S (E u) T]) L7 U ⟨⟨_,aw,aE z c F,aE P (E L) Q,aE S (E u) T,ay,b9 lF L,b9 lF u,U,?_⟩,bz⟩;rw[<-a2.1,<-a2.2];have b_:∀{v:bk} {xs:List eJ},ik wr v xs->(∀g,bA v=ae g->J d0.1<=g/\g<J r.1)->ik d1 v xs:=λh aq=>adl h ab λg K=>cd<|(aq g K).1;have bd:∀{v:bk} {cl:List ap},fG wr v cl->0<E cl->fG d1 v cl:=λh eF=>KY h eF (V dE) ab;have e3:∀b∈ay,0<E b.2.2.2:=λb bO=>by{rw[c9 b bO];split;{exact tn.2 eH};{exact Ez _}};refine⟨U,b_ ew aa.1,b_ eB aa.2.1,b_ de aa.2.2,ey,bI.2.2.2.1,bI.2.2.2.2,c9,λb bO=>(dg b bO).1,λb bO=>?_⟩;rcases i_.1 bO with bO|bO;{exact⟨bd (da b bO).1<|e3 b bO,bd (da b bO).2<|BP 32 _⟩};{have h:=dg b bO;exact⟨bd h.2.1<|h.1▸Ez _,bd h.2.2<|BP 32 _⟩})})})
def adS{c w}(ay:lu f a d i)(z:a6 f w)(al:hW d i):a_ aL 51 #[bv a,ce #[aS Q,bX,M q,M j,aG l,M y,M c]] w λR Z=>LD Z R (5,ak,[],[]) [] []/\a6 w Z:=by
 have⟨fO,X⟩:=bm (aZ #[am<|D Q,aE af 0 0,ag ai q,ag ai j,aG l,ag ai y,ag ai c] 122:g7);have⟨eV,T⟩:=bm (aZ #[ag ai 0,aG ak,aE af 0 0,aE af 0 0,aE af 0 0] 102:g7);have n:ao (a6 w<|aN (aN w fO) eV):=(cf cc bo _).alloc ax _;have av:J (aN (aN w fO) eV).1=J w.1+2:=ax;have aM:(aN (aN w fO) eV).1[J w.1]? = ae (aZ #[am<|D Q,aE af 0 0,ag ai q,ag ai j,aG l,ag ai y,ag ai c] 122):=by{rw[<-X];exact G9};have aI:aA (aN (aN w fO) eV) (N (J w.1) 1)=ae (bX):=by simp_all
 have aJ:aA (aN (aN w fO) eV) (N (J w.1) 2)=ae (M q):=by simp_all
 have P:ao (fC (aN (aN w fO) eV) (J w.1+1) 0 ak (bX) (bX)<|bX):=by{have:=cW (aN w fO) eV;rw[eE]at this;unfold fC;rw[ao,this,T]};have K:=O ay;have H:=O al;have Y:=O λaj (au:a6 w aj)=>bC z<|bN au z.4;go_wp2;rw[<-X,<-T];have⟨B,aw⟩:=du<|aN (aN w fO) eV;rw[aw]at n av aI aJ P⊢;have:J w.1+2<=J B.1:=G;go_loopw [5,6] (λaC u wr=>aC=bX/\u=M 0/\wr=B) λ_ _ _=>0;·simp
 ·(
 obtain⟨rfl,rfl,t⟩:=hrel;have e:=b5 t;subst e;have ah:=O<|LL q (0,ak,[],[]) (V K) (Y B n) (λ_ _ o=>o) (λ_ _ o=>o) (V H)<|bE ⟨U,U⟩;go_wp2_with fail;refine eb ah ?_;rintro R S ⟨⟨v,rfl,aW,aY,aX,rfl,aF,an,aH,_⟩,W⟩;obtain⟨aO,bG,rfl⟩:=aF.slice;obtain⟨aP,aT,rfl⟩:=an.slice;obtain⟨aR,aU,rfl⟩:=aH.slice;have aq:=bC n<|bN W G;have:=W.4;have aB:ao (fC S (J w.1+1) 0 ak (bX) (bX)<|bX):=(W.5 (J w.1+1) G).trans<|V P;have I:=O aq;go_wp2_with fail;have⟨g,F⟩:=bm (aZ #[ag ai 5,aG ak,aE af 0 0,aE af 0 0,aE af 0 0] 102:g7);rw[<-F];have L:a6 S (aN S g):=cf cc bo _;have ad:fC (aN S g) (J S.1) 5 ak (bX) (bX) (bX):=by unfold fC;rw[cW,F]
 have aK:fC (aN S g) (J w.1+1) 0 ak (bX) (bX) (bX):=(L.5 (J w.1+1) G).trans<|V aB;have k:=bC I<|bN L I.4;have ac:=O<|adf (K.below<|Y _ k)<|Fs<|V H;refine eb ac ?_;rintro R C ⟨⟨aV,rfl⟩,r⟩;have ap:fC C (J S.1) 5 ak (bX) (bX) (bX):=(r.5 (J S.1) ax).trans ad;have A:fC C (J w.1+1) 0 ak (bX) (bX) (bX):=(r.5 (J w.1+1) ct).trans aK;have ar:=O<|bC k<|bN r k.4;have:=ap.cells;have:=A.cells;have:=A.frozen;have az:=O A;go_wp2;go_loopw [9] (λu wr=>u=M 0/\wr=C) λ_ _=>0;·simp
 ·(obtain⟨rfl,t⟩:=hrel;have e:=b5 t;subst e;go_wp2;have x:=(((((az.set0 5).set1 ak).set2<|bX).lM<|bX).o6<|bX);have h:=(((((fc ar (p:=⟨J w.1+1,0,af⟩) ax (M 5)).setCell (p:=⟨J w.1+1,1,af⟩) ax (aG ak)).setCell (p:=⟨J w.1+1,2,af⟩) ax (bX)).setCell (p:=⟨J w.1+1,3,af⟩) ax (bX)).setCell (p:=⟨J w.1+1,4,af⟩) ax (bX));revert x h;generalize a7 _ _ _=a0;intro x h;have⟨n0,n1,n2,n3,n4⟩:=x.cells;refine dQ (v:=ce #[ag ai 5,aG ak,aE af 0 0,aE af 0 0,aE af 0 0]) L7 U ⟨⟨_,aD,bX,bX,bX,[],[],[],U,?_⟩,h⟩;exact⟨U,bJ<|bd U U,bJ<|bd U U,bJ<|bd U U,U,U,U,λaa b=>(by cases b),λaa b=>(by cases b),λaa b=>by cases b⟩))
section
open Go.Sort
def jN:ap:=[101,120,97,109,112,108,101,46,111,114,103]
def v6:ap:=[111,114,105,103,105,110,32,101,120,97,109,112,108,101,46,111,114,103,10,101,120,97,109,112,108,101,46,111,114,103,32,51,48,48,32,83,79,65,32,110,115,46,101,120,97,109,112,108,101,46,111,114,103,32,97,100,109,105,110,46,101,120,97,109,112,108,101,46,111,114,103,32,55,32,54,48,10,101,120,97,109,112,108,101,46,111,114,103,32,51,48,48,32,78,83,32,110,115,46,101,120,97,109,112,108,101,46,111,114,103,10,110,115,46,101,120,97,109,112,108,101,46,111,114,103,32,51,48,48,32,65,32,49,57,50,46,48,46,50,46,49,10,119,119,119,46,101,120,97,109,112,108,101,46,111,114,103,32,54,48,32,67,78,65,77,69,32,119,101,98,46,101,120,97,109,112,108,101,46,111,114,103,10,119,101,98,46,101,120,97,109,112,108,101,46,111,114,103,32,54,48,32,65,32,49,57,50,46,48,46,50,46,56,48,10,42,46,119,105,108,100,46,101,120,97,109,112,108,101,46,111,114,103,32,54,48,32,84,88,84,32,104,105,10,115,117,98,46,101,120,97,109,112,108,101,46,111,114,103,32,51,48,48,32,78,83,32,110,115,46,115,117,98,46,101,120,97,109,112,108,101,46,111,114,103,10,110,115,46,115,117,98,46,101,120,97,109,112,108,101,46,111,114,103,32,51,48,48,32,65,32,49,57,50,46,48,46,50,46,57,10]
def j_:List aK:=[([101,120,97,109,112,108,101,46,111,114,103],300,6,[110,115,46,101,120,97,109,112,108,101,46,111,114,103,32,97,100,109,105,110,46,101,120,97,109,112,108,101,46,111,114,103,32,55,32,54,48]),([101,120,97,109,112,108,101,46,111,114,103],300,2,[110,115,46,101,120,97,109,112,108,101,46,111,114,103]),([110,115,46,101,120,97,109,112,108,101,46,111,114,103],300,1,[49,57,50,46,48,46,50,46,49]),([119,119,119,46,101,120,97,109,112,108,101,46,111,114,103],60,5,[119,101,98,46,101,120,97,109,112,108,101,46,111,114,103]),([119,101,98,46,101,120,97,109,112,108,101,46,111,114,103],60,1,[49,57,50,46,48,46,50,46,56,48]),([42,46,119,105,108,100,46,101,120,97,109,112,108,101,46,111,114,103],60,16,[104,105]),([115,117,98,46,101,120,97,109,112,108,101,46,111,114,103],300,2,[110,115,46,115,117,98,46,101,120,97,109,112,108,101,46,111,114,103]),([110,115,46,115,117,98,46,101,120,97,109,112,108,101,46,111,114,103],300,1,[49,57,50,46,48,46,50,46,57])]
def LG:List aK:=[([42,46,119,105,108,100,46,101,120,97,109,112,108,101,46,111,114,103],60,16,[104,105]),([101,120,97,109,112,108,101,46,111,114,103],300,2,[110,115,46,101,120,97,109,112,108,101,46,111,114,103]),([101,120,97,109,112,108,101,46,111,114,103],300,6,[110,115,46,101,120,97,109,112,108,101,46,111,114,103,32,97,100,109,105,110,46,101,120,97,109,112,108,101,46,111,114,103,32,55,32,54,48]),([110,115,46,101,120,97,109,112,108,101,46,111,114,103],300,1,[49,57,50,46,48,46,50,46,49]),([110,115,46,115,117,98,46,101,120,97,109,112,108,101,46,111,114,103],300,1,[49,57,50,46,48,46,50,46,57]),([115,117,98,46,101,120,97,109,112,108,101,46,111,114,103],300,2,[110,115,46,115,117,98,46,101,120,97,109,112,108,101,46,111,114,103]),([119,101,98,46,101,120,97,109,112,108,101,46,111,114,103],60,1,[49,57,50,46,48,46,50,46,56,48]),([119,119,119,46,101,120,97,109,112,108,101,46,111,114,103],60,5,[119,101,98,46,101,120,97,109,112,108,101,46,111,114,103])]
def Va:jm v6=ae (jN,j_):=b6
def Fx:ck j_=LG:=by simp only[ck,Sort.insertionSort,show E j_=8 from U];rw[insOuter_go _ _ _ _ _ bW,insOuter_go _ _ _ _ _ bW,insOuter_go _ _ _ _ _ bW,insOuter_go _ _ _ _ _ bW,insOuter_go _ _ _ _ _ bW,insOuter_go _ _ _ _ _ bW,insOuter_go _ _ _ _ _ bW,insOuter_stop _ _ _ _ _ bW];kernel_rfl
def aez:lO jN j_=aD:=b6
def afg:ln jN LG=aD:=b6
def afh:jE v6=ae (jN,LG):=by rw[jE,Va];show(if lO jN j_&&ln jN (ck j_)then ae (jN,ck j_)else af)=_;rw[Fx,aez,afg];rfl
def Fz:kl v6=ae (jN,j_):=by rw[kl,b8 ⟨Nat.le_of_ble_eq_true b6,by rw[afh];rfl⟩,Va]
end
def Ol(b:Nat->Prop)(d:aQ)(c:Nat)(v:bk)(a:Int×Bool×List aK×List aK)(i:List aK):Prop:=
 ∃e h g,v=ce #[M a.1,aG a.2.1,e,h,g]/\ek b d c e a.2.2.1/\ek b d c h a.2.2.2/\ek b d c g i
def afX(p i k j d a e g h l b)(F:lu l p d e)(G:a6 l b)(q:∀c,c<J l.1->¬h c)(r:∀c,J b.1<=c->¬h c)(t:¬h i)(u:hW d e)(B:gR b i k<|cE a)(H:E (cE a)<=j)(C:gD a)(D:E a<=260):a_ aL 97 #[bv p,bL i k (E<|cE a) j,M g] b λo n=>(∃v,o=bh v/\Ol h n (J b.1) v (gn d e g a) (kN d e g a))/\a6 b n:=by refine(LL g (gn d e g a) F G q r u<|bJ ⟨i,k,j,a,U,t,B,H,C,D,U⟩).mono ?_;rintro o n ⟨⟨v,rfl,I,L,K,w,x,y,z,_⟩,A⟩;exact⟨⟨v,U,I,L,K,w,x,y,z⟩,A⟩
def kK(b:ap)(a:Int):Bool:=eL b&&decide (1<=a)&&decide (a<=65535)
def AI(g:Nat->Prop)(d:ap)(e:List aK)(a:ap)(b:Int)(i:aQ)(h:Nat)(c:kP):Prop:=
 if kK a b then ∃v,c=bh (bZ #[v,M 0])/\Ol g i h v (gn d e b a) (kN d e b a)
 else c=bh (bZ #[ce #[M 0,aG ak,bX,bX,bX],M 2])
section
def afY(a d c b):(binOp .eql 92 (aE a d c)<|bX).run aL b=.ok (aG a.isNone) b:=LF b _ _ a d c 0 0 yk
attribute [local go_sem] afY
def Nx(h:φ:=by have bn:ao (kK n t=ak):=by{unfold ao kK;grind};clear hpl;go_wp2_with fail;obtain⟨n0,n1,n2,n3,n4⟩:=aVf.cells;refine dQ (v:=bZ #[ce #[ag ai 0,aG ak,aE af 0 0,aE af 0 0,aE af 0 0],ag ai 2]) ?_ U ⟨V Bb _ (V bn) U _ U,lH⟩;simp[c_,results42,go_sem,n0,n1,n2,n3,n4]):φ:=h
def afZ(aa k n l t d B w)(aH:lu B aa k l)(W:a6 B w)(al:∀b,b<J B.1->¬d b)(an:∀b,J w.1<=b->¬d b)(ar:hW k l)(bc:E n<=2000000):a_ aL 42 #[bv aa,aS n,M t] w λg aP=>AI d k l n t aP (J w.1) g/\a6 w aP:=by
 obtain⟨o,X⟩:∃o:g7,o=aZ #[ag ai 0,aG ak,aE af 0 0,aE af 0 0,aE af 0 0] 102:=eR _ U;have S:a6 w (aN w o):=cf cc bo _;have bI:J (aN w o).1=J w.1+1:=eE w _;have av:fC (aN w o) (J w.1) 0 ak (bX) (bX) (bX):=by{unfold fC;rw[cW,X]};have a5:=O aH;have aO:=O<|bC W<|bN S W.4;have aX:=O al;have ap:=O an;have a2:=O ar;have bl:=O av;have a1:=O S;have aJ:=O<|yj n ak (aN w o) bc;clear aH ar S av W al an;go_enter func42,ntmps42;go_wp2_with fail;rw[<-X];refine eb aJ ?_;rintro g Z ⟨⟨bm,rfl,q⟩,u⟩;have bK:=u.4;have N:=O<|bC a1<|bN u G;have z:=bl.kept<|u.5 (J w.1) G;have aI:=O z;obtain⟨bp,bq,br,bs,bt⟩:=z.cells;have aR:=z.frozen;have aY:=O<|bC aO<|bN u aO.4;clear z u aJ X;have Bb:ao (∀K,kK n t=K->K=ak->∀g,g=bh (bZ #[ce #[M 0,aG ak,bX,bX,bX],M 2])->AI d k l n t (a7 (a7 (a7 (a7 (a7 Z ⟨J w.1,0,af⟩<|ag ai 0) ⟨J w.1,1,af⟩<|aG ak) ⟨J w.1,2,af⟩<|aE af 0 0) ⟨J w.1,3,af⟩<|aE af 0 0) ⟨J w.1,4,af⟩<|aE af 0 0) (J w.1) g):=λK bB bF g bD=>by{unfold AI;grind};have lH:ao (a6 w<|a7 (a7 (a7 (a7 (a7 Z ⟨J w.1,0,af⟩<|ag ai 0) ⟨J w.1,1,af⟩<|aG ak) ⟨J w.1,2,af⟩<|aE af 0 0) ⟨J w.1,3,af⟩<|aE af 0 0) ⟨J w.1,4,af⟩<|aE af 0 0):=((((fc N (p:=⟨J w.1,0,af⟩) bo _).setCell (p:=⟨J w.1,1,af⟩) bo _).setCell (p:=⟨J w.1,2,af⟩) bo _).setCell (p:=⟨J w.1,3,af⟩) bo _).setCell (p:=⟨J w.1,4,af⟩) bo _;have ab:=(((((aI.set0 0).set1 ak).set2<|bX).lM<|bX).o6<|bX);have aVf:=O ab;clear ab;cases h:hO ak n with
 |none=>{
 rw[h]at q;have a0:bm=bX:=q;subst a0;have bn:ao (kK n t=ak):=by{
 have:eL n=ak:=by rw[<-rp,h];rfl
 unfold ao kK;grind};clear q h;go_wp2_with fail;obtain⟨n0,n1,n2,n3,n4⟩:=aVf.cells;refine dQ (v:=bZ #[ce #[ag ai 0,aG ak,aE af 0 0,aE af 0 0,aE af 0 0],ag ai 2]) ?_ U ⟨V Bb _ (V bn) U _ U,lH⟩;simp[c_,results42,go_sem,n0,n1,n2,n3,n4]}
 |some j=>{
 rw[h]at q;have ba:j=I 46 n:=by{unfold hO at h;grind};subst ba;have hpl:eL n=aD:=by rw[<-rp,h];rfl
 rw[<-rn (CN hpl)]at q;obtain⟨_,aF,a3,rfl,a9,bG,ac⟩:=q;have bi:=O ac;have bu:=O hpl;clear ac h;by_cases bw:t<1;{exact Nx};by_cases bz:65535<t;{exact Nx};have bn:ao (kK n t=aD):=by{unfold ao kK;grind};have H:=O<|afX aa aF 0 a3 k n l t d B Z (V a5) (V aY) (V aX) (λb bH=>V ap b G) (ap aF G) (V a2) (V bi) a9 (hC hpl).1<|cJ (hC hpl).2 G;obtain⟨x,F⟩:∃x,kN k l t n=x:=eR _ U;obtain⟨C,D⟩:∃C,gn k l t n=C:=eR _ U;rw[F,D]at H;have ay:=O<|cj D F;obtain⟨aM,au,aw,aC⟩:=C;clear hpl F D;go_wp2_with fail;refine eb H ?_;rintro g bS ⟨⟨bO,rfl,bf⟩,A⟩;obtain⟨bP,bR,bQ,rfl,P,R,Q⟩:=bf;have bL:=A.4;have i:=aI.kept<|A.5 (J w.1) G;have bj:=O i;have a4:=O<|bC N<|bN A N.4;have aT:=O<|AM P (λ_ e=>e) (base':=J w.1+1) G i;have aU:=O<|AM R (λ_ e=>e) (base':=J w.1+1) G i;have aV:=O<|AM Q (λ_ e=>e) (base':=J w.1+1) G i;obtain⟨ad,az,rfl⟩:=P.slice;obtain⟨ah,aq,rfl⟩:=R.slice;obtain⟨aj,aB,rfl⟩:=Q.slice;obtain⟨bT,bU,bV,bW,bY⟩:=i.cells;have bM:=i.frozen;clear P R Q A i H bp bq br bs bt aR;go_wp2_with fail;have aW:=(((((bj.set0 aM).set1 au).set2<|aE ad (E aw) az).lM<|aE ah (E aC) aq).o6<|aE aj (E x) aB);obtain⟨n0,n1,n2,n3,n4⟩:=aW.cells;have c:∀{v:bk} {j:List aK} {r:aQ} (T:Nat) (Y:bk),ek (λb=>b=J w.1\/d b) r (J w.1+1) v j->ek (λb=>b=J w.1\/d b) (a7 r ⟨J w.1,T,af⟩ Y) (J w.1+1) v j:=λT Y e=>e.set (a:=⟨J w.1,T,af⟩) Y (bJ U) ax;have L:∀{v:bk} {j:List aK} {r:aQ},ek (λb=>b=J w.1\/d b) r (J w.1+1) v j->ek d r (J w.1) v j:=λe=>N0 (e.imp (y:=d) λ_ _ bb _ a8=>bb<|bE a8) G;refine dQ (v:=bZ #[ce #[ag ai aM,aG au,aE ad (E aw) az,aE ah (E aC) aq,aE aj (E x) aB],ag ai 0]) ?_ U (bd ?_ ?_);{simp[c_,results42,go_sem,n0,n1,n2,n3,n4]};{unfold AI;rw[V bn,ay.1,ay.2];exact⟨_,U,_,_,_,U,L<|c 4 _<|c 3 _<|c 2 _<|c 1 _<|c 0 _<|V aT,L<|c 4 _<|c 3 _<|c 2 _<|c 1 _<|c 0 _<|V aU,L<|c 4 _<|c 3 _<|c 2 _<|c 1 _<|c 0 _<|V aV⟩};{have hB:=V a4;exact M2}}
end
def m8(d:ap)(e:List aK)(a:ap)(b:Int)(h:aQ)(g:Nat)(c:kP):Prop:=
 if kK a b then ∃v,c=bh (bZ #[v,M 0])/\As h g v (gn d e b a) (kN d e b a)
 else c=bh (bZ #[ce #[M 0,aG ak,bX,bX,bX],M 2])
def HF(h:φ:=by have bn:ao (kK n t=ak):=by{grind[ao,kK]};clear hpl;go_wp2;let⟨n0,n1,n2,n3,n4⟩:=aVf.cells;refine dQ (v:=bZ #[ce #[ag ai 0,aG ak,aE af 0 0,aE af 0 0,aE af 0 0],ag ai 2]) ?_ U ⟨Bb _ bn U _ U,lH⟩;simp[c_,results31,go_sem,n0,n1,n2,n3,n4]):φ:=h
def FC(ay h aX aM t d n e a)(ap:hW d e)(au:gJ a ay d h aX aM<|ck e)(ac:dx a)(bb:E n<=2000000):a_ aL 31 #[bv ay,aS n,M t] a λb z=>m8 d e n t z (J a.1) b/\a6 a z:=by
 obtain⟨c,ad⟩:∃c:g7,c=aZ #[ag ai 0,aG ak,aE af 0 0,aE af 0 0,aE af 0 0] 79:=eR _ U;have ab:a6 a (aN a c):=cf cc bo _;let bc:J (aN a c).1=J a.1+1:=eE a _;have aq:fd (aN a c) (J a.1) (M 0) (aG ak) (bX) (bX) (bX):=by{rw[fd,cW,ad]};have an:ao (a_ aL 70 #[aS n] (aN a c) λb z=>b=bh (aG<|eL n)/\cv (J (aN a c).1) (aN a c) z):=by{have:=r7 (s:=D n) (ac.below ab) (by rw[cV];simp[fk];omega);rw[o8]at this;exact this};have aP:=O au;have aB:=O ac;have aJ:=O ap;have aW:=O aq;have aI:=O ab;clear au ac ap aq ab;go_enter func31,ntmps31;go_wp2_with fail;rw[<-ad];refine an.m ?_;intro A r;have bf:=r.4;have T:=O<|bC aI<|bN r G;have q:fd A (J a.1) (M 0) (aG ak) (bX) (bX) (bX):=(r.5 (J a.1) G).trans aW;have av:=O q;let⟨aY,a0,a1,a2,a3⟩:=fd.cells q;have aC:=fd.frozen q;clear q r an ad;let Bb:ao (∀h,kK n t=h->h=ak->∀b,b=bh (bZ #[ce #[M 0,aG ak,bX,bX,bX],M 2])->m8 d e n t (a7 (a7 (a7 (a7 (a7 A ⟨J a.1,0,af⟩<|ag ai 0) ⟨J a.1,1,af⟩<|aG ak) ⟨J a.1,2,af⟩<|aE af 0 0) ⟨J a.1,3,af⟩<|aE af 0 0) ⟨J a.1,4,af⟩<|aE af 0 0) (J a.1) b):=λh aa ba b a9=>by{grind[m8]};let lH:ao (a6 a<|a7 (a7 (a7 (a7 (a7 A ⟨J a.1,0,af⟩<|ag ai 0) ⟨J a.1,1,af⟩<|aG ak) ⟨J a.1,2,af⟩<|aE af 0 0) ⟨J a.1,3,af⟩<|aE af 0 0) ⟨J a.1,4,af⟩<|aE af 0 0):=((((fc T (p:=⟨J a.1,0,af⟩) bo _).setCell (p:=⟨J a.1,1,af⟩) bo _).setCell (p:=⟨J a.1,2,af⟩) bo _).setCell (p:=⟨J a.1,3,af⟩) bo _).setCell (p:=⟨J a.1,4,af⟩) bo _;let aVf:=O<|((((fd.set0 av<|M 0).set1<|aG ak).set2<|bX).lM<|bX).o6<|bX;cases hpl:eL n with
 |false=>{exact HF}
 |true=>{have a4:=O hpl;by_cases a5:t<1;{exact HF};by_cases a8:65535<t;{exact HF};have bn:ao (kK n t=aD):=by{grind[ao,kK]};have K:=hC hpl;have S:=O λaF (aa:a6 a aF)=>N1 (t:=t) aJ (aP.below aa) (aB.below aa) K.1 (cJ K.2 G);obtain⟨g,Q⟩:∃g,kN d e t n=g:=eR _ U;obtain⟨C,P⟩:∃C,gn d e t n=C:=eR _ U;rw[Q,P]at S;have ar:=O<|cj P Q;let⟨ah,N,R,X⟩:=C;clear hpl Q P K;go_wp2_with fail;refine(LK (D n) A lv).m ?_;intro aj u;have bi:=u.4;have Y:=O<|bC T<|bN u T.4;have aw:fd aj (J a.1) (M 0) (aG ak) (bX) (bX) (bX):=(u.5 (J a.1) G).trans av;have aV:=O aw;clear aw u aY a0 a1 a2 a3 aC;go_wp21;refine(S aj Y).mono ?_;rintro b al ⟨⟨bm,rfl,bp,bq,br,rfl,j,o,l,x,y,jr⟩,w⟩;have bj:=w.4;have aU:=O<|bC Y<|bN w Y.4;have B:fd al (J a.1) (M 0) (aG ak) (bX) (bX) (bX):=(w.5 (J a.1) G).trans aV;have az:=O B;let⟨bs,bt,bu,bw,bz⟩:=fd.cells B;have bl:=fd.frozen B;have aO:=O<|cj j<|cj o<|cj l<|cj x<|cj y jr;obtain⟨F,V,rfl⟩:=j.slice;obtain⟨H,L,rfl⟩:=o.slice;obtain⟨I,W,rfl⟩:=l.slice;clear j o l x y jr B w S;go_wp2;let aH:=((((fd.set0 az<|M ah).set1<|aG N).set2<|aE F (E R) V).lM<|aE H (E X) L).o6<|aE I (E g) W;let⟨n0,n1,n2,n3,n4⟩:=aH.cells;let⟨j,o,l,x,y,jr⟩:=aO;let Z:∀{v:bk} {ax:List aK},dH al (J aj.1) v ax->dH (a7 (a7 (a7 (a7 (a7 al ⟨J a.1,0,af⟩<|ag ai ah) ⟨J a.1,1,af⟩<|aG N) ⟨J a.1,2,af⟩<|aE F (E R) V) ⟨J a.1,3,af⟩<|aE H (E X) L) ⟨J a.1,4,af⟩<|aE I (E g) W) (J a.1) v ax:=λaR=>(((((aR.ri (k:=J a.1) (i:=0) G _).ri (k:=J a.1) (i:=1) G _).ri (k:=J a.1) (i:=2) G _).ri (k:=J a.1) (i:=3) G _).ri (k:=J a.1) (i:=4) G _).base G;refine dQ (v:=bZ #[ce #[ag ai ah,aG N,aE F (E R) V,aE H (E X) L,aE I (E g) W],ag ai 0]) ?_ U (bd ?_ ?_);{simp[c_,results31,go_sem,n0,n1,n2,n3,n4]};{rw[m8,bn,ar.1,ar.2];exact⟨_,U,_,_,_,U,Z j,Z o,Z l,x,y,jr⟩};{let aT:=aU;exact((((fc aT (p:=⟨J a.1,0,af⟩) bo _).setCell (p:=⟨J a.1,1,af⟩) bo _).setCell (p:=⟨J a.1,2,af⟩) bo _).setCell (p:=⟨J a.1,3,af⟩) bo _).setCell (p:=⟨J a.1,4,af⟩) bo _}}
def wl(m:Int):List bk:=[am ⟨#[]⟩,M m,M 0,am ⟨#[]⟩]
def jf(m:Int)(a:Nat):List bk:=(List.replicate a<|wl m).flatten
def LB(c:aQ)(b:Nat)(v:bk)(m:Int)(a:Nat):Prop:=c.ownsRow b 83 4 v a<|jf m a
def CU(m:Int)(a:Nat):E (jf m a)=a*4:=by
 unfold jf;induction a with
 |zero=>rfl
 |succ a b=>rw[List.replicate_succ,List.flatten_cons,dj,b];show 4+_=_;omega
def HX(m:Int)(b a:Nat):jf m (b+a)=jf m b++jf m a:=by unfold jf;rw[<-List.flatten_append,List.replicate_append_replicate]
def afI(m:Int)(d:a<=g):be (a*4) (jf m g)=jf m a:=by obtain⟨c,rfl⟩:∃c,g=a+c:=⟨g-a,G⟩;rw[HX,List.take_append_of_le_length (by rw[CU];omega),<-CU m a,jc]
def Oo(m:Int)(d:Nat):∀b∈jf m d,b.oneCell'=aD:=by intro b a;let⟨e,c,a⟩:=List.mem_flatten.1 a;have:=List.eq_of_mem_replicate c;subst this;simp only[wl,fw,List.not_mem_nil,n_]at a;rcases a with rfl|rfl|rfl|rfl<;>rfl
section
variable {P:Program} (w:World)
theorem Ot(r:Nat)(h p d:dP)(b:TypeInfo)(q:bk)(size B:Nat)(y:P.underlying h=ae (.slice d))(aO:P.info? d=ae b)(D:b.8=ae q)(M:b.3=size) (K:b.4=B) (aa:J q.cells=size) (Z:0<size)(v:bk) (a:Nat) (A:List bk) (x:w.ownsRow r d size v a A)(j:gU) (m l:Nat) (c:List bk) (n:E c=m*size) (u:∀O z,c[O]? = ae z->aA w (j.add O)=ae z) (H:∀z∈c,z.oneCell'=aD)(I:a+m<=fk) (C:(a+m)*B<=140737488355328) (T:r<=J w.1) (X:0<m):∃i k,(Builtin.append_ #[h,h] p #[v,aE (ae j) m l]).run P w=.ok i k/\k.ownsRow r d size i (a+m) (A++c)/\w.grownBy k (bA v)/\(∃R S,i=aE R (a+m) S)/\(bA i=bA v\/(bA i=ae (J w.1)/\a6 w k)):=by
 let⟨i,k,e,Q,ab,_,ap⟩:=run_append_own_at (P:=P) w r h p d b q size B y aO D M K aa Z v a A x j m l c n u H I C T;refine⟨i,k,e,Q,ab,?_,?_⟩;{rcases Q.2 with⟨_,aj⟩|⟨g,t,_,rfl,_⟩;{omega};{exact wa}};{
 subst M;subst K;let ah:a+m<=9223372036854775807:=by simp only[fk]at I;omega
 rcases x.2 with⟨rfl,rfl⟩|⟨g,t,F,rfl,al,W,aq,an,V,ad⟩;{let o:=run_append_nil (P:=P) w h p d b q y aO D j m l c n u X G (by simp only[fM]at C;omega);rw[o]at e;cases e;exact bE<|bd U<|(cU _ w).drew.alloc bo _};{
 by_cases L:a+m<=t;{
 let ac:a*b.3+E c<=J F:=by rw[n,V,<-C2];exact tp _ L
 let o:=run_append_room (P:=P) w h p d b y aO g a t F W j m l c n u H L ac;rw[o]at e;cases e;exact bJ U};{let Y:=x.cells (g:=g) U;let o:=run_append_grow (P:=P) w h p d b q y aO D (N g 0) a t A x.1 Y j m l c n u G G (growslice_fits G C);rw[o]at e;cases e;exact bE<|bd U<|(cU _ w).drew.alloc bo _}}}
end
def afJ{h:Nat}(m:LB f h e j a)(q:gU)(v u:Nat)(z:0<v)(A:a+v<=1000000)(aa:h<=J f.1)(y:∀c b,(jf j v)[c]? = ae b->aA f (q.add c)=ae b):∃g i,(Builtin.append_ #[77,77] 77 #[e,aE (ae q) v u]).run aL f=.ok g i/\LB i h g j (a+v)/\f.grownBy i (bA e)/\(∃Q R,g=aE Q (a+v) R)/\(bA g=bA e\/bA g=ae (J f.1))/\(∀b c,c<=a+v->LB f h b j c->LB i h b j c):=by
 let⟨al,aO,C,D,F⟩:=im vY;let⟨g,i,H,t,I,an,K⟩:=Ot (P:=aL) f h 77 77 83 al _ 4 48 ym aO C D F U G e a (jf j a) m q v u (jf j v) (CU j v) y (Oo j v) up G aa z;let Z:=VL (P:=aL) f ym aO C D F G m (CU j v) y (Oo j v) up G H z;rw[<-HX]at t;refine⟨g,i,H,t,I,an,K.imp id λm=>m.1,λb c ah p=>?_⟩;rcases K with x|⟨x,ac⟩;{
 by_cases o:bA b=bA e;{
 refine bd p.1 ?_;rcases p.2 with A|⟨r,T,w,rfl,ab,ad,aq,ar,au,aF⟩;{exact bJ A};{
 have B:bA g=ae r:=by rw[x,<-o];rfl
 rcases t.2 with⟨rfl,_⟩|⟨l,ay,k,rfl,ax,L,aB,aC,jr,ap⟩;{cases B};{
 have X:l=r:=by simpa [bA]using B
 subst X;rcases m.2 with⟨rfl,_⟩|⟨n,V,aw,rfl,_,az,_,_,aH,_⟩;{
 have:bA (aE af 0 0)=ae l:=by rw[<-o];rfl
 cases this};{
 have Y:n=l:=by{
 have:bA (aE (ae<|N n 0) a V)=ae l:=by rw[<-o];rfl
 simpa [bA]using this};subst Y;let aj:J k=J w:=by{
 let⟨S,M,av,_⟩:=Z.1 n w ad;rw[L]at M;have:k=S:=by simpa using M
 rw[this];exact av};refine bE ⟨n,T,k,U,ab,L,aq,ar,aj▸au,?_⟩;have:be (c*4) (be ((a+v)*4) k.1)=be (c*4) (jf j<|a+v):=by rw[ap]
 rw[List.take_take,ro G,afI j ah]at this;exact this}}}};{
 refine An p I ?_;cases O:bA b with
 |none=>exact yu
 |some r=>exact bE λW=>o<|O▸W}};{exact g6 p ac}
end Go.Proofs.YtkkpahmoljiepabGreatDoor
