import Derived.Test.YtkkpahmoljiepaaGreatDoorJ08
import Derived.Deep.RegionHeldLaw
import Derived.Test.YtkkpahmoljiepaaGreatDoorJ09
set_option maxRecDepth 1000000
set_option maxHeartbeats 12800000
set_option linter.all false
open Array renaming size->U
open Bool renaming false->ao,true->aE
open Decidable renaming decide->dQ
open Eq renaming symm->bZ,trans->c_
open Go renaming Calls->bd,Ending->nO,TypeId->d_,Value->bm,World->aQ,maxLen->hC,results->dr,run_takeDeferred->mI
open Go.Ending renaming returned->bg
open Go.Fence renaming wide->fm
open Go.IntKind renaming i64->am,u16->fs,u8->ck,wrap->DC
open Go.Obj renaming cells->aS,deferred->dq,loop->dR
open Go.Proofs renaming intOf->fJ
open Go.Proofs.Tryz renaming prog->aK
open Go.RowKit renaming Below->cB,Hid->ax
open Go.RowKit.Below renaming alloc->ct,mono->bV,setCell->fk,trans->bN
open Go.Value renaming agg->ci,bool->aG,func->fc,iface->cV,int->ak,ownBlock->bW,pointer->cM,slice->aL,string->amz,tuple->bX
open Go.World renaming alloc->aO,alloc_heap_new->du,cell?->aD,drew->bq,putObj->eF,putObj_heap_other->kW,putObj_size->zy,setCell->a_
open Int renaming toNat->c7
open List renaming length->E,map->b9,take->amA,toArray->dl
open Option renaming none->ai,some->ag
open Or renaming inl->bG,inr->bE
open UInt8 renaming toNat->be
namespace Go.Proofs.YtkkpahmoljiepaaGreatDoor
open Go.RowKit Go.Proofs.Tryz
variable{a d h:Nat}{f m u:World}{c g v:ap}{e s F:Value}{i p:Int}{j q y:List D}{l:Bool}{r:List ap}{z:TypeId}{B Z:Nat → Prop}{Q:List UInt8}
def aew:(aK.info? 177).map (λa=>(a.8,a.3,a.4))=ag (ag<|ci #[ak am 0,ak am 0],2,16):=b8
def aex:aK.underlying 81=ag (.slice 177):=b8
def aey(j:h=U f.1)(e g:Int)(i:d_):∀(b:Nat) (d:bm),[ak am e,ak am g][b]? = ag d->aD (aO f<|aS #[ak am e,ak am g] i) ((⟨h,0,ai⟩:Addr).add b)=ag d:=λb d a=>by
 subst j
 match b,a with
 | 0,a=>simp at a;subst a;simp[Addr.add]
 | 1,a=>simp at a;subst a;exact(bk.fF f [ak am e,ak am g] i).cell 1 aA
 | k+2,a=>simp at a
def aez(b c:Int):∀a∈[ak am b,ak am c],a.oneCell'=aE:=by intro a hu;exact Ky
def aeA{a:List<|Int×Int}:E (a.flatMap λb=>[ak am b.1,ak am b.2])=E a*2:=by
 induction a with
 | nil=>rfl
 | cons b a c=>rw[l5,dE,c,ey,ey,ey,h8];omega
def aeC{c:List<|Int×Int}(i:xK f 0 e c):∃h l,e=aL h (E c) l/\∀a,c.getLast? = ag a->∃b,h=ag ⟨b,0,ai⟩/\aD f ⟨b,(E c-1)*2,ai⟩=ag (ak am a.1)/\aD f ⟨b,(E c-1)*2+1,ai⟩=ag (ak am a.2):=by
 have j:=i;obtain⟨q,⟨rfl,k⟩|⟨b,o,p,rfl,_⟩⟩:=i;{exact⟨_,_,by rw[k],λa d=>by rw[iM k]at d;cases d⟩};{
 refine⟨_,_,af,λa d=>⟨b,af,?_⟩⟩;obtain⟨v,rfl⟩:=List.getLast?_eq_some_iff.1 d;have n:(E (v++[a])-1)*2=E (v.flatMap λa=>[ak am a.1,ak am a.2]):=by rw[aeA,dE];rfl
 have:E (v++[a])=E v+1:=aA;rw[nz j _ G,nz j _ G,n,rR,uC<|cW _,uC<|Nat.le_succ _];simp}
def yJ(j d:aQ)(h k l:Nat)(n i o:bm)(c:cw):Prop:=∃a,o7 d h k n a o { c.st l 0 with b:=c.1 }/\(bW a=bW i\/∃e,bW a=ag e/\U j.1<=e)/\cL (λg=>g≠h/\ag g≠bW i) j d
def yJ.mk{A:Nat}{w:bm}{c:cw}{x y:Bool}{z:List<|Int×Int}(I:o7 f a d e s w c)(G:iR m a d e F ⟨ao,w,λ_=>True⟩ c.4 l x y A)(B:l=(c.st h 0).6)(D:x=(c.st h 0).7)(u:y=(c.st h 0).8)(L:A=c.9+1)(H:xK m 0 F z)(K:z=(c.st h 0).5)(J:bW F=bW s\/∃g,bW F=ag g/\U f.1<=g)(n:cL (λi=>i≠a/\ag i≠bW s) f m):yJ f m a d h e s w c:=by subst B D u L K;obtain⟨r,j,k,t,M⟩:=I;exact⟨F,⟨G,t7 j<|n.5 d j.2.lt ⟨jj j.2 r bL,lk j.2 t bL⟩,mN k λg q=>n.5 g (pX k q) ⟨λC=>lk r k bL<|by rw[q,C],V2 k t bL q⟩,H,AR M λi N _ p=>n.5 i p.lt ⟨jj p r bL,lk p t bL⟩⟩,J,n⟩
def FV{P:Prop}(h:P:=by rw[hwc];rfl):P:=h
def Qp{P:Prop}(h:P:=by go_wp2;go_meet;·exact⟨by rw[V HD ao cx],af⟩):P:=h
def PT{P:Prop}(h:P:=by go_wp2;go_meet;·exact⟨by rw[V HD aE cx],af⟩):P:=h
def PS{P:Prop}(h:P:=by clear q0;go_wp2;go_meet;·exact⟨by rw[<- h2],af⟩):P:=h
def O9{P:Prop}(h:P:=by exact(cL.j9 _ λi h=>h.1).trans<|cL.j9 _ λi h=>h.1):P:=h
def HQ{P:Prop}(h:P:=by simp[cw.st,hb,<- V Iy]):P:=h
def aeD{b:Nat}{q:UInt8}{D:bm}{o:cw}(h:o7 f a d D e F o)(br:b<25600)(bs:o.9<=1000000000000)(a1:E o.5<=1000000000000):bd aK 155 #[cM<|ag ⟨a,0,ai⟩,ak am b,ak ck<|be q] f λg a6=>g=bg (bX #[])/\dg a6 a (o.st b q)/\cI bH a f a6:=by
 have⟨i0,aN,hz0,hz1,hz2⟩:=jN aew;have u:=ae λi=>tP h (i:=i);have bD:=jj h.1 h.2.1.2 bL;have⟨s1,hs1⟩:=bi<|o.9+1;have bA:(o.9:Int)+1=s1:=G;have:s1<=2000000000000:=G;have aj:=ae hs1;have ar:=rH h.1;have bC:=VX h.1;have an:=rp h.1;have bx:¬(b:Int)<0:=G;have bz:¬25600<=(b:Int):=G;have p:=ae h;have l:=ae<|aen h.1 s1;have:=sF h.1;have⟨A,hW1⟩:=bi<|a_ f ⟨a,9,ai⟩<|ak am s1;rw[<- hW1]at l;have R:=ae hW1;have⟨c,hrg⟩:=bi<|o0 b;have Iy:=ae hrg;clear h hs1 hrg bs;go_in;go_upto_region 4 with fail;rw[<- hW1];clear ar bC an bx bz bA hW1;go_cut [38]from 29 λv t=>v=aG (dQ<|c=1)/\t=A;·(have HD:ax (∀y:Bool,(y=aE ↔ (512<=b/\b<1024)\/13312<=b)->y=dQ (c=1)):=λy hb=>by{rw[sd,hb,V Iy,sq];unfold o0;split<;>omega};by_cases bR:512<=(b:Int);{by_cases bK:(b:Int)<1024;{exact PT};{have:=gD bK;by_cases bM:13312<=(b:Int);{exact PT};{exact Qp}}};{have bM:¬13312<=(b:Int):=G;exact Qp})
 ·(
 obtain⟨rfl,x⟩:=hcut;rw[x];clear x;have W:c=0\/c=1:=by rw[V Iy];unfold o0;split<;>omega
 go_upto_if 38 with fail;go_cut [6]from 29 λv t=>v=ak am c/\t=A;·(rcases W with rfl|rfl;all_goals(go_wp2;go_meet;·exact⟨af,af⟩))
 ·(
 obtain⟨rfl,x⟩:=hcut;rw[x];clear x;have ay:ax (∀y:Bool,(y=aE ↔ b=130+512*c\/b=131+512*c)->y=p5 b):=λy hb=>by unfold p5;rw[<- V Iy,sd,hb];simp
 have a3:=VU<|V l;have bF:aD A ⟨a,7+c,ai⟩=ag (aG<|o.qH c):=by{rcases W with rfl|rfl;{exact VV<|V l};{exact VW<|V l}};have au:=CG<|V l;have Z:=CF<|V l;have ar:=rH<|V l;have an:=rp<|V l;have⟨ab,hx0⟩:=bi<|130+512*c;have⟨a7,hx1⟩:=bi<|131+512*c;have⟨av,Eu⟩:=bi<|512*c;have bv:am.wrap (512*(c:Int))=(av:Int):=fT
 have bt:am.wrap (130+(av:Int))=(ab:Int):=fT
 have bu:am.wrap (131+(av:Int))=(a7:Int):=fT
 have bl:0<=(c:Int):=G;have bn:(c:Int)<2:=G;rw[<- hx0,<- hx1]at ay;have bw:=ae W;clear hx0 hx1 Eu W;go_upto_region 6 with fail;go_cut [50]from 39 λv t=>v=aG (p5 b)/\t=A;·(by_cases q0:b=ab;{have bO:((b:Int)==ab)=aE:=cx;have h2:=V ay aE (by simp[q0]);exact PS};{have bO:((b:Int)==ab)=ao:=cx;have h2:=V ay ((b:Int)==a7) cx;exact PS})
 ·(
 obtain⟨rfl,x⟩:=hcut;rw[x];clear x;go_upto_if 50 with fail;go_cut []from 39 λt=>yJ f t a d b D e F o;·(
 cases hb:p5 b with
 | false =>{
 have aC:ax (∀y:Bool,(o.6||o.qH c)=y->yJ f (a_ A ⟨a,6,ai⟩<|aG y) a d b D e F o):=λy B=>by{
 have w:cL (λi=>i≠a/\ag i≠bW e) f (a_ A ⟨a,6,ai⟩<|aG y):=by rw[V R];exact O9
 have H:=lk (V p).1 (V p).2.2.2.1 bL;refine yJ.mk (V p) (aem (V l) y) ?_ ?_ ?_ (V aj) ((by rw[V R];exact sU (sU (V p).2.2.2.1 H _ _) H _ _:xK _ 0 e o.m)) ?_ (bG af) w;all_goals simp[cw.st,hb,<- B,<- V Iy]};generalize aF:o.6=bb at a3;cases bb with
 | false =>{go_wp2;go_meet;·exact V aC _ (by rw[aF];rfl)}
 | true =>{go_wp2;go_meet;·exact V aC _ (by rw[aF];rfl)}}
 | true =>{
 have⟨W2,hW2⟩:=bi<|a_ A ⟨a,7+c,ai⟩<|aG aE;have L:iR W2 a d D e ⟨ao,F,λ_=>True⟩ o.4 (o.st b 0).6 (o.st b 0).7 (o.st b 0).8 s1:=by{
 have g:(o.st b 0).6=o.6:=by simp[cw.st,hb]
 rw[hW2,g];rcases V bw with rfl|rfl;{rw[show(o.st b 0).7=aE from HQ,show(o.st b 0).8=o.8 from HQ];exact VY (V l) aE};{rw[show(o.st b 0).7=o.7 from HQ,show(o.st b 0).8=aE from HQ];exact VZ (V l) aE}};have aM:=ae L;have H:=lk (V p).1 (V p).2.2.2.1 bL;have ac:xK W2 0 e o.5:=by rw[hW2,V R];exact sU (sU (V p).2.2.2.1 H _ _) H _ _
 have aJ:=ae ac;have aR:ax (cL (λi=>i≠a/\ag i≠bW e) f W2):=by rw[ax,hW2,V R];exact O9
 have bj:=CG L;have bh:=CF L;have bk:=rp L;have bo:=sF L;obtain⟨P,Q,rfl,az⟩:=aeC ac;have ba:=ae az;have aB:ax (∀y:Bool,(y=aE ↔ o.5.getLast?≠ag ((c:Int),(o.4:Int)))->(o.st b 0).5=if y then o.5++[((c:Int),(o.4:Int))]else o.5):=λy B=>by{
 simp only[cw.st,hb,pi,M4,<- V Iy];cases y with
 | true=>rw[bJ<|B.1 af];rfl
 | false=>rw[b7 (BR λh=>by have:=B.2 h;cases this)];rfl};clear az L ac;go_upto_region 9 with fail;rw[<- hW2];clear a3 bF au Z ar an bv bt bu bl bn hW2 l;go_cut [7,79]from 39 (λ_ v t=>∃y a5,v=aG y/\(y=aE ↔ o.5.getLast?≠ag ((c:Int),(o.4:Int)))/\t=W2.drewN a5);·(
 have⟨k,r⟩:=dK<|(E o.5:Int)-1;rw[r];cases z:o.5.getLast? with
 | none =>{
 have ap:E o.5=0:=by rw[List.getLast?_eq_none_iff.1 z];rfl
 have:k<0:=G;clear r ap a1;go_quiet (fail);go_wp2;go_meet;·exact⟨aE,_,af,by simp[z],af⟩}
 | some aa =>{
 obtain⟨n,rfl,a8,a9⟩:=V ba aa z;have ap:E o.5≠0:=λh=>by rw[iM h]at z;cases z
 obtain⟨X,aW⟩:∃X:Nat,E o.5=X+1:=⟨E o.5-1,G⟩;obtain rfl:k=(X:Int):=G;have:(X:Int)<E o.5:=G;rw[aW,GR]at a8 a9;obtain⟨aa,bP⟩:=aa;simp only at a8 a9;have ad:=ae z;clear r ap aW a1 z;by_cases aZ:aa=(c:Int);{subst aZ;by_cases a0:bP=(o.4:Int);{subst a0;go_quiet (fail);go_wp2;go_meet;·exact⟨ao,_,af,by simp[V ad],af⟩};{go_quiet (fail);go_wp2;go_meet;·exact⟨aE,_,af,by simp[V ad,a0],af⟩}};{go_quiet (fail);go_wp2;go_meet;·exact⟨aE,_,af,by simp[V ad,aZ],af⟩}})
 ·(
 obtain⟨y,a5,rfl,B,hwc⟩:=hcut;have I:=pW (V aM) (show wc.1[a]? = _ from FV);have aI:ax (xK wc 0 (aL P (E o.5) Q) o.5):=mN (V aJ) λn J=>by rw[hwc];rfl
 have aq:ax (cL (λi=>i≠a/\ag i≠bW (aL P (E o.5) Q)) f wc):=(V aR).trans ⟨FV,FV,FV,by rw[hwc];exact cW _,λ_ _ _=>FV⟩;have aP:=ae I;have:=CG I;have:=CF I;have:=rp I;have bp:=sF I;have S:=V aB y B;clear I aM aJ aR hwc B aB bj bh bk bo ba;cases y with
 | false =>{go_wp2;go_meet;·exact yJ.mk (V p) (V aP) af af af (V aj) (V aI) (bZ S) (bG af)<|V aq}
 | true =>{have S:=ae S;go_upto_region 10 with fail;go_region_law (first|(refine step_append_lies _ rfl (.tmp 84) (.tmp 91) 81 rfl 0 177 i0 (.agg #[.int .i64 0,.int .i64 0]) 2 16 aex aN hz0 hz1 hz2 rfl bL _ o.m.length _ rfl ((V aI).alloc _) _ 1 1 [.int .i64 c,.int .i64 o.c] rfl rfl (aey aA c o.c _) (aez c o.c) bL FT G (eb _) (wc.heap.size+1) aA ?_;intro n aH aw aX C aU bf;have M:=pW (V aP)<|(C.5 a cx H).trans<|dT _ _ _ bp;have:=CG M;have:=rp M));all_goals(have K:World.grownBy (aO wc<|aS #[ak am c,ak am o.4] 177) aw (bW<|aL P (E o.5) Q):=⟨C.1,C.2,C.3,C.4,C.5⟩;have aV:bW (aL P (E o.5) Q)=ag n\/n=U wc.1+1:=aU;have ah:xK aw 0 (aL (ag ⟨n,0,ai⟩) (E o.5+1) aH) (o.5++[((c:Int),(o.4:Int))]):=by{unfold xK;rw[dE,rR];exact aX};have T:ax (yJ f (a_ aw ⟨a,5,ai⟩<|aL (ag ⟨n,0,ai⟩) (E o.5+1) aH) a d b D (aL P (E o.5) Q) F o):=by{refine yJ.mk (V p) (ael M _) af af af (V aj) (sU ah (lk M ah bL) _ _) (bZ<|V S) (aV.imp (λh=>bZ h) λh=>⟨n,af,?_⟩)<|(V aq).trans ⟨K.1,K.2,K.3,by have:=K.4;simp[a_]at this ⊢; omega,λi aN aY=>(dJ _ _ _ _ aY.1).trans<|(K.5 i cx aY.2).trans<|dT _ _ _ aN⟩;have:=(V aq).4;omega};clear aX C aU bf M K aV ah;go_wp2;go_meet;·exact V T)})})
 ·(
 obtain⟨a4,N,hb,w⟩:=hcut;have:=rH N.1;have bI:b<E o.1:=by rw[(V p).2.1.1];exact br
 have bc:=N.2.1.2.cell b (by simpa using bI);have:=N.2.1.2.frozen;have T:ax (o7 (a_ wc ⟨d,b,ai⟩<|ak ck<|be q) a d D a4 F (o.st b q)/\cI bH a f (a_ wc ⟨d,b,ai⟩<|ak ck<|be q)):=by{have r:∀i,i≠d->(a_ wc ⟨d,b,ai⟩<|ak ck<|be q).1[i]? = wc.1[i]?:=λi aN=>dJ _ _ _ _ aN;obtain⟨bB,Y,a2,Z,au⟩:=N;have aT:o7 (a_ wc ⟨d,b,ai⟩<|ak ck<|be q) a d D a4 F (o.st b q):=⟨pW bB<|r _ bD,EW Y b q,mN a2 λn J=>r n λg=>lk Y.2 a2 bL<|by rw[J,g],mN Z λn J=>r n λg=>lk Y.2 Z bL<|by rw[J,g],AR au λi bQ _ h=>r i<|jj h Y.2 bL⟩;refine⟨aT,⟨w.1,w.2,w.3,by simpa [a_]using w.4,λi aN _ O=>(r i λg=>O<|(V u i).2<|bE<|bG g).trans<|w.5 i aN ⟨λg=>O<|(V u i).2<|bG g,λg=>O<|(V u i).2<|bE<|bE<|bE<|bG<|bZ g⟩,λi O=>?_⟩⟩;rcases(tP aT).1 O with h|h|h|h|h;{exact bG<|(V u i).2<|bG h};{exact bG<|(V u i).2<|bE<|bG h};{exact bG<|(V u i).2<|bE<|bE<|bG h};{rcases hb with al|⟨n,al,J⟩;{exact bG<|(V u i).2<|bE<|bE<|bE<|bG<|al ▸ h};{rw[al]at h;cases h;exact bE J}};{exact bG<|(V u i).2<|bE<|bE<|bE<|bE h}};simp only[rS]at bc;clear N hb w;go_wp2;refine lG (v:=bX #[]) (by simp[dr,results155]) af ?_;exact⟨af,⟨_,_,_,_,(V T).1⟩,(V T).2⟩))))
def EL(d:Nat)(g:UInt8){b:cw}(e:aQ)(c:dg e a b)(j:d<25600)(k:b.9<=1000000000000)(l:E b.5<=1000000000000):bd aK 155 #[cM<|ag ⟨a,0,ai⟩,ak am d,ak ck<|be g] e λi h=>i=bg (bX #[])/\dg h a (b.st d g)/\cI bH a e h:=by obtain⟨n,o,p,q,c⟩:=c;exact aeD c j k l
def I5(e:Nat)(k:cw)(a:dg f e k):bd aK 47 #[cM<|ag ⟨e,0,ai⟩] f λb j=>b=bg (bX #[])/\dg j e k.rest/\cI bH e f j:=by obtain⟨r,z,A,B,a⟩:=a;have x:=λi=>tP a (i:=i);refine(V1 a.1).m ?_;rintro j ⟨u,g,D⟩;obtain⟨h,n,o,p,y⟩:=a;have c:=λi aN w=>g.5 i aN w;have t:o7 j e r z A B k.rest:=⟨u,t7 n<|c r n.2.lt<|jj n.2 h bL,mN o λl d=>c l (pX o d) λb=>lk h o bL<|by rw[d,b],mN p λl d=>c l (pX p d) λb=>lk h p bL<|by rw[d,b],AR y λi C _ a=>c i a.lt<|jj a h bL⟩;exact⟨af,⟨_,_,_,_,t⟩,⟨g.1,g.2,g.3,G,λi aN _ a=>c i aN λb=>a<|bG b,λi a=>bG<|(x i).2<|(tP t).1 a⟩⟩
def cw.b_(c:cw)(b:Nat):Nat->cw×Nat
 | 0=>(c,0)
 | a+1=>((c.b_ b a).1.uA<|b+a,(c.b_ b a).2+be ((c.b_ b a).1.tL<|b+a)*2 ^ (8*a))
variable{A:cw}
def cw.fo(b:cw)(c v:Nat):Nat->cw
 | 0=>b
 | a+1=>(b.fo c v a).st (c+a)<|UInt8.ofNat<|v/2 ^ (8*a)
def cw.Ok(b:cw)(a:Nat):Prop:=E b.2<=a/\b.4<=a/\b.9<=a/\E b.5<=a
abbrev qP(a:d_):Prop:=a≠84/\a≠5/\a≠3/\a≠177/\a≠174
def Im{P:Prop}(h:P:=by simp[cw.uA];omega):P:=h
def VA(c:A.Ok a)(d):(A.uA d).Ok (a+1):=by obtain⟨e,g,h,i⟩:=c;exact⟨Im,Im,Im,Im⟩
def aH(d:A.Ok a)(e c):(A.st e c).Ok (a+1):=by obtain⟨g,h,c,i⟩:=d;refine⟨by simp[cw.st];omega,by simp[cw.st];omega,by simp[cw.st];omega,?_⟩;show(if _ then _ else _:List<|Int×Int).length<=a+1;unfold M4;split;{split;{omega};{simp;omega}};{omega}
def qU{d}(c:A.Ok a)(b:a<=d):A.Ok d:=⟨cU c.1 b,cU c.2.1 b,cU c.2.2.1 b,cU c.2.2.2 b⟩
def sI(d:A.Ok a)(e):∀b,(A.b_ e b).1.Ok<|a+b
 | 0=>d
 | b+1=>VA (sI d e b) _
def ky(d:A.Ok a)(e v):∀b,(A.fo e v b).Ok<|a+b
 | 0=>d
 | b+1=>aH (ky d e v b) _ _
def wB(c:cw)(b):∀a,(c.b_ b a).2<2 ^ (8*a)
 | 0=>by simp[cw.b_]
 | a+1=>by
  have d:=wB c b a;have e:be ((c.b_ b a).1.tL<|b+a)*2 ^ (8*a)<=255*2 ^ (8*a):=ys _ (by have:=gY<|(c.b_ b a).1.tL<|b+a;omega);have g:(2:Nat) ^ (8*(a+1))=256*2 ^ (8*a):=by rw[show 8*(a+1)=8*a+8 by omega,Nat.pow_add];omega
  show(c.b_ b a).2+_<_;omega
def EM{k}(e:dg f a A)(q:bk f d k z)(r:qP z):¬eO f a d:=λt=>by
 obtain⟨u,w,o,p⟩:=xL e t;have:=(bZ q).trans o;simp at this;obtain⟨_,rfl⟩:=this;obtain⟨h,i,j,l,n⟩:=r;rcases p with e|e|e|e|e
 ·exact h e
 ·exact i e
 ·exact j e
 ·exact l e
 ·exact n e
def ix{w e}(k:cI B d w f)(j:dg w d A)(b:bk w a e z)(n:qP z)(l:¬B a):bk f a e z:=(k.5 a b.lt l<|EM j b n).trans b
def Km{P:Prop}(h:P:=by exact⟨0,af,eb _,cA,tl _ _ _⟩):P:=h
def I6{b B A R:Nat}(x size v:Nat){c:Nat}{O h}(F:dg f d h)(K:gy f a z d b B A R O)(L:qP z)(au:size<=8)(ar:b+x+size<=25600)(av:v<4294967296)(H:h.Ok c)(an:c+size<=1000000000000):bd aK 213 #[N a,J x,J size,J v] f λk g=>k=bg (bX #[])/\dg g d (h.fo (b+x) v size)/\cI bH d f g:=by
 have cA:=ae F;have W:=ae K;have Y:=ae H;clear F K H;go_wp2
 go_loopw [10] (λq wr=>∃w:Nat,q=J w/\w<=size/\dg wr d (h.fo (b+x) v w)/\cI bH d f wr) λq _=>size-c7 (fJ q)
 ·exact Km
 ·obtain⟨w,rfl,ap,I,i⟩:=hrel;have n:=ae I;have D:=ae i;have l:gy wr a z d b B A R O:=ix i (V cA) (V W) L id;have P:=bk.cell l 0 aA;have Q:=bk.cell l 1 aA;simp only[g_,e9,fw]at P Q;clear I i;by_cases aq:w<size
  ·have:=Vw d;have:=Vy;have⟨u,hq⟩:=bi<|b+x;have⟨t,iE⟩:=bi<|u+w;have⟨r,sM⟩:=bi<|8*w;have⟨y,hx⟩:=bi<|v/2 ^ r;have⟨cb,hcb⟩:=bi<|UInt8.ofNat y
   have ad:am.wrap ((b:Int)+x)=(u:Int):=fT
   have ah:am.wrap ((u:Int)+w)=(t:Int):=fT
   have aj:am.wrap (8*(w:Int))=(r:Int):=fT
   have X:y<=v:=by rw[hx];exact Nat.div_le_self _ _
   have C:ck.wrap (y:Int)=(be cb:Int):=by rw[xT,hcb,rJ];omega
   have al:ck.wrap ((v:Int)/2 ^ min r 64)=(be cb:Int):=by
    rw[uI G,<- C,hx];simp
   have⟨_,_,o3,o4⟩:=ky (V Y) (b+x) v w;have S:=ae<|EL t cb (bq wr) (V n) G G G;have T:ax ((h.fo (b+x) v w).st t cb=h.fo (b+x) v (w+1)):=by rw[ax,cw.fo,iE,hq,hcb,hx,sM]
   have:aD (bq wr) (M a 0)=ag (cV 71<|N d)/\aD (bq wr) (M a 1)=ag (J b):=⟨P,Q⟩
   have ac:ax (∀j:aQ,cI bH d (bq wr) j->aD j (M a 0)=ag (cV 71<|N d)/\aD j (M a 1)=ag (J b)):=λj i =>
    have k:=ix (w:=bq wr) i (V n) l L id
    ⟨bk.cell k 0 aA,bk.cell k 1 aA⟩
   clear hq iE sM hx hcb X C l o3 o4;go_wp2
   go_region_held (λg=>aD g (M a 0)=ag (cV 71<|N d)/\aD g (M a 1)=ag (J b)) (first|assumption|go_keep)
    (first|(go_at_call 155;go_loud (refine S.m ?_;rintro g ⟨o,p⟩;have:=V ac g p)))
   all_goals
    rw[V T]at o;have aa:=ae o;have ab:=ae<|dC (V D)<|dC l7 p;clear o p;go_wp2;exact⟨⟨w+1,dH,G,aa,ab⟩,ee⟩
  ·have Z:w=size:=G;subst Z;go_wp2;refine lG (v:=bX #[]) (by simp[dr,results213]) af ?_;exact⟨af,n,D⟩
def Qd{P:Prop}(h:P:=by have dn:k=size:=G;subst dn;go_wp2;go_ret;exact⟨af,dL,eN⟩):P:=h
def I8{e B c S}(b size){y}{P}(w)(D:dg w d A)(I:gy w e z d a B c S P)(K:qP z)(aH:size<=4)(aF:a+b+size<=25600)(F:A.Ok y)(az:y+size<=1000000000000):bd aK 217 #[N e,J b,J size] w λn g=>n=bg (ak .u32 (A.b_ (a+b) size).2)/\dg g d (A.b_ (a+b) size).1/\cI bH d w g:=by
 have x:=ae D;have Z:=ae I;have aa:=ae F;clear D I F;go_wp2
 go_loopw [7,10] (λan t wr=>∃k:Nat,an=ak .u32 (A.b_ (a+b) k).2/\t=J k/\k<=size/\dg wr d (A.b_ (a+b) k).1/\cI bH d w wr) λ_ t _=>size-c7 (fJ t)
 ·exact⟨0,af,af,eb _,x,tl _ _ _⟩
 ·obtain⟨k,rfl,rfl,aB,H,j⟩:=hrel;have dL:=ae H;have eN:=ae j;have p:gy wr e z d a B c S P:=ix j (V x) (V Z) K id;have Q:=bk.cell p 0 aA;have R:=bk.cell p 1 aA;simp only[g_,e9,fw]at Q R;clear H j;by_cases aC:k<size
  ·have:=Vx d;have:=Vz;have⟨u,hq⟩:=bi<|a+b;have⟨i,iE⟩:=bi<|u+k;have⟨O,sM⟩:=bi<|8*k;have ar:am.wrap ((a:Int)+b)=(u:Int):=fT
   have au:am.wrap ((u:Int)+k)=(i:Int):=fT
   have av:am.wrap (8*(k:Int))=(O:Int):=fT
   have⟨o1,o2,_⟩:=sI (V aa) (a+b) k;have L:=wB A (a+b) k;have o:A.b_ (a+b) (k+1)=((A.b_ (a+b) k).1.uA i,(A.b_ (a+b) k).2+be ((A.b_ (a+b) k).1.tL i)*2 ^ (8*k)):=by rw[cw.b_,iE,hq]
   have ab:=ae o;have ap:=ae<|I4 i (bq wr) (V dL) G G G;have aj:=gY<|(A.b_ (a+b) k).1.tL i;have r:=wB A (a+b)<|k+1;rw[o]at r;simp only at r;generalize (A.b_ (a+b) k).2=T at *;generalize Y:be ((A.b_ (a+b) k).1.tL i)=h at *;have aq:(2:Nat) ^ (8*(k+1))<=2 ^ 32:=Gc G G;have⟨X,hzz⟩:=bi<|T+h*2 ^ (8*k);have⟨W,hy⟩:=bi<|h*2 ^ (8*k);have:=ZP (h:Int)
   have aw:DC IntKind.u32 ((h:Int)*2 ^ min O 32)=(W:Int):=by
    rw[uI G,sM,show(h:Int)*2 ^ (8*k)=((h*2 ^ (8*k):Nat):Int) by simp,BM,<- hy];omega
   have ay:bits .or .u32 (T:Int) (W:Int)=(X:Int):=by rw[hzz,hy];exact aeG L af G
   have ac:ax ((A.b_ (a+b)<|k+1).2=X):=by rw[ax,o,hzz]
   have:aD (bq wr) (M e 0)=ag (cV 71<|N d)/\aD (bq wr) (M e 1)=ag (J a):=⟨Q,R⟩
   have al:ax (∀l:aQ,cI bH d (bq wr) l->aD l (M e 0)=ag (cV 71<|N d)/\aD l (M e 1)=ag (J a)):=λl j =>
    have n:=ix (w:=bq wr) j (V dL) p K id
    ⟨bk.cell n 0 aA,bk.cell n 1 aA⟩
   clear hq iE sM p o1 o2 L o aj r Y aq hzz hy;go_wp2
   go_region_held (λg=>aD g (M e 0)=ag (cV 71<|N d)/\aD g (M e 1)=ag (J a)) (first|assumption|go_keep)
    (first|(go_at_call 159;go_loud (refine ap.m ?_;rintro g ⟨C,q⟩;have:=V al g q)))
   all_goals
    have ad:=ae C;have ah:=ae<|dC (V eN)<|dC l7 q;clear C q;go_wp2;exact⟨⟨k+1,by rw[V ac],dH,G,by have:=V ad;rw[V ab];exact this,ah⟩,ee⟩
  ·exact Qd
def cw.rE(c:cw)(b d e:Nat):Nat->cw
 | 0=>c
 | a+1=>((((c.rE b d e a).fo (b+16*a) (d+1536*a) 8).fo (b+(16*a+8)) 1536 4).fo (b+(16*a+12)) e 2).fo (b+(16*a+14)) 0 2
def cw.off(a:cw)(ba av:Nat):List Nat->cw
 | []=>a.fo (ba+130) av 2
 | s::l=>(a.fo (ba+(132+2*(av%8))) s 2).off ba ((av+1)%65536) l
def cw.AE(a:cw):cw:=(((a.rE 0 1024 2 8).rE 512 13312 0 8).off 512 0 []).off 0 0 [0,1,2,3,4,5,6,7]
def cw.gv(c:cw)(b:Nat):Nat->cw×ap
 | 0=>(c,[])
 | a+1=>((c.gv b a).1.uA<|b+a,(c.gv b a).2++[(c.gv b a).1.tL<|b+a])
def cw.nH(b:cw)(c:Nat)(l:ap):Nat->cw
 | 0=>b
 | a+1=>(b.nH c l a).st (c+a)<|l.getD a 0
def nk(a b:Nat):Nat:=(a+65536-b)%65536
def mO(b:cw)(a:Nat)(c:List Bool):Nat->cw×Nat×List Bool×Bool
 | 0=>(b,a,c,aE)
 | d+1=>if c[(b.b_ (512+(260+8*(a%8))) 4).2]? = ag aE then mO (b.b_ (512+(260+8*(a%8))) 4).1 ((a+1)%65536) (c.set (b.b_ (512+(260+8*(a%8))) 4).2 ao) d else((b.b_ (512+(260+8*(a%8))) 4).1,a,c,ao)
structure cz where
 s:cw
 ra:Nat
 eH:Nat
 sa:Nat
 eW:Nat
 o:List Bool
 n:Nat
 t:Nat
 d:Nat
 b:Bool
def mc:ap:=[0,0,0,0,0,0,0,0,0,0,0,0]
def cz.snd(a:cz)(f:ap):cz :=
 match a.6.findIdx? (· == ao)with
 | none=>{ a with d:=a.9+1 }
 | some b=>{ a with s:=((a.1.nH (13312+1536*b) (mc++f)<|12+E f).fo (512+(16*b+8)) (12+E f) 4).off 512 a.4 [b],sa:=(a.4+1)%65536,o:=a.6.set b aE,t:=a.8+1 }
def cz.ans(a:cz)(b:ap->ap)(f:ap):cz:=if b f=[]then { a with n:=a.7+1 } else cz.snd { a with n:=a.7+1 } (b f)
def cz.lB(a:cz):cw×Nat:=a.1.b_ (260+8*(a.3%8)) 4
def cz.gT(a:cz):cw×Nat:=a.lB.1.b_ (260+8*(a.3%8)+4) 4
def cz.vJ(b:cz)(c a:cw×Nat):cz×Option ap :=
 if c.2<8/\12<=a.2/\a.2<=1536 then
  ({ b with s:=(a.1.gv (1024+1536*c.2+12)<|a.2-12).1.off 0 b.2 [c.2],ra:=(b.2+1)%65536,eH:=(b.3+1)%65536 },ag (a.1.gv (1024+1536*c.2+12)<|a.2-12).2)
 else({ b with s:=a.1 },ai)
def cz.kM(a:cz):cz×Option ap:=a.vJ a.lB a.gT
def zD(e:cz->cz×Option ap)(d:cz->ap->cz):Nat->cz->cz
 | 0,a=>a
 | g+1,a=>match e a with
  | (c,none)=>{ c with b:=aE }
  | (c,some f)=>zD e d g<|d c f
def P7{P:Prop}(h:P:=by rw[zD];generalize nx Y=q at *;obtain⟨Z,o⟩:=q;cases h;rfl):P:=h
def VE{nx:cz->cz×Option ap}{m:cz->ap->cz}{Y:cz}(h:(nx Y).2=ai):zD nx m (a+1) Y = { (nx Y).1 with b:=aE }:=by exact P7
def VF{nx:cz->cz×Option ap}{f:cz->ap->cz}{Y:cz}(h:(nx Y).2=ag c):zD nx f (a+1) Y=zD nx f a (f (nx Y).1 c):=by exact P7
def cz.pY(a:ap->ap)(b:cz)(d:Nat):cz:=zD cz.kM (λc f=>c.ans a f) d b
def cz.lC(a:cz):cz :=
 if nk (a.1.b_ 770 2).2 a.5<=kf a.6 then
  { a with s:=(mO (a.1.b_ 770 2).1 a.5 a.6<|nk (a.1.b_ 770 2).2 a.5).1,eW:=(mO (a.1.b_ 770 2).1 a.5 a.6<|nk (a.1.b_ 770 2).2 a.5).2.1,o:=(mO (a.1.b_ 770 2).1 a.5 a.6<|nk (a.1.b_ 770 2).2 a.5).2.2.1,b:=!(mO (a.1.b_ 770 2).1 a.5 a.6<|nk (a.1.b_ 770 2).2 a.5).2.2.2 }
 else { a with s:=(a.1.b_ 770 2).1,b:=aE }
def cz.IA(c:ap->ap)(a:cz):cz :=
 if nk (a.1.b_ 258 2).2 a.3<=8 then cz.pY c { a with s:=(a.1.b_ 258 2).1 } (nk (a.1.b_ 258 2).2 a.3)else { a with s:=(a.1.b_ 258 2).1,b:=aE }
def cz.tN(b:ap->ap)(a:cz):cz:=if a.10 then a else if a.lC.10 then a.lC else cz.IA b a.lC
def CI(h:A.Ok a)(d e g:Nat):∀b,(A.rE d e g b).Ok<|a+16*b
 | 0=>h
 | b+1=>qU (ky (ky (ky (ky (CI h d e g b) _ _ 8) _ _ 4) _ _ 2) _ _ 2) G
def ay{ba:Nat}: ∀ {l:List Nat} {c:cw} {b av:Nat},c.Ok b->(c.off ba av l).Ok (b+2*E l+2)
 | [],_,_,_,a=>ky a _ _ 2
 | s::l,_,_,_,a=>qU (ay (l:=l) (ky a _ s 2)) (by rw[ey];omega)
def EN(d:A.Ok a)(e:Nat):∀b,(A.gv e b).1.Ok<|a+b
 | 0=>d
 | b+1=>VA (EN d e b) _
def M6(d:A.Ok a)(g:Nat)(e:ap):∀b,(A.nH g e b).Ok<|a+b
 | 0=>d
 | b+1=>aH (M6 d g e b) _ _
def I_(b:cw)(c:Nat):∀a,E (b.gv c a).2=a
 | 0=>af
 | a+1=>by rw[cw.gv,dE,I_ b c a];rfl
def lE{w:aQ}{g e j:Nat}{i:List Bool}(q:gy w d z a g h e j i)(n:cI B a w f)(p:dg w a A)(r:qP z)(o:¬B d):gy f d z a g h e j i:=ix n p q r o
def yK{k:List bm}(c:dg f h A)(o:bk f a k z)(q:qP z)(p:∀d,d<U f.1->d≠a->m.1[d]? = f.1[d]?):dg m h A :=
 CH c λd g=>p d (by obtain⟨r,z,n,_⟩:=xL c g;exact(ea.1 n).1) λl=>EM c o q<|l ▸ g
def tQ{w:aQ}(b:dg w a A)(g:a7 w f):dg f a A :=
 CH b λi h=>g.5 i (by obtain⟨j,k,e,_⟩:=xL b h;exact(ea.1 e).1)
def jv{b:Nat}(a:dg f b A):b<U f.1:=by obtain⟨e,g,h,i,a⟩:=a;exact sF a.1
def yL{g:List bm}(i:dg f a A)(j:bk f d g z)(k:qP z):a≠d:=λh=>EM i j k<|bG<|bZ h
def VG{g i I:Nat}(e:Nat){K:Nat}{H:List Bool}(Y:dg f g A)(aj:gy f h z g a d i I H)(C:qP z)(aY:a<=1000)(aW:d<=20000)(a4:e<65536)(ab:A.Ok K)(a1:K<=900000000000):bd aK 152 #[N h,J e] f λr j=>r=bg (bX #[])/\dg j g (A.rE a d e 8)/\cI bH g f j:=by
 have O:=ae Y;have aA:=ae aj;have aC:=ae ab;clear Y aj ab;go_wp2;go_loopw [6] (λD wr=>∃b:Nat,D=J b/\b<=8/\dg wr g (A.rE a d e b)/\cI bH g f wr) λD _=>8-c7 (fJ D);·exact⟨0,af,G,O,tl _ _ _⟩
 ·(
 obtain⟨b,rfl,a2,u,t⟩:=hrel;have k:=lE (V aA) t (V O) C id;have P:=ae u;have R:=ae t;by_cases a3:b<8;{
 have p:ax (∀(l:aQ) (q:cw) (n size v x:Nat),dg l g q->gy l h z g a d i I H->size<=8->n<=300->v<4294967296->q.Ok x->x<=900000000200->bd aK 213 #[N h,J n,J size,J v] l λr j=>r=bg (bX #[])/\dg j g (q.fo (a+n) v size)/\gy j h z g a d i I H/\cI bH g l j):=λl q n size v x Z aa aH aZ aI aJ a0=>(I6 n size v Z aa C aH G aI aJ G).mono λr j ⟨c,aB,M⟩=>⟨c,aB,lE aa M Z C id,M⟩;have⟨c,ha⟩:=bi<|16*b;have:16*(b:Int)=c:=G;have⟨a8,IB⟩:=bi<|c+8;have:(c:Int)+8=a8:=G;have⟨a12,U3⟩:=bi<|c+12;have:(c:Int)+12=a12:=G;have⟨DG,U4⟩:=bi<|c+14;have:(c:Int)+14=DG:=G;have⟨v,hv⟩:=bi<|d+1536*b;have o:=ae<|M5 b wr k G G;rw[<- hv]at o;have F:=CI (V aC) a d e b;have ay:ax (A.rE a d e (b+1)=((((A.rE a d e b).fo (a+c) v 8).fo (a+a8) 1536 4).fo (a+a12) e 2).fo (a+DG) 0 2):=by rw[ax,cw.rE,hv,U4,U3,IB,ha]
 have L:=ae<|p wr _ c 8 v _ u k G G G F G;generalize A.rE a d e b=aX at *;have y:=ae F;have aM:a8<=300:=G;have aU:a12<=300:=G;have az:DG<=300:=G;clear u t ha IB U3 U4 hv F k;go_wp2_with fail;refine o.m ?_;rintro wr rfl;go_wp2_with fail;refine L.m ?_;rintro ar ⟨ah,k,S⟩;have T:ax (bd aK 213 #[N h,J a8,J 4,J 1536] ar _):=V p ar _ a8 4 1536 _ ah k G aM G (ky (V y) _ _ 8) G;have aN:=ae<|dC (V R) S;clear ah k S L o P;go_wp2_with fail;refine T.m ?_;rintro au ⟨Q,ad,ac⟩;have aq:ax (bd aK 213 #[N h,J a12,J 2,J e] au _):=V p au _ a12 2 e _ Q ad G aU G (ky (ky (V y) _ _ 8) _ _ 4) G;have aP:=ae<|dC (V aN) ac;clear Q ad ac T;go_wp2_with fail;refine aq.m ?_;rintro av ⟨X,al,W⟩;have ap:ax (bd aK 213 #[N h,J DG,J 2,J 0] av _):=V p av _ DG 2 0 _ X al G az G (ky (ky (ky (V y) _ _ 8) _ _ 4) _ _ 2) G;have aT:=ae<|dC (V aP) W;clear X al W aq;go_wp2_with fail;refine ap.m ?_;rintro a5 ⟨B,aV,an⟩;rw[<- V ay]at B;have aw:=ae B;have aR:=ae<|dC (V aT) an;clear B aV an ap;go_wp2;exact⟨⟨b+1,dH,G,aw,aR⟩,ee⟩};{have aF:b=8:=G;subst aF;clear u t;go_wp2;refine lG (v:=bX #[]) (by simp[dr,results152]) af ?_;exact⟨af,P,R⟩})
def AS(a:List Bool):List Nat->List Bool
 | []=>a
 | s::b=>AS (a.set s aE) b
def M8{Z i ah:Nat}(g aU:Nat){K:Nat}{I:List Bool}(k:List Nat)(P:Option Addr)(u:dg f h A)(az:gy f a z h d Z i ah I)(y:qP z)(bb:d<=1000)(a8:i<65536)(aV:E I=8)(aB:∀s∈k,s<8)(a7:E k<=8)(aw:A.Ok K)(bc:K<=900000000000)(aZ:P=ai\/P=ag (M g 0))(ay:P=ai->k=[])(aq:∀ab (bf:ab<E k),aD f (M g ab)=ag (J (k[ab]:Nat)))(al:k≠[]->g<U f.1/\g≠a/\¬eO f h g):bd aK 153 #[N a,aL P (E k) aU] f λB aj=>B=bg (bX #[])/\dg aj h (A.off d i k)/\gy aj a z h d Z ((i+E k)%65536) ah (AS I k)/\cI (λe=>e=a) h f aj:=by
 have⟨R,hR⟩:=bi<|A.off d i k;have⟨O,hO⟩:=bi<|AS I k;rw[<- hR,<- hO];have aC:=ae<|cv hR hO;have aT:=ae u;have aM:=ae az;have a5:=ae aq;have aH:=ae al;have aI:=ae aB;have a3:=ae ay;have aP:=ae aw;clear u az hR hO aq al aB ay aw;go_wp2;go_loopw [8] (λe wr=>∃(b T:Nat) (t:cw) (H:List Bool),e=J b/\b<=E k/\(t.off d T (k.drop b)=R/\AS H (k.drop b)=O/\t.Ok (K+2*b))/\T=(i+b)%65536/\E H=8/\dg wr h t/\gy wr a z h d Z T ah H/\cI (λe=>e=a) h f wr) λe _=>E k-c7 (fJ e);·exact⟨0,i,A,I,af,eb _,⟨bZ aC.1,bZ aC.2,aP⟩,G,aV,aT,aM,tl _ _ _⟩
 ·(
 obtain⟨b,T,t,H,rfl,bh,l,X,a0,x,j,D⟩:=hrel;have ac:=ae l;have ar:=ae X;have:T<65536:=G;by_cases F:b<E k;{
 have:=V aI k[b]<|eP F;have Q:k≠[]:=λB=>by rw[B]at F;simp at F
 have⟨hb1,hb2,hb3⟩:=V aH Q;have:=(ev<|D.5 g hb1 hb2 hb3).trans<|a5 b F;have aJ:=aZ.resolve_left λB=>Q<|a3 B;have ap:=ae<|lA F;generalize k[b]=s at *;subst aJ;have⟨q,hq⟩:=bi<|132+2*(T%8);have⟨ad,tO⟩:=bi<|T%8;have:(T:Int)%8=ad:=G;have:132+2*(ad:Int)=q:=G;have⟨n,ha1⟩:=bi<|(T+1)%65536;have ba:fs.wrap ((T:Int)+1)=(n:Int):=by rw[DF];omega
 have:ad<8:=G;have an:=ae<|I6 q 2 s x j y G G G l.2.2 G;have Y:=bk.cell j 3 aA;simp only[g_,e9,fw]at Y;have aR:ax ((t.fo (d+q) s 2).off d n (k.drop<|b+1)=R/\AS (H.set s aE) (k.drop<|b+1)=O/\(t.fo (d+q) s 2).Ok (K+2*(b+1))):=by{have⟨x1,x2,x3⟩:=V ac;rw[V ap]at x1 x2;exact⟨by rw[<- x1,cw.off,hq,ha1],by rw[<- x2,AS],ky x3 _ _ 2⟩};have p:=ae<|cv j x;have C:=ae D;have a6:ax (n=(i+(b+1))%65536):=by have:=V ar;rw[ax];omega
 clear x j D l ac ap hq tO ha1 X;go_wp2_with fail;refine an.m ?_;rintro W ⟨r,o⟩;have w:=lE p.1 o p.2 y id;have iZ:=bk.cell w 3 aA;simp only[g_,e9,fw]at iZ;have:=bk.frozen w;have S:=aeH w n;obtain⟨bj,a9⟩:∃v,aD (a_ W ⟨a,3,ai⟩<|ak fs n) (M a<|5+s)=ag v:=⟨_,bk.cell S (5+s) cx⟩;have:=bk.frozen S;have aF:=ae<|VC S s aE;have aa:eL a W (a_ (a_ W ⟨a,3,ai⟩<|ak fs n) ⟨a,5+s,ai⟩<|aG aE):=kI (kI (mT _ _) _ _) _ _;have a4:=ae<|yK r w y λe aN Q=>aa.5 e aN Q;have a2:=ae<|dC (V C)<|dC (jk o λ_ u=>u.elim)<|wy (L:=λe=>e=a) aa af (yL r w y) (jv r);clear r o w S aa an p C;go_wp2;exact⟨⟨b+1,n,_,_,dH,G,aR,a6,by rw[rU];exact a0,a4,aF,a2⟩,ee⟩};{have aW:b=E k:=G;subst aW;rw[w_,cw.off,AS]at l;have au:ax (bd aK 213 #[N a,J 130,J 2,J T] wr _):=I6 130 2 T x j y G G G l.2.2 G;have Y:=bk.cell j 3 aA;simp only[g_,e9,fw]at Y;have p:=ae<|cv j x;have C:=ae D;have av:=ae l;clear x j D l ac X;go_wp2_with fail;refine au.m ?_;rintro W ⟨r,o⟩;have a1:=ae<|lE p.1 o p.2 y id;have aX:=ae r;have aY:=ae<|dC (V C)<|jk o λ_ u=>u.elim;clear r o p C au;go_wp2;refine lG (v:=bX #[]) (by simp[dr,results153]) af ?_;rw[<- av.1,<- av.2.1,<- V ar];exact⟨af,aX,a1,aY⟩})
def pB(e:aQ)(g h d:Nat)(b c:ap)(a:cz):Prop :=
 bk e g ([N h,aZ b,aZ c,N d]++(a.6.map aG++[J a.4,J a.5,J a.2,J a.3,J a.7,J a.8,J a.9,aG a.10])) 171
def tR(b size v:Nat)(B:dg f d A)(Q:size<=8)(P:b+size<=25600)(R:v<4294967296)(D:A.Ok a)(L:a+size<=1000000000000):bd aK 91 #[N d,J b,J size,J v] f λx p=>x=bg (bX #[])/\dg p d (A.fo b v size)/\cI bH d f p:=by
 have cA:=ae B;have u:=ae D;go_wp2;go_loopw [8] (λi wr=>∃g:Nat,i=J g/\g<=size/\dg wr d (A.fo b v g)/\cI bH d f wr) λi _=>size-c7 (fJ i);·exact Km
 ·(
 obtain⟨g,rfl,M,H,F⟩:=hrel;have l:=ae H;have n:=ae F;by_cases O:g<size;{
 have⟨j,iE⟩:=bi<|b+g;have⟨e,sM⟩:=bi<|8*g;have⟨q,hx⟩:=bi<|v/2 ^ e;have⟨cb,hcb⟩:=bi<|UInt8.ofNat q;have I:am.wrap ((b:Int)+g)=(j:Int):=fT
 have K:am.wrap (8*(g:Int))=(e:Int):=fT
 have y:ck.wrap (q:Int)=(be cb:Int):=by rw[xT,hcb,rJ];omega
 have z:(v:Int)/2 ^ e%256=(be cb:Int):=by simp_all
 have⟨_,_,o3,o4⟩:=ky (V u) b v g;have r:=ae<|EL j cb wr (V l) G G G;have t:ax ((A.fo b v g).st j cb=A.fo b v (g+1)):=by rw[ax,cw.fo,iE,hcb,hx,sM]
 have:e<64:=G;clear iE sM hx hcb y o3 o4;go_wp2_with fail;rw[z];refine r.m λS ⟨h,o⟩=>?_;rw[V t]at h;have c:=ae h;have C:=ae<|dC (V n) o;clear h o;go_wp2;exact⟨⟨g+1,dH,G,c,C⟩,ee⟩};{have w:g=size:=G;subst w;go_wp2;exact lG (v:=bX #[]) (by simp[dr,results91]) af ⟨af,l,n⟩})
def EO(q size:Nat)(b j)(D:dg j a b)(Z:size<=4)(Y:q+size<=25600)(H:b.Ok d)(T:d+size<=1000000000000):bd aK 157 #[N a,J q,J size] j λB u=>B=bg (J (b.b_ q size).2)/\dg u a (b.b_ q size).1/\cI bH a j u:=by
 have y:=ae D;have x:=ae H;go_wp2;go_loopw [7,8] (λL p wr=>∃k:Nat,L=J (b.b_ q k).2/\p=J k/\k<=size/\dg wr a (b.b_ q k).1/\cI bH a j wr) λ_ p _=>size-c7 (fJ p);·exact⟨0,af,af,eb _,y,tl _ _ _⟩
 ·(
 obtain⟨k,rfl,rfl,W,K,I⟩:=hrel;have dL:=ae K;have eN:=ae I;by_cases X:k<size;{
 have⟨c,iE⟩:=bi<|q+k;have⟨i,sM⟩:=bi<|8*k;have Q:am.wrap ((q:Int)+k)=(c:Int):=fT
 have R:am.wrap (8*(k:Int))=(i:Int):=fT
 have⟨o1,o2,_⟩:=sI (V x) q k;have n:b.b_ q (k+1)=((b.b_ q k).1.uA c,(b.b_ q k).2+be ((b.b_ q k).1.tL c)*2 ^ (8*k)):=by rw[cw.b_,iE]
 have z:=ae n;have M:=ae<|I4 c wr (V dL) G G G;have:=gY<|(b.b_ q k).1.tL c;have o:=wB b q<|k+1;rw[n]at o;simp only at o;generalize (b.b_ q k).2=l,TZ:be ((b.b_ q k).1.tL c)=h at *;have O:(2:Nat) ^ (8*(k+1))<=2 ^ 32:=Gc G G;have⟨g,hzz⟩:=bi<|l+h*2 ^ (8*k);have⟨e,hy⟩:=bi<|h*2 ^ (8*k);have:g<4294967296:=G;have:e<4294967296:=G;have w:g=l+e:=G;have S:wrap64 ((h:Int)*2 ^ i)=(e:Int):=by{rw[show(h:Int)*2 ^ i=(e:Int) by grind];exact IntWalk.wrap64_in _ ⟨G,G⟩};have P:wrap64 ((l:Int)+e)=(g:Int):=by{rw[show(l:Int)+(e:Int)=(g:Int) by omega];exact IntWalk.wrap64_in _ ⟨G,G⟩};have A:ax ((b.b_ q<|k+1).2=g):=by grind
 have:i<64:=G;clear iE sM o1 o2 n o TZ O hzz hy w;go_wp2_with fail;refine M.m λaa ⟨r,t⟩=>?_;have C:=ae r;have F:=ae<|dC (V eN) t;clear r t;go_wp2;exact⟨⟨k+1,by rw[V A];grind,dH,G,by have:=V C;rw[V z];omega,F⟩,ee⟩};{exact Qd})
abbrev ve:List Bool:=[aE,aE,aE,aE,aE,aE,aE,aE]
abbrev M9(c:Nat)(a b:Int):Array bm:=#[cV 71<|N c,J a,J b,ak fs 0,ak fs 0,aG ao,aG ao,aG ao,aG ao,aG ao,aG ao,aG ao,aG ao]
def afl(w:aQ)(g:dg w a A)(I:A.Ok d)(a3:d<=800000000000):bd aK 90 #[cV 71<|N a] w λar k=>ar=bg (bX #[N<|U w.1,N<|U w.1+1])/\dg k a A.AE/\gy k (U w.1) 240 a 0 1024 8 0 ve/\gy k (U w.1+1) 241 a 512 13312 0 0 oi/\cI bH a w k:=by
 have Y:=jv g;have⟨v0,hv0⟩:=bi<|aO (aO w<|aS (M9 a 0 1024) 240)<|aS (M9 a 512 13312) 241;have L:a7 w v0:=by rw[hv0];exact JZ
 have z:=tQ g L;have C:gy v0 (U w.1) 240 a 0 1024 0 0 oi:=by rw[hv0];exact(bk.fF w _ _).alloc _
 have aV:gy v0 (U w.1+1) 241 a 512 13312 0 0 oi:=by
  have:=bk.fF (aO w<|aS (M9 a 0 1024) 240) ([cV 71<|N a,J (512:Nat),J (13312:Nat),ak fs (0:Nat),ak fs (0:Nat)]++oi.map aG) 241;rw[gd]at this;rw[hv0];exact this
 have a4:U v0.1=U w.1+2:=by rw[hv0];simp
 have ah:cI (λb=>U w.1<=b) a w v0:=qc L Y;go_in;go_wp2_with fail;rw[<- hv0];generalize aX:U w.1=c at *;have Z:=ae aX;have P:∀ {b:Nat},False->c<=b:=λg=>g.elim;have ac:ax (bd aK 152 #[N c,J 2] v0 _):=VG 2 z C bL G G G I G;refine ac.m λaZ ⟨y,p⟩=>?_;have az:=lE C p z bL id;have Q:=lE aV p z bL id;have W:=CI I 0 1024 2 8;have au:ax (bd aK 152 #[N<|c+1,J 0] aZ _):=VG 0 y Q bL G G G W G;have aj:=dC ah<|jk p λ_=>P;go_wp2_with fail;refine au.m λa0 ⟨T,r⟩=>?_;have aB:=lE az r y bL id;have aq:=lE Q r y bL id;have X:=CI W 512 13312 0 8;have aR:ax (bd aK 153 #[N<|c+1,bY] a0 _):=M8 0 0 [] ai T aq bL G G af (λs aI=>by cases aI) aA X G (bG af) (λ_=>af) (λx hj=>Di) λaF=>absurd af aF;have al:=dC aj<|jk r λ_=>P;go_wp2_with fail;refine aR.m λn ⟨h,H,F⟩=>?_;have S:=lE aB F T bL G;have aU:=ay (ba:=512) (av:=0) (l:=[]) X;have ab:=dC al<|jk (K:=λb=>c<=b) F λb g=>G;have ap:=ae<|ad_<|bq n;have aH:=bk.lt S;have ad:=ae (fun(e:aQ) (aw:bk e (U n.1) ((List.range 8).map λaP:Nat=>ak am aP) 3) (a2:U e.1=U n.1+1) (q:cB (U n.1) (bq n) e) =>
  M8 (U n.1) 8 [0,1,2,3,4,5,6,7] (ag<|M (U n.1) 0) (tQ (w:=bq n) h q) ((q.5 c aH).trans S) bL G G af bL aA aU cx (bE af) (λg=>by cases g) (λx hj=>by
   have:=aw.cell x Do;rw[this]
   match x,hj with
   | 0,_|1,_|2,_|3,_|4,_|5,_|6,_|7,_=>rfl) (λ_=>⟨G,G,λu=>by
    have⟨cur,t,k1,_⟩:=xL (w:=bq n) h (oB (q.5 a<|jv h) u);have:=(ea.1 k1).1;exact absurd this<|Nat.lt_irrefl _⟩))
 have aM:ax (∀(e j:aQ) (B:cw),cB (U n.1) (bq n) e->cI (λb=>b=c) a e j->dg e a B->gy j (c+1) 241 a 512 13312 0 0 oi/\cI bH a w j):=λe j B R O aC=>by
  refine⟨lE ((R.5 (c+1)<|bk.lt H).trans H:gy e _ _ _ _ _ _ _ _) O aC bL G,?_⟩;have i:=dC (dC (dC ab l7)<|qc R<|jv h)<|jk (K:=λb=>c<=b) O λb g=>G;exact⟨i.1,i.2,i.3,i.4,λb aN _ u=>i.5 b aN G u,i.6⟩
 replace h:=ae h;go_wp2
 go_region_held (λk=>True) (trivial)
  (first
   | (go_at_call 154;go_loud (refine ap.m λe ⟨aJ,an,o⟩=>?_))
   | (go_at_call 153;go_loud (refine(ad e aJ an o).m λj ⟨aT,a1,aW⟩=>?_)))
 all_goals
  have D:=ae<|aM e j _ o aW<|tQ (w:=bq n) (V h) o;have aa:=ae aT;have aY:=ae a1;go_wp2;refine eh (v:=bX #[cM<|ag ⟨c,0,ai⟩,cM<|ag ⟨c+1,0,ai⟩]) ?_ af ?_
  ·simp[dr,results90,go_sem]
  ·rw[V Z];exact⟨af,aa,aY,D.1,D.2⟩
def EQ(g a:Nat)(b:List Bool)(s:Nat)(d:Bool)(e:Nat)(c:List Bool):Prop:=if b[a]? = ag aE then s=a/\d=aE/\e=(g+1)%65536/\c=b.set a ao else d=ao/\e=g/\c=b
def VH{p q o:Nat}(w:Nat){b:List Bool}(k:gy f a z d p q o h b)(x:h<65536)(r:E b=8):bd aK 216 #[N a,ak .u32 w] f λi e=>∃(s:Nat) (u:Bool) (n:Nat) (l:List Bool),i=bg (bX #[J s,aG u])/\gy e a z d p q o n l/\EQ h w b s u n l/\n<65536/\E l=8/\eL a f e:=by
 by_cases g:b[w]? = ag aE;{have D:=(j_.1 g).1;exact(aeb k G g x).m λe ⟨A,B,F⟩=>⟨w,aE,_,_,af,A,by rw[EQ,b7 g];exact⟨af,af,af,af⟩,tI _ G,by simp[r],B⟩};{
 have t:bd aK 216 #[N a,ak .u32 w] f λi e=>i=bg (bX #[J 0,aG ao])/\e=f:=by{
 by_cases D:w<8;{
 have:aD f (M a<|5+w)=ag (aG ao):=by{
 cases j:b[w]? with
 | none=>rw[Sc]at j;omega
 | some y =>{
 cases y with
 | true=>exact absurd j g
 | false=>exact sN k w j}};have C:¬8<=(w:Int):=G;go_wp2;refine eh (v:=bX #[ak am 0,aG ao]) ?_ af ⟨af,af⟩;simp[dr,results216,go_sem]};{have C:8<=(w:Int):=G;go_wp2;refine eh (v:=bX #[ak am 0,aG ao]) ?_ af ⟨af,af⟩;simp[dr,results216,go_sem]}};refine t.m ?_;rintro e rfl;exact⟨0,ao,h,b,af,k,by rw[EQ,bJ g];exact⟨af,af,af⟩,x,r,mT _ _⟩}
def M_(a:List Bool)(k:E a=8):∃e g h i j b c d,a=[e,g,h,i,j,b,c,d]:=by
 match a,k with
 | [e,g,h,i,j,b,c,d],_=>exact⟨_,_,_,_,_,_,_,_,af⟩
def VJ{c P L x:Nat}{i:List Bool}(k:dg f h A)(g:gy f d z h c P L a i)(B:qP z)(S:E i=8)(ab:c<=1000)(ad:a<65536)(b:A.Ok x)(ac:x<=900000000000):bd aK 215 #[N d] f λT j=>T=bg (bX #[J<|nk (A.b_ (c+258) 2).2 a,aG<|dQ<|nk (A.b_ (c+258) 2).2 a<=kf i])/\dg j h (A.b_ (c+258) 2).1/\cI bH h f j:=by
 obtain⟨p,q,r,t,u,l,n,o,rfl⟩:=M_ i S;have Z:=wB A (c+258) 2;have Q:ax (bd aK 217 #[N d,J 258,J 2] (bq f) _):=I8 258 2 (bq f) k g B G G b G;have O:=ae k;have⟨w,hn⟩:=bi<|nk (A.b_ (c+258) 2).2 a;rw[<- hn];unfold nk at hn;generalize (A.b_ (c+258) 2).2=F at *;have:=qe (F:Int)
 have aa:fs.wrap ((F:Int)-a)=(w:Int):=by rw[DF];omega
 have cD:=bk.cell g 4 aA;simp only[g_,e9,fw]at cD;have:aD (bq f) (M d 4)=ag (ak fs a):=cD;have K:=ae g;have W:=jW (w:Int)
 have I:ax (dQ ((w:Int)<=(kf [p,q,r,t,u,l,n,o]:Nat))=dQ (w<=kf [p,q,r,t,u,l,n,o])):=by rw[ax,decide_eq_decide];omega
 clear k g hn b Z;go_wp2
 go_region_held (λj=>aD j (M d 4)=ag (ak fs a)) (first|assumption|go_keep)
  (first|(go_at_call 217;go_loud (refine Q.m λD ⟨Y,y⟩=>?_;have C:=lE (w:=bq f) (V K) y (V O) B id;have:aD D (M d 4)=ag (ak fs a):=bk.cell C 4 aA)))
 all_goals
  have H:=ae<|afk C;have R:=ae Y;have X:=ae<|dC l7 y;go_wp2_with fail;refine H.m ?_;rintro D rfl;go_wp2;refine eh (v:=bX #[ak am w,aG<|dQ<|w<=kf [p,q,r,t,u,l,n,o]]) ?_ af ?_
  ·rw[<- V I];simp[dr,results215,go_sem,W]
  ·exact⟨af,R,X⟩
def Kv{P:Prop}(h:P:=by rw[hf];unfold nk;omega):P:=h
def Qb{P:Prop}(h:P:=by subst cX;go_wp2;go_ret;exact⟨af,agT,agU,by first|exact⟨hu,ho,qU GD.2 GD.1⟩|exact qU GD.2 GD.1,KJ⟩):P:=h
def afm{l:Nat}{w:cz}(c:dg f d w.1)(I:gy f a 241 d 512 13312 w.4 w.5 w.6)(ap:w.5<65536)(A:E w.6=8)(C:w.1.Ok l)(a2:l<=800000000000):bd aK 161 #[N a] f λY z=>Y=bg (aG !w.lC.10)/\dg z d w.lC.1/\gy z a 241 d 512 13312 w.4 w.lC.5 w.lC.6/\(w.lC.5<65536/\E w.lC.6=8/\w.lC.1.Ok (l+40))/\cI (λh=>h=a) d f z:=by
 have M:=ae<|VJ c I bL A G ap C G;have aw:kf w.6<=8:=by rw[kf,<- A];exact vA _ _
 have al:=sI C (512+258) 2;have W:=ae c;have S:=ae I;have⟨g,hf⟩:=bi<|nk (w.1.b_ (512+258) 2).2 w.5;have aI:g<65536:=Kv
 have⟨ok,aY⟩:=bi<|dQ<|g<=kf w.6;have aj:ax (∀(i:cw×Nat×List Bool×Bool),(if ok then mO (w.1.b_ (512+258) 2).1 w.5 w.6 g else((w.1.b_ (512+258) 2).1,w.5,w.6,ao))=i->(!w.lC.10)=i.2.2.2/\w.lC.1=i.1/\w.lC.5=i.2.1/\w.lC.6=i.2.2.1):=λi e=>by
  subst e;rw[cz.lC,<- hf];by_cases y:g<=kf w.6
  ·rw[b7 y,aY,mL y];simp
  ·rw[bJ y,aY,gD y];simp
 rw[<- hf,<- aY]at M;have ay:ok=aE->g<=8:=λc=>by rw[aY]at c;have:=yu c;omega
 have⟨i,e⟩:=dK<|if ok then mO (w.1.b_ (512+258) 2).1 w.5 w.6 g else((w.1.b_ (512+258) 2).1,w.5,w.6,ao)
 have⟨r1,r2,r3,r4⟩:=V aj i e;rw[r1,r2,r3,r4];have o:=ae e;have aT:=ae al;generalize (w.1.b_ (512+258) 2).1=b at *;clear c I hf aY aj e r1 r2 r3 r4 al C;generalize w.6=out,w.5=aW at *;generalize w.4=T at *;go_in;go_wp2_with fail;refine M.m λa6 ⟨ac,B⟩=>?_;have ad:=ae<|lE (V S) B (V W) bL id;have X:=ae ac;have Z:=ae<|jk (K:=λh=>h=a) B λ_ c=>c.elim;clear ac B S W M aw;go_wp2
 go_loopw [3,4] (λaX aZ wr=>∃(m r k:Nat) (n:Bool) (b:cw) (j:List Bool),aZ=aG n/\aX=J m/\m<65536/\(if n then mO b k j m else(b,k,j,ao))=i/\(n=aE->r+4*m<=l+40)/\(r<=l+40/\b.Ok r)/\dg wr d b/\gy wr a 241 d 512 13312 T k j/\k<65536/\E j=8/\cI (λh=>h=a) d f wr) λaR _ _=>c7<|fJ aR
 ·exact⟨g,l+2,aW,ok,b,out,af,af,aI,o,λc=>cj<|ay c,⟨G,aT⟩,X,ad,ap,A,Z⟩
 ·obtain⟨m,r,k,n,b,j,rfl,rfl,a3,ar,aq,GD,H,e,hu,ho,aa⟩:=hrel;have agT:=ae H;have agU:=ae e;have KJ:=ae aa;have o:=ae ar;clear X ad Z ar;by_cases P:n=aE/\0<m
  ·obtain⟨rfl,ab⟩:=P;have aq:=aq af;have:0<(m:Int):=G;obtain⟨p,rfl⟩:∃p,m=p+1:=⟨m-1,G⟩
   have:=jW (p:Int)
   have⟨q,hq⟩:=bi<|260+8*(k%8);have Q:=ae<|VB (bq wr) e G;rw[<- hq]at Q;have an:=sI GD.2 (512+q) 4;have aV:ax (bd aK 217 #[N a,J q,J 4] (bq wr) _):=I8 q 4 (bq wr) H e bL G G GD.2 G;have aB:ax ((if j[(b.b_ (512+q) 4).2]? = ag aE then mO (b.b_ (512+q) 4).1 ((k+1)%65536) (j.set (b.b_ (512+q) 4).2 ao) p else((b.b_ (512+q) 4).1,k,j,ao))=i):=by
    have:=V o;rw[b7 af,mO,<- hq]at this;exact this
   have au:=ae fun(av:aQ) (aH:gy av a 241 d 512 13312 T k j)=>VH (b.b_ (512+q) 4).2 aH hu ho;have aC:=ae an;clear H e aa hq an o;generalize (b.b_ (512+q) 4).2=a5 at *;go_wp2
   go_region_held (λ_=>True) (trivial)
    (first|(go_at_call 218;go_loud (refine Q.m ?_;rintro z rfl))|(go_at_call 217;go_loud (refine aV.m λa0 ⟨u,D⟩=>?_;have x:=lE (w:=bq wr) (V agU) D (V agT) bL id;have az:=ae<|au a0 x))|(go_at_call 216;go_loud (refine az.mono ?_;rintro Y a7 ⟨a4,R,u3,O,rfl,ah,t,aA,aU,F⟩)))
   all_goals
    have aF:=ae<|yK u x bL λh aN aJ=>F.5 h aN aJ;have aP:=ae ah;have aM:=ae<|dC (dC (V KJ) l7)<|dC (jk D λ_ c=>c.elim)<|wy (L:=λh=>h=a) F af (yL u x bL) (jv u);have a1:ax ((if R then mO (b.b_ (512+q) 4).1 u3 O p else((b.b_ (512+q) 4).1,u3,O,ao))=i):=by
     have:=V aB;unfold EQ at t;split at t
     ·obtain⟨-,rfl,rfl,rfl⟩:=t;rw[b7 fN]at this;exact this
     ·obtain⟨rfl,rfl,rfl⟩:=t;rw[bJ fN]at this;exact this
    clear u D x ah F t;go_wp2;exact⟨⟨p,r+4,u3,R,_,O,af,af,G,a1,λ_=>G,⟨G,aC⟩,aF,aP,aA,aU,aM⟩,by simp[fJ]⟩
  ·cases n with
   | false =>
    have cX:=V o;rw[bJ bL]at cX;exact Qb
   | true =>
    have ab:m=0:=by have:¬0<m:=λc=>P ⟨af,c⟩;omega
    subst ab;have cX:=V o;rw[b7 af,mO]at cX;exact Qb
structure iA(w:World)(yb zd mb:Nat)(aB ip:ap)(X:cz)(C:Nat):Prop where
 mem:dg w mb X.s
 doc:pB w yb zd mb aB ip X
 ok:X.ra<65536/\X.eH<65536/\X.sa<65536/\X.eW<65536/\X.o.length=8
 sz:X.s.Ok C/\X.n<=C/\X.t<=C/\X.d<=C
section
variable {w w':World} {yb zd mb C C':Nat} {aB ip:ap} {X Y:cz}
def iS(a:pB w yb zd mb aB ip X)(b:E X.6=8):aD w (M yb 0)=ag (N zd)/\aD w (M yb 1)=ag (aZ aB)/\aD w (M yb 2)=ag (aZ ip)/\aD w (M yb 3)=ag (N mb)/\aD w (M yb 12)=ag (J X.4)/\aD w (M yb 13)=ag (J X.5)/\aD w (M yb 14)=ag (J X.2)/\aD w (M yb 15)=ag (J X.3)/\aD w (M yb 16)=ag (J X.7)/\aD w (M yb 17)=ag (J X.8)/\aD w (M yb 18)=ag (J X.9)/\aD w (M yb 19)=ag (aG X.10):=by obtain⟨s,t,h,u,d,c,l,x,g,e⟩:=X;obtain⟨n,o,p,q,r,i,j,k,rfl⟩:=M_ c b;exact⟨bk.cell a 0 aA,bk.cell a 1 aA,bk.cell a 2 aA,bk.cell a 3 aA,bk.cell a 12 aA,bk.cell a 13 aA,bk.cell a 14 aA,bk.cell a 15 aA,bk.cell a 16 aA,bk.cell a 17 aA,bk.cell a 18 aA,bk.cell a 19 aA⟩
def Ja(c:pB w yb zd mb aB ip X)(a:Nat)(b:Bool)(d:X.6[a]? = ag b):aD w (M yb<|4+a)=ag (aG b):=by have⟨hl,he⟩:=j_.1 d;have:=bk.cell c (4+a) cx;rw[this,RI aA,RH Ii];simp[he]
def yM(a:pB w yb zd mb aB ip X)(c:E X.6=8)(v:Nat):pB (a_ w ⟨yb,12,ai⟩<|ak am v) yb zd mb aB ip { X with sa:=v }/\pB (a_ w ⟨yb,13,ai⟩<|ak am v) yb zd mb aB ip { X with eW:=v }/\pB (a_ w ⟨yb,14,ai⟩<|ak am v) yb zd mb aB ip { X with ra:=v }/\pB (a_ w ⟨yb,15,ai⟩<|ak am v) yb zd mb aB ip { X with eH:=v }/\pB (a_ w ⟨yb,16,ai⟩<|ak am v) yb zd mb aB ip { X with n:=v }/\pB (a_ w ⟨yb,17,ai⟩<|ak am v) yb zd mb aB ip { X with t:=v }/\pB (a_ w ⟨yb,18,ai⟩<|ak am v) yb zd mb aB ip { X with d:=v }/\pB (a_ w ⟨yb,19,ai⟩<|aG aE) yb zd mb aB ip { X with b:=aE }:=by obtain⟨s,ra,eH,sa,g,e,n,t,d,b⟩:=X;obtain⟨k,l,o,p,q,h,i,j,rfl⟩:=M_ e c;exact⟨bk.set a 12 _,bk.set a 13 _,bk.set a 14 _,bk.set a 15 _,bk.set a 16 _,bk.set a 17 _,bk.set a 18 _,bk.set a 19 _⟩
def VL(c:pB w yb zd mb aB ip X)(a:Nat)(aN:a<E X.6)(b:Bool):pB (a_ w ⟨yb,4+a,ai⟩<|aG b) yb zd mb aB ip { X with o:=X.6.set a b }:=by have:=bk.set c (4+a)<|aG b;unfold pB;rw[vC _ _ aA,List.set_append_left _ _<|by simpa using aN]at this;rw[GK];simpa using this
def Jb(a:iA w yb zd mb aB ip X C):yb<U w.1/\mb<U w.1/\mb≠yb:=⟨bk.lt a.2,jv a.1,yL a.1 a.2 bL⟩
def tS(a:iA w yb zd mb aB ip X C)(e:dg w' mb A)(c:cI bH mb w w')(d:A.Ok C')(g:C<=C'):iA w' yb zd mb aB ip { X with s:=A } C':=⟨e,ix c a.1 a.2 bL id,a.3,d,by have:=a.4;show X.7<=_/\X.8<=_/\X.9<=_;omega⟩
def xv(a:iA w yb zd mb aB ip X C)(c:eL yb w w')(e:pB w' yb zd mb aB ip Y)(d:Y.1=X.1)(g:Y.2<65536/\Y.3<65536/\Y.4<65536/\Y.5<65536/\E Y.6=8)(i:Y.7<=C/\Y.8<=C/\Y.9<=C):iA w' yb zd mb aB ip Y C/\cI (λb=>b=yb) mb w w':=by have⟨l1,l2,l3⟩:=Jb a;exact⟨⟨d▸yK a.1 a.2 bL λb aN h=>c.5 b aN h,e,g,d▸a.4.1,i⟩,wy c af l3 l2⟩
def rh(a:iA w yb zd mb aB ip X C)(b:C<=C'):iA w yb zd mb aB ip X C':=⟨a.1,a.2,a.3,qU a.4.1 b,by have:=a.4;omega⟩
end
def Jc{i:Nat}{k:cz}(e:iA f a h d c g k i):bd aK 158 #[N a] f λo l=>o=bg (J 4)/\iA l a h d c g { k with b:=aE } i/\cI (λp=>p=a) d f l:=by have⟨_,_,_,_,_,_,_,_,_,_,_,CK⟩:=iS e.2 e.3.2.2.2.2;have:=bk.frozen e.2;have j:=ae<|xv e (kI (mT _ _) 19<|aG aE) (yM e.2 e.3.2.2.2.2 0).2.2.2.2.2.2.2 af e.3 e.4.2;go_wp2;go_ret;exact⟨af,j.1,j.2⟩
def PF{P:Prop}(h:P:=by go_wp2_with fail;refine kg.m ?_;rintro w3 ⟨nB,gi⟩;have bI:=ae<|dO w3 nB gi;clear nB gi;go_wp2;go_ret;exact⟨by rw[bI.1];rfl,bI.2⟩):P:=h
def afn{D n:Nat}{X:cz}(i:iA f a D d c g X n)(bo:X.10=ao)(bu:n<=800000000000):bd aK 156 #[N a] f λan C=>an=bg (J<|if X.lC.10 then 4 else 0)/\iA C a D d c g X.lC (n+40)/\cI (λe=>e=a) d f C:=by
 have⟨_,_,_,c3,_⟩:=iS i.2 i.3.2.2.2.2;have aj:=ae<|EO 770 2 X.1 f i.1 G G i.4.1 G;have a9:=wB X.1 770 2;rw[show(2:Nat) ^ (8*2)=65536 from af]at a9;have aV:=sI i.4.1 770 2;have aA:=ae i;have:=i.3.2.2.2.1;have aI:=i.3.2.2.2.2;have⟨y,hf⟩:=bi<|nk (X.1.b_ 770 2).2 X.5;have bv:y<65536:=Kv
 have bc:(((X.1.b_ 770 2).2:Int)-(X.5:Int)+65536)%65536=(y:Int):=Kv
 have bw:(((X.1.b_ 770 2).2:Int)-(X.5:Int)+65536).tmod 65536=(y:Int):=by rw[qQ G];exact bc
 have aT:ax (∀(B:cw×Nat×List Bool×Bool),(if y<=kf X.6 then mO (X.1.b_ 770 2).1 X.5 X.6 y else((X.1.b_ 770 2).1,X.5,X.6,ao))=B->X.lC = { X with s:=B.1,eW:=B.2.1,o:=B.2.2.1,b:=!B.2.2.2 }):=λB l=>by
  subst l;unfold cz.lC;rw[<- hf];by_cases u:y<=kf X.6
  ·rw[b7 u,b7 u]
  ·rw[bJ u,bJ u];rfl
 generalize (X.1.b_ 770 2).2=bA at *;generalize (X.1.b_ 770 2).1=Q at *;have⟨B,l⟩:=dK<|if y<=kf X.6 then mO Q X.5 X.6 y else(Q,X.5,X.6,ao)
 rw[V aT B l];have ad:=ae l;have bj:=ae aV;clear i hf aT l aV;have⟨v,w⟩:=bi (if(!B.2.2.2)then 4 else 0:Int)
 rw[show(if({ X with s:=B.1,eW:=B.2.1,o:=B.2.2.1,b:=!B.2.2.2 } : cz).10 then(4:Int)else 0)=v from bZ w];have ar:=ae w;clear w;have S:∀k,k<8->X.6[k]? = ag (X.6[k]?.getD ao):=λk aN=>by rw[gw G];rfl
 have br:kf X.6<=8:=by unfold kf;rw[<- aI];exact vA _ _
 replace S:=ae S;go_in;go_wp2_with fail;refine aj.m ?_;rintro aU ⟨aR,au⟩;have ah:=tS (V aA) aR au (V bj) G;have al:=ae ah;have aq:=ae<|jk (K:=λe=>e=a) au λ_ i=>i.elim;have⟨_,_,_,_,_,d13,_⟩:=iS ah.2 aI;have az:=bk.frozen ah.2;clear aR au aj aA c3 ah;go_wp2
 go_loopw [4,5] (λbf e wr=>∃k:Nat,bf=J (kf (amA k X.6):Nat)/\e=J k/\k<=8/\wr=aU) λ_ e _=>8-c7 (fJ e)
 ·exact⟨0,af,af,G,af⟩
 ·obtain⟨k,rfl,rfl,aN,rfl⟩:=hrel;by_cases aP:k<8
  ·have:=Ja al.2 k _<|S k aP;have R:=ae<|VD X.6 k G;have:kf (amA k X.6)<=8:=by
    unfold kf;exact cU (vA _ _) cx
   generalize X.6[k]?.getD ao=b at *;generalize kf (amA k X.6)=ay at *;have⟨z,hz⟩:=bi<|kf<|amA (k+1) X.6;rw[<- hz]at R;replace hz:=ae hz;cases b with
   | true =>
    have aw:z=ay+1:=by have:=V R;simpa using this
    have:(ay:Int)+1=z:=G;clear aw R;go_wp2;exact H6
   | false =>
    have aw:z=ay:=by have:=V R;simpa using this
    subst aw;clear R;go_wp2;exact H6
  ·have a2:k=8:=G;subst a2;rw[oT G];by_cases u:y<=kf X.6
   ·have bb:¬((kf X.6:Nat):Int)<(y:Int):=G;have Y:ax (mO Q X.5 X.6 y=B):=by have:=V ad;rw[b7 u]at this;exact this
    have:y<=8:=G;clear ad u;generalize kf X.6=a1 at *;go_wp2
    go_loopw [7] (λe wr=>∃(k A:Nat) (p:cw) (o:List Bool),e=J k/\k<=y/\mO p A o (y-k)=B/\iA wr a D d c g { X with s:=p,eW:=A,o:=o } (n+2+4*k)/\cI (λe=>e=a) d f wr) λe _=>y-c7 (fJ e)
    ·exact⟨0,X.5,Q,X.6,af,eb _,Y,al,aq⟩
    ·clear al aq Y d13 az S;obtain⟨k,A,p,o,rfl,aN,l,q,L⟩:=hrel;have aY:=ae q;have aW:=ae L;have:A<65536:=q.3.2.2.2.1;have T:E o=8:=q.3.2.2.2.2;by_cases aP:k<y
     ·have⟨_,_,_,c3,_,Na,_⟩:=iS q.2 T;have⟨I,tO⟩:=bi<|A%8
      have⟨P,vI⟩:=bi<|8*I
      have⟨j,hq⟩:=bi<|772+P;have a3:(A:Int)%8=I:=G;have bt:(A:Int).tmod 8=(I:Int):=by rw[qQ G];exact a3
      have:8*(I:Int)=P:=G;have:772+(P:Int)=j:=G;have aU:=jW (I:Int)
      have x:=jW (P:Int)
      have w3:=jW (j:Int)
      have bx:am.wrap (8*(I:Int))=(P:Int):=fT
      have bz:am.wrap (772+(P:Int))=(j:Int):=fT
      have:j<900:=G;have:I<8:=G;rw[show y-k=(y-(k+1))+1 by omega,mO,show 512+(260+8*(A%8))=j by omega]at l;have aB:=sI q.4.1 j 4;have aZ:=wB p j 4;have aj:ax (bd aK 157 #[N d,J j,J 4] (bq wr) λan C=>an=bg (J (p.b_ j 4).2)/\dg C d (p.b_ j 4).1/\cI bH d (bq wr) C):=EO j 4 p (bq wr) q.1 G G q.4.1 G;have:aD (bq wr) (M a 3)=ag (N d)/\aD (bq wr) (M a 13)=ag (J A):=⟨c3,Na⟩
      have ba:ax (∀ab Z,dg ab d Z->cI bH d (bq wr) ab->Z.Ok (n+2+4*k+4)->iA ab a D d c g { X with s:=Z,eW:=A,o:=o } (n+2+4*(k+1))):=λab Z a8 L a7=>tS (X:={ X with s:=p,eW:=A,o:=o }) (V aY) a8 (dC l7 L) a7 G;have a4:=ae aB;generalize (p.b_ j 4).2=h at *;generalize (p.b_ j 4).1=aa at *;rw[show(2:Nat) ^ (8*4)=4294967296 from af]at aZ;have aF:=ae l;clear q L l tO hq vI aB;go_wp2
      go_region_held (λC=>aD C (M a 3)=ag (N d)/\aD C (M a 13)=ag (J A)) (first|assumption|go_keep)
       (first|(go_at_call 157;go_loud (refine aj.m ?_;rintro x ⟨aH,O⟩;have F:=V ba x aa aH O<|V a4;have:aD x (M a 3)=ag (N d)/\aD x (M a 13)=ag (J A):=⟨(iS F.2 T).2.2.2.1,(iS F.2 T).2.2.2.2.2.1⟩)))
      all_goals
       have r:=ae F;have aJ:=ae<|dC (V aW)<|dC l7<|jk O λ_ i=>i.elim;clear aH O F;by_cases H:o[h]? = ag aE
       ·have bp:=(j_.1 H).1;have ac:¬8<=(h:Int):=G;have aX:=gD ac;have a0:=Ja r.2 h aE H;have az:=bk.frozen r.2;have t:=V aF;rw[b7 H]at t;have⟨u1,hu1⟩:=bi<|(A+1)%65536;have bl:((A:Int)+1)%65536=u1:=G;have bs:((A:Int)+1).tmod 65536=(u1:Int):=by rw[qQ G];exact bl
        have W:=VL r.2 h bp ao;have av:E (o.set h ao)=8:=by rw[rU];exact T
        have⟨_,_,_,_,_,g13,_⟩:=iS W av;have:=bk.frozen W;have aC:=(yM W av u1).2.1;have dO:=ae<|xv (V r) (kI (kI (mT _ _) (4+h)<|aG ao) 13<|J u1) aC af ⟨r.3.1,r.3.2.1,r.3.2.2.1,by show u1<65536;omega,av⟩ r.4.2;have bn:ax (mO aa u1 (o.set h ao) (y-(k+1))=B):=by rw[hu1];exact t
        clear t W aC hu1 H;go_wp2;exact⟨⟨k+1,u1,aa,_,dH,G,bn,dO.1,dC (V aJ) dO.2⟩,ee⟩
       ·have t:=V aF;rw[bJ H]at t;have kg:=ae<|Jc<|V r;have dO:ax (∀w3,iA w3 a D d c g { X with s:=aa,eW:=A,o:=o,b:=aE } (n+2+4*(k+1))->cI (λe=>e=a) d x w3->v=4/\iA w3 a D d c g { X with s:=B.1,eW:=B.2.1,o:=B.2.2.1,b:=!B.2.2.2 } (n+40)/\cI (λe=>e=a) d f w3):=λw3 a5 a6=>by
         have w:=V ar;subst t;exact⟨w,rh a5 G,dC (V aJ) a6⟩
        have bh:8<=(h:Int)\/(¬8<=(h:Int)/\aD x (M a<|4+h)=ag (aG ao)):=by
         by_cases S:h<8
         ·refine bE ⟨G,Ja r.2 h ao ?_⟩;show o[h]? = ag ao;cases aM:o[h]? with
          | none=>rw[Sc]at aM;omega
          | some b =>
           cases b with
           | true=>exact absurd aM H
           | false=>rfl
         ·exact bG G
        clear t H;rcases bh with ac|⟨ac,a0⟩
        ·exact PF
        ·have aX:=gD ac;exact PF
     ·obtain rfl:k=y:=G;rw[sm,mO]at l;have bI:ax (v=0/\iA wr a D d c g { X with s:=B.1,eW:=B.2.1,o:=B.2.2.1,b:=!B.2.2.2 } (n+40)/\cI (λe=>e=a) d f wr):=by
       have w:=V ar;subst l;refine⟨w,?_,L⟩;have:=rh (C':=n+40) q G;rw[bo]at this;exact this
      clear q L l;go_wp2;go_ret;exact⟨by rw[bI.1];rfl,bI.2⟩
   ·have bb:((kf X.6:Nat):Int)<(y:Int):=G;have Y:ax ((Q,X.5,X.6,ao)=B):=by have:=V ad;rw[bJ u]at this;exact this
    have kg:=ae<|Jc<|V al;clear ad u;generalize kf X.6=a1 at *;go_wp2_with fail;refine kg.m ?_;rintro x ⟨F,O⟩;have dO:ax (v=4/\iA x a D d c g { X with s:=B.1,eW:=B.2.1,o:=B.2.2.1,b:=!B.2.2.2 } (n+40)/\cI (λe=>e=a) d f x):=by
     have t:=V Y;have w:=V ar;subst t;exact⟨w,rh F G,dC (V aq) O⟩
    clear F O kg;go_wp2;go_ret;exact⟨by rw[dO.1];rfl,dO.2⟩
def Vq(e:aQ)(d:UInt8):∀b c,[ak ck<|be d][b]? = ag c->aD (aO e<|aS #[ak ck<|be d] 5) (((M (U e.1) 0):Addr).add b)=ag c:=λb c a=>by
 match b,a with
 | 0,a=>simp at a;subst a;simp[Addr.add]
 | g+1,a=>grind
def Vr(c:UInt8):∀b∈[ak ck<|be c],b.oneCell'=aE:=λb a=>by simp at a;subst a;rfl
def afo{h n j x b:Nat}{e:List Bool}(g:gy f h z a d n j x e)(k:b<8)(u:∀c,c<b->e[c]? = ag aE)(q:e[b]? = ag ao):bd aK 261 #[bC h 5 8 8,aG ao] f λp y=>p=bg (J b)/\y=f:=by
 have i:=ae g;have l:=ae u;have:=sN g b q;go_wp2;go_loopw [8] (λc wr=>∃t:Nat,c=J t/\t<=b/\wr=f) λc _=>8-c7 (fJ c);·exact⟨0,af,G,af⟩
 ·(obtain⟨t,rfl,A,rfl⟩:=hrel;have:t<8:=G;by_cases r:t<b;{have:=sN (V i) t<|l t r;go_wp2;exact⟨⟨t+1,dH,G,by first|trivial|rfl⟩,ee⟩};{have o:t=b:=G;subst o;go_wp2;go_ret;exact pf})
def afp{i k h u:Nat}{t:List Bool}(q:gy f a z d i k h u t)(p:∀b,b<8->t[b]? = ag aE):bd aK 261 #[bC a 5 8 8,aG ao] f λn w=>n=bg (J<|-1)/\w=f:=by
 have g:=ae q;have j:=ae p;go_wp2;go_loopw [8] (λb wr=>∃c:Nat,b=J c/\c<=8/\wr=f) λb _=>8-c7 (fJ b);·exact⟨0,af,G,af⟩
 ·(obtain⟨c,rfl,x,rfl⟩:=hrel;by_cases o:c<8;{have:=sN (V g) c<|j c o;go_wp2;exact⟨⟨c+1,dH,G,by first|trivial|rfl⟩,ee⟩};{have l:c=8:=G;subst l;go_wp2;go_ret;exact pf})
def afq{g h e o:Nat}{s:List Bool}(l:gy f d z a g h e o s)(k:∀b,b<8->s[b]? = ag aE):bd aK 221 #[N d,aZ c] f λj p=>j=bg (aG ao)/\p=f:=by have i:=ae<|afp l k;go_in;go_wp21;refine i.m ?_;rintro f rfl;go_wp2;go_ret;exact pf
def sC(e:dg f a A)(g:eO f a d):d<U f.1:=by have⟨cur,t,h1,_⟩:=xL e g;exact(ea.1 h1).1
structure qy(w wr:World)(mb:Nat)(v:Value)(s:ap)(T:cw):Prop where
 o:ib wr w.heap.size v s
 m:dg wr mb T
 a:∀i,eO wr mb i->some i≠v.ownBlock
 f:cI bH mb w wr
def qy.aq3{g:cw}(n:qy f m a e c A)(o:dg u a g)(d:cI bH a m u):qy f u a e c g :=
 ⟨mN n.1 λi j=>d.5 i (pX n.1 j) id λb=>n.3 i b<|bZ j,o,λk b h=>(d.6 k b).elim (λb=>n.3 k b h) λp=>by have:=pX n.1<|bZ h;omega,dC n.4 d⟩
def qy.aq4{q:Nat}{v:UInt8}(b:qy f m a e c A)(y:u.ownsRow (U f.1) 5 1 (bC d 0 h q) h<|b9 (λv=>ak ck<|be v) c++[ak ck<|be v])(w:h=E c+1)(i:(aO m<|aS #[ak ck<|be v] 5).grownBy u<|bW e)(t:bW e=ag d\/d=U m.1+1):qy f u a (bC d 0 h q) (c++[v]) A:=by have l:=λs aN x=>(i.5 s cx x).trans<|dT _ _ _ aN;have z:U m.1<=U u.1:=cU aA i.4;have n:∀s,eO u a s->eO m a s:=λs g=>oB (l a (jv b.2)<|b.3 a<|bG af) g;refine⟨by unfold ib;rw[dE,kq,show E c + [v].length=h by rw[w];rfl];exact y,CH b.2 λs g=>l s (sC b.2 g)<|b.3 s g,λs g k=>?_,?_⟩;{have aN:=sC b.2<|n s g;rcases t with r|r;{exact b.a s (n s g) (by rw[r];exact k)};{have:s=d:=ih k;omega}};{refine⟨c_ i.1 b.4.1,c_ i.2 b.4.2,c_ i.3 b.4.3,cU b.4.4 z,λs aN p g=>(l s (e8 aN b.4.4) λk=>?_).trans<|b.4.5 s aN p g,λs g=>b.4.6 s<|n s g⟩;have:=(sG b.1<|bZ k).1;omega}
def afr{h ay av a0:Nat}(k:Nat){o:Nat}(j:Nat){L:Nat}{aW:List Bool}(q:dg f a A)(Z:gy f h z a ay d av a0 aW)(aa:qP z)(an:d<=100000)(aP:k<=100)(X:o=12+j)(a4:o<=1536)(bc:d+1536*k+1536<=25600)(S:A.Ok L)(a9:L<=900000000000):bd aK 260 #[N h,J k,J o] f λt y=>t=bg (aZ (A.gv (d+1536*k+12) j).2)/\dg y a (A.gv (d+1536*k+12) j).1/\cI bH a f y:=by
 have⟨i0,aN,hz0,hz1,hz2⟩:=jN Cr;have⟨w1,km,ho1,hg1⟩:=run_make_own (P:=aK) f (U f.1) 58 5 i0 (ak ck 0) 1 AC aN hz0 hz1 am am j (by rw[hz2];omega) m9 bv;have bf:am.wrap ((o:Int)-12)=(j:Int):=fT
 have l:a7 f w1:=cd.grown hg1 bv (λw W=>by cases W);have aB:=ae q;have a2:ax (qy f w1 a (bC (U f.1) 0 0 j) [] A):=⟨ho1,tQ q l,λi aV t=>by have:=sC q<|oB (l.5 a<|jv q) aV;have:i=U f.1:=ih t;omega,qc l<|jv q⟩
 have D:=ae Z;have x:=ae X;have aw:=ae S;have:j<=1524:=G;have⟨p0,jf⟩:=bi<|d+1536*k+12;rw[<- jf];have ah:=ae jf;clear q Z ho1 hg1 l X S jf;go_wp2
 go_loopw [7,8] (λv i wr=>∃(w:Nat) (a1:bm),a1=v/\i=J (12+w:Nat)/\w<=j/\qy f wr a v (A.gv p0 w).2 (A.gv p0 w).1) λ_ i _=>o-c7 (fJ i)
 ·exact⟨0,_,af,af,eb _,a2⟩
 ·obtain⟨w,v,rfl,rfl,W,g⟩:=hrel;have ap:=I_ A p0 w;by_cases ba:w<j
  ·have B:=lE (V D) g.4 (V aB) aa id;have ac:=bk.cell B 0 aA;simp only[g_,e9,fw]at ac;have:=Vx a;have:=Vz;have⟨ab,hq⟩:=bi<|d+1536*k;have⟨i,NN⟩:=bi<|12+w;have⟨p,iE⟩:=bi<|ab+i;have O:p=p0+w:=by rw[V ah];omega
   have aT:ax (A.gv p0 (w+1)=((A.gv p0 w).1.uA p,(A.gv p0 w).2++[(A.gv p0 w).1.tL p])):=by rw[ax,cw.gv,O]
   have a6:am.wrap ((ab:Int)+i)=(p:Int):=by have:=V x;rw[wL];omega
   have Q:=ae<|M5 k (bq wr) B an aP;rw[<- hq]at Q;have⟨o1,o2,_⟩:=EN (V aw) p0 w;have aX:=ae<|I4 p (bq wr) g.2 (cj<|V x) G G;have:aD (bq wr) (M h 0)=ag (cV 71<|N a):=ac;have aR:ax (∀e:aQ,cI bH a (bq wr) e->aD e (M h 0)=ag (cV 71<|N a)):=λe u=>bk.cell (lE (w:=bq wr) B u g.2 aa id) 0 aA;have ar:ax (∀e C,dg e a C->cI bH a (bq wr) e->qy f e a v (A.gv p0 w).2 C):=λe C aJ u=>qy.aq3 g aJ<|dC l7 u;have aq:ax (∀e,cI bH a f e->h<U e.1):=λe u=>e8 (bk.lt<|V D) u.4;rw[<- NN];have aY:(i:Int)<o:=cj<|V x
   have⟨i1,CU⟩:=bi<|12+(w+1);have:(i:Int)+1=i1:=G;have K:=ae CU;have au:=ae NN;have al:ag h≠bW v:=λt=>by have:=(sG g.1<|bZ t).1;have:=bk.lt<|V D;omega
   have aj:ax (∀(n:UInt8) (c ad:aQ),h<U c.1->(aO c<|aS #[ak ck<|be n] 5).grownBy ad (bW v)->aD c (M h 0)=ag (cV 71<|N a)->aD ad (M h 0)=ag (cV 71<|N a)):=λn c ad aM aI aH=>(ev<|(aI.5 h cx al).trans<|dT _ _ _ aM).trans aH;generalize (A.gv p0 w).1.tL p=n at *;generalize (A.gv p0 w).2=s at *;generalize (A.gv p0 w).1.uA p=a3 at *;clear g hq iE B NN CU O o1 o2;go_wp2
   go_region_held_law (λy=>aD y (M h 0)=ag (cV 71<|N a)) (first|assumption|go_keep)
    (first|(go_at_call 214;go_loud (refine Q.m ?_;rintro y rfl))|(go_at_call 159;go_loud (refine aX.m ?_;rintro c ⟨R,F⟩;have aC:=V aR c F;have r:=V ar c _ R F;have I:c.ownsRow (U f.1) 5 1 v w (s.map λaz=>ak ck<|be az):=by { have:=r.1;unfold ib at this;rw[ap]at this;exact this }))|(refine step_append_lies _ dS (.tmp 17) (.tmp 33) 58 dS (U f.1) 5 i0 (ak ck 0) 1 1 AC aN hz0 hz1 hz2 af bL v w _ dS (I.alloc _) (M (U c.1) 0) 1 1 [ak ck<|be n] dS af (Vq c n) (Vr n) bL m9 G (by have:=r.4.4;simp;omega) (U c.1+1) aA ?_;intro a8 a5 ad Y H T bb;have:=V aj n c ad (aq c r.4) H aC))
   all_goals
    have aU:=ae<|qy.aq4 r Y G H T;clear R F I Y H r T;go_wp2;exact⟨⟨w+1,_,af,by rw[<- V K],G,by rw[V aT];exact aU⟩,by have:=V x;have:=V K;have:=V au;exact Bz⟩
  ·have aF:w=j:=G;subst aF;have:=yc g.1;have aY:¬12+(w:Int)<o:=cj<|V x
   replace g:=ae g;go_wp2;go_ret;exact⟨af,g.2,g.4⟩
def afs{g:Obj}(b:dg f a A):¬eO (aO f g) a (U f.1):=λe=>by
 have:=sC b<|oB (dT _ _ _<|jv b) e;omega
def Vs{o c r s n:Nat}{k:List Bool}(j:dg f h A)(p:gy f a z h d o c r k)(F:qP z)(w:d<=1000)(t:c<65536)(u:E k=8)(L:s<8)(b:A.Ok n)(B:n<=900000000000):bd aK 153 #[N a,bC (U f.1) 0 1 1] (aO f<|aS #[ak am s] 3) λe i=>e=bg (bX #[])/\dg i h (A.off d c [s])/\gy i a z h d o ((c+1)%65536) r (k.set s aE)/\cI (λI=>I=a) h f i:=by
 have q:a7 f (aO f<|aS #[ak am s] 3):=ct cd bv _;have D:=bk.lt p;refine(M8 (U f.1) 1 [s] _ (tQ j q) ((dT _ _ _ D).trans p) F w t u (λM H=>by simp at H;omega) aA b B (bE af) (λe=>by cases e) (λK C=>by{
 have:K=0:=by simp at C;omega
 subst this;exact bk.cell (bk.fF f [J s] 3) 0 aA}) λ_=>⟨aA,G,afs j⟩).mono ?_
 rintro e i ⟨rfl,x,y,l⟩;exact⟨af,x,y,dC (qc q<|jv j) l⟩
def Cs(b d:Nat)(a:cz)(e:Nat)(i:aQ)(g:nO)(c:aQ):Prop :=
 g=bg (bX #[aZ<|a.kM.2.getD [],aG a.kM.2.isSome])/\dg c b a.kM.1.1/\gy c d 240 b 0 1024 a.kM.1.2 a.kM.1.3 ve/\(a.kM.1.2<65536/\a.kM.1.3<65536/\a.kM.1.1.Ok (e+1600))/\cI (λh=>h=d) b i c
def JW{P:Prop}(h:P:=by go_wp2;refine eh (v:=bX #[amz ⟨#[]⟩,aG ao]) ?_ af (V jD);simp[dr,results220,go_sem]):P:=h
def aft{i:Nat}{g:cz}(b:dg f d g.1)(z:gy f a 240 d 0 1024 g.2 g.3 ve)(av:g.2<65536)(an:g.3<65536)(P:g.1.Ok i)(bh:i<=800000000000):bd aK 220 #[N a] f λw h=>Cs d a g i f w h:=by
 have⟨o,hq⟩:=bi<|260+8*(g.3%8);have⟨p,Dx⟩:=bi<|o+4;have D:=ae<|VB f z an;have aq:ax (bd aK 217 #[N a,J o,J 4] f _):=I8 o 4 f b z bL G G P G;rw[<- hq]at D;have bf:am.wrap ((o:Int)+4)=(p:Int):=fT
 have:(o:Int)+4=p:=G;have aw:=ae z;have az:=ae b;have:p<=320:=G;have aj:g.lB=g.1.b_ (0+o) 4:=by rw[cz.lB,hq,g8]
 have al:g.gT=g.lB.1.b_ (0+p) 4:=by rw[cz.gT,Dx,hq,g8]
 rw[<- aj]at aq;have a6:=ae al;have aR:ax (g.lB.1.Ok<|i+4):=by rw[ax,aj];exact sI P _ 4
 have F:ax (g.gT.1.Ok<|i+8):=by rw[ax,al];exact sI (V aR) _ 4
 clear b z hq Dx aj al P;have aT:ax (g.lB.2<8/\12<=g.gT.2/\g.gT.2<=1536->g.kM=({ g with s:=(g.gT.1.gv (1024+1536*g.lB.2+12)<|g.gT.2-12).1.off 0 g.2 [g.lB.2],ra:=(g.2+1)%65536,eH:=(g.3+1)%65536 },ag (g.gT.1.gv (1024+1536*g.lB.2+12)<|g.gT.2-12).2)):=λX=>by unfold cz.kM cz.vJ;rw[b7 X]
 have ab:ax (¬(g.lB.2<8/\12<=g.gT.2/\g.gT.2<=1536)->∀n h,dg h d g.gT.1->gy h a 240 d 0 1024 g.2 g.3 ve->cI (λk=>k=a) d n h->Cs d a g i n (bg<|bX #[amz ⟨#[]⟩,aG ao]) h):=λX n h a1 a2 a3=>by{unfold Cs cz.kM cz.vJ;rw[bJ X];exact⟨af,a1,a2,⟨av,an,qU (V F) G⟩,a3⟩};generalize g.lB.2=t at *;generalize Z:g.gT.2=e at *;replace Z:=ae Z;go_in;go_wp2_with fail;refine D.m ?_;rintro f rfl;go_wp2_with fail;refine aq.m ?_;rintro n ⟨aa,I⟩;have S:=lE (V aw) I (V az) bL id;have aV:ax (bd aK 217 #[N a,J p,J 4] n λw h=>w=bg (ak .u32 e)/\dg h d g.gT.1/\cI bH d n h):=by{have:=I8 p 4 n aa S bL G G (V aR) G;rw[<- V a6,V Z]at this;exact this};have ad:=ae<|cv S aa;have aB:=ae I;clear aq aw az aa S I D;go_wp2_with fail;refine aV.m ?_;rintro a7 ⟨aA,Q⟩;have T:=lE ad.1 Q ad.2 bL id;have H:=ae<|VH t T an af;have r:=ae aA;have A:=ae T;have M:=ae<|jk (K:=λk=>k=a) (dC (V aB) Q) λ_ b=>b.elim;clear aV ad aB aA T Q;by_cases Y:12<=e/\e<=1536;{
 have B:¬(e:Int)<12:=G;have aH:¬1536<(e:Int):=G;have:=jW (e:Int)
 have aW:=gD B;have:=gD aH;go_wp2_with fail;refine H.mono ?_;rintro w a8 ⟨l,bj,ba,bb,rfl,aF,u,bc,a5,R⟩;have x:=ae<|yK (V r) (V A) bL λk aN a4=>R.5 k aN a4;have ac:=ae<|dC (V M)<|wy (L:=λk=>k=a) R af (yL (V r) (V A) bL) (jv<|V r);have C:=ae aF;clear H r A M aF R;have y:(ve[t]? = ag aE) ↔ t<8:=by{
 constructor;{intro b;exact(j_.1 b).1};{
 intro b;match t,b with
 | 0,_|1,_|2,_|3,_|4,_|5,_|6,_|7,_=>rfl}};unfold EQ at u;by_cases q:t<8;{
 rw[b7<|y.2 q]at u;obtain⟨rfl,rfl,rfl,rfl⟩:=u;have W:=V aT ⟨q,Y⟩;obtain⟨j,rfl⟩:∃j,e=12+j:=⟨e-12,G⟩;rw[GT]at W;have ar:=ae<|afr l j (V x) (V C) bL G G af G G (V F) G;have aX:=ae W;clear W y aT ab;go_wp2_with fail;refine ar.m ?_;rintro bk ⟨aC,ah⟩;have aU:=lE (V C) ah (V x) bL id;have au:ax ((g.gT.1.gv (1024+1536*l+12) j).1.Ok<|i+8+j):=EN (V F) _ j;have aJ:=ae<|Vs aC aU bL G av a5 q (V au) G;have aI:=ae<|dC (V ac)<|jk ah λ_ b=>b.elim;clear ar C ac x aC ah aU;go_wp2_with fail;refine aJ.m ?_;rintro a9 ⟨aP,ap,aM⟩;have aY:ax (Cs d a g i f (bg<|bX #[aZ (g.gT.1.gv (1024+1536*l+12) j).2,aG aE]) a9):=by{
 unfold ax Cs;rw[V aX];refine⟨af,aP,?_,⟨tI _ G,tI _ G,qU (ay<|V au) cx⟩,dC (V aI) aM⟩;have a0:(ve.set l ao).set l aE=ve:=by{
 rw[List.set_set];match l,q with
 | 0,_|1,_|2,_|3,_|4,_|5,_|6,_|7,_=>rfl};rw[a0]at ap;exact ap};clear aJ aP ap aM aI;go_wp2;refine eh (v:=bX #[amz<|O (g.gT.1.gv (1024+1536*l+12) j).2,aG aE]) ?_ af (V aY);simp[dr,results220,go_sem]};{rw[bJ λb=>q<|y.1 b]at u;obtain⟨rfl,rfl,rfl⟩:=u;have jD:=ae<|ab (λb=>q b.1) f a8 (V x) (V C)<|V ac;clear y;exact JW}};{have jD:=ae<|ab (λb=>Y b.2) f a7 (V r) (V A)<|V M;clear H;by_cases B:(e:Int)<12;{exact JW};{have aH:1536<(e:Int):=G;have aW:=gD B;clear B Y;exact JW}}
def qj(i:aQ)(j k g h:Nat)(a c:ap)(e s d:Nat)(b:Bool):Prop :=
 bk i j [N k,aZ a,aZ c,N g,N h,J e,J s,J d,aG b] 165
def Ny{b e s j}(k:qj f a d h b c g e s j l)(v:Nat):qj (a_ f ⟨a,5,ai⟩<|ak am v) a d h b c g v s j l/\qj (a_ f ⟨a,6,ai⟩<|ak am v) a d h b c g e v j l/\qj (a_ f ⟨a,7,ai⟩<|ak am v) a d h b c g e s v l :=
 ⟨bk.set k 5<|J v,bk.set k 6<|J v,bk.set k 7<|J v⟩
def afM{aa o Z aq}(n){I}{ap}(s)(q:dg f d A)(H:gy f a z d aa o Z aq ap)(aj:qP z)(Y:o<=100000)(al:n<=100)(ah:o+1536*n+12+E s<=25600)(Q:A.Ok I)(au:I<=900000000000):bd aK 262 #[N a,J n,aZ s] f λab x=>ab=bg (bX #[])/\dg x d (A.nH (o+1536*n) (mc++s)<|12+E s)/\cI bH d f x:=by
 have⟨e,hq⟩:=bi<|o+1536*n;have K:=ae<|M5 n f H Y al;rw[<- hq]at K ⊢;have:e+12+E s<=25600:=G;have:=Vw d;have:=Vy;have:=de s;have cA:=ae q;have B:=ae<|M6 Q e<|mc++s;have t:ax (∀c,cI bH d f c->aD c (M a 0)=ag (cV 71<|N d)):=λc b=>bk.cell (lE H b q aj id) 0 aA;have⟨L,hL⟩:=bi<|mc++s;have P:=ae hL;rw[<- hL]at B ⊢;clear q H hq ah Q hL;go_in;go_wp2_with fail;refine K.m ?_;rintro f rfl;go_wp2
 go_loopw [14] (λk wr=>∃i:Nat,k=J i/\i<=12/\dg wr d (A.nH e L i)/\cI bH d f wr) λk _=>12-c7 (fJ k)
 ·exact Km
 ·obtain⟨i,rfl,av,g,b⟩:=hrel;by_cases R:i<12
  ·have⟨h,iE⟩:=bi<|e+i;have ac:am.wrap ((e:Int)+i)=(h:Int):=fT
   have:(e:Int)+i=h:=G;have S:=V t wr b;have⟨_,_,o3,o4⟩:=V B i;have w:ax (bd aK 155 #[N d,J h,ak ck 0] wr _):=EL h 0 wr g G G G;have y:ax ((A.nH e L i).st h 0=A.nH e L (i+1)):=by
    rw[ax,cw.nH,iE,V P,jw,GI<|by simpa [mc]using R];congr 1
    match i,R with
    | 0,_|1,_|2,_|3,_|4,_|5,_|6,_|7,_|8,_|9,_|10,_|11,_=>rfl
   have p:=ae b;clear g b iE o3 o4;go_wp2_with fail;refine w.m ?_;rintro T ⟨j,l⟩;rw[V y]at j;have C:=ae j;have r:=ae<|dC (V p) l;clear j l w;go_wp2;exact⟨⟨i+1,dH,G,C,r⟩,ee⟩
  ·have D:i=12:=G;subst D;have C:=ae g;have p:=ae b;clear g b;go_wp2
   go_loopw [8,29] (λ_ k wr=>∃i:Nat,k=J i/\i<=E s/\dg wr d (A.nH e L<|12+i)/\cI bH d f wr) λ_ k _=>E s-c7 (fJ k)
   ·exact⟨0,af,eb _,C,p⟩
   ·obtain⟨i,rfl,aw,g,b⟩:=hrel;by_cases X:i<E s
    ·have⟨pA,Vp⟩:=bi<|e+12;have⟨h,iE⟩:=bi<|pA+i;have ar:am.wrap ((e:Int)+12)=(pA:Int):=fT
     have ac:am.wrap ((pA:Int)+i)=(h:Int):=fT
     have S:=V t wr b;have⟨cb,hcb⟩:=dK<|s[i]
     have:∀q:i<(O s).size,(O s)[i]=cb:=λq=>hcb;have⟨_,_,o3,o4⟩:=V B<|12+i;have w:=ae<|EL h cb (bq wr) g G G G;have y:ax ((A.nH e L<|12+i).st h cb=A.nH e L (12+(i+1))):=by
      rw[ax,<- rV,cw.nH,iE,Vp,rV,V P,jw,uC<|by simp[mc],show 12+i-E mc=i by simp[mc],gw X,hcb];rfl
     have p:=ae b;have:aD (bq wr) (M a 0)=ag (cV 71<|N d):=S;have an:=ae λW ad=>V t W<|dC b<|dC l7 ad;clear g b iE Vp hcb o3 o4;go_wp2
     go_region_held (λx=>aD x (M a 0)=ag (cV 71<|N d)) (first|assumption|go_keep)
      (first|(go_at_call 155;go_loud (refine w.m ?_;rintro T ⟨j,l⟩;have:=V an T l)))
     all_goals
      rw[V y]at j;have F:=ae j;have r:=ae<|dC (V p)<|dC l7 l;clear j l;go_wp2;refine⟨⟨_,_,_,_,_,_,_,_,_,_,_,_,_,_,_,_,_,_,_,_,⟨i+1,dH,G,F,r⟩,af⟩,ee⟩
    ·have D:i=E s:=G;subst D;have F:=ae g;have r:=ae b;clear g b;go_wp2;refine lG (v:=bX #[]) (by simp[dr,results262]) af ?_;exact⟨af,F,r⟩
def afN{o:List Bool}(b:o.findIdx? (· == ao)=ai)(a)(aN:a<E o):o[a]? = ag aE:=by have:=R_.1 b o[a]<|eP aN;rw[gw aN];cases c:o[a]<;>simp_all
def afO{o:List Bool}(c:o.findIdx? (· == ao)=ag a):a<E o/\(∀b,b<a->o[b]? = ag aE)/\o[a]? = ag ao:=by have⟨hj,h1,h2⟩:=KY.1 c;refine⟨hj,λb aN=>?_,?_⟩;{have:=h2 b aN;rw[gw G];cases d:o[b]<;>simp_all};{rw[gw hj];cases d:o[a]<;>simp_all}
def IS(b d:Nat)(a:cz)(f:ap)(e:Nat)(i:aQ)(g:nO)(c:aQ):Prop :=
 g=bg (aG (a.6.findIdx? (· == ao)).isSome)/\dg c b (a.snd f).1/\gy c d 241 b 512 13312 (a.snd f).4 a.5 (a.snd f).6/\((a.snd f).4<65536/\E (a.snd f).6=8/\(a.snd f).1.Ok (e+1600))/\cI (λh=>h=d) b i c
def afP{g}(c:dg f a g.1)(s:gy f h 241 a 512 13312 g.4 g.5 g.6)(A:g.4<65536)(n:E g.6=8)(aa:E Q<=1524)(j:g.1.Ok d)(Z:d<=800000000000):bd aK 221 #[N h,aZ Q] f λX P=>IS a h g Q d f X P:=by
 cases e:g.6.findIdx? (· == ao)with
 | none =>{refine(afq s λu aN=>afN e u G).m ?_;rintro P rfl;unfold IS cz.snd;rw[e];exact⟨af,c,s,⟨A,n,qU j G⟩,tl _ _ _⟩}
 | some b =>{
 have⟨hj,hpre,hat⟩:=afO e;have C:b<8:=G;have D:=ae<|afo s C hpre hat;have z:=ae<|afM b Q c s bL G G G j G;have l:=ae<|cv s c;have:=de Q;have⟨p8,ar0⟩:=bi<|16*b+8;have⟨l12,aaQ⟩:=bi<|12+E Q;have:16*(b:Int)+8=p8:=G;have:12+(E Q:Int)=l12:=G;have:p8<=120:=G;have:l12<=1536:=G;have B:=ae<|M6 j (13312+1536*b) (mc++Q)<|12+E Q;have i:=ae<|ky (V B) (512+p8) l12 4;have T:ax (g.snd Q = { g with s:=((g.1.nH (13312+1536*b) (mc++Q)<|12+E Q).fo (512+p8) l12 4).off 512 g.4 [b],sa:=(g.4+1)%65536,o:=g.6.set b aE,t:=g.8+1 }):=by{rw[ax,ar0,aaQ];unfold cz.snd;rw[e]};have S:ax ((g.6.findIdx? (· == ao)).isSome=aE):=by rw[ax,e];rfl
 clear c s hpre hat ar0 aaQ j e;go_in;go_wp2_with fail;refine D.m ?_;rintro f rfl;go_wp2_with fail;refine z.m ?_;rintro ab ⟨r,p⟩;have q:=lE l.1 p l.2 bL id;have y:=ae<|I6 p8 4 l12 r q bL G G G (V B) G;have F:=ae p;have w:=ae<|cv q r;clear z D l r p q;go_wp2_with fail;refine y.m ?_;rintro ac ⟨H,x⟩;have R:=lE w.1 x w.2 bL id;have J:=ae<|Vs H R bL G A n C (V i) G;have I:=ae<|jk (K:=λu=>u=h) (dC (V F) x) λ_ c=>c.elim;clear y w F H x R;go_wp2_with fail;refine J.m ?_;rintro Y ⟨M,O,L⟩;have W:ax (IS a h g Q d f (bg<|aG aE) Y):=by{unfold ax IS;rw[V S,V T];exact⟨af,M,O,⟨tI _ G,by simp[n],qU (ay<|V i) cx⟩,dC (V I) L⟩};clear J M O L I;go_wp2;go_ret;exact W}
def afS(aN:a<8)(b:aQ):bd aK 92 #[ak am 512,ak am a] b λc d=>c=bg (ak am (13312+1536*a:Nat))/\d=b:=by go_wp2;go_ret;exact⟨cx,af⟩
def afT(aN:a<8)(b:aQ):bd aK 92 #[ak am 0,ak am a] b λc d=>c=bg (ak am (1024+1536*a:Nat))/\d=b:=by go_wp2;go_ret;exact⟨aA,af⟩
def afU(a:aQ):(Instr.makeSlice 58 (ak am 12)<|ak am 12).run aK a=.ok (aL (ag ⟨U a.1,0,ai⟩) 12 12) (aO a<|aS (dl<|mc.map λb=>ak ck<|be b) 5):=b8
def afV(a:aQ):(convert 58 9<|aL (ag ⟨U a.1,0,ai⟩) 12 12).run aK (aO a<|aS (dl<|mc.map λb=>ak ck<|be b) 5)=.ok (amz<|O mc) (aO a<|aS (dl<|mc.map λb=>ak ck<|be b) 5):=by have c:ib (aO a<|aS (dl<|mc.map λb=>ak ck<|be b) 5) 0 (aL (ag ⟨U a.1,0,ai⟩) 12 12) mc := ⟨dS,bE ⟨U a.1,12,_,af,eb _,du _ _,cW _,m9,af,af⟩⟩;exact yc c
def afW{b:List Bool}(d:a<E b)(g:∀e,e<a->b[e]? = ag aE)(c:b[a]? = ag ao):b.findIdx? (· == ao)=ag a:=by rw[KY];refine⟨d,?_,λi h=>?_⟩;{rw[gw d]at c;simp[ih c]};{have:=g i h;rw[gw G]at this;simp[ih this]}
def afX{b:List Bool}(c:∀a,a<E b->b[a]? = ag aE):b.findIdx? (· == ao)=ai:=by rw[R_];intro e d;obtain⟨a,aN,rfl⟩:=List.getElem_of_mem d;have:=c a aN;rw[gw aN]at this;simp[ih this]
def afY{b k:Nat}{X:cz}(n:iA f a d b c g X k)(bL:E v<=1524)(bK:k<=700000000000):bd aK 160 #[cM<|ag ⟨a,0,ai⟩,amz<|O v] f λJ h=>J=bg (bX #[])/\iA h a d b c g (X.snd v) (k+1600)/\cI (λi=>i=a) b f h:=by
 have:=Jb n;have ay:=n.3.2.2.2.2;have l:=ae n;clear n;go_wp2
 go_loopw [4] (λi wr=>∃z:Nat,i=ak am z/\z<=8/\(∀e,e<z->X.6[e]? = ag aE)/\wr=f) λi _=>8-c7 (fJ i)
 ·exact⟨0,af,G,λe aA=>G,af⟩
 ·obtain⟨z,rfl,bz,a5,a6⟩:=hrel;obtain rfl:f=wr:=bZ a6;clear a6;have aw:=ae a5;clear a5;by_cases a3:z<8
  ·have P:X.6[z]? = ag (X.6[z]?.getD ao):=by rw[gw G];rfl
   have bu:=Ja (V l).2 z _ P;have aP:=bk.frozen (V l).2;generalize X.6[z]?.getD ao=br at *;replace P:=ae P;cases br with
   | true =>
    go_wp2;exact⟨⟨z+1,dH,G,λe aA=>by
     rcases Nat.lt_or_eq_of_le (Nat.le_of_lt_succ aA)with n|rfl
     ·exact V aw e n
     ·exact V P,by first|trivial|rfl⟩,ee⟩
   | false =>
    have ab:=afW G (V aw)<|V P;have⟨L,hL,ar4,hsz⟩:=kh mc v;have aW:E L=12+E v:=by rw[hL,dE];rfl
    have:=de v;have:(O mc).size=12:=af;have:=de L;have T:=VL (V l).2 z G aE;have aZ:E (X.6.set z aE)=8:=by rw[rU];exact ay
    have⟨p2,en⟩:=xv (V l) (kI (mT _ _) (4+z)<|aG aE) T af ⟨(V l).3.1,(V l).3.2.1,(V l).3.2.2.1,(V l).3.2.2.2.1,aZ⟩ (V l).4.2;have a4:=afU<|a_ f ⟨a,4+z,ai⟩<|aG aE;have a2:=afV<|a_ f ⟨a,4+z,ai⟩<|aG aE;have N:U (a_ f ⟨a,4+z,ai⟩<|aG aE).1=U f.1:=oF
    have⟨W1,hW1⟩:=bi<|aO (a_ f ⟨a,4+z,ai⟩<|aG aE)<|aS (dl<|mc.map λbs=>ak ck<|be bs) 5;have W:cB (U f.1) (a_ f ⟨a,4+z,ai⟩<|aG aE) W1:=by rw[hW1];exact(dz _ _).alloc (by rw[N];exact cW _) _
    rw[<- N]at W;have⟨X1,ahl⟩:=bi ({ X with o:=X.6.set z aE }:cz)
    rw[<- ahl]at p2;have q:iA W1 a d b c g X1 k:=⟨tQ p2.1 W,(W.5 a<|bk.lt p2.2).trans p2.2,p2.3,p2.4⟩
    have y:=dC en<|qc (L:=λi=>i=a) W (jv p2.1);rw[<- hW1,N]at a4;rw[<- hW1,N]at a2;have:=ar4;have⟨w,cT⟩:=bi<|13312+1536*z;have aM:=ae λbf=>afS a3 bf;rw[<- cT]at aM;have ah:=ae q;have ad:=ae y;have:E L<=1536:=G;have:w+1536<=25600:=G;have r:=q.3.2.2.2.2;have ar:=q.3;have aX:ax (X.snd v = { X1 with s:=((X1.1.nH w L<|E L).fo (512+(16*z+8)) (E L) 4).off 512 X1.4 [z],sa:=(X1.4+1)%65536,t:=X1.8+1 }):=by
     rw[ax,ahl,cT,aW,hL];unfold cz.snd;rw[ab]
    clear p2 en W T aZ ab N ahl hL ar4 cT q y hsz hW1 aW;generalize O mc=bI at *;have:(z:Int)<8:=G;clear a3 bz;go_wp2
    go_loopw [6] (λi a9=>∃e:Nat,i=ak am e/\e<=E L/\iA a9 a d b c g { X1 with s:=X1.1.nH w L e } (k+e)/\cI (λi=>i=a) b f a9) λi _=>E L-c7 (fJ i)
    ·exact⟨0,af,eb _,V ah,V ad⟩
    ·clear ah ad a4 a2 bu aP;obtain⟨e,rfl,aA,u,B⟩:=hrel;have au:=ae u;have av:=ae B;by_cases bh:e<E L
     ·have⟨_,_,_,c3,_⟩:=iS u.2 r;have⟨aj,iE⟩:=bi<|w+e;have bC:am.wrap ((w:Int)+e)=(aj:Int):=fT
      have⟨cb,hcb⟩:=dK<|L[e]
      have:∀n:e<(O L).size,(O L)[e]=cb:=λn=>hcb;have⟨o1,o2,o3,o4⟩:=u.4.1;have I:=aH u.4.1 aj cb;have ba:=ae<|EL aj cb (bq wr) u.1 G (cU o3 G)<|cU o4 G;have bb:ax ((X1.1.nH w L e).st aj cb=X1.1.nH w L (e+1)):=by
       rw[ax,cw.nH,iE,jw,gw bh,hcb];rfl
      have aF:ax (∀p ac,dg p b ac->cI bH b (bq wr) p->ac.Ok (k+e+1)->iA p a d b c g { X1 with s:=ac } (k+(e+1))):=λp ac Z B bx=>tS (X:={ X1 with s:=X1.1.nH w L e }) (V au) Z (dC l7 B) bx G;have bv:=ae I;clear u B iE hcb o1 o2 o3 o4 I;go_wp2
      go_region_held (λh=>aD h ⟨a,3,ai⟩=ag (cM<|ag ⟨b,0,ai⟩)) (first|assumption|go_keep)
       (first|(go_at_call 92;go_loud (refine(V aM _).m ?_;rintro h rfl))|(go_at_call 155;go_loud (refine(V ba).m ?_;rintro D ⟨S,y⟩;have q:=V aF D _ S y<|V bv;have Q:aD D ⟨a,3,ai⟩=ag (cM<|ag ⟨b,0,ai⟩):=(iS q.2 r).2.2.2.1)))
      all_goals
       rw[V bb]at q;have aV:=ae q;have aC:=ae<|dC (V av)<|dC l7<|jk y λ_ n=>n.elim;clear S y q;go_wp2;exact⟨⟨e+1,dH,G,V aV,V aC⟩,ee⟩
     ·obtain rfl:e=E L:=G;have⟨_,_,_,c3,_⟩:=iS u.2 r;have⟨an,ha⟩:=bi<|16*z;have⟨aq,Fc⟩:=bi<|512+an
      have⟨a8,IB⟩:=bi<|aq+8
      have:16*(z:Int)=an:=G;have:512+(an:Int)=aq:=G;have:(aq:Int)+8=a8:=G;have:a8<=700:=G;have⟨S2,Q⟩:=bi<|(X1.1.nH w L<|E L).fo a8 (E L) 4;have I:S2.Ok (k+E L+4):=by rw[Q];exact ky u.4.1 _ _ 4
      have a0:ax (bd aK 91 #[cM<|ag ⟨b,0,ai⟩,ak am a8,ak am 4,ak am<|E L] wr λJ h=>J=bg (bX #[])/\dg h b S2/\cI bH b wr h):=by
       rw[Q];exact tR a8 4 (E L) u.1 G G G u.4.1 G
      have aT:ax (X.snd v = { X1 with s:=S2.off 512 X1.4 [z],sa:=(X1.4+1)%65536,t:=X1.8+1 }):=by
       rw[ax,V aX,Q,show 512+(16*z+8)=a8 by omega]
      clear u B ha Fc IB Q aX;go_wp2_with (fail);refine(V a0).m ?_;rintro D ⟨S,y⟩;have q:iA D a d b c g { X1 with s:=S2 } (k+E L+4):=tS (X:={ X1 with s:=X1.1.nH w L (E L) }) (V au) S y I G;have ah:=ae q;have ad:=ae<|dC (V av)<|jk y λ_ n=>n.elim;have⟨_,_,_,iZ,d12,_⟩:=iS q.2 r;have⟨aa,tO⟩:=bi<|X1.4%8
      have⟨aI,aIW⟩:=bi<|2*aa
      have⟨K,hq⟩:=bi<|644+aI;have i1:(X1.4:Int)%8=aa:=G;have bF:(X1.4:Int).tmod 8=(aa:Int):=FM
      have bC:=jW (aa:Int)
      have bM:am.wrap (2*(aa:Int))=(aI:Int):=fT
      have M:am.wrap (644+(aI:Int))=(K:Int):=fT
      have:K<=700:=G;have⟨S3,gq⟩:=bi<|S2.fo K z 2;have al:S3.Ok (k+E L+6):=by rw[gq];exact ky I _ _ 2
      have bw:ax (bd aK 91 #[cM<|ag ⟨b,0,ai⟩,ak am K,ak am 2,ak am z] (bq D) λJ h=>J=bg (bX #[])/\dg h b S3/\cI bH b (bq D) h):=by
       rw[gq];exact tR K 2 z q.1 G G G I G
      have⟨x,hs1⟩:=bi<|(X1.4+1)%65536;have bj:ax (X.snd v = { X1 with s:=S3.fo 642 x 2,sa:=x,t:=X1.8+1 }):=by
       rw[ax,V aT,cw.off,cw.off,show 512+(132+2*(X1.4%8))=K by omega,<- gq,<- hs1]
      have aF:ax (∀p,dg p b S3->cI bH b (bq D) p->iA p a d b c g { X1 with s:=S3 } (k+E L+6)):=λp Z B=>tS (X:={ X1 with s:=S2 }) (V ah) Z (dC l7 B) al G;have:aD (bq D) ⟨a,3,ai⟩=ag (cM<|ag ⟨b,0,ai⟩)/\aD (bq D) ⟨a,12,ai⟩=ag (ak am X1.4):=⟨iZ,d12⟩
      have aY:=ae al;have bo:((X1.4:Int)+1)%65536=x:=G;have bJ:((X1.4:Int)+1).tmod 65536=(x:Int):=by rw[qQ G];exact bo
      have bp:x<65536:=G;clear S y q a0 aT I tO aIW hq gq al hs1 au av c3;go_wp2
      go_region_held (λh=>aD h ⟨a,3,ai⟩=ag (cM<|ag ⟨b,0,ai⟩)/\aD h ⟨a,12,ai⟩=ag (ak am X1.4)) (first|assumption|go_keep)
       (first|(go_at_call 91;go_loud (refine(V bw).m ?_;rintro H ⟨a1,az⟩;have F:=V aF H a1 az;have:aD H ⟨a,3,ai⟩=ag (cM<|ag ⟨b,0,ai⟩)/\aD H ⟨a,12,ai⟩=ag (ak am X1.4):=⟨(iS F.2 r).2.2.2.1,(iS F.2 r).2.2.2.2.1⟩)))
      all_goals
       have aV:=ae F;have aC:=ae<|dC (V ad)<|dC l7<|jk az λ_ n=>n.elim;have:=bk.frozen F.2;have aU:=(yM F.2 r x).1;have⟨vN,jS⟩:=xv (Y:={ X1 with s:=S3,sa:=x }) F (kI (mT _ _) 12<|ak am x) aU af ⟨ar.1,ar.2.1,bp,ar.2.2.2.1,r⟩ F.4.2;have bc:=ae vN;have bA:=ae<|dC (V aC) jS;have⟨_,_,_,x3,x12,_⟩:=iS vN.2 r;have⟨S5,BN⟩:=bi<|S3.fo 642 x 2;have aR:S5.Ok (k+E L+8):=by rw[BN];exact ky (V aY) _ _ 2
       have bB:ax (bd aK 91 #[cM<|ag ⟨b,0,ai⟩,ak am 642,ak am 2,ak am x] (bq<|a_ H ⟨a,12,ai⟩<|ak am x) λJ h=>J=bg (bX #[])/\dg h b S5/\cI bH b (bq<|a_ H ⟨a,12,ai⟩<|ak am x) h):=by
        rw[BN];exact tR 642 2 x vN.1 G G G (V aY) G
       have bn:ax (∀p,dg p b S5->cI bH b (bq<|a_ H ⟨a,12,ai⟩<|ak am x) p->iA p a d b c g { X1 with s:=S5,sa:=x } (k+E L+8)):=λp Z B=>tS (X:={ X1 with s:=S3,sa:=x }) (V bc) Z (dC l7 B) aR G;have bl:ax (X.snd v = { X1 with s:=S5,sa:=x,t:=X1.8+1 }):=by rw[ax,V bj,BN]
       have:aD (bq<|a_ H ⟨a,12,ai⟩<|ak am x) ⟨a,3,ai⟩=ag (cM<|ag ⟨b,0,ai⟩)/\aD (bq<|a_ H ⟨a,12,ai⟩<|ak am x) ⟨a,12,ai⟩=ag (ak am x):=⟨x3,x12⟩
       have bD:=vN.4.2.2.1;clear a1 az F aU vN jS BN aR;go_wp2
       go_region_held (λh=>aD h ⟨a,3,ai⟩=ag (cM<|ag ⟨b,0,ai⟩)/\aD h ⟨a,12,ai⟩=ag (ak am x)) (first|assumption|go_keep)
        (first|(go_at_call 91;go_loud (refine(V bB).m ?_;rintro M ⟨a7,aJ⟩;have C:=V bn M a7 aJ;have:aD M ⟨a,3,ai⟩=ag (cM<|ag ⟨b,0,ai⟩)/\aD M ⟨a,12,ai⟩=ag (ak am x):=⟨(iS C.2 r).2.2.2.1,(iS C.2 r).2.2.2.2.1⟩)))
       all_goals
        have⟨t1,wH⟩:=bi<|X1.8+1;have:(X1.8:Int)+1=t1:=G;have:=bD;have⟨_,_,_,_,_,_,_,_,_,x17,_⟩:=iS C.2 r;have:=bk.frozen C.2;have aB:=C.4;have R:ax (iA (a_ M ⟨a,17,ai⟩<|ak am t1) a d b c g (X.snd v) (k+1600)/\cI (λi=>i=a) b f (a_ M ⟨a,17,ai⟩<|ak am t1)):=by
         rw[V bl,<- wH];have⟨q1,q2⟩:=xv (Y:={ X1 with s:=S5,sa:=x,t:=t1 }) (rh (C':=k+1600) C G) (kI (mT _ _) 17<|ak am t1) (yM C.2 r t1).2.2.2.2.2.1 af C.3 ⟨cU aB.2.1 G,by show t1<=_;omega,cU aB.2.2.2 G⟩;exact⟨q1,dC (dC (V bA)<|dC l7<|jk aJ λ_ n=>n.elim) q2⟩
        clear a7 aJ C aB wH;go_wp2;refine eh (v:=bX #[]) (by simp[dr,results160]) af ?_;exact⟨af,(V R).1,(V R).2⟩
  ·obtain rfl:z=8:=G;have ab:=afX λi aN=>V aw i G;have⟨_,_,_,_,_,_,_,_,_,_,V6,_⟩:=iS (V l).2 ay;have aP:=bk.frozen (V l).2;have⟨d1,T⟩:=bi<|X.9+1;have:(X.9:Int)+1=d1:=G;have:=(V l).4.2.2.2;have R:ax (iA (a_ f ⟨a,18,ai⟩<|ak am d1) a d b c g (X.snd v) (k+1600)/\cI (λi=>i=a) b f (a_ f ⟨a,18,ai⟩<|ak am d1)):=by
    have bt:X.snd v = { X with d:=d1 }:=by unfold cz.snd;rw[ab,T]
    rw[bt];have:=(V l).4;exact xv (rh (V l) G) (kI (mT _ _) 18<|ak am d1) (yM (V l).2 ay d1).2.2.2.2.2.2.1 af (V l).3 ⟨by show X.7<=_;omega,by show X.8<=_;omega,by show d1<=_;omega⟩
   clear ab T;go_wp2;refine lG (v:=bX #[]) (by simp[dr,results160]) af ?_;exact⟨af,(V R).1,(V R).2⟩
def rt(b:aQ)(d a:Nat)(c:ap):Prop:=iR b d a (bY) (bY) ao 0 ao ao ao 0/\oM b a c
def aky:madeCells (ak ck 0).cells a=dl ((List.replicate a (0:UInt8)).map λb=>ak ck<|be b):=by apply Array.ext';simp only[madeCells,Value.cells,Array.toList_map,Array.toList_range];apply List.ext_getElem;{simp};{intro e c d;simp[Nat.mod_one]}
structure aae(o n:ap)(rs:List D)(k:Int):Prop where
 fit:xk o rs
 len:n.length<=2900
 ad2:∀r∈jb (dF rs o) 6,Az r/\r.data.length<=3000/\r.aP<=1000000000
 kk:k=5\/k=255
 ad3:(er rs n).1.length<=3001
structure aaf(V:ap->Prop)(o:ap)(rs:List D)(k:Int):Prop where
 fit:xk o rs
 ad2:∀r∈jb (dF rs o) 6,Az r/\r.data.length<=3000/\r.aP<=1000000000
 ad4:(k==5)=false
 ad5:(k==255)=false
 ad3:∀n,V n->(er rs n).1.length<=3001
 amy:∀n r,V n->kj o rs n=some r->r.data.length<=2900/\V r.data
def Hn(h o k:Nat)(d:Int)(j:Bool)(n:bm)(e:ap)(g l:List D)(c:Option ap)(i:aQ):Prop :=
 ∃b a,gH i h o d (xo e g c) j b a n k/\ec i (h+1) b (l++vw e g d c)/\ec i (h+1) a (wX e g d c)/\sV b a
def QV{P:Prop}(h:P:=by
 go_wp2
 go_roundg 0
 ·exact bE<|bE ⟨af,bn⟩
 ·omega):P:=h
def aag(Z:ap->Prop){t K aq ay aT J:Nat}(aB:gH f a d i 0 l (bY) (bY) e t)(bf:iL f d c aq ay aT j)(a5:d3 f)(al:d<a)(ar:aq<a)(av:0<a)(a2:pw f t K ao)(a9:t≠K)(a4:t<a)(aw:K<a)(aX:J<=K)(a8:E g<=2900)(bc:Z g)(ba:aaf Z c j i):bd aK 127 #[N a,aZ g] f λu r=>(iO c j 8 g=ai/\u=bg (aG ao)/\cB J f r)\/(∃n q,iO c j 8 g=ag (n,q)/\E n<=8/\u=bg (aG aE)/\Hn a d t i l e c j n q r/\cB a f r):=by
 have⟨_,_,_,_,_,_,_,s7⟩:=aB.cells;have aM:=ae aB;have aV:=ae bf;have aJ:=ae a5;have aI:=ae a2;have h:=ae ba;go_wp2
 go_loopg [1,5] 10 (λau bh Y wr =>
  (∃(n:List D) (k:ap) (I:bm),bh=aZ k/\Y=aG aE/\E n<=8/\au+E n=10/\ax (iO c j 8 g=(iO c j (8-E n) k).map λB=>(n++B.1,B.2))/\E k<=2900/\ax (Z k)/\ax (gH wr a d i 0 l I (bY) e t)/\ax (ec wr (a+1) I n)/\ax (cB a f wr)) \/
  (au=1/\Y=aG aE/\ax (iO c j 8 g=ai)/\ax (∃I,gH wr a d i 0 l I (bY) e t)/\ax (pw wr t K aE)/\ax (cB J f wr)) \/
  (Y=aG ao/\ax (∃n q,iO c j 8 g=ag (n,q)/\E n<=8/\Hn a d t i l e c j n q wr/\cB a f wr)))
 ·refine bG ⟨[],g,bY,af,af,aA,aA,?_,a8,bc,aM,jO _ _ _ _,dz _ _⟩;rw[ax];simp
 ·rcases hrel with⟨n,k,I,rfl,rfl,aP,bk,Q,ac,aj,ah,ad,z⟩|⟨rfl,rfl,Q,ah,a3,z⟩|⟨rfl,aR⟩
  ·have p:=V ah;have⟨_,_,_,_,_,_,_,r7⟩:=p.cells;have L:=aI.below z a4 aw;have S:=aV.low (V z) al ar;have ab:=aaa (V aJ) (V z) av;have O:=ae<|Hk L;have:=ae L;cases A:kj c j k with
   | none =>
    have P:=ae<|aac p (V ad) af S ab al ar av h.1 ac G h.2 h.3 h.4 (aab A)<|h.5 k<|V aj;have aa:ax (iO c j 8 g=ag (n,ag k)):=by
     rw[ax,V Q];have:iO c j (8-E n) k=ag ([],ag k):=by
      cases u:8-E n with
      | zero=>rw[iO,A]
      | succ m=>rw[iO,A]
     rw[this];simp
    go_wp21;refine O.m ?_;rintro wr rfl;go_wp21;refine P.m λM ⟨⟨F,aU,bb,aY,a0,bi⟩,a1⟩=>?_;have bn:ax (∃n q,iO c j 8 g=ag (n,q)/\E n<=8/\Hn a d t i l e c j n q M/\cB a f M):=⟨n,ag k,aa,aP,⟨F,aU,bb,aY,a0,bi⟩,bN z a1⟩
    exact QV
   | some y =>
    have⟨eK,hk2,hk3,hk4⟩:=LD A;have aH:=(h.6 k y (V aj) A).1;have aN:=ae (h.6 k y (V aj) A).2;have aW:=h.1.2.1;by_cases az:E n=8
    ·have an:∀C,a7 wr C->bd aK 247 #[N a,y.zN] C λu r=>u=bg (bX #[aZ y.data,aG aE])/\(gH r a d i 0 l I (bY) e t/\pw r t K aE/\cB J wr r):=λC x=>by
      have X:=p.kept<|x.5 a p.lt;exact(Z_ X (ad.below x) (L.below x L.1 L.lt) a9 aw az).m λr ⟨w,o,H⟩=>⟨af,w,o,(bV x<|cj L.lt).trans<|H J aX⟩
     have P:=ae<|TC p S ab h.1 ac h.3 h.4 eK hk2 hk3 hk4 an;have aa:ax (iO c j 8 g=ai):=by
      rw[ax,V Q,az,sm,iO,A];rfl
     go_wp21;refine O.m ?_;rintro wr rfl;go_wp21;refine P.m λM ⟨w,o,H⟩=>?_;have R:=ae w;have T:=ae o;have W:=ae<|(bV z<|show J<=a by omega).trans H;go_wp2
     go_roundg 1
     ·exact bE<|bG ⟨af,af,aa,⟨_,R⟩,T,W⟩
     ·omega
    ·have an:∀C,a7 wr C->bd aK 247 #[N a,y.zN] C λu r=>u=bg (bX #[aZ y.data,aG<|fZ y.data c])/\((∃F,gH r a d i 0 l F (bY) e t/\ec r (a+1) F (n++[y]))/\cB a wr r):=λC x=>by
      have X:=p.kept<|x.5 a p.lt;exact(Z9 y X (ad.below x) (S.below x) al G aW G).m λr ⟨w,o⟩=>⟨af,w,(bV x<|cj p.lt).trans o⟩
     have P:=ae<|TC p S ab h.1 ac h.3 h.4 eK hk2 hk3 hk4 an;obtain⟨m,a6⟩:∃m,8-E n=m+1:=⟨7-E n,G⟩
     have aC:ax (iO c j 8 g=if fZ y.data c=aE then(iO c j (8-E (n++[y])) y.data).map (λB=>((n++[y])++B.1,B.2))else ag (n++[y],ai)):=by
      rw[ax,V Q,a6,iO,A];have u:8-E (n++[y])=m:=cx;rw[u];dsimp only;split
      ·cases iO c j m y.data<;>simp
      ·simp
     go_wp21;refine O.m ?_;rintro wr rfl;go_wp21;refine P.m λM ⟨⟨F,w,o⟩,H⟩=>?_;have R:=ae w;have T:=ae o;have W:=ae<|bN z H;cases aF:fZ y.data c
     ·have bn:ax (∃n q,iO c j 8 g=ag (n,q)/\E n<=8/\Hn a d t i l e c j n q M/\cB a f M):=by
       refine⟨n++[y],ai,?_,cx,⟨F,bY,R,?_,jO _ _ _ _,λbj _ o=>by cases o⟩,W⟩
       ·rw[V aC,aF];rfl
       ·rw[vw,mw];exact T
      exact QV
     ·have bn:ax (iO c j 8 g=(iO c j (8-E (n++[y])) y.data).map λB=>((n++[y])++B.1,B.2)):=by
       rw[ax,V aC,aF];rfl
      go_wp2
      go_roundg (9-E n)
      ·exact bG ⟨n++[y],y.data,F,af,af,cx,cx,bn,aH,aN,R,T,W⟩
      ·omega
  ·have⟨I,p⟩:=V ah;have⟨_,_,_,_,_,_,_,r7⟩:=p.cells;have O:=ae<|Hk<|V a3;go_wp21;refine O.m ?_;rintro wr rfl;go_wp2;go_ret;exact bG ⟨Q,af,z⟩
  ·go_wp2;go_ret;have⟨n,q,w,o,H,h4⟩:=V aR;exact bE ⟨n,q,w,o,af,H,h4⟩
def aah{B t ay x:Nat}(u:gH f a d i 0 l e s F h)(y:e=bY)(O:s=bY)(K:iL f d g t ay x j)(J:d3 f)(L:d<a)(C:t<a)(H:0<a)(I:pw f h B ao)(k:aae g c j i):bd aK 127 #[N a,aZ c] f λG p=>G=bg (aG aE)/\(∃w r,gH p a d i (nh g j c) l w r F h/\ec p (a+1) w (oo g j i c)/\ec p (a+1) r (pm g j i c)/\sV w r)/\cB a f p:=by
 have A:=ae<|aad [] u (by subst y;exact jO _ _ _ _) O K J L C H k.1 k.2 aA k.3 k.4 k.5;have z:=ae<|Hk I;obtain⟨P,Q,R,S,T,V,W,X⟩:=u.cells;go_in;go_wp21;go_loopw [1,5] (λM n wr=>(M=aZ c/\n=aG aE/\wr=f)\/(n=aG ao/\(∃w r,gH wr a d i (nh g j c) l w r F h/\ec wr (a+1) w (oo g j i c)/\ec wr (a+1) r (pm g j i c)/\sV w r)/\cB a f wr)) λ_ n _=>Tw n;case atStart=>exact bG ⟨af,af,af⟩
 case round =>(
 rcases hrel with⟨rfl,rfl,rfl⟩|⟨rfl,b⟩;{
 go_wp21;refine z.m ?_;rintro f rfl;go_wp21;refine A.m λY b=>?_;rw[jz]at b;replace b:=ae b;go_wp2;go_roundw;·exact bE ⟨af,b⟩
 ·simp[Tw]};{replace b:=ae b;go_wp2;go_ret;exact⟨af,b⟩})
def UH(j:Option<|Int×List D×List D)(g l ay u:Nat)(r:Int)(x w:ap)(y:List D):Prop :=
 ∀(a c e:Nat) (n:Bool) (b:aQ),gH b a g r 0 n (bY) (bY) (bY) c->iL b g x l ay u y->d3 b->g<a->l<a->0<a->pw b c e ao->c≠e->c<a->e<a->∀o,o<=e ->
  bd aK 127 #[N a,aZ w] b λq d =>
   (j=ai/\q=bg (aG ao)/\cB o b d)\/(∃t k p i h,j=ag (t,k,p)/\q=bg (aG aE)/\gH d a g r t n i h (bY) c/\ec d (a+1) i k/\ec d (a+1) h p/\sV i h/\cB a b d)
def UI(i:Option<|Int×List D×List D)(n l:ap)(k:List D)(h:aQ)(e:Nat)(v:bm):Prop :=
 (i=ai/\v=ci #[J 2,aG aE,bY,bY,bY]) \/
 ∃j a g b c d,i=ag (j,a,g)/\v=ci #[J j,aG<|dQ<|E (fV n k l)=0,b,c,d]/\ec h e b a/\ec h e c g/\ec h e d (pE k a<|a++g).2/\sV b c/\sV b d/\sV c d
def JY{P:Prop}(h:P:=by simp[dr,results69,go_sem,n0,n1,n2,n3,n4]):P:=h
def aci{Q ay aJ h}(I:iL f a h d ay aJ j)(bB:d3 f)(b4:E c<=2900)(bH:fZ c h=aE)(aV:xk h j)(bJ:E j<=60)(bp:UH Q a d ay aJ i h c j)(bF:∀aI W Y,Q=ag (aI,W,Y)->E W<=500/\E Y<=500/\∀bQ∈W++Y,E bQ.data<=3000):bd aK 69 #[N a,aZ c,J i] f λy aX=>(∃v,y=bg v/\UI Q h c j aX (U f.1) v)/\a7 f aX:=by
 have:=I.1;have:=I.2.2.2.2.1;have:=I.2.1;have ab:=ae I;have av:=ae bB;have br:=ae bp;have bu:=aV.2.1;have bC:=aV.1;have bw:a7 f (aO f<|aS #[ak am 0,aG ao,aL ai 0 0,aL ai 0 0,aL ai 0 0] 43):=ct cd bv _;have aw:=ae (λa4=>by{have:=DY (O c) (O h) a4 m7 m7;rw[r8,r8,bH]at this;exact this});have bM:=ae bF;go_in;go_wp21;refine(aw _).m λaY aP=>?_;have aj:a7 f aY:=by grind
 have aq:aY.1[U f.1]? = ag (aS #[ak am 0,aG ao,aL ai 0 0,aL ai 0 0,aL ai 0 0] 43):=aP▸Gi f _
 clear aP bw aw;go_wp2_with fail;refine(aax).mono ?_;rintro y b ⟨C,bt,rfl,ap,b2,b3,bD,al⟩;have bO:=ae ap;have:=(ea.1 aq).1;have aN:=ap.lt;have aH:=ap.1;have k:=bN aj<|bV al aj.4;have aW:=(al.5 (U f.1) (ea.1 aq).1).trans aq;go_wp21;have an:a7 b (aO b<|aS #[cM<|ag ⟨a,0,ai⟩,ak am i,ak am 0,aG ao,aL ai 0 0,aL ai 0 0,aL ai 0 0,cM<|ag ⟨C,0,ai⟩] 210):=ct cd bv _;have a2:gH (aO b<|aS #[cM<|ag ⟨a,0,ai⟩,ak am i,ak am 0,aG ao,aL ai 0 0,aL ai 0 0,aL ai 0 0,cM<|ag ⟨C,0,ai⟩] 210) (U b.1) a i 0 ao (bY) (bY) (bY) C:=Gi b _;have:=al.4;have:=aj.4;refine(GA c ((ab.below k).below an) ((av.below k).below an) bC G bu).mono ?_;rintro y bS ⟨⟨b5,rfl,bI⟩,aM⟩;obtain⟨b1,cD,rfl⟩:=bI.slice;have R:=a2.kept<|aM.5 (U b.1) aA;have a8:=bN an<|bV aM aA;obtain⟨b_,ca,cb,cc,ce,cf,cg,ch⟩:=R.cells;have:=R.frozen 3;have bL:=ae R;obtain⟨l,b0,X⟩:∃l:Bool,((E (fV h j c):Int)==0)=l/\dQ (E (fV h j c)=0)=l:=⟨_,af,by{grind}⟩;replace X:=ae X;have a3:=bL.lM l;have q:a7 b (a_ bS ⟨U b.1,3,ai⟩<|aG l):=fk a8 (p:=⟨U b.1,3,ai⟩) bv _;have bs:=ae<|br (U b.1) C bt l _ a3 (ab.below<|bN k<|bV q k.4) (av.below<|bN k<|bV q k.4) G G G (bO.below q aH aN) bD aH aN (U f.1+1) G;go_wp21;refine bs.mono ?_;rintro y bT (⟨H,rfl,F⟩|⟨aI,n,t,b6,b7,H,rfl,au,L,K,bA,F⟩);{have B:=(bN k<|bV q k.4).trans<|bV F G;have g:gB bT (U f.1) (J 0) (aG ao) (bY) (bY) (bY):=((F.5 (U f.1) G).trans<|q.5 (U f.1) G).trans aW;have bK:=gB.cells g;have a9:=gB.frozen g 0;have ba:=gB.frozen g 1;have bb:=gB.frozen g 2;have bc:=gB.frozen g 3;have bf:=gB.frozen g 4;have M:=((((gB.set0 g<|J 2).set1<|aG aE).set2<|bY).lM<|bY).o6<|bY;have⟨n0,n1,n2,n3,n4⟩:=M.cells;go_wp2;refine eh (v:=ci #[ak am 2,aG aE,aL ai 0 0,aL ai 0 0,aL ai 0 0]) ?_ af ?_;{exact JY};{exact⟨⟨_,af,bG ⟨H,af⟩⟩,((((fk B (p:=⟨U f.1,0,ai⟩) bv _).setCell (p:=⟨U f.1,1,ai⟩) bv _).setCell (p:=⟨U f.1,2,ai⟩) bv _).setCell (p:=⟨U f.1,3,ai⟩) bv _).setCell (p:=⟨U f.1,4,ai⟩) bv _⟩}};{have⟨aoB,aoC,nm⟩:=V bM aI n t H;have bh:=ae nm;have a6:=ae aoB;have bi:=ae aoC;have bj:=ae H;have a1:=ae bA;have B:=bN q F;have g:=(B.5 (U f.1) G).trans aW;have:=au.cells;obtain⟨S,Z,rfl⟩:=L.slice;obtain⟨T,aa,rfl⟩:=K.slice;have a0:=ae<|acF aI l (bY) (ab.below<|bN k<|bV B k.4) bJ L.rv K.rv (V a6) (V bi)<|V bh;have az:=ae<|cv L.ue K.ue;have bP:=ae au;have a5:=ae L;have bo:=ae K;have bk:=au.lt;go_wp21;refine a0.mono ?_;rintro y ar ⟨⟨b8,rfl,r⟩,z⟩;obtain⟨u,w,rfl⟩:=r.slice;have aB:=r.ue;replace r:=ae r;have⟨Kf,afd⟩:=dK<|(pE j n<|n++t).2;rw[afd]at r aB ⊢;have bl:=ae afd;have aC:=ae aB;have P:=bP.kept<|z.5 (U b.1) bk;have:=P.cells;have:=P.frozen 6;have bU:=P.yA<|aL u (E Kf) w;have:=bU.cells;have o:=(z.5 (U f.1) G).trans g;have bn:=ae<|cv (a5.below z)<|bo.below z;have⟨bK,aR,aT,k3,k4⟩:=gB.cells o;have a9:=gB.frozen o 0;have ba:=gB.frozen o 1;have bb:=gB.frozen o 2;have bc:=gB.frozen o 3;have bf:=gB.frozen o 4;go_wp2;have M:=((((gB.set0 (show gB (a_ ar ⟨U b.1,6,ai⟩<|aL u (E Kf) w) (U f.1) _ _ _ _ _ from(dJ _ _ _ _<|by grind).trans o)<|J aI).set1<|aG l).set2<|aL S (E n) Z).lM<|aL T (E t) aa).o6<|aL u (E Kf) w;have⟨n0,n1,n2,n3,n4⟩:=M.cells;have bR:=bN B<|bV z G;have aF:=V bn;refine eh (v:=ci #[ak am aI,aG l,aL S (E n) Z,aL T (E t) aa,aL u (E Kf) w]) ?_ af ?_;{exact JY};{have ac:∀ {v:bm} {aU:List D},ec ar (U b.1+1) v aU->ec (a_ (a_ (a_ (a_ (a_ (a_ ar ⟨U b.1,6,ai⟩<|aL u (E Kf) w) ⟨U f.1,0,ai⟩<|ak am aI) ⟨U f.1,1,ai⟩<|aG l) ⟨U f.1,2,ai⟩<|aL S (E n) Z) ⟨U f.1,3,ai⟩<|aL T (E t) aa) ⟨U f.1,4,ai⟩<|aL u (E Kf) w) (U f.1) v aU:=λbx=>((((((bx.ri (k:=U b.1) (i:=6) G _).ri (k:=U f.1) (i:=0) G _).ri (k:=U f.1) (i:=1) G _).ri (k:=U f.1) (i:=2) G _).ri (k:=U f.1) (i:=3) G _).ri (k:=U f.1) (i:=4) G _).base G;refine⟨⟨_,af,bE ⟨aI,n,t,_,_,_,bj,by rw[V X],ac aF.1,ac aF.2,?_,a1,λA ad ah=>?_,λA ad ah=>?_⟩⟩,?_⟩;{rw[V bl];exact ac<|r.base fN};{have aR:=(az.1 A ad).2;have aT:=(aC A ah).1;omega};{have aR:=(az.2 A ad).2;have aT:=(aC A ah).1;omega};{have bz:=bN k<|bV bR k.4;exact(((((fk bz (p:=⟨U b.1,6,ai⟩) (by grind) _).setCell (p:=⟨U f.1,0,ai⟩) bv _).setCell (p:=⟨U f.1,1,ai⟩) bv _).setCell (p:=⟨U f.1,2,ai⟩) bv _).setCell (p:=⟨U f.1,3,ai⟩) bv _).setCell (p:=⟨U f.1,4,ai⟩) bv _}}}
def kw(e:ap)(a:List D)(g:Int):Nat->Bool->Bool->List D->ap->Int×Bool×List D×List D
 | 0,first,b,c,d=>((gO e a g first b c d).1,(gO e a g first b c d).2.1,(gO e a g first b c d).2.2.1,(gO e a g first b c d).2.2.2.1)
 | f+1,first,b,c,d=>match gO e a g first b c d with
  | (l,h,i,j,none)=>(l,h,i,j)
  | (_,h,i,_,some k)=>kw e a g f ao h i k
structure q9(rs:List D)(r:D):Prop where
 dat:∃r0∈rs,r.type=r0.type/\r.data=r0.data
 own:r.owner.length<=260
section
variable {o:ap} {rs:List D} (hz:jJ o rs)
include hz
theorem Hy{b}(k:h9 c)(j:kj o (cq rs) c=ag b):∃a∈rs,b=h6 c a/\a.type=5/\fI b.data=aE:=by
 have⟨_,h2,h3,h4⟩:=LD j;rcases Ma (rz hz) k with⟨_,l⟩|⟨s,_,_,e⟩;{grind};{
 rw[h3]at e;cases h:dF (cq rs) s with
 | nil=>grind
 | cons a n =>{
 rw[h]at e;have d:b=h6 c a:=by grind
 have i:a∈rs:=(Ew (by rw[h];simp)).1;have g:a.type=5:=by{
 rw[qS,d]at h4;have:((h6 c a).type==5)=aE:=fN
 have:(a.type==5)=aE:=this;grind};refine⟨a,i,d,g,?_⟩;rw[d];exact(UF hz i g).2}}
omit hz in
theorem acb{h}(m:E c<=260):∀a∈b9 (h6 c) (hM rs g h),q9 rs a:=by intro a e;obtain⟨b,h0,rfl⟩:=lZ.1 e;have d:b∈rs:=by{exact PY};exact⟨⟨b,d,af,af⟩,m⟩
theorem Us:∀a∈lr o (cq rs),q9 rs a:=by
 intro a c;have⟨a0,a1,a2,a3,_,_,_,h4,_⟩:=IE hz;rw[h4]at c;obtain rfl:a=_:=by simpa using c
 have b:=eP<|tp hz;exact⟨⟨_,b,af,af⟩,cU (x_ (hz.2 _ b).1).2 G⟩
theorem acc{a}(b:a∈rs):q9 rs a:=⟨⟨a,b,af,af⟩,cU (x_ (hz.2 a b).1).2 G⟩
theorem E0(g:h9 c)(b):mi b (er (cq rs) c).1=[]\/∃s,mi b (er (cq rs) c).1=b9 (h6 c) (hM rs s b):=by rcases Ma (rz hz) g with⟨_,a⟩|⟨s,_,_,d⟩;{left;have:(er (cq rs) c).1=[]:=by{unfold er at a ⊢;split;{grind};{rename_i e;rw[bJ e]at a;split;{simp_all};{rfl}}};rw[this];rfl};{right;exact⟨s,by rw[d,L4 s c b<|rz hz]⟩}
theorem Ut(d:h9 c)(g:fZ c o=aE):∀a∈fV o (cq rs) c,a∈rs:=by rcases Ix (rz hz) d g with⟨_,b⟩|⟨h,_,_,b,_⟩;{grind};{rw[b];intro a e;exact(jo.1 e).1}
theorem acd(a:h9 c)(d:fZ c o=aE):E (fV o (cq rs) c)<=60:=by rcases Ix (rz hz) a d with⟨_,b⟩|⟨e,_,_,b,_⟩;{grind};{rw[b];exact UE hz}
theorem Uu:E (lr o<|cq rs)=1:=by have⟨a0,a1,a2,a3,_,_,_,h4,_⟩:=IE hz;grind
structure ace(rs ans:List D)(q:Int×Bool×List D×List D×Option ap):Prop where
 ZH:∀r∈q.2.2.1,q9 rs r
 aoU:∀r∈q.2.2.2.1,q9 rs r
 aoV:q.2.2.1.length<=ans.length+60
 aoW:q.2.2.2.1.length<=60
 aoX:∀d,q.2.2.2.2=some d->fI d=true/\q.1=0/\q.2.2.2.1=[]/\q.2.2.1.length=ans.length+1/\ans.length≠8
theorem ML(h:h9 c)(u:E c<=260)(d first z)(l:∀i∈j,q9 rs i):ace rs j (gO o (cq rs) d first z j c):=by
 cases g:fZ c o with
 | false =>{rw[gO,b7 g];exact⟨l,aA,Ee _ _,eb _,aA⟩}
 | true =>{
 by_cases t:E (fV o (cq rs) c)=0;{
 have b:=iM t;cases w:(er (cq rs) c).2 with
 | false =>{rw[MJ g b w];exact⟨l,Us hz,Ee _ _,(by show(lr o<|cq rs).length<=60;rw[Uu hz];omega),aA⟩}
 | true =>{
 by_cases p:(d=5\/d=255)\/kj o (cq rs) c=ai;{rw[MK g b w p];have C:∀i∈mi d (er (cq rs) c).1,q9 rs i:=by{rcases E0 hz h d with a|⟨s,a⟩;{grind};{rw[a];exact acb u}};have G:(mi d (er (cq rs) c).1).length<=60:=by{rcases E0 hz h d with a|⟨s,a⟩;{grind};{rw[a,fC];exact CW hz s d}};refine⟨λi k=>?_,λi k=>?_,?_,?_,aA⟩;{grind};{have x:=k;split at x;{grind};{exact Us hz i x}};{grind};{show(if wM d (er (cq rs) c).1 then []else lr o (cq rs)).length<=60;split;{simp};{rw[Uu hz];omega}}};{
 have q:=λa=>p<|bG<|bG a;have y:=λa=>p<|bG<|bE a;cases n:kj o (cq rs) c with
 | none=>grind
 | some i =>{
 have⟨r0,hm0,e,_,hp⟩:=Hy hz h n;by_cases r:E j=8;{rw[Hw g b n q y r];exact⟨aA,aA,eb _,eb _,aA⟩};{
 rw[EZ g b n q y r];refine⟨λB A=>?_,aA,?_,eb _,λF D=>?_⟩;{
 rcases lc.1 A with a|a;{grind};{
 obtain rfl:B=i:=by grind
 rw[e];exact⟨⟨r0,hm0,af,af⟩,u⟩}};{simp};grind}}}}};{rw[Hv g t];exact⟨l,λi k=>acc hz<|Ut hz h g i k,Ee _ _,acd hz h g,aA⟩}}
theorem A4(e):∀(f:Nat) (first b:Bool) (c:List D) (d:ap),h9 d->E d<=260->(∀g∈c,q9 rs g)->E c<=8->(∀g∈(kw o (cq rs) e f first b c d).2.2.1,q9 rs g)/\(∀g∈(kw o (cq rs) e f first b c d).2.2.2,q9 rs g)/\E (kw o (cq rs) e f first b c d).2.2.1<=68/\E (kw o (cq rs) e f first b c d).2.2.2<=60
 | 0,first,b,c,d,j,i,h,n=>by
  have a:=ML hz j i e first b h
  exact⟨a.1,a.2,by have:=a.3;show(gO o (cq rs) e first b c d).2.2.1.length<=68;omega,a.4⟩
 | f+1,first,b,c,d,j,i,h,n=>by
  have a:=ML hz j i e first b h
  unfold kw;generalize gO o (cq rs) e first b c d=t at a
  obtain⟨y,q,u,w,r⟩:=t;cases r with
  | none=>exact⟨a.1,a.2,by have:=a.3;grind,a.4⟩
  | some k =>{obtain⟨l,_,_,p,x⟩:=a.5 k af;simp only at p;exact A4 e f ao q u k (jp l).1 (cU (jp l).2 G) a.1 G}
theorem acf{a}(h:q9 rs a)(j:mH a=aE):∃ch b,I 32 a.data=ch++[b]/\jm a.data=b/\fI b=aE/\E a.data<=3000:=by obtain⟨⟨c,i,k,e⟩,_⟩:=h;have d:=hz.2 c i;have g:c.type=2\/c.type=15:=by{unfold mH at j;grind};have⟨ch,b,h1,h2,h3⟩:=abm d g;rw[e];exact⟨ch,b,h1,h2,h3,d.4⟩
end
def uk(b:ap)(a:List D)(c:Int)(d:ap):Option (Int×List D×List D) :=
 if c=5\/c=255 then ag (nh b a d,oo b a c d,pm b a c d)else(iO b a 8 d).map λe=>(xo b a e.2,e.1++vw b a c e.2,wX b a c e.2)
section
variable {o:ap} {L:List D} {t:Int}
def MM{a:Bool}(d:fZ c o=ao):gO o L t l a j c=((if l then 5 else 0),a,j,[],ai):=by rw[gO,b7 d]
def Hz{d:Bool}(g:fZ c o=aE)(h:(t=5\/t=255)\/kj o L c=ai):gO o L t l d j c=(nh o L c,(if(fV o L c).length=0 then aE else d || !l),j++oo o L t c,pm o L t c,ai):=by by_cases b:E (fV o L c)=0;{have i:(if t=5\/t=255 then ai else kj o L c)=ai:=by{rcases h with a|a;{rw[b7 a]};{rw[a,ite_self]}};rw[gO,bJ<|by simp[g],bJ<|by simp[b],i,b7 b]};{rw[Hv g b,bJ b];rw[nh,oo,pm,bJ b,bJ b,bJ b,mw]}
def yY{a:Bool}{e:Bool}(f:Nat)(d:gO o L t l a j g=(i,e,q,y,ai)):kw o L t f l a j g=(i,e,q,y):=by
 cases f with
 | zero=>rw[kw,d]
 | succ f=>rw[kw,d]
def Uv{a:Bool}{d:Bool}(f:Nat)(e:gO o L t l a j g=(i,d,q,y,ag c)):kw o L t (f+1) l a j g=kw o L t f ao d q c:=by
 conv=>lhs;unfold kw
 rw[e]
def MN{a:D}(b:kj o L c=ag a):fV o L c=[]:=iM (LD b).1
def ach(h:t≠5)(j:t≠255):∀(m:Nat) (e:List D) (c:ap),E e+m=8->fZ c o=aE ->
  kw o L t (m+1) ao aE e c=match iO o L m c with
   | none=>(2,aE,[],[])
   | some d=>(xo o L d.2,aE,e++(d.1++vw o L t d.2),wX o L t d.2):=by
 intro m;induction m with
 | zero =>{
 intro e c l g;cases a:kj o L c with
 | none =>{rw[yY 1<|Hz g<|bE a];unfold iO;rw[a];simp[xo,vw,wX]}
 | some b =>{rw[yY 1<|Hw g (MN a) a h j G];unfold iO;rw[a]}}
 | succ m n =>{
 intro e c l g;cases a:kj o L c with
 | none =>{rw[yY (m+2)<|Hz g<|bE a];unfold iO;rw[a];simp[xo,vw,wX]}
 | some b =>{
 rw[Uv (m+1)<|EZ g (MN a) a h j G];have k:iO o L (m+1) c=if fZ b.data o=aE then(iO o L m b.data).map (λd=>(b::d.1,d.2))else ag ([b],ai):=by{
 conv=>lhs;unfold iO
 rw[a]}
 rw[k];cases i:fZ b.data o with
 | false =>{rw[yY (m+1)<|MM i];simp[xo,vw,wX]}
 | true =>{
 rw[n (e++[b]) b.data cx i];simp only[pi];cases iO o L m b.data with
 | none=>rfl
 | some d=>simp}}}
def Uw(h:fZ c o=aE):kw o L t 9 aE ao [] c=match uk o L t c with
  | none=>(2,aE,[],[])
  | some a=>(a.1,dQ<|E (fV o L c)=0,a.2.1,a.2.2):=by
 have k:(if(fV o L c).length=0 then aE else(ao || ! aE))=dQ (E (fV o L c)=0):=by{by_cases d:E (fV o L c)=0<;>simp[d]};unfold uk;by_cases g:t=5\/t=255;{rw[yY 9<|Hz h<|bG g,b7 g,k];rfl};{
 rw[bJ g];have i:t≠5:=λd=>g<|bG d;have n:t≠255:=λd=>g<|bE d;cases e:kj o L c with
 | none =>{
 rw[yY 9<|Hz h<|bE e,k];have:iO o L 8 c=ag ([],ag c):=by unfold iO;rw[e]
 rw[this];simp[xo,vw,wX]}
 | some b =>{
 have j:=MN e;rw[Uv 8<|EZ h j e i n aA,j];have p:iO o L 8 c=if fZ b.data o=aE then(iO o L 7 b.data).map (λa=>(b::a.1,a.2))else ag ([b],ai):=by{
 conv=>lhs;unfold iO
 rw[e]}
 rw[p];cases l:fZ b.data o with
 | false =>{rw[yY 8<|MM l];simp[xo,vw,wX]}
 | true =>{
 rw[ach i n 7 ([]++[b]) b.data aA l];simp only[pi];cases iO o L 7 b.data with
 | none=>rfl
 | some a=>simp}}}
theorem O_{P:Prop}(h:P:=by rw[hk]at h;obtain rfl:=ih h;exact⟨λr hr=>(by cases hr),λf hf=>by obtain rfl:=ih hf;exact hn⟩):P:=h
section
variable {rs:List D} (hz:jJ o rs)
include hz
def CX(rs b:List D):Prop:=∀c,b.any (λa=>a.owner==c&&a.type==1)=aE->∀s∈gN rs c 1,s∈b
theorem acp(b:lf (cq rs) c=ao)(g:Int):gN rs c g=[]:=by rw[gN,sj];intro e d a;simp only[fx,jy]at a;rw[L_<|rz hz]at b;have:sA rs (cJ c)=aE:=by{refine pr.2 ⟨e,d,?_⟩;rw[L0 (rz hz e d).2.2,a.1];exact Ru c};rw[b]at this;cases this
theorem ac3(g:h9 c)(t:Int):mi t (er (cq rs) c).1=[]\/mi t (er (cq rs) c).1=hM rs c t\/(gN rs c 1=[]/\∀d∈mi t (er (cq rs) c).1,d.owner=c):=by
 by_cases a:lf (cq rs) c=aE;{
 have:(er (cq rs) c).1=dF (cq rs) c:=by rw[er,b7 a]
 rw[this,L3 c t<|rz hz];exact bE<|bG af};{
 have e:lf (cq rs) c=ao:=by simpa using a
 rcases E0 hz g t with b|⟨s,b⟩;{exact bG b};{refine bE<|bE ⟨acp hz e 1,?_⟩;rw[b];intro d h;obtain⟨i,_,rfl⟩:=lZ.1 h;rfl}}
omit hz in
theorem ac4{t:Int}{e:D}(b:e∈hM rs c t)(g:e.type=1):∀s∈gN rs c 1,s∈hM rs c t:=by
 intro s d;unfold hM at b ⊢;split at b;{rename_i a;rw[b7 a];exact xV.2 ⟨1,aA,d⟩};{
 rename_i a;rw[bJ a];have:=(jo.1 b).2;simp only[fx,jy]at this;have h:t=1:=by rw[<- this.2,g]
 rw[h];exact d}
omit hz in
theorem ac5{t:Int}{b:D}(a:b∈hM rs c t):b.owner=c:=by unfold hM at a;split at a;{have⟨k,_,hk⟩:=xV.1 a;have:=(jo.1 hk).2;simp only[fx,jy]at this;exact this.1};{have:=(jo.1 a).2;simp only[fx,jy]at this;exact this.1}
theorem ac7(e:h9 g){t:Int}(l:∀n∈j,n.type=5):CX rs (j++mi t (er (cq rs) g).1):=by intro o k s d;have⟨a,ha,hc⟩:=pr.1 k;simp only[fx,jy]at hc;rcases lc.1 ha with b|b;{have:=l a b;rw[this]at hc;exact absurd hc.2 bL};{refine List.mem_append_right _ ?_;rcases ac3 hz e t with c|c|⟨h,i⟩;{rw[c]at b;cases b};{rw[c]at b ⊢;have:=ac5 b;rw[hc.1]at this;subst this;exact ac4 b hc.2 s d};{have:=i a b;rw[hc.1]at this;subst this;rw[h]at d;cases d}}
omit hz in
theorem MO(d:∀e∈j,e.type=5):CX rs j:=by intro h c s g;have⟨a,ha,hc⟩:=pr.1 c;simp only[fx,jy]at hc;have:=d a ha;rw[this]at hc;exact absurd hc.2 bL
theorem Uq{ls:List D}(b:h9 c)(t:Int)(a:∀d∈ls,d.type=5):CX rs (ls++oo o (cq rs) t c):=by unfold oo;split;{split;{exact ac7 hz b a};{rw[mw];exact MO a}};{rw[mw];exact MO a}
theorem ac8:∀(m:Nat) (a:ap) (c:List D×Option ap),h9 a->iO o (cq rs) m a=ag c->(∀r∈c.1,r.type=5)/\∀f,c.2=ag f->h9 f:=by
 intro m;induction m with
 | zero =>{
 intro a c hn h;unfold iO at h;cases hk:kj o (cq rs) a with
 | none=>exact O_
 | some r=>rw[hk]at h;cases h}
 | succ m j =>{
 intro a c hn h;unfold iO at h;cases hk:kj o (cq rs) a with
 | none=>exact O_
 | some r =>{
 rw[hk]at h;have⟨r0,_,e,h5,hp⟩:=Hy hz hn hk;have i:r.type=5:=e▸h5
 simp only at h;split at h;{
 cases g:iO o (cq rs) m r.data with
 | none=>rw[g]at h;cases h
 | some k =>{rw[g]at h;obtain rfl:=ih h;have⟨k1,k2⟩:=j r.data k (jp hp).1 g;exact⟨λd b=>by rcases gC.1 b with rfl|b;exact i;exact k1 d b,k2⟩}};{obtain rfl:=ih h;exact⟨λd b=>(show d=r by simpa using b)▸i,λf hf=>by cases hf⟩}}}
theorem ac9(d:h9 c){t:Int}{e:Int×List D×List D}(a:uk o (cq rs) t c=ag e):CX rs e.2.1:=by
 unfold uk at a;split at a;{obtain rfl:=ih a;have:=Uq hz (ls:=[]) d t (λj i=>by cases i);rw[jz]at this;exact this};{
 cases b:iO o (cq rs) 8 c with
 | none=>rw[b]at a;cases a
 | some g =>{
 rw[b]at a;obtain rfl:=ih a;have⟨k1,k2⟩:=ac8 hz 8 c g d b;obtain⟨ls,h⟩:=g;cases h with
 | none =>{show CX rs (ls++[]);rw[mw];exact MO k1}
 | some f=>exact Uq hz (k2 f af) t k1}}
omit hz in
theorem ada(n:CX rs j)(k:List D):pE (cq rs) j k=lT rs j k:=by
 have p:∀s c,uy (cq rs) j s c=qp rs j s c:=by{
 intro s c;unfold uy qp;cases q:mH c with
 | false=>simp
 | true =>{
 cases g:s.1.contains (jm c.data)with
 | true=>simp
 | false =>{
 simp only[DP,GC,pi];rw[CP];congr 1;generalize jm c.data=h;by_cases i:j.any (λd=>d.owner==h&&d.type==1)=aE;{rw[b7 i];have:(gN rs h 1).filter (λd=>!j.any (d == ·))=[]:=by{rw[sj];intro s a g;have o:=n h i s a;have:j.any (s == ·)=aE:=pr.2 ⟨s,o,aA⟩;rw[this]at g;cases g};rw[this,mw]};{
 rw[bJ i];have:(gN rs h 1).filter (λd=>!j.any (d == ·))=gN rs h 1:=by{
 rw[yp];intro s a;rw[zH,<- vU];intro g;have⟨b,hb,e⟩:=pr.1 g;have l:s=b:=by simpa using e
 have:=(jo.1 a).2;exact i<|pr.2 ⟨b,hb,l▸this⟩};rw[this]}}}};unfold pE lT;congr 1;funext s c;exact p s c
end
end
def E1{d:D}:lT j q (y++[d])=qp j q (lT j q y) d:=by unfold lT;rw[zL];rfl
def adb(b d:List D):∀(a:List D),E (lT b d a).1<=E a/\E (lT b d a).2<=E a*E b:=by
 intro a;have⟨e,hn⟩:=dK<|E a;induction e generalizing a with
 | zero=>obtain rfl:a=[]:=iM hn;exact⟨cW _,eb _⟩
 | succ e k =>{
 rcases si a with rfl|⟨c,g,rfl⟩;{simp at hn};{
 rw[se]at *;have i:E c=e:=by simp at hn;exact hn
 have:=k c i;rw[E1];have:=vA (λh:D=>h.owner==jm g.data&&h.type==1) b;have j:E (c++[g])*E b=E c*E b+E b:=by rw[dE,K6];simp
 rw[j];unfold qp gN;split;{split;{exact⟨cx,G⟩};{refine⟨cx,?_⟩;split;{show(lT b d c).2.length<=_;omega};{show((lT b d c).2++_).length<=_;rw[dE];omega}}};{exact⟨cx,G⟩}}}
def adc:∀(b:List D),∀s∈(lT j q b).1,∃c∈b,mH c=aE/\s=jm c.data:=by
 intro b;have⟨g,hn⟩:=dK<|E b;induction g generalizing b with
 | zero=>obtain rfl:b=[]:=iM hn;intro s a;cases a
 | succ g o =>{
 rcases si b with rfl|⟨d,c,rfl⟩;{simp at hn};{
 rw[se]at *;have l:E d=g:=by simp at hn;exact hn
 intro s a;rw[E1]at a;have h:s∈(lT j q d).1->∃e∈d++[c],mH e=aE/\s=jm e.data:=λk=>by{have⟨e,h1,h2,h3⟩:=o d l s k;exact⟨e,List.mem_append_left _ h1,h2,h3⟩};unfold qp at a;split at a;{rename_i n;split at a;{exact h a};{rcases lc.1 a with a|a;{exact h a};{exact⟨c,aA,n,by simpa using a⟩}}};{exact h a}}}
def ade{s:List ap×List D}{a:D}(c:mH a=ao):qp j q s a=s:=by unfold qp;rw[c];rfl
def adf{s:List ap×List D}{a:D}(g:jm a.data=c)(d:mH a=aE)(e:s.1.contains c=aE):qp j q s a=s:=by unfold qp;rw[d,g,e];rfl
def adg{s:List ap×List D}{b:D}(i:jm b.data=c)(g:mH b=aE)(h:s.1.contains c=ao):qp j q s b=(s.1++[c],if q.any (λa=>a.owner==c&&a.type==1)then s.2 else s.2++gN j c 1):=by unfold qp;rw[g,i,h];rfl
def MP(a:E c<=900):E (cJ c)<=1000:=by rw[uw];exact pQ a
def adh{α:Type}(c:α->Bool){b:List α}(d:a<E b):(amA (a+1) b).any c=((amA a b).any c||c b[a]):=by rw[iH d,List.any_append];simp
def adi(d:ap)(e:a<E r):(amA (a+1) r).contains d=((amA a r).contains d||dQ (cJ r[a]=cJ d)):=by rw[iH e,List.contains_append];congr 1;rw[sd,Gf];simp only[List.contains_cons,List.contains_nil,Li,jy];exact⟨λc=>by rw[c],λc=>bZ<|CN c⟩
def adj(a:D)(c:ap):(a.owner==c&&a.type==1)=(dQ (cJ a.owner=cJ c)&&a.type==1):=by congr 1;rw[sd,Gf,jy];exact⟨λb=>by rw[b],λb=>CN b⟩
def adk(b g:aQ)(a:D):Prop:=∃(h:bm) (e c d:Nat),g.1[U b.1]? = ag (aS #[h,ak am a.aP,ak am a.type,amz<|O a.data,aL (ag ⟨e,c,ai⟩) (E<|I 32 a.data) d] 119)/\a7 b g/\gG b (bC e c (E<|I 32 a.data) d) (I 32 a.data)
def adl(d:a<E (j++q)):(a<E j/\∃e:a<E j,(j++q)[a]=j[a])\/(¬a<E j/\∃e:a-E j<E q,(j++q)[a]=q[a-E j]):=by by_cases aN:a<E j;{exact bG ⟨aN,aN,RH aN⟩};{rw[dE]at d;exact bE ⟨aN,G,RI G⟩}
def QJ{P:Prop}(h:P:=by have cF:=ae jY;clear h2 jY;go_wp2_with fail;go_meet;case rel=>exact⟨by rw[V cF];rfl,af⟩):P:=h
def Qk{P:Prop}(h:P:=by
 refine oh (rs:=[9]) b8 aA (lK af (λK hK=>?_) m_);rw[b7 dS];refine O3 (.tmp 134) (.tmp 138) dS dS dS (V afx) ?_;refine hK.out _ _ cE λhS=>?_;clear hK K;try simp only[Act.put,mK,kH,lp]
 refine lX 10 cE ?_;refine lX 11 cE ?_;refine oh (rs:=[12]) b8 aA (lK af (λK hK=>?_) m_);go_simp;refine hK.out _ _ cE λhS=>?_;clear hK K;refine uY b8 ?_ _;go_wp2;exact⟨⟨i+1,_,G,dH,⟨_,_,_,af⟩,by rw[V iC];rw[hown1]at Nk;exact Nk⟩,ee⟩):P:=h
def adn{rs:List D}(cW:B d)(cX:∀A,A<U f.1->¬B A)(cY:∀A,U m.1<=A->¬B A)(cI:∀A,B A->A<=d)(di:nS f a c rs)(c1:jJ c rs)(de:a7 f m)(d5:U f.1<=d)(aY:gz m d p l e s<|bY)(b3:fS B m (d+1) e j)(b_:fS B m (d+1) s q)(eG:E j<=500)(eL:E q<=500)(a1:∀h∈j++q,mH h=aE->∃ch x,I 32 h.data=ch++[x]/\jm h.data=x/\fI x=aE/\E h.data<=3000)(aV:∀h∈j,E h.owner<=900):bd aK 187 #[N a,N d] m λC et=>C=bg (bX #[])/\∃br bs,rA B m et d p l e s br bs (lT rs j<|j++q).1 (lT rs j<|j++q).2:=by
 have dZ:=ae di;have bS:=ae c1;have b0:=ae de;have bT:=ae b3;have cP:=ae b_;have dk:=ae a1;have er:=ae aV;have dN:=aY.lt;have cS:rA B m m d p l e s (bY) (bY) [] []:=⟨aY,cL.refl _ _,⟨[],jO m _ _ 1,λeW hj=>Di⟩,fS.nil _ _ _,(λA aX=>by cases aX),dN,cW,cI⟩;have en:=ae cS;obtain⟨ce,bK,rfl⟩:=b3.slice;obtain⟨cr,cs,rfl⟩:=b_.slice;have dv:=ae cX;have dx:=ae cY;clear di c1 de aY b3 b_ a1 aV cS cW cX cY cI;go_in;go_wp2_with fail;go_loopw [4,5] (λbs ca wr=>∃i br,i<=E (j++q)/\ca=J (i:Nat)/\(∃bu ef dP,bs=aL bu ef dP)/\rA B m wr d p l (aL ce (E j) bK) (aL cr (E q) cs) br bs (lT rs j<|amA i<|j++q).1 (lT rs j<|amA i<|j++q).2) λ_ ca _=>E (j++q)-c7 (fJ ca);case atStart=>exact⟨0,bY,eb _,af,⟨_,_,_,af⟩,en⟩
 case round =>(
 obtain⟨i,br,aN,rfl,⟨co,ei,cp,rfl⟩,z⟩:=hrel;have⟨d3,hG⟩:=dK<|lT rs j<|amA i<|j++q;have bl:=(adb rs j<|amA i<|j++q);have bM:ax (∀aI∈(lT rs j<|amA i<|j++q).1,E aI<=900):=λaI aY=>by{obtain⟨h,o,h2,y⟩:=adc _ aI aY;obtain⟨_,x,_,d2,d4,_⟩:=V dk h (zP o) h2;rw[y,d2];have:=(jp d4).2;omega};have ea:=Ad<|V bS;have dB:E (amA i<|j++q)<=1000:=by rw[jF,dE];omega
 rw[hG]at z bl bM;obtain⟨g,n⟩:=d3;have eK:E g<=2000:=by have:=bl.1;simp only at this;omega
 have eH:E n<=60000:=by{have o:=bl.2;have h2:=Nat.mul_le_mul dB ea;simp only at o;omega};have bb:=ae hG;clear hG bl;simp only at z bM;have c9:=ae z;obtain⟨a3,a4,aJ,a5,a6⟩:=z.1.cells;have a8:=z.1.frozen;obtain⟨aF,aH,rfl⟩:=z.4.slice;have ec:=z.2.4;have eT:E (j++q)=E j+E q:=dE;by_cases b5:i<E (j++q);{
 have dj:(i:Int)<(E j:Int)+(E q:Int):=G;have bj:=ae<|iH b5;have bI:=ae<|dk _<|eP b5;have aM:=ae<|z.own<|V bT;have aP:=ae<|z.own<|V cP;go_upto_region 2 with fail;go_region;have ar:=z.below (w1:=bq wr) (cd.drew);have aU:=ae ar;have aM:=ae<|ar.own<|V bT;have aP:=ae<|ar.own<|V cP;have eE:=ar.2.4;obtain⟨ek,el,bn,bo,em⟩:=ar.1.cells;have eo:=ar.1.frozen;clear a3 a4 aJ a5 a6 a8 z ar c9 ec;generalize bq wr=w1 at *;obtain⟨h,bB⟩:=bi<|(j++q)[i];have ds:=ae bB;rw[<- bB]at bj bI;have dO:¬d=U w1.1:=by have:=aU.6;omega
 have k:∀(c:Obj) (bu:Addr) (v:bm),aD w1 bu=ag v->aD (aO w1 c) bu=ag v:=λc bu v t=>(ev<|dT w1 c bu.1<|i8 _ _ t).trans t;have cq:=λc=>k c _ _ bn;have bO:=λc=>k c _ _ bo;clear bB dj;go_upto_if 35 with fail;go_cut [6]from 13 to 141 λdp cy=>dp=N (U w1.1)/\adk w1 cy h;case first =>(rcases adl b5 with⟨bf,aB,a2⟩|⟨bf,aB,a2⟩;{have dC:(i:Int)<(j.length:Int):=G;rcases aM.TX with⟨_,t⟩|⟨P,da,aa,dg,dc,ad⟩;{rw[t]at bf;simp at bf};obtain⟨cu,dd,X,bA,Y,F,cD,ac,Q⟩:=ad i aB;rw[<- a2,<- V ds]at bA Y F ac Q;obtain⟨o,h2,y⟩:=np aa;rw[o,y]at bn;clear cq;have cq:=λc=>k c _ _ bn;obtain⟨dw,dL,dM,rfl,_,_⟩:=ac;have cc:P<U w1.1:=i8 _ _ X;have ah:=ae Q.nm;obtain⟨av,ay,az,rfl,_,_⟩:=Q;have d8:¬P=U w1.1:=G;have dV:=λc=>k c _ _ X;have dW:=λc=>k c _ _ bA;have dX:=λc=>k c _ _ Y;have dY:=λc=>k c _ _ F;have dD:=λc=>k c _ _ cD;have bU:∀c,a7 w1 (aO w1 c):=λc=>ct cd bv _;clear o h2 y ad aa a2 k bf aB aM aP aU;go_wp2_with fail;go_meet;case rel=>exact⟨af,_,av,ay,az,du w1 _,bU _,ah⟩};{have dC:¬(i:Int)<(E j:Int):=G;rcases aP.TX with⟨_,t⟩|⟨P,da,aa,dg,dc,ad⟩;{rw[t]at aB;simp at aB};obtain⟨cu,dd,X,bA,Y,F,cD,ac,Q⟩:=ad (i-E j) aB;rw[<- a2,<- V ds]at bA Y F ac Q;obtain⟨o,h2,y⟩:=np aa;rw[o,y]at bo;clear bO;have bO:=λc=>k c _ _ bo;obtain⟨dw,dL,dM,rfl,_,_⟩:=ac;have cc:P<U w1.1:=i8 _ _ X;have ah:=ae Q.nm;obtain⟨av,ay,az,rfl,_,_⟩:=Q;have d8:¬P=U w1.1:=G;have dV:=λc=>k c _ _ X;have dW:=λc=>k c _ _ bA;have dX:=λc=>k c _ _ Y;have dY:=λc=>k c _ _ F;have dD:=λc=>k c _ _ cD;have bU:∀c,a7 w1 (aO w1 c):=λc=>ct cd bv _;clear o h2 y ad aa a2 k aM aP aU;go_upto_region 7 with fail;go_region;all_goals(go_wp2_with fail;go_meet;case rel=>exact⟨af,_,av,ay,az,du w1 _,(bU _).drew,ah⟩)})
 case rest =>(
 obtain⟨rfl,cu,av,ay,az,cf,b2,ah⟩:=hcut;have cb:=aU.below b2;have cT:=ah.below b2;have eI:av<U w1.1:=by obtain⟨_,_,_,C,_,t⟩:=ah;cases C;exact t.1
 have bk:=ae cb;have dm:=ae cT;have d0:aD wc (M (U w1.1) 2)=ag (J h.type):=by unfold aD; rw[cf];rfl
 have db:aD wc (M (U w1.1) 4)=ag (bC av ay (E<|I 32 h.data) az):=by unfold aD; rw[cf];rfl
 have eD:=cb.2.4;clear cb cf cT ah b2 cq bO ek el bn bo em eo aU aM aP k dO;generalize U w1.1=eZ at *;go_upto_region 8 with fail;go_cut [63]from 13 to 141 λv cy=>v=aG (!mH h)/\cy=wc;case first =>(
 by_cases h2:h.type=2;{
 have ed:(h.type != 2)=ao:=by simp[h2]
 have jY:mH h=aE:=by unfold mH;simp[h2]
 exact QJ};{
 have ed:(h.type != 2)=aE:=by simpa using h2
 have jY:mH h=(h.type==15):=by unfold mH;rw[kE.2 h2,zG]
 exact QJ})
 case rest =>(
 obtain⟨rfl,rfl⟩:=hcut;cases jY:mH h with
 | false =>{have T:ax (lT rs j (amA (i+1)<|j++q)=(g,n)):=by{rw[ax,V bj,E1,V bb,ade jY]};go_wp2;exact⟨⟨i+1,_,G,dH,⟨_,_,_,af⟩,by rw[V T];exact bk⟩,ee⟩}
 | true =>{
 obtain⟨ch,x,a0,cN,b6,eY⟩:=V bI jY;have eX:=(jp b6).2;have dF:aD wc (M av<|ay+E ch)=ag (aZ x):=by{obtain⟨_,_,_,C,_,t⟩:=V dm;cases C;have:=t.2 (E ch) (by rw[a0];simp);rw[this];congr 3;simp[a0]};have eQ:E ch+1<=az:=by{obtain⟨_,_,_,C,aC,_⟩:=V dm;cases C;rw[a0]at aC;simpa using aC};have c2:E (I 32 h.data)=E ch+1:=by rw[a0];simp
 have eV:E ch<=3000:=by have:=pN 32 h.data;omega
 rw[c2]at db;have eU:((E ch+1:Nat):Int)-1=(E ch:Int):=G;have eg:=ae λW=>B_ x ao W G;have a1:je ao x=ag (I 46 x):=by{have:=vT x;rw[b6]at this;unfold je at this ⊢;split at this;{rename_i t;rw[b7 t]};{cases this}};rw[<- ux (Iz b6)]at a1;have bc:=ae<|cv jY cN;clear jY cN a0 c2 bI;go_wp2_with fail;refine(eg _).mono ?_;rintro C eu ⟨⟨e1,rfl,dh⟩,df⟩;rw[a1]at dh;obtain⟨_,aq,F,rfl,d6,eS,ej⟩:=dh;have b1:=bk.below df;have cG:jB eu (λA=>B A\/ag A=bW (aL aF (E n) aH)\/ag A=bW (aL co ei cp)) (bC aq 0 (E<|cJ x) F) (cJ x):=⟨aq,0,F,af,d6,ej,λaC=>by{rcases aC with aC|aC|aC;{exact dx aq G aC};{have:=(bk.4.lt aq<|bZ aC).2;omega};{have:=(bk.3.lt aq<|bZ aC).2;omega}}⟩;have d1:=ae b1;have eC:=ae cG;obtain⟨_,_,cz⟩:=b1.3.slice;obtain⟨-,dG,-⟩:=np cz;subst dG;have bF:E (cJ x)<=1000:=MP G;clear b1 cG df cz d0 db dF;go_wp2_with fail;go_loopw [8,9] (λgJ au wr=>∃(A:Nat) (w:Bool),A<=E g/\au=J A/\gJ=aG w/\(amA A g).contains x=w/\rA B m wr d p l (aL ce (E j) bK) (aL cr (E q) cs) (aL aF (E n) aH) (aL co (E g) cp) g n/\jB wr (λA=>B A\/ag A=bW (aL aF (E n) aH)\/ag A=bW (aL co (E g) cp)) (bC aq 0 (E<|cJ x) F) (cJ x)) λ_ au _=>E g-c7 (fJ au);case atStart=>exact⟨0,ao,eb _,af,af,af,d1,eC⟩
 case round =>(
 obtain⟨A,w,aX,rfl,rfl,aW,bp,r⟩:=hrel;have ab:=ae aW;clear aW;by_cases O:A<E g;{
 have bD:(A:Int)<(E g:Int):=G;obtain⟨eO,eM,e0,cQ,eR,d7,c3⟩:=bp.3.at O;obtain⟨o,-,y⟩:=np cQ;subst o y;have cH:=(V bM) g[A]<|eP O;have a9:=ae<|up c3.nm r.nm (MP cH) bF;have L:=ae bp;have aj:=ae r;have aw:=ae<|adi x O;obtain⟨dI,dJ,dA,rfl,_,_⟩:=c3;clear bp r cQ cH;go_wp2_with fail;refine a9.mono ?_;rintro C e2 ⟨rfl,b4⟩;have cA:=ae<|L.below b4;have cZ:=ae<|aj.fr (p:=λ_=>True) (cL.zY b4) λ_ _=>cE;clear b4 a9 d7;cases w with
 | false =>{go_wp2;exact⟨⟨A+1,_,G,dH,af,by rw[V aw,V ab,zG],cA,cZ⟩,ee⟩}
 | true =>{go_wp2;exact⟨⟨A+1,_,G,dH,af,by rw[V aw,V ab,Lj],cA,cZ⟩,ee⟩}};{
 have bD:¬(A:Int)<(E g:Int):=G;have bz:A=E g:=G;have c4:ax (g.contains x=w):=by{have:=V ab;rw[bz,ld]at this;exact this};have L:=ae bp;have aj:=ae r;cases w with
 | true =>{have T:ax (lT rs j (amA (i+1)<|j++q)=(g,n)):=by{rw[ax,V bj,E1,V bb,adf bc.2 bc.1<|V c4]};clear bp r;go_wp2;exact⟨⟨i+1,_,G,dH,⟨_,_,_,af⟩,by rw[V T];exact L⟩,ee⟩}
 | false =>{
 have T:ax (lT rs j (amA (i+1)<|j++q)=(g++[x],if j.any (λbu=>bu.owner==x&&bu.type==1)then n else n++gN rs x 1)):=by{rw[ax,V bj,E1,V bb,adg bc.2 bc.1<|V c4]};obtain⟨dp,e3,Z,bw,cR,e4⟩:=bp.aDd r G;have dn:=ae Z;have cC:=ae bw;have cU:=ae cR;obtain⟨bH,gE,rfl⟩:=bw.3.slice;rw[dE,RK]at dn cC cU;clear bp r Z bw cR L aj;go_wp2_with (at_builtin;go_loud (refine xX dS (.tmp 90) (.tmp 92) 328 dS dS dS (V dn) ?_));go_loopw [8,11] (λgJ au wr=>∃(A:Nat) (w:Bool),A<=E j/\au=J A/\gJ=aG w/\(amA A j).any (λbu=>bu.owner==x&&bu.type==1)=w/\rA B m wr d p l (aL ce (E j) bK) (aL cr (E q) cs) (aL aF (E n) aH) (aL bH (E g+1) gE) (g++[x]) n/\jB wr (λA=>B A\/ag A=bW (aL aF (E n) aH)\/ag A=bW (aL bH (E g+1) gE)) (bC aq 0 (E<|cJ x) F) (cJ x)) λ_ au _=>E j-c7 (fJ au);case atStart=>exact⟨0,ao,eb _,af,af,af,cC,cU⟩
 case round =>(
 obtain⟨A,w,aX,rfl,rfl,aW,bp,r⟩:=hrel;have ab:=ae aW;clear aW;obtain⟨a3,a4,aJ,a5,a6⟩:=bp.1.cells;have a8:=bp.1.frozen;by_cases O:A<E j;{
 have bD:(A:Int)<(E j:Int):=G;rcases(bp.own<|V bT).TX with⟨_,t⟩|⟨P,da,aa,dg,dc,ad⟩;{rw[t]at O;simp at O};obtain⟨cu,dd,X,bA,Y,dU,cD,ac,Q⟩:=ad A O;obtain⟨o,-,y⟩:=np aa;have c5:=ae<|cv o y;rw[o,y]at aJ;clear o y aa;have aV:=V er j[A]<|eP O;have a9:=ae<|up ac.nm r.nm (MP aV) bF;have L:=ae bp;have aj:=ae r;have aw:=ae<|adh (λbu:D=>bu.owner==x&&bu.type==1) O;have c6:=ae<|adj j[A] x;have cO:=ae Y;obtain⟨dI,dJ,dA,rfl,_,_⟩:=ac;have cc:P<U wr.1:=i8 _ _ X;generalize j[A]=bu at *;clear bp r ad aV bA Y dU cD Q a3 a4 a5 a6;go_wp2_with fail;refine a9.mono ?_;rintro C cw ⟨rfl,H⟩;have ba:=ae<|L.below H;have bP:=ae<|aj.fr (p:=λ_=>True) (cL.zY H) λ_ _=>cE;have eN:aD cw (M P<|A*5+2)=ag (J bu.type):=(H.cell (p:=⟨P,A*5+2,ai⟩) cc).trans (V cO);obtain⟨cg,cj,cl,cm,cn⟩:=ba.1.cells;rw[c5.1,c5.2]at cl;clear H a9 X aJ a8 cg cj cm cn cO;have⟨sb,BG⟩:=dK<|dQ<|cJ bu.owner=cJ x;rw[BG];have cK:=ae BG;clear BG;cases w with
 | true =>{go_wp2;exact⟨⟨A+1,_,G,dH,af,by rw[V aw,V ab,Lj],ba,bP⟩,ee⟩}
 | false =>{
 cases sb with
 | false =>{go_wp2;exact⟨⟨A+1,_,G,dH,af,by rw[V aw,V ab,zG,V c6,V cK,ym],ba,bP⟩,ee⟩}
 | true =>{go_wp2;exact⟨⟨A+1,_,G,dH,af,by rw[V aw,V ab,zG,V c6,V cK,yn],ba,bP⟩,ee⟩}}};{
 have bD:¬(A:Int)<(E j:Int):=G;have bz:A=E j:=G;have c8:ax (j.any (λbu=>bu.owner==x&&bu.type==1)=w):=by{have:=V ab;rw[bz,ld]at this;exact this};have L:=ae bp;have aj:=ae r;cases w with
 | true =>{have iC:ax (lT rs j (amA (i+1)<|j++q)=(g++[x],n)):=by{rw[ax,V T,V c8];rfl};clear bp r;go_wp2;exact⟨⟨i+1,_,G,dH,⟨_,_,_,af⟩,by rw[V iC];exact L⟩,ee⟩}
 | false =>{
 have iC:ax (lT rs j (amA (i+1)<|j++q)=(g++[x],n++gN rs x 1)):=by{rw[ax,V T,V c8];rfl};have al:=bp.below (w1:=bq wr) (cd.drew);have bx:=r.fr (p:=λ_=>True) (B:=bq wr) (cL.zY<|cd.drew) λ_ _=>cE;clear bp r L aj;go_upto_region 24 with fail;clear a3 a4 aJ a5 a6 a8;obtain⟨a3,a4,aJ,a5,a6⟩:=al.1.cells;have a8:=al.1.frozen;have bh:=ae al;have hown1:b9 (h6 x) (hM rs x 1)=gN rs x 1:=by rw[T7];unfold hM;rw[bJ bL]
 have eJ:=CW (V bS) x 1;have c0:=ae<|LV (W:=bq wr) (x:=λA=>(B A\/ag A=bW (aL bH (E g+1) gE))\/ag A=bW (aL aF (E n) aH)) (base:=0) (V dZ) (V bS) (al.Zv (V b0) d5) (λA aX aC=>by{rcases aC with(aC|aC)|aC;{exact dv A aX aC};{have:=(al.3.lt A<|bZ aC).1;have:=b0.4;omega};{have:=(al.4.lt A<|bZ aC).1;have:=b0.4;omega}}) (eb _) 1 bx.nm bF (bx.imp λA _ d9 aC=>d9 (by rcases aC with(aC|aC)|aC;exact .inl aC;exact .inr<|.inr aC;exact .inr<|.inl aC));clear al bx ;refine La (S:=λ_=>True) b8 cE λhS=>?_;refine lX 0 cE ?_;refine lX 1 cE ?_;refine lX 2 cE ?_;refine lX 3 cE ?_;refine lX 5 cE ?_;refine lX 6 cE ?_;refine lX 7 cE ?_;refine oh (rs:=[4,8]) b8 aA (lK af (λK hK=>?_)<|lK af (λK hK=>?_) m_);{
 go_simp;refine hK.out _ _ cE λhS=>?_;clear hK K;try simp only[Act.put,mK,kH,lp]
 refine oh (rs:=[8]) b8 aA (lK af (λK hK=>?_) m_);go_simp;go_wp2_with (go_at_call 237;go_loud (refine c0.mono ?_;rintro C cw ⟨⟨es,rfl,aR⟩,H⟩;have bQ:=ae aR;have bR:=ae H;clear aR H));have R:=bh.below bR;obtain⟨eq,ew,Z,an,aT,dz,oH,cx⟩:=R.add1 (V bQ) FQ;subst cx;have afx:=ae Z;have Nk:=ae aT;obtain⟨cg,cj,cl,cm,cn⟩:=R.1.cells;have ep:=R.1.frozen;obtain⟨ex,ey,ez,eA,eB⟩:=an.cells;have eh:=an.frozen;clear R Z an aT;refine hK.out _ _ cE λhS=>?_;clear hK K;try simp only[Act.put,mK,kH,lp]
 exact Qk};{
 go_simp;go_wp2_with (go_at_call 237;go_loud (refine c0.mono ?_;rintro C cw ⟨⟨es,rfl,aR⟩,H⟩;have bQ:=ae aR;have bR:=ae H;clear aR H));have R:=bh.below bR;obtain⟨eq,ew,Z,an,aT,dz,oH,cx⟩:=R.add1 (V bQ) FQ;subst cx;have afx:=ae Z;have Nk:=ae aT;obtain⟨cg,cj,cl,cm,cn⟩:=R.1.cells;have ep:=R.1.frozen;obtain⟨ex,ey,ez,eA,eB⟩:=an.cells;have eh:=an.frozen;clear R Z an aT;refine hK.out _ _ cE λhS=>?_;clear hK K;try simp only[Act.put,mK,kH,lp]
 refine F1 4 ?_;exact Qk}}})}})}))};{have dj:¬(i:Int)<(E j:Int)+(E q:Int):=G;have dy:i=E (j++q):=G;have T:ax (lT rs j (j++q)=(g,n)):=by{have:=V bb;rw[dy,ld]at this;exact this};go_upto_region 2 with fail;go_region;have bh:=ae<|z.below (w1:=bq wr) (cd.drew);clear z c9;go_wp2_with fail;refine lG (v:=bX #[]) (by simp[dr,results187]) af ?_;exact⟨af,_,_,by rw[V T];exact bh⟩})
def lx(b:ap)(c:List D)(d:Int)(a:ap):Int×Bool×List D×List D:=kw b (cq c) d 9 aE ao [] a
def tY(c:ap)(a:List D)(d:Int)(b:ap):List D:=(lT a (lx c a d b).2.2.1<|(lx c a d b).2.2.1++(lx c a d b).2.2.2).2
def MT(b:List D)(a:Int×Bool×List D×List D):List D:=(lT b a.2.2.1<|a.2.2.1++a.2.2.2).2
def acO(b:Nat->Prop)(g:aQ)(c:Nat)(v:bm)(a:Int×Bool×List D×List D)(j:List D):Prop :=
 ∃d i e,v=ci #[J a.1,aG a.2.1,d,i,e]/\fS b g c d a.2.2.1/\fS b g c i a.2.2.2/\fS b g c e j/\∀h,bW e=ag h->bW d≠ag h
def acP{b}(f)(h:(gO c j i l b q g).2.2.2.2=ai):kw c j i f l b q g=((gO c j i l b q g).1,(gO c j i l b q g).2.1,(gO c j i l b q g).2.2.1,(gO c j i l b q g).2.2.2.1):=by
 cases f with
 | zero=>rfl
 | succ f =>{grind[kw]}
def acQ{d}(f)(first:(gO c j i l d q g).2.2.2.2=ag v):kw c j i (f+1) l d q g=kw c j i f ao (gO c j i l d q g).2.1 (gO c j i l d q g).2.2.1 v:=by
 conv=>lhs;unfold kw
 grind
def MU{ay}(k:iy f a ay r)(j:0<E r)(c:gz f d i l (bY) (bY)<|bY):a≠d:=by
 rintro rfl;have h:=k.2 0 j;rw[jn]at h;have:=c.cells;match ay,h with
 | 0,h=>grind
 | 1,h=>grind
 | 2,h=>grind
 | 3,h=>grind
 | 4,h=>grind
 | e+5,h =>{unfold gz at c;unfold aD at h;grind}
def E2(a s):0<E (I a s):=by have:=pM a s;grind
def HA(s):0<E (cJ s):=by rw[uw];exact E2 46 s
def Mv{base'}(n:fS B f a e j)(g:∀b,Z b->B b)(r:base'<=a)(h:gz f d i l (bY) (bY)<|bY):fS (λb=>b=d\/Z b) f base' e j:=by obtain⟨w,o,p,q⟩:=n;refine⟨w,o,z_ p r,λx t=>?_⟩;have⟨⟨g1,o1,bA,e1,f1,t1,n1⟩,⟨g2,o2,c2,e2,f2,t2,n2⟩⟩:=q x t;exact⟨⟨g1,o1,bA,e1,f1,t1,λu=>u.elim (λu=>u.elim (MU t1 (HA _) h) λu=>n1<|bG<|g _ u) λu=>n1<|bE u⟩,⟨g2,o2,c2,e2,f2,t2,λu=>u.elim (λu=>u.elim (MU t2 (E2 _ _) h) λu=>n2<|bG<|g _ u) λu=>n2<|bE u⟩⟩
def acR(g:fS B f a e j)(k:d<=a):fS B f d e j:=by obtain⟨l,h,i,c⟩:=g;exact⟨l,h,z_ i k,c⟩
structure Mw(X:Nat->Prop)(w0 wr:World)(ab:Nat)(o:ap)(rs:List D)(t:Int)(RES:Int×Bool×List D×List D)(first aa:Bool)(ans:List D)(n:ap)(va:Value)(g bH nc:Nat):Prop where
 an:gz wr ab 0 aa va (bY) (bY)
 H7:fS X wr (ab+1) va ans
 tx:iy wr g bH (cJ n)
 nc:(cJ n).length<=nc
 ga:g≠ab
 gx:¬X g
 go:some g≠va.ownBlock
 ne:h9 n
 nl:n.length<=260
 ok:∀r∈ans,q9 rs r
 eq:kw o (cq rs) t (9-ans.length) first aa ans n=RES
 bl:a7 w0 wr
def Mx(c:Nat->Prop)(g wr:aQ)(b:Nat)(a:Int×Bool×List D×List D):Prop:=∃d e,gz wr b a.1 a.2.1 d e (bY)/\fS c wr (b+1) d a.2.2.1/\fS c wr (b+1) e a.2.2.2/\a7 g wr
def Ux(w d)(b1:nS f a c j)(aM:a7 f m)(b_:∀b,b<U f.1->¬B b)(ca:∀b,U m.1<=b->¬B b)(aY:jJ c j)(Z:(∃n bH t h,e=bC n bH (E<|cJ h) t/\¬B n/\iy m n bH (cJ h)/\E (cJ h)<=t/\h9 h/\E h<=260/\lx c j w h=d)\/(e=bY/\d=(0,ao,[],[]))):bd aK 121 #[N a,e,J w] m λq bl=>(∃v,q=bg v/\acO B bl (U m.1) v d (MT j d))/\a7 m bl:=by
 have⟨eV,pT⟩:=bi (aS #[ak am 0,aG ao,aL ai 0 0,aL ai 0 0,aL ai 0 0] 123:Obj)
 have bh:a7 m (aO m eV):=ct cd bv _;have aC:U (aO m eV).1=U m.1+1:=gd m _;have bU:cB (U (aO m eV).1) (aO m eV) (aO (aO m eV) eV):=ct cd bv _;have b3:gz (aO (aO m eV) eV) (U m.1+1) 0 ao (bY) (bY) (bY):=by
  have:=du (aO m eV) eV;rw[aC]at this;unfold gz
  grind
 have a8:=ae b1;have al:=ae<|bN aM<|bV bh aM.4;have:=aM.4;have S:=ae aY;have bj:ax ((aO m eV).1[U m.1]? = ag (aS #[ak am 0,aG ao,aL ai 0 0,aL ai 0 0,aL ai 0 0] 123)):=by
  rw[ax,du,pT]
 have Y:=ae b3;have bO:=ae Z;have aq:=ae bh;have T:=ae bU;have⟨ab,hab⟩:=dK<|U m.1+1
 rw[hab]at Y aC;have bx:ax ((∀A∈d.2.2.1,q9 j A)/\(∀A∈d.2.2.2,q9 j A)/\E d.2.2.1<=68/\E d.2.2.2<=60):=by
  rcases Z with⟨n,bH,t,h,_,_,_,_,az,aB,rfl⟩|⟨_,rfl⟩
  ·exact A4 aY w 9 aE ao [] h az aB (λA r=>by cases r) (eb _)
  simp_all
 obtain⟨i,bT⟩:∃i:Nat->Prop,i=λb=>b=ab\/B b:=⟨_,af⟩
 have k:ax (i ab/\(∀b,b<U f.1->¬i b)/\(∀b,U m.1<=b->b≠ab->¬i b)/\(∀b,i b->b<=ab)/\(∀b,B b->i b)/\(∀b,b≠ab->¬B b->¬i b)):=by
  subst bT;refine⟨bG af,λb P x=>?_,λb P u x=>?_,λb x=>?_,λb x=>bE x,λb av aw x=>x.elim av aw⟩
  ·grind
  ·grind
  grind
 go_wp2;rw[<- pT];have⟨w0,hw0⟩:=dK<|aO m eV
 rw[hw0]at al bj Y aq T aC ⊢;have bz:ax ((∃(h:ap) (n bH t:Nat),e=bC n bH (E<|cJ h) t/\Mw i w0 (aO w0 eV) ab c j w d aE ao [] h (bY) n bH t)\/(e=bY/\Mx i w0 (aO w0 eV) ab d)):=by
  rcases V bO with⟨n,bH,t,h,aF,bB,u,b5,az,aB,r⟩|⟨aF,r⟩
  ·have:=u.1;have bQ:=(u.below aq).below T;exact bG ⟨h,n,bH,t,aF,Y,fS.nil _ _ _,bQ,b5,G,k.2.2.2.2.2 n G bB,(λq=>by cases q),az,aB,(λA r=>by cases r),r,T⟩
  ·rw[r];exact bE ⟨aF,bY,bY,Y,fS.nil _ _ _,fS.nil _ _ _,T⟩
 go_loopg [1,8] 10 (λbR e bb wr =>
  (∃(first F:Bool) (o:List D) (aa:ap) (aj:bm) (au aJ an:Nat),e=bC au aJ (E<|cJ aa) an/\bb=aG first/\bR+E o=10/\E o<=8/\ax (Mw i w0 wr ab c j w d first F o aa aj au aJ an)) \/
  (e=bY/\(∃a3:Bool,bb=aG a3)/\ax (Mx i w0 wr ab d)))
 ·rcases V bz with⟨h,n,bH,t,rfl,H⟩|⟨rfl,H⟩
  ·exact bG ⟨aE,ao,[],h,bY,n,bH,t,af,af,af,aA,H⟩
  grind
 ·rcases hrel with⟨first,F,o,aa,aj,au,aJ,an,rfl,rfl,cb,bL,Z⟩|⟨rfl,⟨a3,rfl⟩,L⟩
  ·have l:=V Z;have aT:=ae<|aco w first (V a8) (V al) k.1 k.2.1 (λb P u=>k.2.2.1 b G u) k.2.2.2.1 (V S) l.12 G l.1 l.2 bL l.3 l.4 l.5 l.6 l.7 l.8 l.9;have aZ:=ML (V S) l.8 l.9 w first F l.10
   have a1:=ae l.11;have⟨Q,hQ⟩:=dK<|gO c (cq j) w first F o aa
   have X:=ae hQ;rw[hQ]at aT aZ;have a2:=ae aZ;go_wp21;refine aT.mono ?_;rintro q bn ⟨ba,bD,b6,rfl,ar,bo,bM,ad,bf⟩;cases ah:Q.2.2.2.2 with
   | none =>
    rw[ah]at ad;have bu:b6=bY:=ad;subst bu;have:ax (Mx i w0 bn ab d):=by
     have O:=V a1;rw[acP _ (by rw[V X];omega),V X]at O;rw[<- O];exact⟨ba,bD,ar,bo,bM,bf⟩
    go_wp2
    go_roundg 0
    ·grind
    omega
   | some a6 =>
    have⟨hp,h0,afF,ZO,oN⟩:=a2.5 a6 ah;rw[ah]at ad;obtain⟨bF,bS,W,rfl,b0,b4,aH⟩:=ad;subst bF;rw[h0]at ar;have:ax (Mw i w0 bn ab c j w d ao Q.2.1 Q.2.2.1 a6 ba bS 0 W):=by
     refine⟨ar,bo,b4,b0,λq=>aH<|bG<|q▸k.1,λq=>aH<|bG q,λq=>aH<|bE q,(jp hp).1,cU (jp hp).2 G,a2.1,?_,bf⟩;have O:=V a1;rw[show 9-E o=(9-E Q.2.2.1)+1 by omega,acQ _<|(V X)▸ah,V X]at O;exact O
    go_wp2
    go_roundg (10-(E o+1))
    ·grind
    omega
  ·have⟨aj,vu,l,hA,hU,M⟩:=V L;have⟨rK,ok2,aRE,aRF⟩:=V bx;have bs:=ae<|adn k.1 k.2.1 (λb P=>k.2.2.1 b (cj M.4)<|cj l.lt) k.2.2.2.1 (V a8) (V S) (bN al<|bV M al.4) G l hA hU G G (λA r u=>acf (V S) (by grind) u) λA r=>cj<|(rK A r).2;have a9:=ae hA;have bt:=ae hU;have aX:=ae M;go_wp21;refine bs.m λb8 ⟨b7,cc,C⟩=>?_;have ay:∀b,bW b7=ag b->bW aj≠ag b:=λb av aw=>by
    have:=(C.4.lt b av).1;have:=(a9.lt b aw).2;omega
   replace ay:=ae ay;have bc:=C.Zv (V aX) G;have aR:=C.own<|V a9;have a0:=C.own<|V bt;have I:gz b8 (U m.1) 0 ao (bY) (bY) (bY):=(bc.5 (U m.1) G).trans<|V bj;have bw:=ae<|Mv aR k.2.2.2.2.1 (base':=U m.1+1) G I;have bI:=ae<|Mv a0 k.2.2.2.2.1 (base':=U m.1+1) G I;have bJ:=ae<|Mv C.4 (λb P=>bG<|k.2.2.2.2.1 b P) (base':=U m.1+1) (cj aX.4) I;have bP:=ae bc;obtain⟨aU,bA,rfl⟩:=aR.slice;obtain⟨aV,a4,rfl⟩:=a0.slice;obtain⟨aW,W,rfl⟩:=C.4.slice;have:=C.1.cells;have:=I.cells;have:=I.frozen;have b2:=ae I;have bK:ax (MT j d=(lT j d.2.2.1<|d.2.2.1++d.2.2.2).2):=af;generalize (lT j d.2.2.1<|d.2.2.1++d.2.2.2).2=aP at *;obtain⟨bk,F,o,a5⟩:=d;simp only at *;go_wp2;have br:=(((((b2.set0 bk).set1 F).set2<|aL aU (E o) bA).lM<|aL aV (E a5) a4).o6<|aL aW (E aP) W)
   have⟨n0,n1,n2,n3,n4⟩:=br.cells;refine eh (v:=ci #[ak am bk,aG F,aL aU (E o) bA,aL aV (E a5) a4,aL aW (E aP) W]) ?_ af ?_
   ·simp[dr,results121,go_sem,n0,n1,n2,n3,n4]
   ·rw[V bK];have g:∀ {v:bm} {R:List D} {K:aQ} (aI:Nat) (aN:bm),fS (λb=>b=U m.1\/B b) K (U m.1+1) v R->fS (λb=>b=U m.1\/B b) (a_ K ⟨U m.1,aI,ai⟩ aN) (U m.1+1) v R:=λaI aN H=>H.set (a:=⟨U m.1,aI,ai⟩) aN (bG af) aA;have L:∀ {v:bm} {R:List D} {K:aQ},fS (λb=>b=U m.1\/B b) K (U m.1+1) v R->fS B K (U m.1) v R:=λH=>acR (H.imp (y:=B) λ_ _ u _ x=>u<|bE x) G;refine⟨⟨_,af,_,_,_,af,L<|g 4 _<|g 3 _<|g 2 _<|g 1 _<|g 0 _<|V bw,L<|g 4 _<|g 3 _<|g 2 _<|g 1 _<|g 0 _<|V bI,L<|g 4 _<|g 3 _<|g 2 _<|g 1 _<|g 0 _<|V bJ,ay⟩,?_⟩;have M:=bN aq<|bV bP G;exact((((fk M (p:=⟨U m.1,0,ai⟩) bv _).setCell (p:=⟨U m.1,1,ai⟩) bv _).setCell (p:=⟨U m.1,2,ai⟩) bv _).setCell (p:=⟨U m.1,3,ai⟩) bv _).setCell (p:=⟨U m.1,4,ai⟩) bv _
def E3(g:aQ)(e:Nat)(v:bm)(a:Int×Bool×List D×List D)(h:List D):Prop :=
 ∃b c d,v=ci #[J a.1,aG a.2.1,b,c,d]/\ec g e b a.2.2.1/\ec g e c a.2.2.2/\ec g e d h/\sV b c/\sV b d/\sV c d
def wV(b):sV (bY) b:=λc a=>by cases a
section
variable {o:ap} {rs:List D} (hz:jJ o rs)
include hz
theorem My:xk o (cq rs):=by have c:=(wt rs).length_eq;refine⟨by rw[c];have:=Ad hz;omega,cj<|(jp hz.1).2,λb d=>?_⟩;have a:=(wt rs).mem_iff.1 d;exact⟨cj<|(x_ (hz.2 b a).1).2,(hz.2 b a).4⟩
theorem U7:∀a∈jb (dF (cq rs) o) 6,Az a/\E a.data<=3000/\a.aP<=1000000000:=by have⟨_,_,_,_,_,_,_,_,h⟩:=IE hz;exact h
theorem U8(e:h9 c):E (er (cq rs) c).1<=3001:=by have b:=E0 hz e 255;have d:mi 255 (er (cq rs) c).1=(er (cq rs) c).1:=by{have a:=DX dj (E (er (cq rs) c).1) 0 (er (cq rs) c).1 bv;rw[mi,oZ,yp.2 λg _=>dS];exact a};rw[d]at b;rcases b with b|⟨s,b⟩;{grind};{rw[b,fC];have:=CW hz s 255;omega}
theorem acS(D p ay q b)(j:h9 c)(y:E c<=260):UH (uk o (cq rs) b c) D p ay q b o c (cq rs):=by
 intro W K J H F k l i n e g h A w x I r;by_cases C:b=5\/b=255;{
 have B:uk o (cq rs) b c=ag (nh o (cq rs) c,oo o (cq rs) b c,pm o (cq rs) b c):=by grind[uk]
 refine(aah k af af l i n e g h ⟨My hz,G,U7 hz,C,U8 hz j⟩).mono ?_;grind};{
 have B:uk o (cq rs) b c=(iO o (cq rs) 8 c).map (λa=>(xo o (cq rs) a.2,a.1++vw o (cq rs) b a.2,wX o (cq rs) b a.2)):=by grind[uk]
 refine(aag (λm=>h9 m/\E m<=260) k l i n e g h A w x r G ⟨j,y⟩ ⟨My hz,U7 hz,by grind,by grind,λm d=>U8 hz d.1,λm V d z=>?_⟩).mono ?_;{have⟨_,_,_,_,hp⟩:=Hy hz d.1 z;have:=jp hp;grind};{rintro M X (⟨t,rfl,u⟩|⟨T,O,t,_,rfl,⟨N,L,P,Q,R,S⟩,u⟩);{grind};grind}}
theorem acT(h)(n:h9 c)(l:E c<=260)(p:fZ c o=aE):∀g b a,uk o (cq rs) h c=ag (g,b,a)->E b<=500/\E a<=500/\∀d∈b++a,E d.data<=3000:=by intro g b a j;have k:=A4 hz h 9 aE ao [] c n l (λd e=>by cases e)<|eb _;rw[Uw p,j]at k;refine⟨by grind,by grind,λd e=>?_⟩;have i:q9 rs d:=by{grind};have⟨r0,hm,_,aR⟩:=i.1;rw[aR];exact(hz.2 r0 hm).4
theorem acU(k:h9 c)(l:fZ c o=aE)(j:UI (uk o (cq rs) i c) o c (cq rs) f a e):E3 f a e (lx o rs i c) (tY o rs i c):=by have v:lx o rs i c=_:=Uw l;rcases j with⟨b,rfl⟩|⟨z,h,g,u,w,x,b,rfl,n,p,y,q,r,t⟩;{rw[b]at v;rw[tY,v];exact⟨_,_,_,af,jO _ _ _ _,jO _ _ _ _,jO _ _ _ _,wV _,wV _,wV _⟩};{rw[b]at v;rw[tY,v];have:=ada (ac9 hz k b)<|h++g;refine⟨u,w,x,af,n,p,?_,q,r,t⟩;grind}
end
def U9{ay q}(b:iL f a c d ay q j)(z:E g<=2900)(y:E c<=2900)(u:fZ g c=ao):bd aK 69 #[N a,aZ g,J i] f (cQ (ci #[J 5,aG ao,bY,bY,bY]) f):=by
 have:=b.2.1;have:=b.1;have r:a7 f (aO f<|aS #[ak am 0,aG ao,aL ai 0 0,aL ai 0 0,aL ai 0 0] 43):=ct cd bv _;have w:=ae (λl=>by{have:=DY (O g) (O c) l m7 m7;rw[r8,r8,u]at this;exact this});go_in;go_wp21;refine(w _).m λn h=>?_;have t:a7 f n:=by grind
 have x:gB n (U f.1) (J 0) (aG ao) (bY) (bY) (bY):=h▸Gi f _
 have:=gB.cells x;have:=gB.frozen x;have e:=((((gB.set0 x<|J 5).set1<|aG ao).set2<|bY).lM<|bY).o6<|bY;have⟨n0,n1,n2,n3,n4⟩:=e.cells;have o:=ae<|cv n0<|cv n1<|cv n2<|cv n3 n4;clear h r w x e n0 n1 n2 n3 n4;go_wp2;have⟨n0,n1,n2,n3,n4⟩:=V o;refine eh (v:=ci #[ak am 5,aG ao,aL ai 0 0,aL ai 0 0,aL ai 0 0]) ?_ af ⟨af,((((fk t (p:=⟨U f.1,0,ai⟩) bv _).setCell (p:=⟨U f.1,1,ai⟩) bv _).setCell (p:=⟨U f.1,2,ai⟩) bv _).setCell (p:=⟨U f.1,3,ai⟩) bv _).setCell (p:=⟨U f.1,4,ai⟩) bv _⟩;exact JY
def acV{ay}(b:jJ c j)(q:iL f a c d ay h<|cq j)(t:d3 f)(k:h9 g)(u:E g<=260):bd aK 69 #[N a,aZ g,J i] f λp e=>(∃v,p=bg v/\E3 e (U f.1) v (lx c j i g) (tY c j i g))/\a7 f e:=by
 cases o:fZ g c with
 | false =>{have:=(jp b.1).2;refine(U9 q G G o).m λe n=>?_;have r:lx c j i g=(5,ao,[],[]):=yY 9<|MM o;refine⟨⟨_,af,?_⟩,n⟩;rw[tY,r];exact⟨_,_,_,af,jO _ _ _ _,jO _ _ _ _,jO _ _ _ _,wV _,wV _,wV _⟩}
 | true =>{have w:=(wt j).length_eq;refine(aci q t G o (My b) (w▸Ad b) (acS b a d ay h i k u)<|acT b i k G o).mono ?_;rintro p e ⟨⟨v,rfl,x⟩,n⟩;exact⟨⟨v,af,acU b k o x⟩,n⟩}
def mP(s:ap):Option (ap×List D):=if E s<=3000/\(lu s).isSome=aE then kK s else ai
def IU(s:ap)(c:Nat)(d:nO)(h:aQ):Prop :=
 match mP s with
 | none=>d=bg (bX #[cM ai,J 1])
 | some a=>jJ a.1 a.2/\∃b e g,d=bg (bX #[N b,J 0])/\c<=b/\c<=e/\iL h b a.1 e 0 g (cq a.2)
def IV(s:ap)(b:Nat)(c:nO)(e:aQ):Prop :=
 match mP s with
 | none=>c=bg (cM ai)
 | some d=>∃a,c=bg (N a)/\b<=a/\uP e b a d.1 d.2
def afv(b:vQ r=ag (c,j))(o:∀g∈r,E g<=3000):fI c=aE/\(∀q∈j,CV q)/\E j<=E r:=by
 cases r with
 | nil=>cases b
 | cons f r =>{
 have d:(if Lib.hasPrefix f mf&&fI (Lib.trimPrefix f mf)then(kt r).map (λj=>(Lib.trimPrefix f mf,j))else ai)=ag (c,j):=b;split at d;{
 rename_i k;cases e:kt r with
 | none=>grind
 | some h =>{rw[e]at d;have i:=ih d;have l:Lib.trimPrefix f mf=c:=fE Prod.fst i;have n:h=j:=fE Prod.snd i;subst n;rw[fx,l]at k;refine⟨k.2,MY r h (λg p=>o g<|nU _ p) e,?_⟩;rw[IP r h e];simp}};grind}
def V7(n:E c<=3000)(a:kK c=ag (g,j)):fI g=aE/\(∀s∈j,CV s)/\E j<=3001:=by
 rcases si c with rfl|⟨b,e,d⟩;{rw[IN λb a=>by grind]at a;cases a};{
 rw[se]at d;by_cases h:e=10;{
 rw[d,h,Wa]at a;have:E b<=3000:=by grind
 have⟨h1,h2,h3⟩:=afv a λk i=>cj<|qE 10 (E b) b bv k i;refine⟨h1,h2,?_⟩;have:=pN 10 b;omega};{rw[IN λo l=>zv]at a;cases a}}
def afw(j:E c<=3000):∀a b,kK c=ag (a,b)->xk a b:=λa b g=>by
 obtain⟨h,s,i⟩:=V7 j g;refine⟨i,by have:=(jp h).2;omega,λe d=>⟨by have:=(x_ (s e d).1).2;omega,(s e d).4⟩⟩
def V8(i:E c<=3000){e}(s:lu c=ag e):∃a b,kK c=ag (a,b)/\e=(a,cq b)/\jJ a b/\mP c=ag (a,b):=by
 have k:=s;unfold lu at s;cases h:kK c with
 | none=>grind
 | some j =>{obtain⟨a,b⟩:=j;rw[h]at s;have g:(if na a b&&mC a (cq b)then ag (a,cq b)else ai)=ag e:=s;split at g;{rename_i d;rw[fx]at d;have⟨h1,h2,_⟩:=V7 i h;refine⟨a,b,af,bZ<|ih g,⟨h1,h2,d.1,d.2⟩,?_⟩;grind[mP]};grind}
def Wl(a:lu c=ai):mP c=ai:=by grind[mP]
def afy(s)(d:3000<E s):bd aK 16 #[aZ s] f λb c=>b=bg (bX #[cM ai,J 1])/\c=f:=by have:=de s;have:3000<(E s:Int):=G;go_wp2;go_ret2;simp
def afz(s)(d:3000<E s):bd aK 17 #[aZ s] f λb c=>b=bg (cM ai)/\c=f:=by have:=de s;have:3000<(E s:Int):=G;have:¬(E s:Int)<1:=G;go_wp2;go_ret;simp
def afA(s)(k:d3 f):bd aK 16 #[aZ s] f λe d=>IU s (U f.1) e d/\a7 f d:=by
 by_cases g:E s<=3000;{
 refine(abN (O s) k fN<|r8▸afw g).mono ?_;rintro e d ⟨a,j⟩;rw[r8]at a;refine⟨?_,j⟩;unfold IU;cases b:lu s with
 | none=>rw[b]at a;rw[Wl b];exact a
 | some o =>{rw[b]at a;obtain⟨n,p,l,rfl,h,i⟩:=V8 g b;rw[i];exact⟨h,a⟩}};{
 refine(afy s G).m ?_;rintro d rfl;have:mP s=ai:=by grind[mP]
 refine⟨?_,dz _ _⟩;grind[IU]}
def afC(s d):bd aK 17 #[aZ s] d λe c=>IV s (U d.1) e c/\a7 d c:=by
 by_cases g:E s<=3000;{
 refine(afZ g).mono λe c ⟨a,h⟩=>⟨?_,h⟩;unfold Ct at a;unfold IV;cases b:lu s with
 | none=>rw[b]at a;rw[Wl b];exact a
 | some n =>{rw[b]at a;obtain⟨l,o,i,rfl,j,k⟩:=V8 g b;grind}};{
 refine(afz s G).m ?_;rintro c rfl;have:mP s=ai:=by grind[mP]
 refine⟨?_,dz _ _⟩;grind[IV]}
def pC(a b:ap):Bool:=E a==6&&be (a.getD 0 0)%2==0&&E b==4
def afD(e:d<2)(aN:a<8)(b):bd aK 92 #[J (512*d:Nat),J a] b λc g=>c=bg (J ((if d=0 then 1024 else 13312)+1536*a:Nat))/\g=b:=by
 match d,e with
 | 0,_ =>{go_wp2;go_ret;simp}
 | 1,_ =>{have c:(1024:Int)+1536*((a:Int)+8)=((13312+1536*a:Nat):Int):=G;go_wp2;go_ret;simp}
structure hJ(w:World)(xb zb rb sb mb:Nat)(aB ip:ap)(X:cz)(C:Nat):Prop where
 mem:dg w mb X.s
 rr:gy w rb 240 mb 0 1024 X.ra X.eH ve
 sr:gy w sb 241 mb 512 13312 X.sa X.eW X.o
 aB:qj w xb zb rb sb aB ip X.n X.t X.d X.b
 ok:X.ra<65536/\X.eH<65536/\X.sa<65536/\X.eW<65536/\X.o.length=8
 sz:X.s.Ok C/\X.n<=C/\X.t<=C/\X.d<=C
abbrev gm(d b c:Nat)(a:Nat):Prop:=a=d\/a=b\/a=c
def cz.GM(a:cz)(b:ap):cz:=if b=[]then a else a.snd b
def AZ{C}(c:cI B a f m)(o:a<U f.1)(i:C.4=m.4)(j:C.2=m.2)(k:C.5=m.5)(l:U m.1<=U C.1)(h:∀b,b<U f.1->C.1[b]? = m.1[b]?):cI B a f C :=
 ⟨c_ i c.1,c_ j c.2,c_ k c.3,cU c.4 l,λb aN n p=>(h b aN).trans<|c.5 b aN n p,λb q=>c.6 b<|oB (h a o) q⟩
def IX(l:cI B h f m)(p:dg f h A)(n:¬B a){i}(g:f.1[a]? = ag i)(o:∀e j r,i≠aS e j r):m.1[a]? = f.1[a]? :=
 l.5 a (ea.1 g).1 n λt=>by
  obtain⟨e,j,q,_⟩:=xL p t;exact o _ _ _<|ih<|(bZ g).trans q
section
variable {w w':World} {xb zb rb sb mb C C':Nat} {aB ip:ap} {X Y:cz}
def A0(a:hJ w xb zb rb sb mb aB ip X C):xb<U w.1/\rb<U w.1/\sb<U w.1/\mb<U w.1:=⟨bk.lt a.4,bk.lt a.2,bk.lt a.3,jv a.1⟩
def Fu(a:hJ w xb zb rb sb mb aB ip X C):xb≠rb/\xb≠sb/\rb≠sb/\mb≠xb:=⟨jj a.4 a.2 bL,jj a.4 a.3 bL,jj a.2 a.3 bL,yL a.1 a.4 bL⟩
def Cu(a:hJ w xb zb rb sb mb aB ip X C)(c:∀b,gm xb rb sb b\/eO w mb b->w'.1[b]? = w.1[b]?):hJ w' xb zb rb sb mb aB ip X C :=
 ⟨CH a.1 λb d=>c b<|bE d,(c rb<|bG<|bE<|bG af).trans a.2,(c sb<|bG<|bE<|bE af).trans a.3,(c xb<|bG<|bG af).trans a.4,a.5,a.6⟩
def Nz(b:hJ w xb zb rb sb mb aB ip X C)(aN:gm xb rb sb a\/eO w mb a):∃c d e,w.1[a]? = ag (aS c d e):=by rcases aN with(rfl|rfl|rfl)|aN;{exact⟨_,_,_,b.4⟩};{exact⟨_,_,_,b.2⟩};{exact⟨_,_,_,b.3⟩};{have⟨c,d,k,_⟩:=xL b.1 aN;exact⟨_,_,_,k⟩}
def yE(a:hJ w xb zb rb sb mb aB ip X C)(b:a7 w w'):hJ w' xb zb rb sb mb aB ip X C :=
 Cu a λc aN=>b.5 c (by obtain⟨_,_,_,d⟩:=Nz a aN;exact(ea.1 d).1)
def NA(b:hJ w xb zb rb sb mb aB ip X C)(d:∀(a:Nat) (c:Array bm) (h:d_) (g:Nat×Nat),w.1[a]? = ag (aS c h g)->w'.1[a]? = w.1[a]?):hJ w' xb zb rb sb mb aB ip X C :=
 Cu b λa aN=>by obtain⟨_,_,_,e⟩:=Nz b aN;exact d a _ _ _ e
def NB{g}(c:hJ w xb zb rb sb mb aB ip X C)(i:bk w a g z)(k:qP z)(e:¬gm xb rb sb a)(j:∀d,d<U w.1->d≠a->w'.1[d]? = w.1[d]?):hJ w' xb zb rb sb mb aB ip X C :=
 Cu c λd aN=>j d (by obtain⟨_,_,_,l⟩:=Nz c aN;exact(ea.1 l).1) λh=>by
  subst h;rcases aN with aN|aN
  ·exact e aN
  ·exact EM c.1 i k aN
def xy(a:hJ w xb zb rb sb mb aB ip X C)(b:C<=C'):hJ w xb zb rb sb mb aB ip X C':=⟨a.1,a.2,a.3,a.4,a.5,qU a.6.1 b,by have:=a.6;omega⟩
def WM{t d b}(n:hJ w xb zb rb sb mb aB ip X C)(e:eL xb w w')(g:qj w' xb zb rb sb aB ip a t d b)(h:a<=C/\t<=C/\d<=C):hJ w' xb zb rb sb mb aB ip { X with n:=a,t:=t,d:=d,b:=b } C:=by have⟨a1,a2,_,a4⟩:=Fu n;have⟨l1,l2,l3,l4⟩:=A0 n;exact⟨yK n.1 n.4 bL λj aN i=>e.5 j aN i,(e.5 rb l2 λc=>a1<|bZ c).trans n.2,(e.5 sb l3 λc=>a2<|bZ c).trans n.3,g,n.5,n.6.1,h⟩
end
def ND(a:cz)(b):(a.snd b).7=a.7/\(a.snd b).2=a.2/\(a.snd b).3=a.3/\(a.snd b).5=a.5/\(a.snd b).10=a.10/\(a.snd b).8=a.8+(if(a.6.findIdx? (· == ao)).isSome then 1 else 0)/\(a.snd b).9=a.9+(if(a.6.findIdx? (· == ao)).isSome then 0 else 1):=by unfold cz.snd;cases a.6.findIdx? (· == ao)<;>exact⟨af,af,af,af,af,af,af⟩
def JU{P:Prop}(h:P:=by simp[dr,results163]):P:=h
def agr{i o t u j f h}(l:hJ h a d i o t c g f u)(Y:bd aK 37 #[N d,ci #[aZ c,aZ g],aZ Q] (bq h) λk p=>k=bg (aZ j)/\cB (U (bq h).1) (bq h) p)(au:E j<=1524)(aI:u<=700000000000):bd aK 163 #[N a,aZ Q] h λk p=>k=bg (bX #[])/\hJ p a d i o t c g (f.GM j) (u+1600)/\cI (gm a i o) t h p:=by
 have⟨a1,a2,a3,a4⟩:=Fu l;have⟨l1,l2,l3,l4⟩:=A0 l;have al:=ae l;have H:=ae Y;have r:=l.4;have aw:aD (bq h) (M a 0)=ag (N d):=bk.cell r 0 aA;have ay:aD (bq h) (M a 1)=ag (aZ c):=bk.cell r 1 aA;have az:aD (bq h) (M a 2)=ag (aZ g):=bk.cell r 2 aA;have av:ax (∀e,cB (U (bq h).1) (bq h) e->aD e (M a 0)=ag (N d)/\aD e (M a 1)=ag (aZ c)/\aD e (M a 2)=ag (aZ g)):=λe ar=>by
  have k:qj e a d i o c g f.7 f.8 f.9 f.10:=(ar.5 a<|bk.lt r).trans r;exact⟨bk.cell k 0 aA,bk.cell k 1 aA,bk.cell k 2 aA⟩
 clear l Y r;go_wp2
 go_region_held (λp=>aD p (M a 0)=ag (N d)/\aD p (M a 1)=ag (aZ c)/\aD p (M a 2)=ag (aZ g)) (first|assumption|exact⟨aw,ay,az⟩|go_keep)
  (first|(go_at_call 37;go_loud (refine H.m ?_;intro D C;have Z:=V av D C)))
 all_goals
  have z:a7 h D:=bN cd.drew C;have n:=yE (V al) z;have X:=ae<|qc (L:=gm a i o) z l4;by_cases ho:j=[]
  ·have R:((O j).toList==[])=aE:=by rw[ho,hZ];rfl
   have aH:(O j).toList.isEmpty=aE:=Dl
   have aF:(O j).toList=[]:=Dl
   have y:ax (hJ D a d i o t c g (f.GM j)<|u+1600):=by rw[ax,cz.GM,b7 ho];exact xy n G
   clear n z C Z H ho;go_wp2;refine eh (v:=bX #[]) JU af ?_;exact⟨af,y,X⟩
  ·have R:((O j).toList==[])=ao:=by
    rw[kE,hZ];exact ho
   have⟨v1,v2,v3,v4,v5⟩:=n.5;have T:=ae<|afP n.1 n.3 v3 v5 au n.6.1 G;have:aD D (M a 4)=ag (N o):=bk.cell n.4 4 aA;have y:=ae n;have aj:ax (f.GM j=f.snd j):=by rw[ax,cz.GM,bJ ho]
   clear n z C Z H ho;go_wp2_with fail;refine T.m ?_;rintro x ⟨P,b,⟨ab,ac,ad⟩,A⟩;have n:=V y;have q:qj x a d i o c g f.7 f.8 f.9 f.10:=ix A n.1 n.4 bL G;have F:=lE n.2 A n.1 bL G;have⟨f1,f2,f3,f4,f5,f6,f7⟩:=ND f j;have aC:=n.6;have:aD x (M a 6)=ag (J f.8):=bk.cell q 6 aA;have:aD x (M a 7)=ag (J f.9):=bk.cell q 7 aA;have:=bk.frozen q;have⟨t1,wH⟩:=bi<|f.8+1;have⟨d1,eZ⟩:=bi<|f.9+1;have:(f.8:Int)+1=t1:=G;have:(f.9:Int)+1=d1:=G;have W:ax (∀(S:Nat) (v:bm) (e:aQ),e=a_ x ⟨a,S,ai⟩ v->qj e a d i o c g f.7 (f.snd j).8 (f.snd j).9 f.10->hJ e a d i o t c g (f.GM j) (u+1600)/\cI (gm a i o) t h e):=λS v e aq ap=>by
    have B:eL a x e:=by rw[aq];exact kI (mT _ _) S v
    rw[V aj];refine⟨⟨yK P q bL λaa aN R=>B.5 aa aN R,?_,?_,?_,by rw[f2,f3,f4];exact⟨v1,v2,ab,v4,ac⟩,ad,by rw[f1];omega,by rw[f6];split<;>omega,by rw[f7];split<;>omega⟩,dC (V X)<|dC (jk A λaa l=>bE<|bE l)<|wy (L:=gm a i o) B (bG af) a4 (jv P)⟩
    ·rw[f2,f3];exact(B.5 i (bk.lt F) λk=>a1<|bZ k).trans F
    ·rw[f4];exact(B.5 o (bk.lt b) λk=>a2<|bZ k).trans b
    ·rw[f1,f5];exact ap
   have an:=ae (Ny q t1).2.1;have ah:=ae (Ny q d1).2.2;have I:ax ((f.6.findIdx? (· == ao)).isSome=aE->(f.snd j).8=t1/\(f.snd j).9=f.9):=λl=>by rw[f6,f7,l];exact⟨by rw[wH];rfl,af⟩
   have K:ax ((f.6.findIdx? (· == ao)).isSome=ao->(f.snd j).8=f.8/\(f.snd j).9=d1):=λl=>by rw[f6,f7,l];exact⟨af,by rw[eZ];rfl⟩
   have:f.8<=800000000000:=G;have:f.9<=800000000000:=G;generalize (f.6.findIdx? (· == ao)).isSome=aB at *;clear P b A q F n T y wH eZ f1 f2 f3 f4 f5 f6 f7 ab ac ad aC;cases aB with
   | true =>
    have w:=ae<|I af;clear I K;go_wp2;refine lG (v:=bX #[]) JU af ?_;exact⟨af,V W 6 _ _ af (by rw[w.1,w.2];exact an)⟩
   | false =>
    have w:=ae<|K af;clear I K;go_wp2;refine lG (v:=bX #[]) JU af ?_;exact⟨af,V W 7 _ _ af (by rw[w.1,w.2];exact ah)⟩
def WN{b h}(e:aD f b=ag (aG aE)):CallsD aK 151 #[cM<|ag b,cM<|ag h] .returning f λd i j=>d=bg (bX #[])/\i=.returning/\j=f:=by refine callsD_of_wpS func151 af λc k g=>?_;apply wpS_seq;apply wpS_region;simp[wpOpsS,go_sem,recoverD,g,e,ntmps151,Exit.thenS];refine wpS_cond (t:=ao) (by simp[Act.eval,Array.replicate]) ?_;simp only[GE,if_false];refine wpS_of_wp<|wp_skip ?_;cases c;simp_all [bodyPostS,dr,results151]
def ags(b a):(callFunc 95 b).run aK a=.ok (.enter 95 b) a:=b8
def agt(b a):(callFunc 89 b).run aK a=.ok (.enter 89 b) a:=b8
def td(a:aQ)(b:Nat):aQ:=aO (aO a<|aS #[cM<|ag ⟨b,0,ai⟩] 73)<|aS #[aG ao] 4
def Cv(a b):bk (td a b) (U a.1+1) [aG ao] 4:=by have:=bk.fF (aO a<|aS #[cM<|ag ⟨b,0,ai⟩] 73) [aG ao] 4;rw[gd]at this;exact this
def WO(a b):a7 a (td a b):=(ct cd bv _).alloc aA _
def agu(a b):U (td a b).1=U a.1+2:=by simp[td]
def agv(i:aQ->Prop)(g:bd aK 89 #[N d,N h] (td f a) λc b=>c=bg (aG aE)/\i b/\bk b (U f.1+1) [aG ao] 4):bd aK 88 #[N a,fc (.func 89) #[] #[N d,N h]] f λc p=>c=bg (bX #[])/\∃b,i b/\bk b (U f.1+1) [aG ao] 4/\p=a_ b ⟨U f.1+1,0,ai⟩ (aG aE):=by have:=agt;have:=bk.cell (Cv f a) 0 aA;have:=bk.frozen (Cv f a) 0;replace g:=ae g;go_enter_defers func88,ntmps88;go_wp21;refine g.m λb ⟨o,j⟩=>?_;have k:=ae o;have:co b (U f.1+1) 0 (aG ao):=bk.cell j 0 aA;have:=bk.frozen j 0;have n:=bk.cell (bk.set j 0<|aG aE) 0 aA;have l:=ae j;go_wp2;refine leaves_cons (f:=151) (args:=#[N<|U f.1+1,N<|U f.1]) aA dS ((WN n).mono ?_);rintro c q r ⟨rfl,rfl,rfl⟩;simp[Leaves,settle,dr,results88,go_sem];exact⟨b,k,l,af⟩
def WP{k e s i}(b:qj f h a d k c g e s i l):bd aK 55 #[N h] f (cQ (ci #[J e,J s,J i,aG l]) f):=by
 have j:qj (aO f<|aS #[ak am 0,ak am 0,ak am 0,aG ao] 101) h a d k c g e s i l:=(dT _ _ _<|bk.lt b).trans b;have fB:=bk.cell j 5 aA;have gE:=bk.cell j 6 aA;have o:=bk.cell j 7 aA;have oH:=bk.cell j 8 aA;simp only[e9,fw]at fB gE o oH;have p:=bk.cell b 5 aA;have q:=bk.cell b 6 aA;have r:=bk.cell b 7 aA;have t:=bk.cell b 8 aA;simp only[e9,fw]at p q r t
 go_wp2;refine eh (v:=ci #[ak am e,ak am s,ak am i,aG l]) ?_ af ?_;{simp[dr,results55,go_sem]};{refine⟨af,?_⟩;repeat (first|exact dz _ _|refine Below.alloc ?_ bv _|refine Below.setCell ?_ (Nat.le_refl _) _)}
def IY{ay:Nat}(g:iL f h c a ay d j):a<U f.1:=g.2.2.2.2.1
def IZ{ay:Nat}(k:iL f a c d ay h j)(i:U f.1<=U m.1)(g:m.1[a]? = f.1[a]?)(l:m.1[d]? = f.1[d]?):iL m a c d ay h j :=
 ⟨e8 k.1 i,(ev g).trans k.2.1,(ev g).trans k.2.2.1,k.2.2.2.1,vR k.2.2.2.2 i l⟩
def wj(e:rt f a d c)(g:cB (U f.1) f m):rt m a d c:=⟨pW e.1<|g.5 a<|sF e.1,t7 e.2<|g.5 d e.2.2.lt⟩
def agw:∀a:Nat,a<256->bits .and ck (a:Int) 1=((a%2:Nat):Int):=by decide +kernel
def Ip{P:Prop}(h:P:=by go_wp2;go_ret;exact PP):P:=h
def agx(a c:ap)(g:aQ):bd aK 87 #[ci #[amz<|O a,amz<|O c]] g λo t=>o=bg (aG<|pC a c)/\cB (U g.1) g t:=by
 have⟨c0,hc0⟩:=bi<|a.getD 0 0;have u:∀h:0<(O a).size,(O a)[0]=c0:=λh=>QG;have⟨d,hr⟩:=bi<|be c0%2;have:bits .and ck (be c0:Int) 1=(d:Int):=by rw[agw _<|gY c0,hr]
 have i:ax (pC a c=((O a).size==6&&d==0&&(O c).size==4)):=by{rw[ax,pC,de,de,hr,hc0]};have aT:=ae<|(dz (U g.1) g).alloc (cW _)<|aS #[amz<|O a,amz<|O c] 62;have:d<2:=G;clear hc0 hr;generalize O a=m,O c=n at *;generalize pC a c=j at *;go_in;by_cases l:m.size=6;{
 have r:((m.size:Int)==6)=aE:=by simp[l]
 by_cases e:d=0;{
 have p:((d:Int)==0)=aE:=by simp[e]
 by_cases k:n.size=4;{
 have b:j=aE:=by rw[V i,l,e,k];rfl
 have q:((n.size:Int)==4)=aE:=by simp[k]
 subst b e;exact Ip};{
 have b:j=ao:=by rw[V i];simp[k]
 have q:((n.size:Int)==4)=ao:=cx;subst b e;exact Ip}};{
 have b:j=ao:=by rw[V i];simp[e]
 have p:((d:Int)==0)=ao:=cx;have:¬(d:Int)=0:=G;subst b;exact Ip}};{
 have b:j=ao:=by rw[V i];simp[l]
 have r:((m.size:Int)==6)=ao:=cx;subst b;exact Ip}
abbrev tU:Obj:=aS #[cM ai] 73
abbrev lU(a b:ap)(c:Nat):Obj:=aS #[cM<|ag ⟨c,0,ai⟩,amz<|O a,amz<|O b,cM ai,cM ai,ak am 0,ak am 0,ak am 0,aG ao] 165
def WQ{X:aQ}(b:cB (U (aO X tU).1) (aO X tU) f):bk f (U X.1) [cM ai] 73:=(b.5 (U X.1) aA).trans<|du X tU
def agy(a:cB (U (bq<|aO f tU).1) (bq<|aO f tU) m):bk m (U f.1) [cM ai] 73:=WQ (X:=f) ⟨a.1,a.2,a.3,a.4,a.5⟩
def agz(c:bk f a [cM ai] 73)(e:cB (U f.1) f m):bk m a [cM ai] 73:=(e.5 a c.lt).trans c
def Nn(c e:ap)(a:aQ)(g b d:Nat):Prop:=bk a b [cM<|ag ⟨g,0,ai⟩,amz<|O c,amz<|O e,cM ai,cM ai,ak am 0,ak am 0,ak am 0,aG ao] 165/\bk a d [cM<|ag ⟨b,0,ai⟩] 73
def WR: Nn g c (aO (aO f<|lU g c d)<|aS #[cM<|ag ⟨U f.1,0,ai⟩] 73) d (U f.1) (U f.1+1):=by have e:=bk.fF (aO f<|lU g c d) [cM<|ag ⟨U f.1,0,ai⟩] 73;rw[gd]at e;exact⟨(dT _ _ _ aA).trans<|du f _,e⟩
def WS: Nn g c (aO (aO f<|aS #[cM<|ag ⟨U f.1+1,0,ai⟩] 73)<|lU g c d) d (U f.1+1) (U f.1):=by have e:=du (aO f<|aS #[cM<|ag ⟨U f.1+1,0,ai⟩] 73)<|lU g c d;rw[gd]at e;exact⟨e,(bk.fF f [cM<|ag ⟨U f.1+1,0,ai⟩] 73).alloc _⟩
def I0(h:bk f d [cM ai] 73):Nn c g (aO (a_ f ⟨d,0,ai⟩<|cM<|ag ⟨U f.1,0,ai⟩)<|lU c g a) a (U f.1) d:=by have b:=du (a_ f ⟨d,0,ai⟩<|cM<|ag ⟨U f.1,0,ai⟩)<|lU c g a;rw[show(a_ f ⟨d,0,ai⟩<|cM<|ag ⟨U f.1,0,ai⟩).1.size=U f.1 from oF]at b;exact⟨b,(bk.set h 0<|cM<|ag ⟨U f.1,0,ai⟩).alloc _⟩
def WT(g:cB a f m)(h:a<=U m.1)(c d:Obj):cB a f (aO (aO m c) d):=(ct g h c).alloc cx d
def WV(g:cB a f m)(i:a<=U m.1)(h:a<=d)(v:bm)(c:Obj):cB a f (aO (a_ m ⟨d,0,ai⟩ v) c):=(fk g (p:=⟨d,0,ai⟩) h v).alloc (by simp[a_];omega) c
def agA(c:cB (U (bq f).1) (bq f) m):cB (U f.1) f m:=(dz _ _).drew.trans c
def agB(c:cB (U (bq<|aO f tU).1) (bq<|aO f tU) m):cB (U f.1) f m:=(((dz _ _).alloc (cW _) tU).drew).trans<|bV c (by show U f.1<=U (aO f tU).1;simp)
def agC(c:cB (U f.1) f m)(e:cB (U m.1) m u):cB (U f.1) f u:=bN c<|bV e c.4
def agD(b:cB (U f.1) f m)(e:cB (U (aO m tU).1) (aO m tU) u):cB (U f.1) f u:=(ct b b.4 tU).trans<|bV e (by have:=b.4;simp;omega)
section
variable {P:Program} {α:Type}
def lI.of{e:Loop}(d:lI a e f)(g:m.1[a]? = f.1[a]?)(h:m.1[a+1]? = f.1[a+1]?):lI a e m:=⟨c_ h d.1,c_ g d.2⟩
end
section
variable {P:Program} {α:Type}
def agf(c:Nat)(d e:aQ->Prop)(b:aQ):Exit->Act->aQ->Prop
 | .normal,_,a=>ju c b a/\d a
 | .ret,_,a=>ju c b a/\e a
 | _,_,_=>False
def agh{I:Operand}{F:Array Tmp}{G H:Code}{A:Exit->Act->aQ->Prop}{o:Act}{gf:Nat}{lb:Array bm}(aa:o.eval I=fc (.func gf) #[] lb)(T:∀args f,(callFunc gf args).run P f=.ok (.enter gf args) f){encs:α->Array bm}(ad:∀d,U (encs d)=U F)(z j r:aQ->Prop)(p q:Nat->α->aQ->Prop)(N:∀e y:Loop,(∀g d a,q g d a->lI (U f.1) e a->YieldAt fm 0 P (U f.1+1) (encs d) a λn i=>(n=bg (aG aE)/\p g d i/\lI (U f.1) e i)\/(n=bg (aG ao)/\j i/\lI (U f.1) y i)) ->
   ∀t,z t->lI (U f.1) e t->CallsIn fm 0 P gf (#[fc (.yield<|U f.1+1) #[] #[]]++lb) t λn i=>(∃v,n=bg v)/\((r i/\lI (U f.1) e i)\/(j i/\lI (U f.1) y i)))(ap:∀g d h e l,p g d h->h.1[U f.1+1]? = ag (dR e)->p g d (eF h (U f.1+1) l))(O:∀h e l,r h->h.1[U f.1+1]? = ag (dR e)->r (eF h (U f.1+1) l))(J:∀h e l,j h->h.1[U f.1+1]? = ag (dR e)->j (eF h (U f.1+1) l))(Q:∀g d h e l,q g d h->h.1[U f.1+1]? = ag (dR e)->q g d (eF h (U f.1+1) l))(B:∀e,z<|aO (aO f<|dq<|ag [])<|dR e)(K:∀(x g:Nat) (d:α) (u a:aQ),q g d a->U f.1+2<=U a.1->a.1[U f.1]? = ag (dq<|ag [])->(∃e,a.1[U f.1+1]? = ag (dR e)) ->
   G.wpIn (fm.inRound x) 0 P (Exit.then (λS L=>L=u/\H.wpIn (fm.inRound x) 0 P (agf (U f.1) (p g d) j a) S a) λ_ _ _=>False) { tmps:=(F.zip<|encs d).foldl (λan (ah,v)=>an.setIfInBounds ah v) o.1,defers:=[] } u)(Z:∀a,r a->a.1[U f.1]? = ag (dq<|ag [])->U f.1+2<=U a.1->A .normal { o with defers:={ target:=.collected<|U f.1,args:=#[] }::o.2 } a)(aq:∀a,j a->a.1[U f.1]? = ag (dq<|ag [])->U f.1+2<=U a.1->Code.ret.wpIn fm 0 P A { o with defers:={ target:=.collected<|U f.1,args:=#[] }::o.2 } a):(Code.rangeFunc I F G H).wpIn fm 0 P A o f :=
 Ro aa T ad z r q (λg d _=>p g d) (λg d _=>p g d) (λk _ a=>k=.ret/\j a) (λk _ a=>k=.ret/\j a) (λk a=>k=.ret/\j a)
  (λe y ac t B X=>(N e (y .ret) (λg d a c D=>(ac g d a c D).mono λn i c=>c.imp id λ⟨c,k,⟨Y,V⟩,W⟩=>⟨c,V,Y ▸ W⟩) t B X).mono λn i c=>⟨c.1,c.2.imp id λc=>⟨.ret,⟨af,c.1⟩,c.2⟩⟩)
  Q O (λk h e l c ae=>⟨c.1,J h e l c.2 ae⟩) (λg d a e aj al M _ _ C w=>ap _ _ _ _ _ w C) (λk a e aj al M _ _ C w=>⟨w.1,J _ _ _ w.2 C⟩) B
  (λx g d u a c ab R D=>F2 (K x g d u a c ab R D) λn _ _ c=>by cases n<;>first|exact c|exact⟨c.1,rfl,c.2⟩|exact c.elim) Z λk a c=>c.1 ▸ aq a c.2
end
section
attribute [local go_sem] Oper.semAt_some
end
section
attribute [local go_sem] Oper.semAt_some
end
section
attribute [local go_sem] Oper.semAt_some
def agi(b:Nat)(a:aQ):bd aK 162 #[N b] a λc d=>c=bg (fc (.func 219) #[] #[N<|U a.1])/\d=aO a (aS #[cM<|ag ⟨b,0,ai⟩] 162):=by go_wp2;go_ret;exact pf
def KG{l:Loop}(j:f.1[a]? = ag (dR l))(k:Obj):∀(b:Nat) (c:Array bm) (h:d_) (g:Nat×Nat),f.1[b]? = ag (aS c h g)->(eF f a k).1[b]? = f.1[b]?:=λb c h g d =>
 kW (λi=>by subst i;rw[j]at d;simp at d)
def Wx{l:Option<|List Deferred}(j:f.1[a]? = ag (dq l))(k:Obj):∀(b:Nat) (c:Array bm) (h:d_) (g:Nat×Nat),f.1[b]? = ag (aS c h g)->(eF f a k).1[b]? = f.1[b]?:=λb c h g d =>
 kW (λi=>by subst i;rw[j]at d;simp at d)
end
section
attribute [local go_sem] Oper.semAt_some
def agj(I u o c:Nat)(i:Nat->aQ->Prop)(p:Nat->ap×Bool->aQ->Prop)(x:aQ->Prop)(q:aQ)(T:aD q ⟨u,0,ai⟩=ag (cM<|ag ⟨o,0,ai⟩))(z:∀a d,i a d->aD d ⟨u,0,ai⟩=ag (cM<|ag ⟨o,0,ai⟩))(D:bd aK 215 #[cM<|ag ⟨o,0,ai⟩] q λh g=>h=bg (bX #[ak am c,aG<|dQ<|c<=8])/\i 0 g)(F:8<c->∀d,i 0 d->p 0 ([],ao) d)(K:∀a d,a<c->c<=8->i a d->bd aK 220 #[cM<|ag ⟨o,0,ai⟩] d λh g=>∃e:ap×Bool,h=bg (bX #[amz<|O e.1,aG e.2])/\p a e g)(C:∀a e d,p a e d->YieldAt fm 0 aK I #[amz<|O e.1,aG e.2] d λh g=>(h=bg (aG aE)/\e.2=aE/\i (a+1) g)\/(h=bg (aG ao)/\x g)):CallsIn fm 0 aK 219 (#[fc (.yield I) #[] #[]]++#[cM<|ag ⟨u,0,ai⟩]) q λh g=>(∃v,h=bg v)/\((c<=8/\i c g)\/x g):=by
 have w:=ae D;have S:=ae K;have H:=ae C;have N:=ae z;have P:=ae F;clear D K C z F;refine RR func219 af cE ?_;simp only[ntmps219,ox,ey,h8,Nat.reduceAdd,Nat.reduceSub,ov,oQ,oS,oR,jz,g_];gi_wp2_with fail;refine⟨cE,af,?_⟩;refine(ez.2<|V w).m ?_;intro y k;by_cases n:c<=8;{
 rw[mL n];have Q:=ae k;clear k w;gi_wp2_with fail;gi_loopw [19] (λt wr=>∃a:Nat,t=ak am a/\a<=c/\i a wr) λt _=>c-c7 (fJ t);·exact⟨0,af,eb _,V Q⟩
 ·(obtain⟨a,rfl,W,j⟩:=hrel;by_cases R:a<c;{have:=V N a wr j;have A:=ae<|V S a wr R n j;clear j;gi_wp2_with fail;refine⟨cE,af,?_⟩;refine(ez.2<|V A).mono ?_;rintro h L ⟨⟨s,J⟩,rfl,B⟩;have⟨fn,tmps,assign,body,l,hR⟩:=V H a (s,J) L B;clear A B;gi_wp2_with fail;refine⟨af,hR.mono ?_⟩;rintro e M (⟨rfl,r,b⟩|⟨rfl,b⟩);{obtain rfl:J=aE:=r;replace b:=ae b;gi_wp2_with fail;exact⟨⟨a+1,dH,G,V b⟩,ee⟩};{replace b:=ae b;gi_wp2;refine eh (v:=bX #[]) (by simp[dr,results219]) af ?_;exact⟨⟨_,af⟩,bE<|V b⟩}};{obtain rfl:a=c:=G;replace j:=ae j;gi_wp2;go_end0;exact⟨⟨_,af⟩,by first|exact bG ⟨n,V j⟩|exact .inl<|V j⟩})};{rw[gD n];have⟨fn,tmps,assign,body,l,hR⟩:=V H 0 ([],ao) y<|V P G y k;have l:_:=l;simp only[show O []=⟨#[]⟩from af]at l;clear k w;gi_wp2_with fail;refine⟨af,hR.mono ?_⟩;rintro e M (⟨rfl,r,b⟩|⟨rfl,b⟩);{cases r};{replace b:=ae b;gi_wp2;refine eh (v:=bX #[]) (by simp[dr,results219]) af ?_;exact⟨⟨_,af⟩,by first|exact bE (V b)|exact V b⟩}}
def No{a:cz}(c:a.10=ao): { a with b:=ao }=a:=by cases a;cases c;rfl
def agk(a:cz):a.lC.2=a.2/\a.lC.3=a.3/\a.lC.4=a.4/\a.lC.7=a.7/\a.lC.8=a.8/\a.lC.9=a.9:=by unfold cz.lC;split<;>exact⟨af,af,af,af,af,af⟩
def agl{a:cz}{b:ap->ap}:a.ans b c=cz.GM { a with n:=a.7+1 } (b c):=rfl
def Wz{H:ap->ap}{Y:cz}{m:Nat}(a:Y.kM.2=ai):cz.pY H Y (m+1) = { Y.kM.1 with b:=aE }:=VE a
def WB{H:ap->ap}{Y:cz}{m:Nat}{f:ap}(a:Y.kM.2=ag f):cz.pY H Y (m+1)=cz.pY H (Y.kM.1.ans H f) m:=VF a
def agm{a:cz}{b c:cw×Nat}:(a.vJ b c).1.4=a.4/\(a.vJ b c).1.5=a.5/\(a.vJ b c).1.6=a.6/\(a.vJ b c).1.7=a.7/\(a.vJ b c).1.8=a.8/\(a.vJ b c).1.9=a.9/\(a.vJ b c).1.10=a.10/\E ((a.vJ b c).2.getD [])<=1524:=by unfold cz.vJ;split;{exact⟨af,af,af,af,af,af,af,by simp only[Gd];rw[I_];omega⟩};{exact⟨af,af,af,af,af,af,af,aA⟩}
def WC(a:cz):a.kM.1.4=a.4/\a.kM.1.5=a.5/\a.kM.1.6=a.6/\a.kM.1.7=a.7/\a.kM.1.8=a.8/\a.kM.1.9=a.9/\a.kM.1.10=a.10/\E (a.kM.2.getD [])<=1524:=by unfold cz.kM;exact agm
def Np{b:ap->ap}{a:cz}:cz.pY b a 0=a:=rfl
def AJ(p q n o l g:Nat)(j k:ap)(h:ap->ap)(c:Nat)(e:cz)(d:Nat)(i:aQ):Prop :=
 d<=c/\∃a,hJ i p q n o l j k a (g+3300*d)/\a.10=ao/\(c<=8->cz.pY h a (c-d)=e)/\(8<c->{ a with b:=aE }=e)
def Cw(q r o p n i:Nat)(k l:ap)(g:ap->ap)(e:Nat)(h:cz)(c:Nat)(d:ap×Bool)(j:aQ):Prop :=
 ∃a,hJ j q r o p n k l a (i+3300*c+1600)/\a.10=ao/\E d.1<=1524/\c<8/\(d.2=aE->c<e/\e<=8/\cz.pY g (a.ans g d.1) (e-(c+1))=h)/\(d.2=ao->{ a with b:=aE }=h)
def nT(l n j k i c:Nat)(g h:ap)(d:cz)(b:Bool)(e:aQ):Prop:=∃a,hJ e l n j k i g h a (c+30000)/\a.10=ao/\{ a with b:=b }=d
def nT.ahJ{k i e:Nat}{b:cz}(p:nT a d h k i e c g b l f):b.10=l/\hJ f a d h k i c g { b with b:=ao } (e+30000):=by obtain⟨r,j,q,rfl⟩:=p;exact⟨af,by have o :=No q;rw[<- o]at j;exact j⟩
section
variable {xb zb rb sb mb C n k:Nat} {aB ip:ap} {H:ap->ap} {R:cz} {b:Bool} {x:ap×Bool} {W W':World}
def AJ.cells(d:AJ xb zb rb sb mb C aB ip H n R k W)(i:∀(a:Nat) (c:Array bm) (l:d_) (j:Nat×Nat),W.1[a]? = ag (aS c l j)->W'.1[a]? = W.1[a]?):AJ xb zb rb sb mb C aB ip H n R k W':=by obtain⟨e,b,g,h⟩:=d;exact⟨e,b,NA g i,h⟩
def Cw.cells(d:Cw xb zb rb sb mb C aB ip H n R k x W)(h:∀(a:Nat) (c:Array bm) (j:d_) (i:Nat×Nat),W.1[a]? = ag (aS c j i)->W'.1[a]? = W.1[a]?):Cw xb zb rb sb mb C aB ip H n R k x W':=by obtain⟨b,e,g⟩:=d;exact⟨b,NA e h,g⟩
def nT.cells(e:nT xb zb rb sb mb C aB ip R b W)(i:∀(a:Nat) (d:Array bm) (k:d_) (j:Nat×Nat),W.1[a]? = ag (aS d k j)->W'.1[a]? = W.1[a]?):nT xb zb rb sb mb C aB ip R b W':=by obtain⟨c,g,h⟩:=e;exact⟨c,NA g i,h⟩
def nT.other{h:List bm}(i:nT xb zb rb sb mb C aB ip R b W)(l:bk W a h z)(o:qP z)(e:¬gm xb rb sb a)(n:∀d,d<U W.1->d≠a->W'.1[d]? = W.1[d]?):nT xb zb rb sb mb C aB ip R b W':=by obtain⟨g,j,k⟩:=i;exact⟨g,NB j l o e n,k⟩
end
def J9{P:Prop}(h:P:=by simp[dr,results95,go_sem,cr]):P:=h
def P_{P:Prop}(h:P:=by rintro A r ob ⟨hA,hG⟩ hl';exact⟨nT.cells hA<|KG hl' ob,hput (B:=A) hG⟩):P:=h
def ago{x e q z:Nat}{H:ap->ap}{I:cz}{w:aQ}(k:hJ w a x d e q c g I z)(cc:I.10=ao)(c2:z<=600000000000)(cf:∀f,E (H f)<=1524)(bQ:∀(f:ap) (u:aQ),E f<=1524->cI (gm a d e) q w u->bd aK 37 #[cM<|ag ⟨x,0,ai⟩,ci #[amz<|O c,amz<|O g],amz<|O f] u λj aT=>j=bg (amz<|O<|H f)/\cB (U u.1) u aT):bd aK 95 #[cM<|ag ⟨a,0,ai⟩] w λj aT=>j=bg (aG !(I.tN H).10)/\hJ aT a x d e q c g { I.tN H with b:=ao } (z+30100)/\cI (gm a d e) q w aT:=by
 have⟨R,hR⟩:=dK<|I.tN H;rw[hR];have⟨a1,a2,a3,a4⟩:=Fu k;have⟨l1,l2,l3,l4⟩:=A0 k;have⟨wA,K7⟩:=bi<|aO (aO w<|aS #[cM<|ag ⟨a,0,ai⟩] 73)<|aS #[aG ao] 4;have a0:cB (U w.1) w wA:=by rw[K7];exact((dz _ _).alloc (cW _) _).alloc aA _
 have cY:U wA.1=U w.1+2:=by rw[K7];simp
 have cb:bk wA (U w.1) [cM<|ag ⟨a,0,ai⟩] 73:=by rw[K7];exact(bk.fF w _ _).alloc _
 have cd:bk wA (U w.1+1) [aG ao] 4:=by{have:=bk.fF (aO w<|aS #[cM<|ag ⟨a,0,ai⟩] 73) [aG ao] 4;rw[gd]at this;rw[K7];exact this};have y:=yE k a0;have aR:=ae<|afm y.1 y.3 y.5.2.2.2.1 y.5.2.2.2.2 y.6.1 G;have cP:aD (aO (aO w<|aS #[cM<|ag ⟨a,0,ai⟩] 73)<|aS #[aG ao] 4) ⟨a,4,ai⟩=ag (cM<|ag ⟨e,0,ai⟩):=by rw[<- K7];exact bk.cell y.4 4 aA
 have cQ:=bk.cell k.4 4 aA;simp only[e9,fw]at cQ;have:a≠U w.1:=G;have a9:=ae<|cv cb cd;have aH:=ae y;have bC:=ae<|qc (L:=gm a d e) a0 l4;have cg:=ae bQ;have⟨h,kU⟩:=dK I.lC;have⟨Q,J,S,T,W,X⟩:=agk I;have bB:ax (R=if h.10 then h else cz.IA H h):=by rw[ax,<- hR,cz.tN,cc,bJ bL,kU]
 rw[kU]at aR Q J S T W X;have co:=ae<|cv Q<|cv J<|cv S<|cv T<|cv W X;rw[K7]at aR;clear k bQ cb cd y hR a0 kU Q J S T W X;refine(ez (n:=0)).1 ?_;refine callsIn_of_wp_marks func95 af cE ?_;simp only[ntmps95,ox,ey,h8,Nat.reduceAdd,Nat.reduceSub,ov,oQ,oS,oR,jz,g_];gi_wp2_with fail;refine⟨cE,af,?_⟩;refine(ez.2<|V aR).mono ?_;rw[<- K7];rintro j o ⟨rfl,bU,bY,⟨cD,cC,cs⟩,aj⟩;have N:∀ {i},U w.1<=i->¬gm a d e i:=λaN k=>by rcases k with k|k|k<;>omega
 have bn:hJ o a x d e q c g { h with b:=ao } (z+40):=by{have⟨Q,J,S,T,W,X⟩:=V co;have y:=V aH;have b2:qj o a x d e c g I.7 I.8 I.9 I.10:=ix aj y.1 y.4 bL G;rw[cc]at b2;refine⟨bU,?_,?_,?_,?_,cs,?_⟩;{show gy o d _ q 0 1024 h.2 h.3 ve;rw[Q,J];exact lE y.2 aj y.1 bL G};{show gy o e _ q 512 13312 h.4 h.5 h.6;rw[S];exact bY};{show qj o a x d e c g h.7 h.8 h.9 ao;rw[T,W,X];exact b2};{show h.2<65536/\h.3<65536/\h.4<65536/\h.5<65536/\E h.6=8;rw[Q,J,S];exact⟨y.5.1,y.5.2.1,y.5.2.2.1,cD,cC⟩};{show h.7<=_/\h.8<=_/\h.9<=_;rw[T,W,X];have:=y.6;omega}};have ab:=ix aj (V aH).1 (V a9).1 bL G;have t:=ix aj (V aH).1 (V a9).2 bL G;have cR:aD o ⟨U w.1,0,ai⟩=ag (cM<|ag ⟨a,0,ai⟩):=bk.cell ab 0 aA;have cS:aD o ⟨a,3,ai⟩=ag (cM<|ag ⟨d,0,ai⟩):=bk.cell bn.4 3 aA;have aI:=ae<|dC (V bC)<|jk aj λi k=>bE<|bE k;have av:=ae bn;have a7:=ae ab;have Z:=ae t;have⟨rG,aa5⟩:=bi ({ h with b:=ao }:cz);have ce:R=if h.10 then { rG with b:=aE } else cz.IA H rG:=by{
 rw[V bB,aa5];cases h with
 | mk s c3 c1 c6 cU az n c8 cZ b=>cases b<;>rfl}
 rw[<- aa5]at av;have bR:rG.10=ao:=by rw[aa5]
 have bo:=ae ce;generalize h.10=cm at *;clear bU bY aj bn ab t aR aH a9 bC cP K7 aa5 ce bB;cases cm with
 | true =>{have a8:=V bo;rw[b7 af]at a8;have aV:ax (nT a x d e q (z+100) c g R aE o):=⟨rG,xy (V av) G,bR,bZ a8⟩;have:aD o ⟨U w.1+1,0,ai⟩=ag (aG ao):=bk.cell (V Z) 0 aA;have:=bk.frozen<|V Z;have bK:=ae<|nT.ahJ<|nT.other (W':=a_ o ⟨U w.1+1,0,ai⟩<|aG ao) (V aV) (V Z) bL (N G) λi _ bb=>dJ _ _ _ _ bb;have cj:ax (cI (gm a d e) q w<|a_ o ⟨U w.1+1,0,ai⟩<|aG ao):=AZ (V aI) l4 af af af oF λi aN=>dJ _ _ _ _ (by show i≠U w.1+1;omega);have cr:aD (a_ o ⟨U w.1+1,0,ai⟩<|aG ao) ⟨U w.1+1,0,ai⟩=ag (aG ao):=bk.cell (bk.set (V Z) 0<|aG ao) 0 aA;clear a8;gi_wp2_with fail;exact⟨aG ao,J9,by rw[(V bK).1];rfl,(V bK).2,V cj⟩}
 | false =>
 have cp:ax (R=cz.IA H rG):=by have:=V bo;rw[bJ bL]at this;exact this
 clear bo;gi_wp2_with fail;refine⟨cE,af,?_⟩;refine(ez.2<|agi d o).m ?_;intro W2 aJ;have aq:cB (U o.1) o W2:=by rw[aJ];exact Io
 have bD:U W2.1=U o.1+1:=by rw[aJ];simp
 have cy:bk W2 (U o.1) [cM<|ag ⟨d,0,ai⟩] 162:=by rw[aJ];exact bk.fF _ _ _
 have ac:=yE (V av) aq;have cT:bk W2 (U w.1) [cM<|ag ⟨a,0,ai⟩] 73:=(aq.5 _ (V a7).lt).trans<|V a7;have bp:bk W2 (U w.1+1) [aG ao] 4:=(aq.5 _ (V Z).lt).trans<|V Z;have:=(V aI).4;have:=(V Z).lt;have a5:=ae<|dC (V aI)<|qc aq<|jv (V av).1;have aZ:=jv ac.1;clear aq av a7 Z aI aJ cR cS;gi_wp2_with fail;have⟨n,hn⟩:=bi<|nk (rG.1.b_ 258 2).2 rG.3;have ar:R=if n<=8 then cz.pY H { rG with s:=(rG.1.b_ 258 2).1 } n else { rG with s:=(rG.1.b_ 258 2).1,b:=aE }:=by rw[V cp,cz.IA,<- hn]
 have cO:=ae hn;have cJ:=ae ar;clear hn ar;have hput:∀ {A B:aQ} {ob:Obj},cI (gm a d e) q W2 A->cI (gm a d e) q W2 (eF A (U W2.1+1) ob):=λhG=>AZ hG aZ af af af (by rw[zy];exact cW _) λi aN=>kW G;refine agh (α:=ap×Bool) (encs:=λF=>#[amz<|O F.1,aG F.2]) (gf:=219) (lb:=#[cM<|ag ⟨U o.1,0,ai⟩]) af (enters_of func219 b8 af) (λ_=>af) (λu=>hJ u a x d e q c g rG (z+40)/\cI (gm a d e) q W2 u) (λu=>nT a x d e q (z+100) c g R aE u/\cI (gm a d e) q W2 u) (λu=>nT a x d e q (z+100) c g R ao u/\cI (gm a d e) q W2 u) (λp F u=>(F.2=aE/\AJ a x d e q (z+100) c g H n R (p+1) u)/\cI (gm a d e) q W2 u) (λp F u=>Cw a x d e q (z+100) c g H n R p F u/\cI (gm a d e) q W2 u) ?iter ?p1 ?pd ?fz ?gg ?h0 ?round ?done ?stop;case h0 =>(intro r;have aP:cB (U W2.1) W2 (aO (aO W2<|dq<|ag [])<|dR r):=((dz _ _).alloc (cW _) _).alloc aA _;exact⟨yE ac aP,qc aP aZ⟩)
 case p1 =>(rintro i F A r ob ⟨⟨aN,hA⟩,hG⟩ hl';exact⟨⟨aN,AJ.cells hA<|KG hl' ob⟩,hput (B:=A) hG⟩)
 case pd =>(exact P_)
 case fz =>(exact P_)
 case gg =>(rintro i F A r ob ⟨hA,hG⟩ hl';exact⟨Cw.cells hA<|KG hl' ob,hput (B:=A) hG⟩)
 case iter =>(
 rintro r cL cx cl ⟨C,bv⟩ cn;have bw:∀ {A B:aQ} {ch:cw},dg A q ch->cI (gm a d e) q A B->lI (U W2.1) r A->lI (U W2.1) r B:=λbT bP M=>M.of (IX bP bT (N G) M.2 λ_ _ _ j=>by cases j) (IX bP bT (N G) M.1 λ_ _ _ j=>by cases j);have bS:∀ {u},cI (gm a d e) q W2 u->aD u ⟨U o.1,0,ai⟩=ag (cM<|ag ⟨d,0,ai⟩):=λhG=>bk.cell (ix hG ac.1 cy bL<|N G) 0 aA;refine(agj (U W2.1+1) (U o.1) d n (λp u=>(AJ a x d e q (z+100) c g H n R p u/\cI (gm a d e) q W2 u)/\lI (U W2.1) r u) (λp F u=>(Cw a x d e q (z+100) c g H n R p F u/\cI (gm a d e) q W2 u)/\lI (U W2.1) r u) (λu=>(nT a x d e q (z+100) c g R aE u/\cI (gm a d e) q W2 u)/\lI (U W2.1) cL u) cl (bS bv) (λp u k=>bS k.1.2) ?fr ?j0 ?nx ?Y).mono ?fin;case fr =>(have ad:=VJ C.1 C.2 bL af G C.5.2.1 C.6.1 G;rw[g8]at ad;refine ad.m ?_;rintro W' ⟨aF,aa⟩;have ay:=jk (K:=gm a d e) aa λ_ k=>k.elim;have ar:=V cJ;rw[<- V cO];refine⟨af,⟨⟨eb _,{ rG with s:=(rG.1.b_ 258 2).1 },?_,bR,λk=>by rw[ar,b7 k,Nat.sub_zero],λk=>by rw[ar,bJ G]⟩,dC bv ay⟩,bw C.1 ay cn⟩;exact⟨aF,lE C.2 aa C.1 bL id,lE C.3 aa C.1 bL id,ix aa C.1 C.4 bL id,C.5,qU (sI C.6.1 _ 2) G,by have:=C.6;show rG.7<=_/\rG.8<=_/\rG.9<=_;omega⟩)
 case j0 =>(rintro aB u ⟨⟨⟨_,Y,l,D,_,aw⟩,hG⟩,M⟩;exact⟨⟨⟨Y,xy l G,D,aA,G,λj=>(Bool.noConfusion j),λ_=>aw aB⟩,hG⟩,M⟩)
 case nx =>(
 rintro p u cA aB ⟨⟨⟨_,Y,l,D,al,_⟩,hG⟩,M⟩;refine(aft l.1 l.2 l.5.1 l.5.2.1 l.6.1 G).mono ?_;intro j W' bc;have aw:=al aB;rw[show n-p=(n-(p+1))+1 by omega]at aw;have aM:=Wz (H:=H) (Y:=Y) (m:=n-(p+1));have ad:=λf=>WB (H:=H) (Y:=Y) (m:=n-(p+1)) (f:=f);have b3:=WC Y;rw[aw]at aM ad;unfold Cs at bc;clear al aw;generalize Y.kM=cK at bc aM ad b3;obtain⟨h,az⟩:=cK;obtain⟨Q,J,S,T,W,X,ba,bM⟩:=b3;obtain⟨rfl,aF,bF,⟨b6,b_,ca⟩,aa⟩:=bc;simp only at Q J S T W X ba bM aF bF b6 b_ ca aM ad;have ay:=jk (K:=gm a d e) aa λi k=>bE<|bG k;refine⟨(az.getD [],az.isSome),af,⟨⟨h,?_,by rw[ba];exact D,bM,G,λbf=>⟨cA,aB,?_⟩,λbf=>?_⟩,dC hG ay⟩,bw l.1 ay M⟩;{refine⟨aF,bF,?_,?_,by rw[Q,J,S];exact⟨b6,b_,l.5.2.2⟩,ca,by have:=l.6;rw[T,W,X];omega⟩;{rw[Q,J,S];exact lE l.3 aa l.1 bL G};{rw[T,W,X,ba];exact ix aa l.1 l.4 bL G}};{
 cases az with
 | none=>cases bf
 | some f=>exact(ad f af).symm};{
 cases az with
 | none=>exact(aM af).symm
 | some f=>cases bf})
 case Y =>(rintro p F u ⟨aP,M⟩;refine(cx p F u aP M).mono ?_;rintro j W' (⟨rfl,⟨⟨h0,l⟩,al⟩,D⟩|⟨rfl,l,D⟩);{exact bG ⟨af,h0,⟨l,al⟩,D⟩};{exact bE ⟨af,l,D⟩})
 case fin =>(rintro j W' ⟨b1,⟨cu,⟨⟨_,Y,l,D,al,_⟩,hG⟩,M⟩|⟨l,D⟩⟩;{refine⟨b1,bG ⟨⟨⟨Y,xy l G,D,?_⟩,hG⟩,M⟩⟩;rw[<- al cu,sm,No D,Np]};{exact⟨b1,bE ⟨l,D⟩⟩}))
 ·(
 rintro cG p ⟨s,cH⟩ cX u ⟨⟨Y,P,aW,cF,c5,bh,bj⟩,hG⟩ b0 ah aY;have ab:=ix hG ac.1 cT bL<|N<|cW _;have t:=ix hG ac.1 bp bL<|N G;have bA:aD u ⟨U w.1,0,ai⟩=ag (cM<|ag ⟨a,0,ai⟩):=bk.cell ab 0 aA;cases cH with
 | false =>{have:aD u ⟨U w.1+1,0,ai⟩=ag (aG ao):=bk.cell t 0 aA;have J:=bk.frozen t;have aC:∀i,(a_ u ⟨U w.1+1,0,ai⟩<|aG ao).1[i]? = u.1[i]?:=λi=>by{by_cases j:i=U w.1+1;{subst j;exact(bk.set t 0<|aG ao).trans<|bZ t};{exact dJ _ _ _ _ j}};have aV:ax (nT a x d e q (z+100) c g R aE<|a_ u ⟨U w.1+1,0,ai⟩<|aG ao):=⟨Y,xy (Cu P λi _=>aC i) G,aW,bj af⟩;have aU:ax (ju (U W2.1) u<|a_ u ⟨U w.1+1,0,ai⟩<|aG ao):=⟨oF,aC _,aC _⟩;have aX:ax (cI (gm a d e) q W2<|a_ u ⟨U w.1+1,0,ai⟩<|aG ao):=AZ hG aZ af af af oF λi _=>aC i;clear P hG ab t aC bh bj;gi_wp2_with fail;exact⟨by have:=V aU;rwa [bD]at this,V aV,V aX⟩}
 | true =>{have⟨hkn,aB,hfr⟩:=bh af;have⟨n1,ji⟩:=bi<|Y.7+1;have:aD u ⟨a,5,ai⟩=ag (ak am Y.7):=bk.cell P.4 5 aA;have:(Y.7:Int)+1=n1:=G;have cq:=bk.frozen P.4;have cN:=P.6;have bH:hJ (a_ u ⟨a,5,ai⟩<|ak am n1) a x d e q c g { Y with n:=n1 } (z+100+3300*p+1601):=WM (xy P G) (kI (mT _ _) 5<|ak am n1) (Ny P.4 n1).1 G;have c0:aD (a_ u ⟨a,5,ai⟩<|ak am n1) ⟨U w.1,0,ai⟩=ag (cM<|ag ⟨a,0,ai⟩):=by{rw[DM _ _ _ _ (λj=>by have:=fE Addr.block j;exact DA),bA]};have a6:cI (gm a d e) q u (a_ u ⟨a,5,ai⟩<|ak am n1):=wy (kI (mT _ _) 5 _) (bG af) a4<|jv P.1;have bu:=ae<|agr bH (V cg s (bq<|a_ u ⟨a,5,ai⟩<|ak am n1) cF<|dC (dC (V a5)<|dC hG a6) l7) (cf s) G;have bI:=ae a6;have bs:=ae hG;have bx:=ae P.1;have b4:ax (cz.pY H (cz.GM { Y with n:=n1 } (H s)) (n-(p+1))=R/\(cz.GM { Y with n:=n1 } (H s)).10=ao):=by{refine⟨by rw[<- hfr,agl,ji],?_⟩;unfold cz.GM;split;{exact aW};{exact(ND _ _).2.2.2.2.1.trans aW}};have:Y.7<=900000000000:=G;clear P hG bH a6 ab t ji bh bj hfr cN;gi_wp2_with fail;refine⟨cE,af,?_⟩;refine(CallsIn.inRound cG<|ez.2<|V bu).m ?_;rintro bz ⟨br,bO⟩;have an:=dC (V bI) bO;have aU:ax (ju (U W2.1) u bz):=⟨an.4,IX an (V bx) (N G) ah (λ_ _ _ j=>by cases j),by obtain⟨c4,aY⟩:=aY;exact IX an (V bx) (N G) aY λ_ _ _ j=>by cases j⟩;have b5:ax (AJ a x d e q (z+100) c g H n R (p+1) bz):=⟨G,_,xy br G,(V b4).2,λ_=>(V b4).1,λk=>G⟩;have aX:=ae<|dC (V bs) an;clear br bO an bu bI bs;gi_wp2_with fail;exact⟨by have:=V aU;first|exact this|rwa [bD]at this,by first|exact⟨af,V b5⟩|exact V b5,V aX⟩})
 case done =>(rintro u ⟨hA,hG⟩ ah b0;have t:=ix hG ac.1 bp bL<|N G;have:aD u ⟨U w.1+1,0,ai⟩=ag (aG ao):=bk.cell t 0 aA;have cq:=bk.frozen t;have bt:(a_ u ⟨U w.1+1,0,ai⟩<|aG aE).1[U W2.1]? = ag (dq<|ag []):=(dJ _ _ _ _ KA).trans ah;have au:=ae<|nT.ahJ<|nT.cells (nT.other (W':=a_ u ⟨U w.1+1,0,ai⟩<|aG aE) hA t bL (N G) λi _ bb=>dJ _ _ _ _ bb) (Wx bt<|dq ai);have bl:ax (cI (gm a d e) q w<|eF (a_ u ⟨U w.1+1,0,ai⟩<|aG aE) (U W2.1)<|dq ai) := AZ (dC (V a5) hG) l4 af af af (by rw[zy];simp[a_]) λi aN=>(kW G).trans<|dJ _ _ _ _ (by show i≠U w.1+1;omega);have cr:aD (eF (a_ u ⟨U w.1+1,0,ai⟩<|aG aE) (U W2.1)<|dq ai) ⟨U w.1+1,0,ai⟩=ag (aG aE) := (ev<|kW (by dsimp only;omega)).trans<|bk.cell (bk.set t 0<|aG aE) 0 aA;clear hA hG t;gi_wp2_with fail;refine⟨aA,bG ⟨_,_,af,mI bt,?_⟩⟩;exact⟨aG aE,J9,by rw[(V au).1];rfl,(V au).2,V bl⟩)
 case stop =>(rintro u ⟨hA,hG⟩ ah b0;have t:=ix hG ac.1 bp bL<|N G;have au:=ae<|nT.ahJ<|nT.cells hA<|Wx ah<|dq ai;have bl:ax (cI (gm a d e) q w<|eF u (U W2.1)<|dq ai) := AZ (dC (V a5) hG) l4 af af af (by rw[zy];exact cW _) λi aN=>kW G;have cr:aD (eF u (U W2.1)<|dq ai) ⟨U w.1+1,0,ai⟩=ag (aG ao) := (ev<|kW (by dsimp only;omega)).trans<|bk.cell t 0 aA;clear hA hG t;gi_wp2_with fail;refine⟨aA,bG ⟨_,_,af,mI ah,?_⟩⟩;exact⟨aG ao,J9,by rw[(V au).1];rfl,(V au).2,V bl⟩)
end
def xz(b:ap):Nat->ap
 | 0=>List.replicate 25600 0
 | a+1=>(xz b a).set a<|b.getD (a%E b) 0
def Fg(a:ap):ap:=if a=[]then List.replicate 25600 0 else xz a 25600
def Pc{P:Prop}(h:P:=by{refine⟨aA,?_⟩;rw[hw1,aky];exact bk.fF _ _ _}):P:=h
def agO{W}(A:E c=W)(Z:0<W)(az:W<=9223372036854775807)(o:vS f a c):bd aK 42 #[bC a 0 W d] f λX I=>X=bg (N<|U f.1+1)/\rt I (U f.1+1) (U f.1) (xz c 25600)/\a7 f I:=by
 have K:=o.1;have D:List.replicate 25600 0=xz c 0:=af;have S:ax (∀b,c.getD (b%E c) 0=c.getD (b%W) 0):=λb=>by rw[A]
 have⟨g,hL⟩:=bi (25600:Nat);have:(g:Int)<=1000000:=G;replace hL:=ae hL;have:=jN Cr;have al:(Instr.makeSlice 58 (J 25600)<|J 25600).run aK f=.ok (bC (U f.1) 0 25600 25600) (aO f<|aS (madeCells (ak ck 0).cells 25600) 5):=by{rfl};have⟨w1,hw1⟩:=bi<|aO f<|aS (madeCells (ak ck 0).cells 25600) 5;have q:ax (oM w1 (U f.1)<|List.replicate 25600 0):=Pc;have C:U w1.1=U f.1+1:=by rw[hw1];simp
 have u:ax (a7 f w1):=by rw[ax,hw1];exact Bt
 rw[<- hw1]at al;have L:ax (∀b,b<W->aD f (M a b)=ag (ak ck<|be<|c.getD b 0)):=λb aw=>by{have y:b<E c:=G;rw[o.2.1 b y,jw,gw y];rfl};rw[D]at q;have F:iR (aO w1<|aS #[aL (ag ⟨U f.1,0,ai⟩) 25600 25600,aL ai 0 0,aG ao,aL ai 0 0,ak am 0,aL ai 0 0,aG ao,aG ao,aG ao,ak am 0] 84) (U f.1+1) (U f.1) (bY) (bY) ao 0 ao ao ao 0:=by{have:=bk.fF w1 [bC (U f.1) 0 25600 25600,bY,aG ao,bY,J (0:Nat),bY,aG ao,aG ao,aG ao,J (0:Nat)] 84;rw[C]at this;exact this};have ar:=ae F;have an:=ae<|t7 (V q)<|dT w1 (aS #[aL (ag ⟨U f.1,0,ai⟩) 25600 25600,aL ai 0 0,aG ao,aL ai 0 0,ak am 0,aL ai 0 0,aG ao,aG ao,aG ao,ak am 0] 84) _ G;have Y:=ae<|ct u G<|aS #[aL (ag ⟨U f.1,0,ai⟩) 25600 25600,aL ai 0 0,aG ao,aL ai 0 0,ak am 0,aL ai 0 0,aG ao,aG ao,aG ao,ak am 0] 84;clear o F hw1 q u D A;go_wp2;try simp only[C]
 go_loopw [4] (λn wr=>∃w:Nat,n=J w/\w<=g/\iR wr (U f.1+1) (U f.1) (bY) (bY) ao 0 ao ao ao 0/\oM wr (U f.1) (xz c w)/\a7 f wr) λn _=>g-c7 (fJ n);·exact⟨0,af,eb _,ar,an,Y⟩
 ·(
 obtain⟨w,rfl,z,l,h,k⟩:=hrel;have t:=rH l;have T:=ae l;have Q:=ae h;have P:=ae k;rw[<- V hL]at t;by_cases ad:w<g;{
 have⟨e,hr3⟩:=bi<|w%W;have O:e<W:=by rw[hr3];exact tI _ Z
 have:(w:Int).tmod W=(e:Int):=by grind
 have:(w:Int)%W=e:=fN
 have ab:=V L e O;have au:ax ((xz c w).set w (c.getD e 0)=xz c (w+1)):=by rw[ax,xz,V S w,hr3]
 generalize c.getD e 0=j at *;have:0<(W:Int):=G;have:¬(W:Int)=0:=G;have:(e:Int)<W:=G;have ac:aD wr (M a e)=ag (ak ck<|be j):=(k.cell (p:=⟨a,e,ai⟩) K).trans ab;obtain⟨H,ay⟩:∃H,aD wr ⟨U f.1,w,ai⟩=ag H:=⟨_,h.2.cell w (by simp;rw[h.1,<- V hL];omega)⟩;have:=λn=>h.2.frozen n;have ah:ax (oM (a_ (bq wr) ⟨U f.1,w,ai⟩<|ak ck<|be j) (U f.1)<|xz c<|w+1):=by rw[<- V au];exact EW h w j
 have aa:ax (iR (a_ (bq wr) ⟨U f.1,w,ai⟩<|ak ck<|be j) (U f.1+1) (U f.1) (bY) (bY) ao 0 ao ao ao 0):=pW (w:=wr) l (dJ _ _ _ _ aA);have R:=ae<|(k.drew).setCell (p:=⟨U f.1,w,ai⟩) bv (ak ck<|be j);have ap:(w:Int)<g:=G;have⟨aj,eK⟩:=bi<|w+1;have av:am.wrap ((w:Int)+1)=(aj:Int):=fT
 have r:=ae eK;have:aD (bq wr) (M (U f.1+1) 0)=ag (bC (U f.1) 0 g g)/\aD (bq wr) (M a e)=ag (ak ck<|be j):=⟨t,ac⟩;have:a≠U f.1:=G;clear l h k hr3 z eK;go_wp2;go_region;all_goals(go_wp2;exact⟨⟨w+1,by rw[<- V r],G,aa,ah,R⟩,by have:=V r;exact Bz⟩)};{have x:w=g:=G;have aq:=ae<|c_ x hL;subst x;have ap:¬(w:Int)<w:=G;clear l h k ad z;go_wp2;go_ret;have B:=V Q;rw[V aq]at B;exact⟨af,⟨T,B⟩,P⟩})
def Xx(i j a):bd aK 42 #[aL i 0 j] a λk g=>k=bg (N<|U a.1+1)/\rt g (U a.1+1) (U a.1) (List.replicate 25600 0)/\a7 a g:=by
 have⟨h,hL⟩:=bi (25600:Nat);have:(h:Int)<=1000000:=G;replace hL:=ae hL;have:=jN Cr;have n:(Instr.makeSlice 58 (J 25600)<|J 25600).run aK a=.ok (bC (U a.1) 0 25600 25600) (aO a<|aS (madeCells (ak ck 0).cells 25600) 5):=by{rfl};have⟨w1,hw1⟩:=bi<|aO a<|aS (madeCells (ak ck 0).cells 25600) 5;have e:ax (oM w1 (U a.1)<|List.replicate 25600 0):=Pc;have d:U w1.1=U a.1+1:=by rw[hw1];simp
 have c:ax (a7 a w1):=by rw[ax,hw1];exact Bt
 rw[<- hw1]at n;have b:iR (aO w1<|aS #[aL (ag ⟨U a.1,0,ai⟩) 25600 25600,aL ai 0 0,aG ao,aL ai 0 0,ak am 0,aL ai 0 0,aG ao,aG ao,aG ao,ak am 0] 84) (U a.1+1) (U a.1) (bY) (bY) ao 0 ao ao ao 0:=by{have:=bk.fF w1 [bC (U a.1) 0 25600 25600,bY,aG ao,bY,J (0:Nat),bY,aG ao,aG ao,aG ao,J (0:Nat)] 84;rw[d]at this;exact this};have o:=ae<|t7 (V e)<|dT w1 (aS #[aL (ag ⟨U a.1,0,ai⟩) 25600 25600,aL ai 0 0,aG ao,aL ai 0 0,ak am 0,aL ai 0 0,aG ao,aG ao,aG ao,ak am 0] 84) _ G;have l:=ae<|ct c G<|aS #[aL (ag ⟨U a.1,0,ai⟩) 25600 25600,aL ai 0 0,aG ao,aL ai 0 0,ak am 0,aL ai 0 0,aG ao,aG ao,aG ao,ak am 0] 84;clear hw1 e c;have:=rH b;replace b:=ae b;go_wp2;try simp only[d]
 refine RS 1 ?_;rw[rounds_succ];go_wp2;go_ret;exact⟨af,⟨b,o⟩,l⟩
def agP(e)(k:E c=a)(l:a<=9223372036854775807)(i:vS f d c):bd aK 42 #[bC d 0 a e] f λj h=>j=bg (N<|U f.1+1)/\rt h (U f.1+1) (U f.1) (Fg c)/\a7 f h:=by
 by_cases g:c=[];{
 obtain rfl:a=0:=by grind
 rw[Fg,b7 g];exact Xx (ag<|M d 0) e f};{rw[Fg,bJ g];exact agO k (by grind) l i}
section
open Go.Sort
def zn:ap:=[101,120,97,109,112,108,101,46,111,114,103]
def FB:ap:=[111,114,105,103,105,110,32,101,120,97,109,112,108,101,46,111,114,103,10,101,120,97,109,112,108,101,46,111,114,103,32,51,48,48,32,83,79,65,32,110,115,46,101,120,97,109,112,108,101,46,111,114,103,32,97,100,109,105,110,46,101,120,97,109,112,108,101,46,111,114,103,32,55,32,54,48,10,101,120,97,109,112,108,101,46,111,114,103,32,51,48,48,32,78,83,32,110,115,46,101,120,97,109,112,108,101,46,111,114,103,10,110,115,46,101,120,97,109,112,108,101,46,111,114,103,32,51,48,48,32,65,32,49,57,50,46,48,46,50,46,49,10,119,119,119,46,101,120,97,109,112,108,101,46,111,114,103,32,54,48,32,67,78,65,77,69,32,119,101,98,46,101,120,97,109,112,108,101,46,111,114,103,10,119,101,98,46,101,120,97,109,112,108,101,46,111,114,103,32,54,48,32,65,32,49,57,50,46,48,46,50,46,56,48,10,42,46,119,105,108,100,46,101,120,97,109,112,108,101,46,111,114,103,32,54,48,32,84,88,84,32,104,105,10,115,117,98,46,101,120,97,109,112,108,101,46,111,114,103,32,51,48,48,32,78,83,32,110,115,46,115,117,98,46,101,120,97,109,112,108,101,46,111,114,103,10,110,115,46,115,117,98,46,101,120,97,109,112,108,101,46,111,114,103,32,51,48,48,32,65,32,49,57,50,46,48,46,50,46,57,10]
def zp:List D:=[([101,120,97,109,112,108,101,46,111,114,103],300,6,[110,115,46,101,120,97,109,112,108,101,46,111,114,103,32,97,100,109,105,110,46,101,120,97,109,112,108,101,46,111,114,103,32,55,32,54,48]),([101,120,97,109,112,108,101,46,111,114,103],300,2,[110,115,46,101,120,97,109,112,108,101,46,111,114,103]),([110,115,46,101,120,97,109,112,108,101,46,111,114,103],300,1,[49,57,50,46,48,46,50,46,49]),([119,119,119,46,101,120,97,109,112,108,101,46,111,114,103],60,5,[119,101,98,46,101,120,97,109,112,108,101,46,111,114,103]),([119,101,98,46,101,120,97,109,112,108,101,46,111,114,103],60,1,[49,57,50,46,48,46,50,46,56,48]),([42,46,119,105,108,100,46,101,120,97,109,112,108,101,46,111,114,103],60,16,[104,105]),([115,117,98,46,101,120,97,109,112,108,101,46,111,114,103],300,2,[110,115,46,115,117,98,46,101,120,97,109,112,108,101,46,111,114,103]),([110,115,46,115,117,98,46,101,120,97,109,112,108,101,46,111,114,103],300,1,[49,57,50,46,48,46,50,46,57])]
def OX:List D:=[([42,46,119,105,108,100,46,101,120,97,109,112,108,101,46,111,114,103],60,16,[104,105]),([101,120,97,109,112,108,101,46,111,114,103],300,2,[110,115,46,101,120,97,109,112,108,101,46,111,114,103]),([101,120,97,109,112,108,101,46,111,114,103],300,6,[110,115,46,101,120,97,109,112,108,101,46,111,114,103,32,97,100,109,105,110,46,101,120,97,109,112,108,101,46,111,114,103,32,55,32,54,48]),([110,115,46,101,120,97,109,112,108,101,46,111,114,103],300,1,[49,57,50,46,48,46,50,46,49]),([110,115,46,115,117,98,46,101,120,97,109,112,108,101,46,111,114,103],300,1,[49,57,50,46,48,46,50,46,57]),([115,117,98,46,101,120,97,109,112,108,101,46,111,114,103],300,2,[110,115,46,115,117,98,46,101,120,97,109,112,108,101,46,111,114,103]),([119,101,98,46,101,120,97,109,112,108,101,46,111,114,103],60,1,[49,57,50,46,48,46,50,46,56,48]),([119,119,119,46,101,120,97,109,112,108,101,46,111,114,103],60,5,[119,101,98,46,101,120,97,109,112,108,101,46,111,114,103])]
def YN:kK FB=ag (zn,zp):=b8
def aiQ:cq zp=OX:=by simp only[cq,Sort.insertionSort,show E zp=8 from af];rw[insOuter_go _ _ _ _ _ bL,insOuter_go _ _ _ _ _ bL,insOuter_go _ _ _ _ _ bL,insOuter_go _ _ _ _ _ bL,insOuter_go _ _ _ _ _ bL,insOuter_go _ _ _ _ _ bL,insOuter_go _ _ _ _ _ bL,insOuter_stop _ _ _ _ _ bL];kernel_rfl
def ajg:na zn zp=aE:=b8
def aj3:mC zn OX=aE:=b8
def aj4:lu FB=ag (zn,OX):=by rw[lu,YN];show(if na zn zp&&mC zn (cq zp)then ag (zn,cq zp)else ai)=_;rw[aiQ,ajg,aj3];rfl
def aj5:mP FB=ag (zn,zp):=by rw[mP,b7 ⟨Nat.le_of_ble_eq_true b8,by rw[aj4];rfl⟩,YN]
end
end Go.Proofs.YtkkpahmoljiepaaGreatDoor
