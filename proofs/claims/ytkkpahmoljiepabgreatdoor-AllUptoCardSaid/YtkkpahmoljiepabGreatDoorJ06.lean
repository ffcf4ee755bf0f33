import Derived.Test.YtkkpahmoljiepabGreatDoorJ04
import Derived.Test.YtkkpahmoljiepabGreatDoorJ05
set_option maxRecDepth 1000000
set_option maxHeartbeats 12800000
set_option linter.all false
open Array renaming size->J
open Bool renaming false->ak,true->aD
open Eq renaming symm->b5,trans->cQ
open Go renaming Calls->a_,TypeId->dP,Value->bk,World->aQ,maxLen->fk
open Go.Ending renaming returned->bh
open Go.IntKind renaming i64->ai
open Go.Obj renaming cells->aZ
open Go.Proofs.Tryz renaming prog->aL
open Go.RowKit renaming Below->cv,Hid->ao
open Go.RowKit.Below renaming alloc->cf,mono->bN,trans->bC
open Go.Value renaming bool->aG,int->ag,ownBlock->bA,slice->aE,string->am,tuple->bZ
open Go.World renaming alloc->aN,alloc_heap_new->cW,cell?->aA,setCell->a7
open List renaming drop->bi,filter->dT,flatMap->ex,length->E,map->b9,take->be
open Option renaming none->af,some->ae
open Or renaming inl->bJ,inr->bE
namespace Go.Proofs.YtkkpahmoljiepabGreatDoor
variable{φ:Prop}
open Go.RowKit Go.Proofs.Tryz
variable{c g n:Nat}{f m u:World}{d P:ap}{e C:Value}{i p S:List aK}{j:Int}{t H:Bool}{s:List ap}{z:TypeId}{A Y:Nat->Prop}{Q:List UInt8}
def Wn(j:g=J f.1)(b)(h:dP):∀(e:Nat) (i:bk),(gz [b])[e]? = ae i->aA (aN f<|aZ #[am<|D b.owner,ag ai b.aP,ag ai b.type,am<|D b.data] h) (((N g 0):Addr).add e)=ae i:=λe i a=>by
 subst j;simp only[gz,aK.bz,kj,A_,kW]at a;have c:=cW f<|aZ #[am<|D b.owner,ag ai b.aP,ag ai b.type,am<|D b.data] h;generalize aN f (aZ #[am<|D b.owner,ag ai b.aP,ag ai b.type,am<|D b.data] h)=k at c⊢;generalize J f.1=g at c⊢
 match e,a with
 |0,a=>simp at a;subst a;simp[Addr.add,aA,c]
 |1,a=>simp at a;subst a;simp[Addr.add,aA,c]
 |2,a=>simp at a;subst a;simp[Addr.add,aA,c]
 |3,a=>simp at a;subst a;simp[Addr.add,aA,c]
 |l+4,a=>grind
def Wo{aa ay ab M P}(a)(y:fV f c g j 0 t e M P n)(x:dH f (c+1) e p)(I:gJ f g d aa ay ab i)(aJ:g<c)(aB:E a.data<=3000)(aC:E d<=3000)(aF:E p<8):a_ aL 231 #[bv c,a.zN] f λl h=>l=bh (bZ #[aS a.data,aG<|fx a.data d])/\(∃F,fV h c g j 0 t F M P n/\dH h (c+1) F (p++[a]))/\cv c f h:=by
 let⟨ar,aO,al,ap,aq⟩:=im vY;obtain⟨B,u,rfl⟩:=x.slice;let az:=y.lt;let H:=x.ue;let ad:ae c≠bA (aE B (E p) u):=λl=>by grind
 let ah:ae g≠bA (aE B (E p) u):=λl=>by grind
 let S:ae (J f.1)≠bA (aE B (E p) u):=λl=>by grind
 let⟨aP,aR,aT,aU,aV,aW,aX,aY⟩:=y.cells;have:((E p:Int)==8)=ak:=by grind
 have A:=λX=>by
  have:=AZ (D a.data) (D d) X lv lv;rw[o8,o8]at this;exact this
 generalize fx a.data d=a0 at A⊢;let R:=O y;let Q:=O x;let av:=O H;let an:=I.2.1;let Z:=I.1;unfold aK.zN;go_in;go_upto_region 4 with fail
 go_region_law (first|(refine step_append_lies _ rfl (.tmp 25) (.tmp 27) 77 rfl (c+1) 83 ar _ 4 48 ym aO al ap aq rfl bW _ p.length (gz p) rfl ((Q.alloc _).alloc _) _ 1 1 (gz [a]) rfl rfl (Wn ax a _) ID bW Ay G ct (f.heap.size+2) ax ?_;intro au L r H o aH aI;let w:∀k,k<f.heap.size+1->some k≠(Value.slice B p.length u).ownBlock->r.heap[k]? = (aN f<|aZ #[am<|D a.owner,ag ai a.aP,ag ai a.type,am<|D a.data] 83).1[k]?:=(λk aO ac=>(o.5 k ct ac).trans<|dv _ _ _ ct);let z:=R.kept<|(w c G ad).trans<|dv _ _ _ az;have:=z.frozen;have:=z.cells.2.2.2.2.1))
 all_goals
  let aj:dH r (c+1) (bL au 0 (E p+1) L) (p++[a]):=by
   rw[dH,dj,Px];omega
  have:bA (aE (ae<|N au 0) (E p+1) L)=ae au:=U;let W:=(w (J f.1) G S).trans<|cW f _;have:=(dR<|(w g G ah).trans<|dv _ _ _ Z).trans an;let Y:ao (cv c f r):=⟨o.1,o.2,o.3,cJ ct o.4,λk aO=>(w k G λl=>cd<|V av k<|b5 l).trans<|dv _ _ _ G⟩
  let K:=O<|z.o6<|bL au 0 (E p+1) L;let T:=O<|aj.ri (k:=c) (i:=4) G (bL au 0 (E p+1) L);have:aA (a7 r ⟨c,4,af⟩<|aE (ae ⟨au,0,af⟩) (E p+1) L) (N (J f.1) 3)=ae (aS a.data):=by
   rw[zM _ _ _ _ λaw=>by grind];simp[aA,W]
  let aM:aA (a7 r ⟨c,4,af⟩<|aE (ae ⟨au,0,af⟩) (E p+1) L) (N g 0)=ae (aS d):=by
   rw[zM _ _ _ _ λaw=>by grind];omega
  have:=K.cells.1;go_wp2
  go_region_held (λh=>aA h (N (J f.1) 3)=ae (aS a.data)/\aA h (N c 0)=ae (bv g)/\aA h (N g 0)=ae (aS d)) (first|assumption|simp_all|go_keep)
   (first|(go_at_call 86;refine(A _).m ?_;rintro h rfl))
  all_goals
   go_wp2;go_ret2;let q:=Y.setCell (p:=⟨c,4,af⟩) (cO c) (bL au 0 (E p+1) L);exact⟨U,⟨_,K,T⟩,⟨q.1,q.2,q.3,q.4,q.5⟩⟩
def Wq{d u}{a:aK}(r:fV f c g j 0 t e C u n)(L:dH f (c+1) e i)(h:np f n d ak)(K:n≠d)(V:d<c)(T:E i=8):a_ aL 231 #[bv c,a.zN] f λo k=>o=bh (bZ #[aS a.data,aG aD])/\fV k c g j 0 t e C u n/\np k n d aD/\∀b,b<=d->cv b f k:=by
 obtain⟨R,S,rfl⟩:=L.slice;let Q:=r.lt;let x:=h.lt;let⟨Y,Z,aa,ab,ac,ad,ah,aj⟩:=r.cells
 let p:a6 f (aN f<|aZ #[am<|D a.owner,ag ai a.aP,ag ai a.type,am<|D a.data] 83):=cf cc bo _;let y:=O<|WV (h.below p h.1 x) K;let A:(aN f<|aZ #[am<|D a.owner,ag ai a.aP,ag ai a.type,am<|D a.data] 83).1[J f.1]? = ae (aZ #[am<|D a.owner,ag ai a.aP,ag ai a.type,am<|D a.data] 83):=cW f _;let z:=O r;unfold aK.zN;go_in;go_wp2_with fail;refine y.mono ?_;rintro o P ⟨⟨v,rfl⟩,H,q,W,F⟩;let X:aA P (N (J f.1) 3)=ae (aS a.data):=by{let:=(q (J f.1) G).trans A;simp[aA,this]};let l:=O<|z.kept<|(q c G).trans<|dv _ _ _ Q;let M:=O H;let B:=O F;go_wp2;go_ret2;exact⟨U,l,M,λb I=>(bN p G).trans<|B b I⟩
def i6(c:ap)(b:List aK)(a:ap):Option aK:=if(fm c b a).length=0/\(d3 b a).2=aD/\oM (d3 b a).1=aD then ae ((d3 b a).1.headD aK.zero)else af
def hH(b:ap)(d:List aK):Nat->ap->Option (List aK×Option ap)
 |0,a=>match i6 b d a with
  |none=>ae ([],ae a)
  |some _=>af
 |m+1,a=>match i6 b d a with
  |none=>ae ([],ae a)
  |some c=>if fx c.data b=aD then(hH b d m c.data).map (λe=>(c::e.1,e.2))else ae ([c],af)
def tT(a:ap)(b:List aK):Option ap->Int
 |some c=>lP a b c
 |none=>0
def sE(b:ap)(c:List aK)(a:Int):Option ap->List aK
 |some d=>mv b c a d
 |none=>[]
def tF(b:ap)(c:List aK)(a:Int):Option ap->List aK
 |some d=>nf b c a d
 |none=>[]
def QD{S ay aa:Nat}{I:bk}{b:aK}{x:aQ->Prop}(p:fV f c g j 0 t I e C n)(D:gJ f g d S ay aa i)(B:dx f)(az:tR d i)(an:E P<=2900)(ah:(j==5)=ak)(av:(j==255)=ak)(aR:E (fm d i P)=0)(al:(d3 i P).2=aD)(o:(d3 i P).1=[b])(N:oM [b]=aD)(Z:∀a,a6 f a->a_ aL 231 #[bv c,b.zN] a λh r=>h=bh (bZ #[aS b.data,aG H])/\x r):a_ aL 188 #[bv c,aS P] f λh r=>h=bh (bZ #[aS b.data,aG H])/\x r:=by
 let⟨y,ac,ar⟩:=az;let aI:(j != 5)=aD:=by rw[bne,ah];rfl
 let aM:(j != 255)=aD:=by rw[bne,av];rfl
 let aH:=p.lt;let⟨aU,aV,_⟩:=p.cells;let ab:=O D;let Q:=O B;let z:=O<|DB P D B y G ac;let F:ao (∀a,a6 f a->fV a c g j 0 t I e C n):=λa L=>p.kept<|L.5 c aH;let aC:=O Z;let:¬(0:Int)<(E (fm d i P):Int):=G;let Y:=O λa (L:a6 f a)=>IE (ab.below L) (Q.below L) y an λb o=>(ar b o).1;go_in;go_wp21;refine z.mono ?_;rintro h M ⟨⟨aY,rfl,aw⟩,k⟩;obtain⟨aJ,bG,rfl⟩:=aw.slice;let⟨aW,aX,_⟩:=(F M k).cells;go_wp21;refine(Y M k).mono ?_;rintro h K ⟨⟨a0,rfl,q⟩,aj⟩;rw[al];rw[o]at q;let A:=bC k<|bN aj k.4;let au:=F K A;let⟨u0,u1,u2,u3,u4,u5,u6,u7⟩:=au.cells;have u:=O<|Qu q.rv ax;rw[N]at u;have aF:=q.rv;rcases aF with⟨_,ad⟩|⟨aO,aT,aP,rfl,aB,aq⟩;{cases ad};let⟨T,V,W,X⟩:=aq.four 0 ax;simp only[o7,h8,eB]at T V W X;let R:=O<|aC K A;simp only[dW,gG]at aB u⊢;go_wp21;refine u.m ?_;rintro K rfl;go_wp21;refine R.m λa1 l=>?_;replace l:=O l;go_wp2;go_ret2;exact bd U l
def Wr(e:dx f)(a:cv c f m)(g:0<c):dx m:=by let⟨h,b,i⟩:=e;exact⟨eA h a.4,b,(a.cell (p:=⟨0,0,af⟩) g).trans i⟩
def IS{e:aK}(a:i6 d i P=ae e):E (fm d i P)=0/\(d3 i P).2=aD/\(d3 i P).1=[e]/\oM [e]=aD:=by unfold i6 at a;split at a;{rename_i l;let⟨j,k,c⟩:=l;have g:=c;simp only[oM,e9,iE]at g;let⟨n,h⟩:=DI.1 g.1;rw[h]at a c;simp only[List.headD_cons,rG]at a;subst a;exact⟨j,k,h,c⟩};{cases a}
def Ws(c:i6 d i P=af):E (fm d i P)=0->(d3 i P).2=aD->oM (d3 i P).1=ak:=λg h=>by
 unfold i6 at c;split at c
 ·cases c
 ·rename_i b;cases e:oM (d3 i P).1
  ·rfl
  ·exact absurd ⟨g,h,e⟩ b
def QO(i:jh d=aD):oZ d=aD↔mD d=[42]:=by
 unfold mD;have:=nL 46 d;cases e:I 46 d with
 |nil=>grind
 |cons b t=>{
 rw[jh,e9,e,pN,e9]at i;have c:=i.2.1;rw[sR,sZ]at c;show oZ d=aD↔b=[42];unfold oZ Lib.hasPrefix;rcases c with a|q;{
 have c:b≠[]:=by rintro rfl;simp[kr]at a
 have h:=DX e c;cases b with
 |nil=>grind
 |cons n r=>{
 simp only[kr,e9,uO]at a;have k:=a.2.1;have p:n≠42:=by rintro rfl;revert k;decide
 constructor;{
 intro j;cases d with
 |nil=>cases j
 |cons o l=>{grind}};grind}};{
 have g:b=[42]:=by grind
 have h:=DX e (by grind);rw[g]at h;refine⟨λ_=>g,λ_=>?_⟩;cases d with
 |nil=>grind
 |cons o l=>grind}}
def X5(c b):xf c b=aD↔b.type=2/\b.owner≠c:=by rw[xf,e9,iE,wA,Bl];exact and_congr Iff.rfl<|not_congr ⟨λa=>y7 a,λa=>by rw[a]⟩
def yL(c:ap)(b a:aK):Prop:=
 (a.type=2/\a.owner≠c->mD a.owner≠[42]) /\
 (b.owner=a.owner->¬(b.type=a.type/\(b.data=a.data\/b.aP≠a.aP))/\a.type≠5/\(a.type=2/\a.owner≠c->b.type=2)) /\
 (b.owner≠a.owner->a.type=2/\a.owner≠c->fx b.owner a.owner=aD->b.type=1/\mD b.owner≠[42])
def QP(d b a):rS d b a=aD↔yL d b a:=by rw[rS,yL,JA,By];let:(I 46 b.owner=I 46 a.owner)↔b.owner=a.owner:=⟨λc=>y7 c,λc=>by rw[c]⟩;let:=X5 d a;grind
def Jb(d):∀(a b:List aK),ql d b a=aD↔(∀c∈a,c.aP=d)/\a.Pairwise (·≠·)/\∀c∈a,c∉b
 |[],b=>by simp[ql]
 |c::a,b=>by rw[ql,e9,e9,iE,Jb d a<|b++[c],sI];grind
def QQ(k)(b:List aK):(∀a (aO:a<E b) c (i:c<E b),c≠a->yL k b[a] b[c])↔b.Nodup/\∀e∈b,∀g∈b,e≠g->yL k e g:=by constructor;{intro h;refine bd ?_<|λe l g d p=>?_;{rw[List.Nodup,DO];intro a q aO n r j;have d:=h a aO q n G;rw[<-j]at d;exact(d.2.1 U).1<|bd U<|.inl rfl};{obtain⟨a,aO,rfl⟩:=DM.1 l;obtain⟨c,i,rfl⟩:=DM.1 d;grind}};{rintro⟨o,h⟩ a aO c i p;refine h _ (ei aO) _ (ei i) λj=>?_;rw[List.Nodup,DO]at o;grind}
def X6{F}(g:gP cR F):0<E (jb F 2)↔∃a∈F,a.type=2:=by
 unfold jb;cases c:(dg c8 F).find? (λa=>l1 a==2)with
 |some a=>{let h:=Bf c;have n:=List.find?_some c;let⟨b,d,q,e⟩:=(xe g).1 a h;let k:b.type=2:=by{unfold l1 at n;grind};grind}
 |none=>{
 refine⟨λp=>by grind,?_⟩;rintro⟨b,d,k⟩;let⟨a,o,e⟩:=(xe g).2 b d;let l:=Pd.1 c a o;refine absurd ?_ l;let h:=e▸ig.2 (bd d<|(rR b b).2 U)
 unfold l1;cases r:a.2 with
 |nil=>grind
 |cons i t=>{
 let j:i∈dT (c8 b) F:=by grind
 let:=(kv<|(rR b i).1 (ig.1 j).2).2;grind}}
def X7{b c}(d:b∈i)(e:c∈i)(g:b≠c):1<E i:=by
 match i,d,e with
 |[h],d,e=>{grind}
 |_::_::_,_,_=>simp
def OD(a):fx a a=aD:=by simp[fx]
section
variable {L:List aK} (hL:gP cR L) (hval:∀r∈L,jh r.owner=true) (o:ap)
structure Jc(L:List aK)(o:ap):Prop where
 aCg:∀r∈L,oL (L.filter (c8 r))=true
 und:∀r∈L,fx r.owner o=true
 cn:∀r∈L,∀c∈L,c.owner=r.owner->c.type=5->¬1<(L.filter (eS r)).length
 aeF:∀r∈L,r.owner≠o->r.type=2->nV L r.owner=true
 ns:∃x∈L,x.owner=o/\x.type=2
include hL in
theorem QR:ln o L=aD↔Jc L o:=by rw[ln,e9,e9,WZ hL,W0 hL λp n=>lK o L p n,Rf hL,pZ,X6 (F:=dT (λr=>r.owner==o) L) (AR _ hL)];let j:∀r∈L,lK o L r.owner (dT (eS r) L)=aD↔fx r.owner o=aD/\(∀h∈L,h.owner=r.owner->h.type=5->¬1<E (dT (eS r) L))/\(r.owner=o\/(∀a∈L,a.owner=r.owner->a.type≠2)\/nV L r.owner=aD):=by{intro r b;rw[lK,e9,e9,and_assoc,sZ,sZ,iE,or_assoc];let q:∀g:Int,(dT (eS r) L).any (lJ g)=aD↔∃a∈L,a.owner=r.owner/\a.type=g:=by{intro g;rw[ni];constructor;{rintro⟨a,e,k⟩;let⟨c,d⟩:=ig.1 e;exact⟨a,c,b5<|(qL r a).1 d,by unfold lJ at k;grind⟩};{rintro⟨a,e,c,d⟩;exact⟨a,ig.2<|bd e<|(qL r a).2 c.symm,by unfold lJ;grind⟩}};grind};let l:(∃a∈L.filter λr=>r.owner==o,a.type=2)↔∃a∈L,a.owner=o/\a.type=2:=by{grind};rw[l];constructor;{rintro⟨c,d,i⟩;refine⟨c,λr b=>((j r b).1<|d r b).1,λr b=>((j r b).1<|d r b).2.1,λr b w x=>?_,i⟩;grind};{rintro⟨c,d,i,t,u⟩;grind}
theorem Nq(h:φ:=by rintro⟨h2,ho⟩;let hc:=(GT hL b.owner).1 (h.4 b hb ho h2) b hb<|OD _;grind):φ:=h
include hL hval in
theorem QS(h:Jc L o):L.Nodup/\∀a∈L,∀b∈L,a≠b->yL o a b:=by
 let q:∀r∈L,∃z,(∀c∈L,c.owner=r.owner->c.type=r.type->c.aP=z)/\(dT (c8 r) L).Pairwise (·≠·):=by{
 intro r k;have d:=h.1 r k;let:=ig.2<|bd k<|(rR r r).2 U;cases t:dT (c8 r) L with
 |nil=>grind
 |cons p M=>{rw[t]at d;let⟨B,C,_⟩:=(Jb p.aP (p::M) []).1 d;refine⟨p.aP,λc H l n=>B c ?_,C⟩;rw[<-t];exact ig.2<|bd H<|(rR r c).2 (Bk l.symm n.symm)}};let N:∀r∈L,oZ r.owner=ak->mD r.owner≠[42]:=by{intro r k x g;rw[(QO<|hval r k).2 g]at x;cases x};refine bd ?_<|λa i b hb u=>⟨?_,?_,?_⟩;{rw[List.Nodup,DO];intro I K aO F A g;let⟨_,_,w⟩:=q _<|ei aO;rw[List.pairwise_filter,DO]at w;exact w I K aO F A ((rR _ _).2 U) (g▸(rR _ _).2 U) g};{exact Nq};{intro j;refine⟨?_,?_,?_⟩;{rintro⟨y,e⟩;let⟨z,d,_⟩:=q a i;let l:=d a i U U;let n:=d b hb (b5 j)<|b5 y;rcases e with e|e;{exact u<|Bk j<|Bk (cQ l<|b5 n)<|Bk y e};omega};{intro D;exact h.3 b hb b hb U D<|X7 (ig.2 ⟨i,(qL b a).2<|b5 j⟩) (ig.2 ⟨hb,(qL b b).2 U⟩) u};{exact Nq}};{intro j;rintro⟨h2,ho⟩ G;let hc:=(GT hL b.owner).1 (h.4 b hb ho h2) a i G;grind}
include hL hval in
theorem X8(y:L.Nodup)(e:∀u∈L,∀w∈L,u≠w->yL o u w)(R:∀r∈L,fx r.owner o=aD)(M:∃a∈L,a.type=6)(A:∃a∈L,a.owner=o/\a.type=2):Jc L o:=by
 let G:∀r∈L,mD r.owner≠[42]->oZ r.owner=ak:=by{intro r c l;rw[<-sY];exact λg=>l<|(QO<|hval r c).1 g};refine⟨λr c=>?_,R,λr c i g x K Z=>?_,λr c Q p=>?_,A⟩;{
 have k:(dT (c8 r) L).Nodup:=AR _ y;have q:∀a∈dT (c8 r) L,a∈L/\a.owner=r.owner/\a.type=r.type:=by{intro a h;let⟨Y,p⟩:=ig.1 h;let:=kv<|(rR r a).1 p;grind};cases O:dT (c8 r) L with
 |nil=>rfl
 |cons d z=>{rw[O]at k q;refine(Jb d.aP (d::z) []).2 ⟨λa h=>?_,k,λ_ _ g=>by cases g⟩;by_cases b:a=d;{rw[b]};{let⟨U,V,ab⟩:=q a h;let⟨S,T,aa⟩:=q d ax;let:=((e a U d S b).2.1<|cQ V<|b5 T).1;omega}}};{
 have k:(dT (eS r) L).Nodup:=AR _ y;let:=ig.2<|bd g<|(qL r i).2 (b5 x);have N:∃j∈dT (eS r) L,j≠i:=by{
 match hF:dT (eS r) L with
 |[]=>grind
 |[a]=>grind
 |a::d::z=>{rw[hF]at k;by_cases b:a=i;{refine⟨d,ax,?_⟩;grind};{exact⟨a,ax,b⟩}}};let⟨j,F,C⟩:=N;let⟨H,I⟩:=ig.1 F;exact((e j H i g C).2.1<|(b5<|(qL r j).1 I).trans<|b5 x).2.1 K};{
 refine(GT hL r.owner).2 λs l W=>?_;let hcut:r.type=2/\r.owner≠o:=bd p Q;constructor;{refine G s l ?_;by_cases b:s.owner=r.owner;{let⟨a,h,X⟩:=M;rw[b];exact(e a h r c<|by grind).1 hcut};{exact((e s l r c<|by grind).2.2 b hcut W).2}};{
 intro n t D;by_cases b:s.owner=r.owner;{rw[b8 b];by_cases B:n=r;{grind};{exact((e n t r c B).2.1<|cQ D b).2.2 hcut}};{
 rw[bV b];let P:n.owner≠r.owner:=by grind
 exact((e n t r c<|by grind).2.2 P hcut<|by grind).1}}}
end
def QT(c)(T:∀b∈i,jh b.owner=aD):(tC c i/\E i<=60)↔(lO c i&&ln c (ck i))=aD:=by
 let u:=td i;let p:=w_ i;let g:∀{b:aK},b∈ck i↔b∈i:=u.mem_iff;let C:=λb h=>T b<|g.1 h;rw[e9,QR p];let S:i7 i (I 46 c) 2=aD↔∃e∈i,e.owner=c/\e.type=2:=by{rw[i7,ni];constructor;{rintro⟨e,x,a⟩;simp at a;exact⟨e,x,y7 a.1,a.2⟩};grind};unfold tC ws;rw[S];constructor;{
 rintro⟨⟨⟨O,M,U⟩,B,w⟩,K⟩;let j:=(QQ c i).1 λd aO z r t=>(QP c _ _).1<|(w d aO).2.2 z r t;let D:∀b∈i,fx b.owner c=aD:=by{intro b h;obtain⟨d,aO,rfl⟩:=DM.1 h;have:=(w d aO).1;rw[By]at this;omega};refine⟨?_,X8 p C c (u.nodup_iff.2 j.1) (λn q o k=>j.2 n (g.1 q) o<|g.1 k) (λb h=>D b<|g.1 h) ⟨i[0],g.2<|ei O,M⟩ ?_⟩;{
 cases i with
 |nil=>grind
 |cons b A=>{unfold lO;let N:b.owner=c:=y7 U;let F:b.type=6:=M;let H:A.any (lJ 6)=ak:=by{rw[<-sY,ni];rintro⟨e,x,a⟩;obtain⟨d,aO,rfl⟩:=DM.1 x;refine(w (d+1)<|by grind).2.1 ⟨G,?_⟩;unfold lJ at a;grind};grind}};grind};{
 rintro⟨L,l⟩;let k:=QS p C c l;let Q:=u.nodup_iff.1 k.1;let R:=λn q o P=>k.2 n (g.2 q) o<|g.2 P;let j:=(QQ c i).2 ⟨Q,R⟩;let B:∃e∈i,e.owner=c/\e.type=2:=by{let e:=l.5;grind};let D:=λb h=>l.2 b<|g.2 h;cases i with
 |nil=>grind
 |cons b A=>{rw[lO,e9,e9,e9,pZ,iE,iE,wA,<-sY,ni]at L;let⟨K,⟨N,F⟩,H⟩:=L;refine⟨⟨⟨ax,F,by grind⟩,B,λd aO=>⟨?_,?_,λz r t=>(QP c _ _).2<|j d aO z r t⟩⟩,K⟩;{rw[By];grind};{rintro⟨W,V⟩;obtain⟨y,rfl⟩:∃y,d=y+1:=⟨d-1,G⟩;refine H ⟨A[y]'(by grind),ei _,?_⟩;grind[lJ]}}}
def fY(d:List aK)(c:ap)(b:Int):List aK:=d.filter λa=>a.owner==c&&a.type==b
def f_(b:List aK)(a:ap)(c:Int):List aK:=if c=255 then(List.range 17).flatMap λd:Nat=>fY b a (d:Int)else fY b a c
def oU(b:List aK):Prop:=∀a∈b,1<=a.type/\a.type<=16/\(80:UInt8)∉a.owner
def QZ{α:Type}(d)(k:me d)(a c):∀(b:List α),gP d b->(∀e∈b,a e=aD->a c=aD->d c e=ak)->dT a (eh d b [c])=dT a b++[c].filter a
 |[],_,_=>by simp
 |e::b,o,i=>by rw[D1];have j:=sI.1 o;split;{rename_i t;rw[D0];by_cases p:a c=aD;{have r:dT a (e::b)=[]:=by{rw[pU];intro h g n;have l:=i h g n p;rcases fw.1 g with rfl|q;{grind};{have:=k.2 _ _ _ l<|j.1 h q;grind}};grind};grind};{have u:=QZ d k a c b j.2 λh g=>i h<|l8 _ g;grind}
def Yf{α:Type}{b}(i:me b)(p:∀e,b e e=ak){c}(l:∀g e,c g=aD->c e=aD->b e g=ak){a:List α}:dT c (jz b a)=dT c a:=by
 let:∀(d:Nat) (a:List α),E a=d->dT c (jz b a)=dT c a:=by{
 intro d;induction d with
 |zero=>intro a h;obtain rfl:a=[]:=hq h;rfl
 |succ d o=>{
 intro a h;let n:a≠[]:=by grind
 let k:=Ib n;let j:E a.dropLast=d:=by grind
 rw[<-k,wY,QZ b i c _ _ (BC b i p _) λg _=>l g _,o _ j,qV]}};grind
def Jg:fY (ck i) d j=fY i d j:=by rw[fY,Eb];refine Yf tb yY λh g b c=>?_;simp only[e9,iE]at b c;rw[<-sY];intro e;rcases(w9 g h).1 e with a|⟨_,a⟩;{rw[b.1,c.1,Ea]at a;cases a};omega
def Jh:dT (λa=>a.type==j) (i.filter λa=>a.owner==d)=fY i d j:=by rw[fY,List.filter_filter];grind
def Yh(c:gP cR i){b}:gP cR (dT b i):=AR b c
section
variable {F:List aK} (hF:gP cR F) (hn:∀a∈F,∀b∈F,a.owner=b.owner)
include hF
theorem Fm{a}(e:a∈dg c8 F):(∀b∈a.2,b.type=l1 a)/\a.2≠[]/\(∀b∈a.2,b∈F):=by let⟨b,h,g,d⟩:=(xe hF).1 a e;let i:l1 a=b.type:=by{grind[l1]};refine⟨λs c=>?_,?_,λs c=>?_⟩;{rw[d]at c;let:=(kv<|(rR b s).1 (ig.1 c).2).2;omega};{grind};grind
theorem Fo(c):kZ c F=if c=255 then F else dT (λa=>a.type==c) F:=by
 let g:=AY c8 (E F) 0 F bo;unfold kZ mU;split;{rename_i h;rw[uP.2 (λb _=>by unfold kV;simp[h])];exact g};{
 rename_i h;let p:∀(d:List<|Nat×List aK),(∀b∈d,∀a∈b.2,a.type=l1 b)->ex (·.2) (dT (kV c) d)=dT (λa=>a.type==c) (ex (·.2) d):=by{
 intro d;induction d with
 |nil=>simp
 |cons b d o=>{intro i;let n:=o λq l=>i q<|l8 _ l;let j:=i b ax;rw[kj,qV,<-n];by_cases e:kV c b=aD;{rw[wD e,kj];congr 1;symm;rw[uP];intro a k;unfold kV at e;grind};{rw[yP fi];let:dT (λa=>a.type==c) b.2=[]:=by{rw[pU];intro a k r;refine e ?_;grind[kV]};grind}}};rw[p _ λb j=>(Fm hF j).1];exact eQ _ g}
theorem Yi(b):tw b F = !(kZ b F).isEmpty:=by
 let e:∀(a:List<|Nat×List aK),(∀c∈a,c.2≠[])->a.any (kV b) = !(ex (·.2)<|dT (kV b) a).isEmpty:=by{
 intro a;induction a with
 |nil=>simp
 |cons c a i=>{intro g;rw[List.any_cons];by_cases h:kV b c=aD;{simp_all};grind}};exact e _ λc d=>(Fm hF d).2.1
include hn in
theorem Q0(c):jb F c=dT (λa=>a.type==c) F:=by
 unfold jb;cases i:(dg c8 F).find? (λb=>l1 b==c)with
 |some b=>{
 let h:=Bf i;let:l1 b=c:=by grind
 let⟨a,e,n,d⟩:=(xe hF).1 b h;let g:a∈b.2:=by grind
 let j:=(Fm hF h).1 a g;show b.2=_;rw[d];refine List.filter_congr λp o=>?_;rw[pR,rR,iE,Dh];grind}
 |none=>{
 show []=_;symm;rw[pU];intro a e l;let⟨b,k,d⟩:=(xe hF).2 a e;let g:a∈b.2:=d▸ig.2 (bd e<|(rR a a).2 U)
 let j:=(Fm hF k).1 a g;grind}
include hn in
theorem Yj(m:Nat):dT (λc=>decide (c.type<(m:Int))) F++dT (λc=>c.type==(m:Int)) F=dT (λc=>decide (c.type<((m+1:Nat):Int))) F:=by
 let:∀(F:List aK),gP cR F->(∀a∈F,∀b∈F,a.owner=b.owner)->dT (λc=>decide (c.type<(m:Int))) F++dT (λc=>c.type==(m:Int)) F=dT (λc=>decide (c.type<((m+1:Nat):Int))) F:=by{
 intro F;induction F with
 |nil=>simp
 |cons a F j=>{
 intro hF hn;let g:=sI.1 hF;let i:=j g.2 λk h d e=>hn k (l8 _ h) d<|l8 _ e;by_cases l:a.type<(m:Int);{rw[wD<|by grind,yP<|by grind,wD<|by grind,fN,i]};{
 rw[yP<|by grind];let:dT (λc=>decide (c.type<(m:Int))) F=[]:=by{
 rw[pU];intro d e n;let:d.type<(m:Int):=by grind
 let:=(Ec<|g.1 d e).2<|hn d (l8 _ e) a ax;omega};grind}}};grind
include hn in
theorem Yk(m)(d:∀a∈F,0<=a.type):ex (λc:Nat=>dT (λa=>a.type==(c:Int)) F) (List.range m)=dT (λa=>decide (a.type<(m:Int))) F:=by
 induction m with
 |zero=>{simp_all}
 |succ m b=>{rw[yS,o3,b,<-Yj hF hn m];simp}
end
def uz:dF (ck i) d=dT (λc=>c.owner==d) (ck i):=Rf (w_ i) d
def Bt(d c):∀a∈dF (ck d) c,∀b∈dF (ck d) c,a.owner=b.owner:=λa e b g=>by
 rw[uz]at e g
 grind
def xg(a b):gP cR (dF (ck a) b):=uz▸Yh (w_ a)
def zG(b a c):jb (dF (ck b) a) c=fY b a c:=by rw[Q0 (xg b a)<|Bt b a,uz,Jh,Jg]
def Bu{a}(c:a∈dF (ck i) d):a∈i/\a.owner=d:=by rw[uz]at c;let:=ig.1 c;exact⟨(td i).mem_iff.1 this.1,by grind⟩
def Ji(b g)(e:oU i):kZ g (dF (ck i) b)=f_ i b g:=by rw[Fo<|xg i b];unfold f_;split;{have:=Yk (xg i b) (Bt i b) 17 λd c=>cd<|(e d (Bu c).1).1;rw[uP.2 (λd c=>by have:=(e d (Bu c).1).2;grind)]at this;rw[<-this];congr 1;funext k;rw[uz,Jh,Jg]};{rw[uz,Jh,Jg]}
def Q1(e:gP cR i)(k:∀b∈i,∀c∈i,b.owner=c.owner)(m):gP cR (b9 (gw m) i):=by rw[gP,List.pairwise_map];refine List.Pairwise.imp_of_mem (λ{b c} g a h=>?_) e;rw[<-sY];intro j;rcases(w9 _ _).1 j with d|⟨_,d⟩;{rw[show(gw m c).owner=m from U,show(gw m b).owner=m from U,Ea]at d;cases d};{exact(Ec h).2 (k c a b g) d}
def Yl(b:gP cR i)(g:∀d∈i,∀e∈i,d.owner=e.owner)(m c):kZ c (b9 (gw m) i)=b9 (gw m) (kZ c i):=by rw[Fo<|Q1 b g m,Fo b];split;{rfl};{rw[List.filter_map];rfl}
def Jj(a m c)(d:oU i):kZ c (b9 (gw m)<|dF (ck i) a)=b9 (gw m) (f_ i a c):=by rw[Yl (xg i a)<|Bt i a,Ji a c d]
def Ym(g:oU i):b9 (λe=>i[e]?.getD aK.zero) (lS i (cE d) j<|E i)=fY i d j:=by
 let:∀b,b<=E i->b9 (λe=>i[e]?.getD aK.zero) (lS i (cE d) j b)=fY (be b i) d j:=by{
 intro b;induction b with
 |zero=>intro _;rfl
 |succ b h=>{intro aO;rw[QU,jg,h G,g8 G];unfold fY;rw[qV];congr 1;let c:zE i (cE d) j b=(i[b].owner==d&&i[b].type==j):=by{rw[zE,fs G];show(decide (I 46 i[b].owner=cE d)&&_)=_;congr 1;rw[pR,Di,iE];exact dA (g _<|ei _).2.2};grind}};grind
def Q2(c:oU i)(e)(a:j<1\/16<j):fY i e j=[]:=by rw[fY,pU];intro g d h;let:=c g d;grind
def XO(c a)(e:oU i):b9 (λh=>i[h]?.getD aK.zero) (lp i (cE c) a 17)=f_ i c a:=by
 let k:∀m,b9 (λh=>i[h]?.getD aK.zero) (lp i (cE c) a m)=(List.range m).flatMap λd:Nat=>if a≠255/\a≠(d:Int)then []else fY i c (d:Int):=by{
 intro m;induction m with
 |zero=>rfl
 |succ m g=>{rw[lp,jg,g,yS,o3];congr 1;simp only[kj,A_,kW];split;{rfl};{split;{rename_i b;subst b;rw[Q2 e c<|bJ G];rfl};{exact Ym e}}}}
 rw[k];unfold f_;split;{simp_all};{
 rename_i b;let j:∀m:Nat,((List.range m).flatMap λd:Nat=>if a≠255/\a≠(d:Int)then []else fY i c (d:Int))=if 0<=a/\a<(m:Int)then fY i c a else []:=by{
 intro m;induction m with
 |zero=>grind
 |succ m g=>{rw[yS,o3,g];simp only[kj,A_,kW];grind}}
 rw[j];split;{rfl};{rename_i l;exact(Q2 e c G).symm}}
def XP{a:List Nat}:b9 (EH i d) a=b9 (gw d) (b9 (λc=>i[c]?.getD aK.zero) a):=by rw[lV];rfl
def XQ(b m c)(d:oU i):b9 (EH i m) (lp i (cE b) c 17)=b9 (gw m) (f_ i b c):=by rw[XP,XO b c d]
def Q3:b9 (gw d) (f_ i d j)=f_ i d j:=by
 have:∀c,b9 (gw d) (fY i d c)=fY i d c:=λc=>by{
 conv=>rhs;rw[<-wF (fY i d c)]
 refine nj λg e=>?_;have:=(ig.1 e).2;simp only[e9,iE]at this;rw[gw,<-this.1];rfl};unfold f_;split;{rw[List.map_flatMap];grind};grind
def Jk(h e)(c:oU i):i7 i (cE h) e = !(f_ i h e).isEmpty:=by
 rw[pR];let k:∀(d:List aK),(!d.isEmpty)=aD↔∃a,a∈d:=λd=>by cases d<;>simp
 rw[k];rw[i7,f_,fY,ni];constructor;{rintro⟨a,b,g⟩;rw[e9,Di,sZ]at g;let n:=(dA (c a b).2.2).1 g.1;refine⟨a,?_⟩;split;{rw[tI];have:=c a b;refine⟨a.type.toNat,by grind,ig.2 ⟨b,?_⟩⟩;grind};grind};{rintro⟨a,b⟩;split at b;{rename_i l;let⟨o,_,j⟩:=tI.1 b;have:=ig.1 j;simp only[e9,iE]at this;exact⟨a,this.1,by simp[l,(dA (c a this.1).2.2).2 this.2.1]⟩};{have:=ig.1 b;simp only[e9,iE]at this;exact⟨a,this.1,by simp[(dA (c a this.1).2.2).2 this.2.1,this.2.2]⟩}}
def gD(a:ap):Prop:=∀b∈I 46 a,b≠[]
def ia(b:ap)(a:Nat):ap:=jZ<|bi a<|I 46 b
def qM(c:List aK)(b:List ap):Nat->Option Nat
 |0=>af
 |a+1=>if i7 c (bi a b) 2 then ae a else qM c b a
def Q4:∀(c:Nat) (a:ap),c<E (I 46 a)->∃m,I 46 m=bi c (I 46 a)
 |0,a,_=>⟨a,U⟩
 |c+1,a,b=>by rcases m7 46 a with⟨_,d⟩|⟨h,e,_,_,d⟩;{rw[d]at b;simp at b};{rw[d]at b⊢;obtain⟨m,g⟩:=Q4 c e (by simpa using b);exact⟨m,by rw[g];rfl⟩}
def Q5(b:c<E (I 46 d)):I 46 (ia d c)=bi c (I 46 d):=by let⟨m,a⟩:=Q4 c d b;rw[ia,<-a,Cs]
def Fq{n:ap}{i:Nat}(a:i<E (I 46 n)):cE (ia n i)=bi i (cE n):=by unfold cE;rw[Q5 a,Bc]
def Q6:ia d 0=d:=by rw[ia,pW,Cs]
def Jm(b:gD d):d≠[]:=by rintro rfl;exact b [] bW U
def Q7:∀(f:Nat) (a:ap),E a<=f->gD a->dU a=b9 (ia a) (List.range<|E<|I 46 a)
 |0,a,e,d=>absurd (hq G)<|Jm d
 |f+1,a,e,d=>by
  rw[oB<|Jm d];rcases m7 46 a with⟨g,c⟩|⟨p,b,h,g,c⟩;{rw[xk g,o2,c];show _=[ia a 0];rw[Q6]};{
  have k:gD b:=λo n=>d o (by rw[c];exact l8 _ n);have l:E b<=f:=by rw[h]at e;simp at e;omega
  have j:iH a=b:=by rw[h];exact uX b g
  rw[j,Q7 f b l k,c,dW,Il,lU,lV,Q6];congr 1;refine nj λi _=>?_;show ia b i=ia a (i+1);unfold ia;rw[c];rfl}
def Q8(b:gD d):dU d=b9 (ia d) (List.range<|E<|I 46 d):=Q7 _ d bo b
def XX(a:gD d):dU (iH d)=b9 (λg=>ia d<|g+1) (List.range<|E (I 46 d)-1):=by have b:=Q8 a;rw[oB<|Jm a]at b;obtain⟨e,c⟩:∃e,E (I 46 d)=e+1:=⟨E (I 46 d)-1,cd<|uK d⟩;rw[c,Il,lU,lV]at b;rw[c];exact(A7 b).2
def Jn(c:fx d P=aD):E (I 46 P)<=E (I 46 d)/\bi (E (I 46 d)-E (I 46 P)) (I 46 d)=I 46 P:=by rw[<-By]at c;unfold lR at c;simpa using c
def wW(a:List aK)(c:ap):Nat->List aK
 |0=>[]
 |b+1=>nn a (wW a c b)<|ia c b
def QF(b:List aK)(c:ap):∀a,(b9 (ia c)<|List.range a).foldl (nn b) []=wW b c a
 |0=>U
 |a+1=>by rw[yS,jg,wE,QF b c a];rfl
def XY(c:List aK)(j:gD d)(b:fx d P=aD):fm P c d=wW c d (E (I 46 d)-E (I 46 P)):=by let:=(Jn b).1;let:=uK P;rw[fm,Q8 j];let i:E (I 46 d)-E (I 46 P)<E (I 46 d):=G;rw[I6 _ _ (E (I 46 d)-E (I 46 P)) P (by rw[sG,List.getElem?_range i];exact eQ ae<|by rw[ia,(Jn b).2,Cs]) ?_ ax,<-Ii,List.take_range,ro G,QF];rw[<-Ii,List.take_range,ro G,rX];intro n h;obtain⟨k,aO,rfl⟩:=kE.1 h;let:=DN.1 aO;let:ia d k≠P:=λg=>by{have e:=eQ (λl=>E<|I 46 l) g;rw[Q5 G,il]at e;omega};simpa using this
def QG:f_ i d 2=fY i d 2:=by rw[f_,bV bW]
def QH(c:List aK)(e:oU c)(b:ap):∀a,a<=E (I 46 b)->(qM c (cE b) a=af/\wW (ck c) b a=[])\/∃d,d<a/\qM c (cE b) a=ae d/\wW (ck c) b a=fY c (ia b d) 2/\fY c (ia b d) 2≠[]
 |0,_=>bJ ⟨U,U⟩
 |a+1,p=>by
  have o:=QH c e b a G;have n:i7 c (bi a<|cE b) 2 = !(fY c (ia b a) 2).isEmpty:=by{rw[<-Fq G,Jk _ 2 e,QG]};have l:wW (ck c) b (a+1)=if(fY c (ia b a) 2).length=0 then wW (ck c) b a else fY c (ia b a) 2:=by{show nn _ _ _=_;unfold nn;rw[zG]}
  rw[l];unfold qM;rw[n];cases g:fY c (ia b a) 2 with
  |nil=>{simp only[List.isEmpty_nil,Bool.not_true,DE,if_false,gG,mM];rcases o with h|⟨d,aO,i,j,k⟩;{exact bJ h};{exact bE ⟨d,G,i,j,k⟩}}
  |cons r q=>{refine bE ⟨a,G,ax,?_,?_⟩;{rw[g];simp};{rw[g];simp}}
def Fr(e:oU i)(g:gD d)(h:fx d P=aD):(qM i (cE d) (E (cE d)-E (I 46 P))=af/\fm P (ck i) d=[]) \/
  ∃c,c<E (cE d)-E (I 46 P)/\qM i (cE d) (E (cE d)-E (I 46 P))=ae c/\fm P (ck i) d=fY i (ia d c) 2/\fY i (ia d c) 2≠[]:=by rw[XY _ g h,rU];exact QH i e d _ G
def QI:∀a,(∀b,b<a->i7 i (bi b s) 2=ak)->qM i s a=af
 |0,_=>U
 |a+1,c=>by unfold qM;rw[c a G,bV ax];exact QI a λb g=>c b G
def QJ(aO:i7 i (bi c s) 2=aD):∀a,c<a->(∀d,c<d->d<a->i7 i (bi d s) 2=ak)->qM i s a=ae c
 |0,g,_=>absurd g G
 |a+1,g,h=>by unfold qM;by_cases b:c=a;{subst b;rw[aO,b8 U]};{rw[h a G G,bV ax];exact QJ aO a G λd j k=>h d j G}
def XZ{ay:Nat}(k:zH d i s c ay g e):(e=bX/\qM i s (E s-E (I 46 d))=af) \/
  ∃a,a+E (I 46 d)<E s/\qM i s (E s-E (I 46 d))=ae a/\e=bL c (ay+a) (E s-a) (g-a):=by rcases k with⟨v,b⟩|⟨a,v,b,l,n⟩;{exact .inl<|bd v<|QI _ λj p=>b j G};{exact bE ⟨a,v,QJ b _ G λj o q=>l j o G,n⟩}
def Jo(j:oU i)(l:ap):jI (ck i) l=p8 i (cE l):=by rw[pR];rw[jI,p8,r9,wA,<-sY,List.isEmpty_iff,pU,ni];constructor;{intro n;refine yO λg=>n λa h d=>g ?_;let⟨c,b,_,e⟩:=(uJ<|w_ i).1 a h;rw[uI b e]at d;exact⟨c,(td i).mem_iff.1 b,by rw[Jf (j c<|(td i).mem_iff.1 b).2.2];exact d⟩};{rintro⟨c,b,d⟩ g;let k:=(td i).mem_iff.2 b;let⟨a,h,e⟩:=(uJ<|w_ i).2 c k;refine g a h ?_;rw[uI k e,<-Jf (j c b).2.2];exact d}
def QK(c:oU i)(a:ap):dF (ck i) a=f_ i a 255:=by rw[<-Ji a 255 c,Fo<|xg i a,b8 U]
def X0(c:oU i)(a:ap):i7 i (cE a) 255=decide (0<E (dF (ck i) a)):=by rw[Jk a 255 c,QK c];cases f_ i a 255<;>simp
def QL(b:List aK)(d:oU b)(n:ap):∀(f a:Nat),a+f=E (I 46 n)->((b9 (λi=>ia n<|a+i)<|List.range f).find? (jI<|ck b)=af/\pq b (cE n) a f=af) \/
  ∃c,(b9 (λi=>ia n<|a+i)<|List.range f).find? (jI<|ck b)=ae c/\pq b (cE n) a f=if 0<E (dF (ck b) (42::46::c)) then ae (cE (42::46::c))else af
 |0,a,_=>bJ ⟨U,U⟩
 |f+1,a,l=>by
  have k:=QL b d n f (a+1) G;have j:=Fq (n:=n) (i:=a) G;rw[Il,lU,lV,Id,h8];unfold pq;rw[<-j,<-Jo d];by_cases e:jI (ck b) (ia n a)=aD;{rw[e];refine bE ⟨ia n a,U,?_⟩;rw[b8 U,<-Ye,X0 d];simp};{
  have g:jI (ck b) (ia n a)=ak:=by simpa using e
  rw[g,bV ax];have h:(λi=>ia n<|a+i) ∘ Nat.succ=λi=>ia n (a+1+i):=by{funext i;show ia n (a+(i+1))=_;rw[show a+(i+1)=a+1+i by omega]};rw[h];exact k}
def X1(c:∀b∈i,b.owner=d):b9 (gw d) i=i:=by
 conv=>rhs;rw[<-wF i]
 refine nj λb e=>?_;rw[gw,<-c b e];rfl
def Jp(h:oU i)(k:gD d):(oo i (cE d)=af/\(d3 (ck i) d).2=ak) \/
  ∃s,oo i (cE d)=ae (cE s)/\(d3 (ck i) d).2=aD/\(d3 (ck i) d).1=b9 (gw d) (dF (ck i) s):=by
 rw[oo,d3,<-Jo h];by_cases b:jI (ck i) d=aD;{rw[b8 b,b8 b];exact bE ⟨d,U,U,b5<|X1 λn l=>(Bu l).2⟩};{
 rw[bV b,bV b,XX k,rU];have c:=QL i h d (E (I 46 d)-1) 1<|cd<|uK d;let j:(λe=>ia d<|e+1)=λe=>ia d (1+e):=by funext e;rw[Nat.add_comm]
 rw[j];rcases c with⟨c,g⟩|⟨a,c,g⟩;{rw[c,g];exact bJ<|bd U U};{rw[c,g];by_cases hl:0<E (dF (ck i) (42::46::a));{rw[b8 hl];exact bE ⟨_,U,EV,U⟩};{rw[bV hl];exact bJ<|bd U<|EV}}}
structure zJ(r:aK):Prop where
 Al:jh r.owner=true
 aP:r.aP<=86400
 dat:et r.type (I 32 r.data)=true
 len:r.data.length<=3000
structure hW(o:ap)(rs:List aK):Prop where
 org:eL o=true
 recs:∀r∈rs,zJ r
 Zn:lO o rs=true
 aCY:ln o (ck rs)=true
def QM:∀(d:ap) (b:Nat),mh b d=Lib.decFrom b d
 |[],b=>U
 |a::g,b=>by
  unfold mh Lib.decFrom Lib.digitVal;by_cases e:48<=a.toNat/\a.toNat<=57;{
  have c:pF a.toNat=aD:=by unfold pF;grind
  rw[b8 c,b8 e,QM g,wI]};{
  have c:¬pF a.toNat=aD:=by unfold pF;grind
  grind}
def QN(c:ft 86400 d=aD):E d<=10/\Lib.atoi d=ae (jF 86400 d:Int)/\jF 86400 d<=86400:=by
 let l:=c;rw[Ej 86400 G]at c;cases b:pD d with
 |none=>grind
 |some v=>{
 rw[b]at c;let e:v<=86400:=by grind
 rw[IQ 86400 G d v b e];unfold pD at b;split at b;{
 rename_i i;refine⟨i.2.1,?_,e⟩;cases d with
 |nil=>grind
 |cons a g=>{
 have s:pF a.toNat=aD:=by{refine yO λs=>?_;unfold mh at b;grind};let n:48<=a.toNat/\a.toNat<=57:=by unfold pF at s;grind
 let j:(a==45)=ak:=by rw[ju];rintro rfl;grind
 let k:(a==43)=ak:=by rw[ju];rintro rfl;grind
 let h:Lib.atoi (a::g)=(Lib.decNat (a::g)).map (λm:Nat=>(m:Int)):=by{grind[Lib.atoi]};rw[h];rw[Lib.decNat,bV ax,<-QM,b];rfl}};grind}
def I8:(D d).1[c]! = d[c]?.getD default:=by show d.toArray[c]! = _;simp
def X4{b}(g:(32:UInt8)∉b):ib (Q++32::b)=b:=by
 let:Lib.lastIndexByte (D (Q++32::b)) 32=(E Q:Int):=by{
 unfold Lib.lastIndexByte;let k:(D (Q++32::b)).size=E Q+1+E b:=by rw[cV];grind
 let j:(((D (Q++32::b)).1[E Q]!).toNat:Int)=32:=by rw[I8];simp
 rcases Lib.lastIdx_spec (D (Q++32::b)) 32 (D (Q++32::b)).size with⟨_,d⟩|⟨c,h,d,e,i⟩;{grind};{rw[d];rcases Nat.lt_trichotomy c (E Q) with aO|aO|aO;{grind};{rw[aO]};{exfalso;rw[I8,pv G,show c-E Q=(c-E Q-1)+1 by omega,List.getElem?_cons_succ,fs G]at e;let:b[c-E Q-1]' G∈b:=ei _;let:b[c-E Q-1]' G=32:=by{apply wK.1;grind};grind}}};unfold ib;simp_all
def XF(g:(32:UInt8)∉d):ib d=d:=by let e:Lib.lastIndexByte (D d) 32 = -1:=by{rcases Lib.lastIdx_spec (D d) 32 (D d).size with⟨b,_⟩|⟨c,b,h,a,i⟩;{exact b};{exfalso;rw[cV]at b;rw[I8,fs b]at a;let:d[c]∈d:=ei _;let:d[c]=32:=by{apply wK.1;grind};grind}};unfold ib;simp_all
theorem Q9(a):∀(f:Nat) (s:ap),E s<=f->∀c∈I a s,a∉c
 |f,s,j,c,b=>by
  rcases m7 a s with⟨g,e⟩|⟨h,d,i,g,e⟩;{grind};{
  rw[e]at b;rcases fw.1 b with rfl|b;{exact g};{
  have k:E d<f:=by grind
  exact Q9 a (f-1) d G c b}}
termination_by f=>f
decreasing_by omega
def I9(ci)(e:I 32 d=ci++[P]):ib d=P:=by
 let c:=Q9 32 (E d) d bo P (by grind);have b:=uG 32 d;rw[e]at b;cases ci with
 |nil=>rw[<-b];exact XF c
 |cons h g=>{rw[Jq 32 P (h::g) ax]at b;rw[<-b];exact X4 c}
def uB{ci}(b:et j ci=aD):j=1\/j=2\/j=5\/j=6\/j=15\/j=16:=by unfold et at b;grind
def XG{ci}(e:et 6 ci=aD):∃b c d a,ci=[b,c,d,a]/\ft 86400 a=aD:=by unfold et at e;grind
def Ru{ci}(d:j=2\/j=5)(c:et j ci=aD):∃b,ci=[b]/\eL b=aD:=by unfold et at c;grind
def XH{ci}(c:et 15 ci=aD):∃b a,ci=[b,a]/\eL a=aD:=by unfold et at c;grind
def rJ(c:I 32 d=[P]):d=P:=by have:=uG 32 d;rw[c]at this;exact b5 this
def XI{c}(j:zJ c)(b:c.type=2\/c.type=15):∃ci h,I 32 c.data=ci++[h]/\ib c.data=h/\eL h=aD:=by have e:=j.3;rcases b with b|b;{rw[b]at e;let⟨d,a,g⟩:=Ru (bJ U) e;exact⟨[],d,a,I9 [] a,g⟩};{rw[b]at e;let⟨d,i,a,g⟩:=XH e;exact⟨[d],i,a,I9 [d] a,g⟩}
def Rv(a:(hO t d).isSome=aD):gD d/\E d<=60:=by
 unfold hO at a;split at a;{
 rename_i i;refine⟨λe c=>?_,i.1⟩;let l:∀(b:List ap) (g:Nat),k9 t g b=aD->∀e∈b,e≠[]:=by{
 intro b;induction b with
 |nil=>simp
 |cons j b k=>{intro g a e c;rw[k9,e9]at a;rcases fw.1 c with rfl|c;{rintro rfl;have:=a.1;unfold qR kr at this;grind};grind}};grind};grind
def Rx{star}(a:(hO star d).isSome=aD):(80:UInt8)∉d:=by
 intro i;unfold hO at a;split at a;{
 rename_i n;let p:∀(b:List ap) (e:Nat),k9 star e b=aD->∀g∈b,(80:UInt8)∉g:=by{
 intro b;induction b with
 |nil=>simp
 |cons j b o=>{intro e a g c;rw[k9,e9]at a;rcases fw.1 c with rfl|c;{intro h;have:=a.1;rw[qR,sZ]at this;rcases this with this|this;{rw[kr,e9,rX]at this;exact absurd (this.2 80 h) bW};grind};grind}};rcases Je _ d 80 bo i with a|⟨b,k,l⟩;{grind};grind};grind
def CN(b:eL d=aD):(80:UInt8)∉d:=Rx (star:=ak) (by rw[rp];exact b)
def CP(b:jh d=aD):(80:UInt8)∉d:=Rx (star:=aD) (by rw[Bx];exact b)
def hC(b:eL d=aD):gD d/\E d<=60:=Rv (by rw[rp];exact b)
def ul(b:jh d=aD):gD d/\E d<=60:=Rv (by rw[Bx];exact b)
theorem Hn(h:φ:=by have:=hz.3;unfold lO at this;grind):φ:=h
section
variable {o:ap}{rs:List aK} (hz:hW o rs)
include hz
theorem pr:oU rs:=λb a=>by have:=uB (hz.2 b a).3;exact⟨G,G,CP (hz.2 b a).1⟩
theorem Fs:tH o rs:=by refine⟨cd<|(hC hz.1).2,?_,λb a=>cd<|(ul (hz.2 b a).1).2⟩;exact Hn
theorem vT:E rs<=60:=by exact Hn
theorem qK:0<E rs:=by exact Hn
theorem Ry:E (fY rs d j)<=60:=cJ (sH _ _)<|vT hz
theorem XJ:fY rs o 6=[rs[0]'(qK hz)]/\(rs[0]'(qK hz)).type=6/\(rs[0]'(qK hz)).owner=o:=by
 have a:=hz.3;unfold lO at a;cases rs with
 |nil=>grind
 |cons c j=>{simp only[e9,pZ,iE,wA]at a;let⟨_,⟨d,e⟩,b⟩:=a;refine⟨?_,e,d⟩;rw[fY,wD<|by grind];show c::_=[c];congr 1;rw[pU];intro i h g;simp only[e9,iE]at g;rw[<-sY]at b;exact b<|ni.2 ⟨i,h,by unfold lJ;grind⟩}
theorem Ft:∃c d e a,I 32 (rs[0]'(qK hz)).data=[c,d,e,a]/\ft 86400 a=aD/\E a<=1000000/\jw o (ck rs)=[zI (rs[0]'(qK hz)) a]/\(∀b∈jb (dF (ck rs) o) 6,xm b/\E b.data<=3000/\b.aP<=1000000000):=by
 let⟨j,l,n⟩:=XJ hz;let g:=hz.2 _<|ei<|qK hz;have h:=g.3;rw[l]at h;let⟨c,d,e,a,i,k⟩:=XG h;have:=QN k;have:=I9 [c,d,e] i;refine⟨c,d,e,a,i,k,G,?_,?_⟩;{rw[jw,zG,j];show [r_ _]=_;grind[r_,IC,zI]};{
 rw[zG,j];intro b p;have:b=rs[0]'(qK hz):=by grind
 subst this;refine⟨⟨by grind,jF 86400 a,by grind,G⟩,g.4,cd g.2⟩}
theorem XK{a}(b:a∈dF (ck rs) d)(t:a.type=5):dF (ck rs) d=[a]:=by
 have l:=λa b=>(hz.2 a<|(td rs).mem_iff.1 b).1;have j:=(QR (w_ rs) o).1 hz.4;let⟨q,h⟩:=QS (w_ rs) l o j;rw[uz]at b⊢;have s:∀c∈dT (λa=>a.owner==d) (ck rs),c=a:=λc n=>by{refine yO λi=>?_;have p:=ig.1 n;have k:=ig.1 b;have:=(h c p.1 a k.1 i).2.1 (by grind);omega};have e:(dT (λa=>a.owner==d)<|ck rs).Nodup:=AR _ q;generalize dT (λa=>a.owner==d) (ck rs)=g at*;match g,b,s,e with
 |[],b,_,_=>cases b
 |[c],_,s,_=>grind
 |c::r::u,_,s,e=>{let:=s c ax;let:=s r ax;grind}
theorem I_(s b):i7 rs (cE s) 5=oM (b9 (gw b)<|dF (ck rs) s)/\(i7 rs (cE s) 5=aD->∃a,a.type=5/\a∈rs/\dF (ck rs) s=[a]/\f_ rs s 5=[a]):=by
 let l:f_ rs s 5=fY rs s 5:=dl;rw[Jk s 5<|pr hz,l];have d:=zG rs s 5;rw[Q0 (xg rs s)<|Bt rs s]at d;cases i:fY rs s 5 with
 |nil=>{
 refine⟨?_,λo=>by grind⟩;rw[i,pU]at d;cases p:dF (ck rs) s with
 |nil=>rfl
 |cons c e=>{let:=d c (by grind);show ak=(E (List.map (gw b) (c::e))==1&&(gw b c).type==5);let:((gw b c).type==5)=ak:=by{show(c.type==5)=ak;grind};grind}}
 |cons a e=>{
 rw[i]at d;let n:a∈dT (λa=>a.type==5) (dF (ck rs) s):=by grind
 let⟨j,q⟩:=ig.1 n;let g:a.type=5:=by grind
 let h:=XK hz j g;let k:a::e=[a]:=by grind
 refine⟨?_,λ_=>⟨a,g,(Bu j).1,h,k⟩⟩;rw[h];show aD=((1:Nat)==1&&(gw b a).type==5);let:((gw b a).type==5)=aD:=fi
 grind}
end
def iI(d:aQ)(e:Nat->Prop)(v:bk)(b:List ap):Prop:=∃a ay c,v=bL a ay (E b) c/\E b<=c/\gR d a ay b/\¬e a
def rk(a:bk×bk×aK):List bk:=[a.1,M a.2.2.aP,M a.2.2.type,aS a.2.2.data,a.2.1]
def ek(e:Nat->Prop)(d:aQ)(g:Nat)(v:bk)(h:List aK):Prop:=
 ∃b:List<|bk×bk×aK,b9 (·.2.2) b=h/\d.ownsRow g 98 5 v (E b) (ex rk b) /\
  ∀c∈b,iI d (λa=>e a\/ae a=bA v) c.1 (cE c.2.2.owner)/\iI d (λa=>e a\/ae a=bA v) c.2.1 (I 32 c.2.2.data)
def XL(a:aQ)(h:Nat->Prop)(b c:Nat)(d:aK):Prop:=∃g e,aA a (N b c)=ae g/\aA a (N b<|c+1)=ae (M d.aP)/\aA a (N b<|c+2)=ae (M d.type)/\aA a (N b<|c+3)=ae (aS d.data)/\aA a (N b<|c+4)=ae e/\iI a h g (cE d.owner)/\iI a h e (I 32 d.data)
def fC(h:aQ)(b:Nat)(c:Int)(a:Bool)(d g e:bk):Prop:=h.1[b]? = ae (aZ #[ag ai c,aG a,d,g,e] 102)
section
theorem Cw(h:φ:=by unfold fC at*;exact EX):φ:=h
section
variable {w w':World} {ab:Nat} {rc:Int} {aa:Bool}{va vu vd:Value} (h:fC w ab rc aa va vu vd)
include h
theorem fC.lt:ab<J w.1:=(dK.1 h).1
theorem fC.cells:aA w (N ab 0)=ae (M rc)/\aA w (N ab 1)=ae (aG aa)/\aA w (N ab 2)=ae va/\aA w (N ab 3)=ae vu/\aA w (N ab 4)=ae vd:=by unfold fC at h;exact Hk
theorem fC.frozen(a):w.frozen? (N ab a)=ak:=by unfold fC at h;exact qE
theorem fC.kept(a:w'.1[ab]? = w.1[ab]?):fC w' ab rc aa va vu vd:=cQ a h
theorem fC.set0(a):fC (a7 w ⟨ab,0,af⟩<|ag ai a) ab a aa va vu vd:=by exact Cw
theorem fC.set1(a):fC (a7 w ⟨ab,1,af⟩<|aG a) ab rc a va vu vd:=by exact Cw
theorem fC.set2(a):fC (a7 w ⟨ab,2,af⟩ a) ab rc aa a vu vd:=by exact Cw
theorem fC.lM(a):fC (a7 w ⟨ab,3,af⟩ a) ab rc aa va a vd:=by exact Cw
theorem fC.o6(a):fC (a7 w ⟨ab,4,af⟩ a) ab rc aa va vu a:=by exact Cw
end
def gR.fr{p B ay}(h:gR f c ay s)(e:co p f B)(j:p c):gR B c ay s:=
 ⟨eA h.1 e.4,λg i=>(dR (a:=⟨c,ay+g,af⟩) (e.5 c h.1 j)).trans (h.2 g i)⟩
def iI.nm(a:iI f A e s):fG f e s:=by let⟨d,ay,c,g,h,i,_⟩:=a;exact⟨d,ay,c,g,h,i⟩
def iI.fr{p B}(i:iI f A e s)(n:co p f B)(o:∀g,¬A g->p g):iI B A e s:=by let⟨c,ay,h,j,k,l,d⟩:=i;exact⟨c,ay,h,j,k,l.fr n<|o c d,d⟩
def iI.imp{y}(i:iI f A e s)(n:∀b,b<J f.1->¬A b->¬y b):iI f y e s:=by let⟨c,ay,h,j,k,d,l⟩:=i;exact⟨c,ay,h,j,k,d,n c d.1 l⟩
def ek.nil(d b a):ek d b a (bX) []:=⟨[],U,ih b a _ 5,λe c=>by cases c⟩
section
variable {x:Nat->Prop} {w:World} {base:Nat} {v:Value}{l:List aK} (h:ek x w base v l)
include h
theorem ek.slice:∃a b,v=aE a (E l) b:=by obtain⟨i,rfl,c,_⟩:=h;rw[ff];rcases c.2 with⟨rfl,g⟩|⟨e,d,_,rfl,_⟩;{grind};simp
theorem ek.lt:∀a,bA v=ae a->base<=a/\a<J w.1:=by let⟨c,_,b,_⟩:=h;exact fS b
theorem ek.fr{p}(c:co p w f)(r:∀a,a<J w.1->¬x a->ae a≠bA v->p a)(C:∀a,bA v=ae a->p a):ek x f base v l:=by let⟨D,A,n,o⟩:=h;let q:co (λa=>a<J w.1->p a) w f:=⟨c.1,c.2,c.3,c.4,λa b d=>c.5 a b<|d b⟩;refine⟨D,A,bd n.1 ?_,λu t=>⟨(o u t).1.fr q λa b d=>r a d (λi=>b<|bJ i) λg=>b<|bE g,(o u t).2.fr q λa b d=>r a d (λi=>b<|bJ i) λg=>b<|bE g⟩⟩;rcases n.2 with F|⟨e,y,z,rfl,B,k,rest⟩;{grind};{exact bE ⟨e,y,z,U,B,(c.5 e (dK.1 k).1<|C e U).trans k,rest⟩}
theorem ek.below(b:a6 w f):ek x f base v l:=h.fr (p:=λ_=>True) (co.zY b) (λ_ _ _ _=>cy) λ_ _=>cy
theorem ek.set{a}(c)(j:x a.1)(i:a.1<base):ek x (a7 w a c) base v l:=
 h.fr (p:=λb=>b≠a.1) (co.j9 c λ_ h=>h) (λb _ e _ d=>e<|by grind) (λb g d=>by have:=(h.lt b g).1;omega)
theorem ek.imp{y}(o:∀a,a<J w.1->¬x a->ae a≠bA v->¬y a):ek y w base v l:=by let⟨i,e,g,b⟩:=h;let aO:∀a,a<J w.1->¬(x a\/ae a=bA v)->¬(y a\/ae a=bA v):=λa k n j=>by{grind};exact⟨i,e,g,λd c=>⟨(b d c).1.imp aO,(b d c).2.imp aO⟩⟩
theorem ek.TX:(v=bX/\l=[])\/∃c j,v=bL c 0 (E l) j/\base<=c/\E l<=j/\∀a (d:a<E l),XL w (λa=>x a\/ae a=bA v) c (a*5) l[a]:=by
 obtain⟨i,rfl,o,p⟩:=h;rcases o.2 with⟨r,k⟩|⟨c,j,z,r,q,y,A,_,B,t⟩;{grind};{
 refine bE ⟨c,j,by grind,q,by grind,λa d=>?_⟩;rw[ff]at d;let n:∀(e:List<|bk×bk×aK) (a b:Nat) (d:a<E e),b<5->(ex rk e)[a*5+b]? = (rk e[a])[b]?:=by{
 intro e;induction e with
 |nil=>simp
 |cons u e C=>{intro a b d aO;let:E (rk u)=5:=U;grind}};let g:∀b,b<5->aA w (N c<|a*5+b)=(rk i[a])[b]?:=by{intro b aO;rw[<-n i a b d aO,<-t,qA G];grind[aA]};let k:=p i[a]<|ei d;rw[pH];exact⟨i[a].1,i[a].2.1,g 0 G,g 1 G,g 2 G,g 3 G,g 4 G,k.1,k.2⟩}
theorem ek.recs(d:∀u∈l,(80:UInt8)∉u.owner):(v=bX/\l=[])\/∃a b,v=bL a 0 (E l) b/\base<=a/\E l<=b/\tm w a 0 l:=by rcases h.TX with h|⟨a,b,k,n,o,p⟩;{grind};{refine .inr ⟨a,b,k,n,o,λq c=>?_⟩;let⟨x,j,e,bG,g,i,cB,r,t⟩:=p q c;rw[fM];exact⟨x,j,e,bG,g,i,cB,(rn<|d _<|ei c)▸r.nm,t.nm⟩}
end
end
def XN{ay}{q:List Nat}(Q:tm u g ay i)(o:a6 u f)(y:a6 f m)(O:∀t,t<J u.1->¬A t)(G:c<=J f.1)(D:∀a∈q,a<E i)(M:iI f A e<|cE d)(v:m.ownsRow (J f.1) 98 5 C (E q)<|ex (uy f g ay e i) q):ek A m c C (b9 (EH i d) q):=by
 refine⟨q.map λa=>(e,y9 f g ay a,EH i d a),ax,?_,?_⟩;{rw[ff,List.flatMap_map];exact wT v G};{
 intro Z P;obtain⟨a,L,rfl⟩:=kE.1 P;let z:∀t,t<J f.1->ae t≠bA C:=λt S F=>cd<|(fS v t<|b5 F).1
 let:=o.4;refine bd ?_ ?_;{let⟨h,r,k,l,n,x,K⟩:=M;exact⟨h,r,k,l,n,x.below y,λp=>p.elim K<|z h x.1⟩};{
 let B:=D a L;let⟨Y,H,T,U,V,W,j,X,R⟩:=Q a B;let:=(o.cell<|g_ _ _ j).trans j;let N:y9 f g ay a=H:=by grind[y9]
 show iI m _ (y9 f g ay a) (I 32 (i[a]?.getD aK.zero).data);rw[N,fs B];let⟨h,r,k,l,n,x⟩:=R;exact⟨h,r,k,l,n,(x.below o).below y,λp=>p.elim (O h x.1)<|z h<|cd x.1⟩}}
def AQ(aq:ek A f n e i)(ar:ek Y f c C p)(a0:∀a,a<J f.1->(A a\/ae a=bA e)->Y a)(ad:n<=J f.1)(al:E i+E p<=100000)(aI:∀a,A a->a<J f.1):∃h k,(Builtin.append_ #[94,94] 94 #[e,C]).run aL f=.ok h k/\ek A k n h (i++p)/\f.grownBy k (bA e)/\(bA h=bA e\/bA h=ae (J f.1)):=by
 let⟨H,aO,au,av,aw⟩:=im Jd;obtain⟨t,rfl,u,O⟩:=aq;obtain⟨d,rfl,T,V⟩:=ar;let M:∀(g:List<|bk×bk×aK),(∀b∈g,b.1.oneCell'=aD/\b.2.1.oneCell'=aD)->∀K∈ex rk g,K.oneCell'=aD:=by{intro g S K w;let⟨b,j,w⟩:=tI.1 w;have:=S b j;simp only[rk,fw,List.not_mem_nil,n_]at w;rcases w with rfl|rfl|rfl|rfl|rfl;{grind};{rfl};{rfl};{rfl};grind};let Q:∀(g:List<|bk×bk×aK),E (ex rk g)=E g*5:=by{
 intro g;induction g with
 |nil=>rfl
 |cons b g ay=>rw[kj,dj,ay,dW];show 5+_=_;omega};rw[ff,ff]at al;rcases T.2 with⟨rfl,aa⟩|⟨D,x,aM,rfl,aU,aJ,aR,aW,aY,az⟩;{have:d=[]:=hq aa;subst this;refine⟨e,f,run_append_owned_none (P:=aL) (w:=f) n 94 94 98 H 5 EG aO e _ _ u,?_,⟨U,U,U,cO _,λ_ _ _=>U⟩,bJ U⟩;rw[sv,kW];exact⟨t,U,u,O⟩};{let aH:∀r K,(ex rk d)[r]? = ae K->aA f (((N D 0):Addr).add r)=ae K:=by{intro r K aj;rw[yl,fM];let aF:r<E d*5:=by{grind};rw[<-az,qA aF]at aj;grind[aA]};let R:∀b∈d,b.1.oneCell'=aD/\b.2.1.oneCell'=aD:=by{intro b j;let⟨⟨_,_,_,y,_⟩,⟨_,_,_,z,_⟩⟩:=V b j;rw[y,z];exact bd U U};let⟨h,k,ab,aT,F,_,ac⟩:=run_append_own_at (P:=aL) f n 94 94 98 H _ 5 80 EG aO au av aw U G e (E t) (ex rk t) u (N D 0) (E d) x (ex rk d) (Q d) aH (M d R) up G ad;refine⟨h,k,ab,⟨t++d,ax,by grind,?_⟩,F,ac⟩;let ah:=co.Yg F λ_ Z=>Z;let an:∀a,a<J f.1->ae a≠bA e->ae a≠bA h:=λa aV aX aP=>by{grind};let aS:∀(b:Nat->Prop) (K:bk) (B:List ap),(∀a,a<J f.1->A a\/ae a=bA e->b a)->iI f b K B->iI k (λa=>A a\/ae a=bA h) K B:=by{intro b K B j w;let⟨q,aC,X,y,z,L,W⟩:=w;let aB:=λo=>W<|j q L.1<|bJ o;let I:=λo=>W<|j q L.1<|bE o;exact⟨q,aC,X,y,z,L.fr ah I,λo=>o.elim aB<|an q L.1 I⟩};grind}
def zK(a:hW d i)(s b):E (f_ i s b)<=60:=by by_cases c:b=255;{subst c;rw[<-QK (pr a),uz];let:=(td i).length_eq;exact cJ (sH _ _)<|this▸vT a};{rw[f_,bV c];exact Ry a}
def Rz(h:hW d i){a}(g:a∈i)(e:a.type=5):I 32 a.data=[a.data]/\eL a.data=aD:=by have b:=(h.2 a g).3;rw[e]at b;let⟨j,c,k⟩:=Ru (bE U) b;let:=rJ c;grind
section
variable {zb:Nat} {o:ap} {rs:List aK}{w0 W:World} (hz:lu w0 zb o rs) (aY:hW o rs) (hb:a6 w0 W) {x:Nat->Prop} (hx:∀k,k<w0.heap.size->¬ x k) {base:Nat} (eC:base<=W.heap.size)
include hz aY hb hx eC
theorem Ja(a)(p:fG W e<|cE d)(o:E (cE d)<=1000)(h:iI W x C<|cE P):a_ aL 207 #[bv zb,e,M a,C] W λc b=>(∃v,c=bh v/\ek x b base v (b9 (gw P)<|f_ rs d a))/\a6 W b:=by let⟨B,u,ay,y,i,m,t,j⟩:=hz;let r:=(hb.5 zb (dK.1 i).1).trans i;have k:=h;obtain⟨z,A,w,rfl,_⟩:=k;refine(X_ r t (j.below hb) (Fs aY) p o).mono ?_;rintro c b ⟨⟨v,rfl,n⟩,g⟩;refine bd (⟨v,U,?_⟩) g;rw[<-XQ d P a (pr aY)];exact XN j hb g hx eC (λq l=>QX rs _ a 17 q l) h n
theorem NW:a_ aL 209 #[bv zb] W λh g=>(∃v,h=bh v/\ek x g base v (jw o<|ck rs))/\a6 W g:=by
 let⟨al,ab,ay,ad,t,an,X,u⟩:=hz;let V:=(hb.5 zb (dK.1 t).1).trans t;let⟨Y,Z,aa,z,K,L,M,O,_⟩:=Ft aY;refine(X2 o V X (u.below hb) (qK aY) M L K).mono ?_;rintro h g ⟨⟨c,p,lr,rfl,aj,P,ac,cB⟩,b⟩;refine bd (⟨_,U,?_⟩) b;rw[O];let⟨w,y,d,_,_,_,e,n,S⟩:=u 0<|qK aY;rw[o7,h8]at d e;have B:p=w:=by{let:=(hb.cell<|g_ _ _ d).trans d;grind};have F:lr=y:=by{let:=(hb.cell<|g_ _ _ e).trans e;grind};subst B F;let:=hb.4;refine⟨[(p,lr,zI (rs[0]'(qK aY)) z)],U,bd U<|bE ⟨c,1,_,U,G,P,cO _,lN,U,U⟩,?_⟩;intro T hy;obtain rfl:T=_:=EY
 let l:∀k,k<J w0.1->¬(x k\/ae k=bA (aE (ae<|N c 0) 1 1)):=λk ah a=>by{
 rcases a with a|a;{grind};{
 let:k=c:=by simpa [bA]using a
 omega}};rw[<-rn (pr aY _<|ei<|qK aY).2.2]at n;let⟨i,Q,bG,C,H,q⟩:=n;let⟨j,R,A,D,I,r⟩:=S;exact⟨⟨i,Q,bG,C,H,(q.below hb).below b,l i q.1⟩,⟨j,R,A,D,I,(r.below hb).below b,l j r.1⟩⟩
end
def lq(a:aK):Bool:=a.type==2||a.type==15
def nX(d c:List aK)(s:List ap×List aK)(a:aK):List ap×List aK:=
 if lq a then(if s.1.contains (ib a.data)then s else(s.1++[ib a.data],if c.any (λb=>b.owner==ib a.data&&b.type==1)then s.2 else s.2++fY d (ib a.data) 1))else s
def jX(c a b:List aK):List ap×List aK:=b.foldl (nX c a) ([],[])
def sy(i:Nat->Prop)(g:aQ)(h:Nat)(v:bk)(b:List ap):Prop:=
 ∃e:List bk,g.ownsRow h 92 1 v (E b) e/\∀a (j:a<E b),∃d,e[a]? = ae d/\iI g (λc=>i c\/ae c=bA v) d (cE b[a])
structure pt(X:Nat->Prop)(w wr:World)(ab:Nat)(rc:Int)(aa:Bool)(va vu vd vs:Value)(seen:List ap)(add:List aK):Prop where
 an:fC wr ab rc aa va vu vd
 fr:co (λk=>k≠ab) w wr
 sn:sy (λk=>X k\/some k=vd.ownBlock) wr w.heap.size vs seen
 ad:ek (λk=>X k\/some k=vs.ownBlock) wr w.heap.size vd add
 ne:∀k,vs.ownBlock=some k->vd.ownBlock≠some k
 lt:ab<w.heap.size
 Ql:X ab
 xl:∀k,X k->k<=ab
def YB:aL.underlying 310=ae (.slice 92):=b6
def YC:(aL.info? 92).map (λa=>(a.8,a.3,a.4))=ae (ae<|bX,1,24):=b6
def GQ{k}{b:Oper}{a d l}(s j)(o:b.2=.call {callee:=.builtin .append,args:=#[s,j],argTypes:=#[z,z]}){g}(q:a.eval s=e)(r:a.eval j=C)(p:(Builtin.append_ #[z,z] b.3 #[e,C]).run k f=.ok g m)(n:d (a.put b.1 g) m):b.wp k a f d l:=by simp only[Oper.wp,execOp,o,resolve,invoke,builtin,Sem.run_bind,AV,wB,Bd,lU,sv,q,r,p];exact n
section
variable {x:Nat->Prop} {w:World} {base:Nat} {v:Value}{l:List ap} (h:sy x w base v l)
include h
theorem sy.slice:∃a b,v=aE a (E l) b:=by let⟨i,c,_⟩:=h;rcases c.2 with⟨rfl,g⟩|⟨e,d,_,rfl,_⟩;{grind};simp
theorem sy.lt:∀a,bA v=ae a->base<=a/\a<J w.1:=by let⟨c,b,_⟩:=h;exact fS b
theorem sy.fr{p}(b:co p w f)(B:∀a,a<J w.1->¬x a->ae a≠bA v->p a)(A:∀a,bA v=ae a->p a):sy x f base v l:=by let⟨G,j,o⟩:=h;let y:co (λa=>a<J w.1->p a) w f:=⟨b.1,b.2,b.3,b.4,λa c e=>b.5 a c<|e c⟩;refine⟨G,bd j.1 ?_,λD z=>?_⟩;{rcases j.2 with H|⟨d,k,n,rfl,t,i,rest⟩;{grind};{exact .inr ⟨d,k,n,rfl,t,(b.block d (dK.1 i).1<|A d rfl).trans i,rest⟩}};{let⟨F,q,r⟩:=o D z;exact⟨F,q,r.fr y λa c e=>B a e (λC=>c<|bJ C) λu=>c<|bE u⟩}
theorem sy.imp{y}(q:∀a,a<J w.1->¬x a->ae a≠bA v->¬y a):sy y w base v l:=by let⟨k,b,c⟩:=h;refine⟨k,b,λi g=>?_⟩;let⟨j,d,e⟩:=c i g;refine⟨j,d,e.imp λa o p n=>?_⟩;grind
theorem sy.at(n:c<E l):∃a b d,v=bL a 0 (E l) b/\E l<=b/\aA w (N a c)=ae d/\iI w (λc=>x c\/ae c=bA v) d (cE l[c]):=by let⟨z,e,g⟩:=h;let⟨d,i,j⟩:=g c n;rcases e.2 with⟨_,t⟩|⟨a,b,r,o,u,q,k,_,y,p⟩;{omega};{refine⟨a,b,d,o,k,?_,j⟩;rw[<-i,<-p,qA G];grind[aA]}
theorem YD{s u}(L:iI w (λa=>x a\/ae a=bA v) u<|cE s)(aa:base<=J w.1)(ab:E l<=100000):∃b c,(Builtin.append_ #[310,310] 310 #[v,bL (J w.1) 0 1 1]).run aL (aN w<|aZ #[u] 92)=.ok b c/\sy (λa=>x a/\a<J w.1) c base b (l++[s])/\co (λa=>ae a≠bA v) w c/\(bA b=bA v\/bA b=ae (J w.1+1)):=by
 let⟨S,aO,O,Q,R⟩:=im YC
 let⟨k,p,Z⟩:=h;let D:a6 w (aN w<|aZ #[u] 92):=cf cc bo _;let X:u.oneCell'=aD:=by obtain⟨_,_,_,rfl,_⟩:=L;rfl
 let K:J (aN w<|aZ #[u] 92).1=J w.1+1:=eE w _;let⟨b,c,V,ac,d,_,z⟩:=run_append_own_at (P:=aL) (aN w<|aZ #[u] 92) base 310 310 92 S _ 1 24 YB aO O Q R U G v (E l) k (g6 p D) (N (J w.1) 0) 1 1 [u] U (λT e H=>by{rw[yl,fM];simp_all}) (λe y=>by grind) up G G;rw[K]at z;let q:co (λa=>ae a≠bA v) w c:=⟨d.1,d.2,d.3,cJ G d.4,λa r t=>(d.5 a G t).trans<|dv w _ a r⟩;let I:∀a,a<J w.1->ae a≠bA v->ae a≠bA b:=λa r t g=>by{grind};let Y:∀(e:bk) (j:List ap),iI w (λa=>x a\/ae a=bA v) e j->iI c (λa=>(x a/\a<J w.1)\/ae a=bA b) e j:=λe j y=>by{let⟨o,W,A,B,C,n,i⟩:=y;exact⟨o,W,A,B,C,n.fr q λg=>i<|bE g,λF=>F.elim (λM=>i<|bJ M.1)<|I o n.1 λg=>i<|bE g⟩};refine⟨b,c,V,⟨k++[u],by grind,λT H=>?_⟩,q,z⟩;let:E k=E l:=cd p.1
 grind
end
theorem Ms(h:φ:=by intro k hk e;rcases k5 with h5|h5;{rw[h5]at hk;exact h.ne k hk e};grind):φ:=h
section
variable {X:Nat->Prop} {w wr:World} {ab:Nat} {rc:Int} {aa:Bool} {va vu vd vs:Value} {seen:List ap}{add:List aK} (h:pt X w wr ab rc aa va vu vd vs seen add)
include h
theorem pt.below{w1}(a:a6 wr w1):pt X w w1 ab rc aa va vu vd vs seen add:=
 ⟨h.1.kept<|a.5 ab h.1.lt,h.2.trans<|co.zY a,h.3.fr (p:=λ_=>True) (co.zY a) (λ_ _ _ _=>cy) λ_ _=>cy,h.4.below a,h.5,h.6,h.7,h.8⟩
theorem pt.Zv(b:a6 f w)(d:J f.1<=ab):a6 f wr:=
 bC b ((h.2.below (n:=J f.1) (λg e c=>G) b.4))
theorem pt.own(c:ek X w (ab+1) e i):ek X wr (ab+1) e i:=
 c.fr h.2 (λd _ a _ b=>a (by rw[b];exact h.7)) (λd a b=>by have:=(c.lt d a).1;omega)
theorem pt.aDd(q:iI wr (λk=>X k\/ae k=bA vd\/ae k=bA vs) C<|cE d)(A:E seen<=100000):∃u g,(Builtin.append_ #[310,310] 310 #[vs,bL (J wr.1) 0 1 1]).run aL (aN wr<|aZ #[C] 92)=.ok u g/\pt X w g ab rc aa va vu vd u (seen++[d]) add/\iI g (λk=>X k\/ae k=bA vd\/ae k=bA u) C (cE d)/\J wr.1<=J g.1:=by
 let p:=h.2.4;let⟨u,g,s,D,b,k5⟩:=YD h.3 (s:=d) (u:=C) (q.imp λk _ i a=>i<|by grind) p A;let:=h.3.lt;let:=h.4.lt;let:=h.6;let z:ae ab≠bA vs:=λe=>by grind
 let B:∀k,k<J wr.1->ae k≠bA vs->ae k≠bA u:=λk hk i e=>by{grind};refine⟨u,g,s,⟨h.1.kept<|b.5 ab G z,⟨cQ b.1 h.2.1,cQ b.2 h.2.2,cQ b.3 h.2.3,cJ p b.4,λk hk i=>(b.5 k G λe=>by grind).trans<|h.2.5 k hk i⟩,?_,?_,?_,h.6,h.7,h.8⟩,?_,b.4⟩;{exact D.imp λk _ c _ a=>by{rcases a with a|a;{exact c ⟨.inl a,cd<|h.xl k a⟩};grind}};{let:ek (λk=>X k\/ae k=bA vs) g (J w.1) vd add:=h.4.fr b (λk _ c _ e=>c<|bE e) λk hk e=>h.5 k (b5 e) hk;let o:=h.4.imp (y:=λk=>(X k\/ae k=bA vs)\/ae k=bA u) (λk hk c o a=>by{grind});exact(o.fr b (λk _ c _ e=>c<|bJ<|bE e) λk hk e=>h.5 k (b5 e) hk).imp λk _ c _ a=>c<|by grind};{exact Ms};{let⟨n,F,r,t,x,j,l⟩:=q;exact⟨n,F,r,t,x,j.fr b λe=>l<|bE<|bE e,λa=>by{rcases a with a|a|a;{grind};{grind};{exact B n j.1 (λe=>l<|bE<|bE e) a}}⟩}
theorem pt.add1(L:ek (λb=>(X b\/ae b=bA vs)\/ae b=bA vd) wr c e i)(I:E add+E i<=100000):∃A g,(Builtin.append_ #[94,94] 94 #[vd,e]).run aL wr=.ok A g/\fC g ab rc aa va vu vd/\pt X w (a7 g ⟨ab,4,af⟩ A) ab rc aa va vu A vs seen (add++i)/\(∃a B,A=aE a (E add+E i) B):=by
 let t:=h.2.4;let z:=h.3.lt;let:=h.4.lt;let K:=h.6;let⟨A,g,M,u,k,N⟩:=AQ h.4 L (λb _ n=>n) t I (λb x=>by{rcases x with x|x;{let:=h.8 b x;omega};grind});let F:ae ab≠bA vd:=λd=>by grind
 let o:=h.1.kept<|k.5 ab G F;let H:=co.Yg k λ_ h=>h;let O:∀b,b<J wr.1->ae b≠bA vd->ae b≠bA A:=λb x r d=>by{grind};let p:co (λb=>b≠ab) g (a7 g ⟨ab,4,af⟩ A):=co.j9 (a:=⟨ab,4,af⟩) A λ_ h=>h;refine⟨A,g,M,o,⟨o.o6 A,?_,?_,?_,?_,h.6,h.7,h.8⟩,?_⟩;{let l:co (λb=>b≠ab) w g:=⟨cQ k.1 h.2.1,cQ k.2 h.2.2,cQ k.3 h.2.3,cJ t k.4,λb x r=>(k.5 b G λd=>by grind).trans<|h.2.5 b x r⟩;exact l.trans p};{let C:=h.3.imp (y:=λb=>(X b\/ae b=bA vd)\/ae b=bA A) (λb x j P n=>by{grind});let l:=C.fr H (λb _ j _ d=>j<|bJ<|bE d) λb x d=>h.5 b x<|b5 d;let D:=l.fr p (λb _ j _ d=>j<|bJ<|bJ<|d▸h.7) (λb x d=>by grind);exact D.imp λb _ j _ n=>j<|by grind};{exact u.set (a:=⟨ab,4,af⟩) A (bJ h.7) K};{intro b x d;let:=z b x;rcases N with q|q;{rw[q]at d;exact h.5 b x d};grind};{let a:=u.slice;grind}
end
def rV(b d:List aK)(s:List ap×List aK)(a:aK):List ap×List aK:=
 if lq a && !s.1.contains (ib a.data)then(s.1++[ib a.data],s.2++dT (λc=>!d.any (c == ·)) (jb (dF b<|ib a.data) 1))else s
def nA(a b c:List aK):List ap×List aK:=c.foldl (rV a b) ([],[])
def Fu{d}:nA i p (S++[d])=rV i p (nA i p S) d:=by simp[nA]
def YE{s a}(d:lq a=ak):rV i p s a=s:=by grind[rV]
def YF{s a}(d:s.1.contains (ib a.data)=aD):rV i p s a=s:=by grind[rV]
def YG{s a}(g:lq a=aD)(e:s.1.contains (ib a.data)=ak):rV i p s a=(s.1++[ib a.data],s.2++dT (λd=>!p.any (d == ·)) (jb (dF i<|ib a.data) 1)):=by grind[rV]
def YH(c)(l:E i<=60):∀(a:List aK),E (nA i c a).1<=E a/\E (nA i c a).2<=E a*60:=by
 intro a;let⟨d,j⟩:=du<|E a;induction d generalizing a with
 |zero=>obtain rfl:a=[]:=hq j;exact⟨cO _,dJ _⟩
 |succ d k=>{
 rcases pf a with rfl|⟨g,e,rfl⟩;{grind};{
 rw[pe]at*;let b:E g=d:=by grind
 let:=k g b;rw[Fu];let:=sH (λh:aK=>!c.any (h == ·))<|jb (dF i<|ib e.data) 1;let:=cJ (Da (dF i<|ib e.data) 1)<|A4 i<|ib e.data;unfold rV;split;{grind};omega}}
def YI(b:aK)(a):a_ aL 204 #[aE af 0 0,.agg #[am<|D b.owner,ag ai b.aP,ag ai b.type,am<|D b.data]] a λe h=>e=bh (ag ai<|-1)/\cv (J a.1) a h:=by
 have c:∀d,cv (J a.1) a (aN a d):=λd=>(cU _ _).alloc (cO _) _;replace c:=O c;go_wp2;go_loopw [8] (λg wr=>g=ag ai 0/\cv (J a.1) a wr) λ_ _=>0;·exact bd U<|c _
 ·(obtain⟨rfl,i⟩:=hrel;go_wp2;go_ret;simp_all)
def YJ{b:aK}:a_ aL 152 #[aE af 0 0,.agg #[am<|D b.owner,ag ai b.aP,ag ai b.type,am<|D b.data]] f λh j=>h=bh (aG ak)/\cv (J f.1) f j:=by have c:∀d,cv (J f.1) f (aN f d):=λd=>(cU _ _).alloc (cO _) _;let g:=O λe=>YI b e;replace c:=O c;go_in;go_wp21;refine(g _).m λk i=>?_;go_wp2;go_ret;exact bd U<|(c _).trans (bN i ax)
def YK(a)(c:jy f e i)(g:E i<=3001):a_ aL 152 #[e,.agg #[am<|D a.owner,ag ai a.aP,ag ai a.type,am<|D a.data]] f λb j=>b=bh (aG (i.any (a == ·)))/\cv (J f.1) f j:=by rcases c with⟨rfl,rfl⟩|⟨k,ay,d,rfl,_,h⟩;{exact YJ};{exact OK a d h g}
def wX(c:aQ)(b:Nat)(v:bk)(a:List ap):Prop:=c.ownsRow b 9 1 v (E a)<|a.map λs=>am<|D s
def wX.slice(a:wX f c e s):∃b d,e=aE b (E s) d:=by rcases a.2 with⟨rfl,j⟩|⟨i,h,_,rfl,_⟩;{grind};simp
def YL(b)(o:wX f c e s)(H:E s<=100000):a_ aL 191 #[e,am<|D b] f λg x=>g=bh (aG<|s.contains b)/\x=f:=by
 let y:∀d k:ap,D d=D k->d=k:=λd k g=>by{have:=eQ (λi:ByteArray=>i.1.1) g;exact this};let q:∀(h:Nat),h=E s->Lib.containsS (be h<|b9 D s) (D b)=s.contains b:=λh u=>by{rw[u,show E s=E (b9 D s) by simp,jc,pR,Lib.containsS_iff,List.contains_iff_mem,kE];grind};rcases o.2 with⟨rfl,p⟩|⟨n,l,A,rfl,B,z,C,_,I,w⟩;{have:=Tryz.slices_Contains_string_empty af 0 (D b) f;have t:=hq p;subst t;exact this};{
 have:=Tryz.slices_Contains_string n 0 (E s) l (b9 D s) (D b) f ax G (λj F=>by{
 let r:j<E s:=by grind
 have:=eQ (λi:List bk=>i[j]?) w;rw[qA G,sG,fs r]at this;grind[aA]})
 rw[q (E s) U]at this;exact this}
def YM:(aL.info? 9).map (λa=>(a.8,a.3,a.4))=ae (ae<|am ⟨#[]⟩,1,16):=b6
def YN:aL.underlying 23=ae (.slice 9):=b6
def YO(n:wX f g e s)(b)(y:g<=J f.1)(A:E s<=100000):∃c i,(Builtin.append_ #[23,23] 23 #[e,aE (ae ⟨J f.1,0,af⟩) 1 1]).run aL (aN f<|aZ #[am<|D b] 9)=.ok c i/\wX i g c (s++[b])/\co (λh=>ae h≠bA e) f i/\(bA c=bA e\/bA c=ae (J f.1+1)):=by
 let⟨w,aO,r,t,u⟩:=im YM;let l:cv (J f.1) f (aN f<|aZ #[am<|D b] 9):=(cU _ _).alloc (cO _) _;let q:J (aN f<|aZ #[am<|D b] 9).1=J f.1+1:=eE f _;let⟨c,i,x,F,d,_,j⟩:=run_append_own_at (P:=aL) (aN f<|aZ #[am<|D b] 9) g 23 23 9 w _ 1 16 YN aO r t u U G e (E s) _ (g6 n l) ⟨J f.1,0,af⟩ 1 1 [am<|D b] U (λC k z=>by{rw[yl,fM];simp_all}) (λk B=>by{
 let:k=am (D b):=by grind
 rw[this];rfl}) up G G
 rw[q]at j;refine⟨c,i,x,?_,⟨d.1,d.2,d.3,cJ G d.4,λh o p=>(d.5 h G p).trans<|dv f _ h o⟩,j⟩;grind[wX]
structure rW(w wr:World)(vt vl:Value)(tg:List ap)(add:List aK):Prop where
 tg:wX wr w.heap.size vt tg
 ad:dH wr w.heap.size vl add
 ne:∀k,vt.ownBlock=some k->vl.ownBlock≠some k
 bl:Below w.heap.size w wr
def rW.below{wr w1}(a:rW f wr C e s i)(b:cv (J wr.1) wr w1):rW f w1 C e s i:=
 ⟨g6 a.1 b,a.2.below b,a.3,bC a.4<|bN b a.4.4⟩
def rW.aDp{wr p}(h:rW f wr C p s i)(l)(w:E s<=100000):∃b d,(Builtin.append_ #[23,23] 23 #[C,aE (ae ⟨J wr.1,0,af⟩) 1 1]).run aL (aN wr<|aZ #[am<|D l] 9)=.ok b d/\rW f d b p (s++[l]) i/\(∃j u,b=aE j (E s+1) u):=by have:=fS h.1;have t:=h.2.Ya;have⟨b,d,x,o,a,k5⟩:=YO h.1 l h.4.4 w;refine⟨b,d,x,⟨o,?_,?_,?_⟩,?_⟩;{refine h.2.kept λg n=>a.5 g (t g n).2 λe=>h.3 g (b5 e) n};{exact Ms};{exact h.bl.trans ⟨a.os,a.tape,a.output,a.size,λk hk=>a.5 k (cd h.4.4) λe=>by grind⟩};{have j:=o.slice;simp_all}
def rW.aDq{wr}(a:rW f wr e C s i)(r)(z:fA wr n 0 [r])(t:E i<=90000):∃g d,(Builtin.append_ #[77,77] 77 #[C,aE (ae ⟨n,0,af⟩) 1 1]).run aL wr=.ok g d/\rW f d e g s (i++[r])/\(∃l y,g=aE l (E i+1) y)/\cv (J f.1) wr d:=by
 let x:=fS a.1;let:=a.2.Ya;let⟨g,d,A,q,c,B⟩:=IF 1 a.2 z a.4.4 (by grind);let p:cv (J f.1) wr d:=⟨c.1,c.2,c.3,c.4,λb j=>c.5 b (cd a.4.4) λh=>by grind⟩;refine⟨g,d,A,⟨?_,q,?_,bC a.4 p⟩,?_,p⟩;{
 refine An a.1 c ?_;cases w:bA e with
 |none=>simp
 |some b=>exact bE λh=>a.3 b w<|b5 h};{intro b j h;let:=(x b j).2;rcases B with o|o;{rw[o]at h;exact a.3 b j h};grind};{let l:=q.slice;grind}
def RA{ay}(h:gJ f n d c ay g i)(v:mc c ay i e p):jy f e p:=v.rv h.2.2.2.2
def YP(b:aQ)(a)(d:dP):fA (aN b<|aZ #[am<|D a.owner,ag ai a.aP,ag ai a.type,am<|D a.data] d) (J b.1) 0 [a]:=by
 let c:=cW b<|aZ #[am<|D a.owner,ag ai a.aP,ag ai a.type,am<|D a.data] d;refine⟨(dK.1 c).1,λe g h v aO=>?_⟩;have:e=0:=by grind
 subst this;rw[aA,c];simpa [aK.bz]using aO
def E7(h:φ:=by unfold aA;simp_all):φ:=h
def Nn(h:φ:=by go_wp2;exact⟨⟨k+1,dd,G,⟨_,_,_,U⟩,⟨_,_,_,U⟩,by rw[V bt];assumption⟩,dz⟩):φ:=h
def YQ{ay b7}(aw ab)(aC){h}(cl:gJ f c d g ay b7 h)(br:E h<=60)(bd:jy f e i)(bf:jy f C p)(cr:E i<=500)(c7:E p<=500)(ar:∀l∈i++p,E l.data<=3000):a_ aL 137 #[bv c,.agg #[M aw,aG ab,e,C,aC]] f λah bF=>(∃v,ah=bh v/\dH bF (J f.1) v (nA h i<|i++p).2)/\a6 f bF:=by
 obtain⟨x,z,rfl⟩:=xi bd;obtain⟨H,I,rfl⟩:=xi bf;have a3:=O bd;have b0:=O bf;have aV:=O ar;have b8:=O cl;go_in;go_wp2_with fail;have al:a6 f (aN (aN f<|aZ #[ag ai aw,aG ab,aE x (E i) z,aE H (E p) I,aC] 79)<|aZ #[aE x (E i) z,aE H (E p) I] 77):=(cf cc bo _).alloc ax _;have b1:aA (aN (aN f<|aZ #[ag ai aw,aG ab,aE x (E i) z,aE H (E p) I,aC] 79)<|aZ #[aE x (E i) z,aE H (E p) I] 77) (N (J f.1) 2)=ae (aE x (E i) z):=by go_simp
 refine(WO (J f.1+1) ax (by go_simp) (by go_simp) (a3.below al) (b0.below al) G G).mono ?_;rintro ah bH ⟨cZ,rfl,bl,bg⟩;have K:=bC al<|bN bg gB;have bu:=(bg.cell (p:=⟨J f.1,2,af⟩) ct).trans b1;obtain⟨cu,bG,rfl⟩:=bl.slice;have bs:=O bl.rv;have cp:E (i++p)<=1000:=by grind
 have cq:=O<|a3.below K;have az:=O<|b8.below K;have b4:=O K;have b_:=O bu;have bn:=K.4;have ck:=g_ _ _ bu;have⟨b,L⟩:=du<|i++p;rw[L]at bs cp aV⊢;replace L:=O L;go_wp2;go_loopw [5,6,19] (λF bD r wr=>∃k:Nat,r=M k/\k<=E b/\(∃a bz y,F=aE a bz y)/\(∃a bz y,bD=aE a bz y)/\rW bH wr bD F (nA h i<|be k b).1 (nA h i<|be k b).2) λ_ _ r _=>E b-(intOf r).toNat;·exact⟨0,U,dJ _,⟨_,_,_,U⟩,⟨_,_,_,U⟩,⟨ih _ _ _ _,ih _ _ _ _,(λk bj=>by cases bj),cU _ _⟩⟩
 ·(
 obtain⟨k,rfl,bj,⟨cH,cK,cI,rfl⟩,⟨cV,cY,cX,rfl⟩,u⟩:=hrel;have⟨dx,bc⟩:=du<|nA h i<|be k b;have bm:=YH i br<|be k b;have:E (be k b)<=1000:=by grind
 rw[bc]at u bm;obtain⟨dw,q⟩:=dx;simp only at u bm;have:E dw<=1000:=G;have:E q<=60000:=G;have S:=O bc;have ac:=O u;have:=u.4.4;by_cases B:k<E b;{
 have ad:=O<|g8 B;have co:=bs.below u.4;rcases co with⟨A,aj⟩|⟨cy,cN,cA,A,cD,cj⟩;{rw[aj]at B;simp at B};{
 cases A;have au:=cj.four k B;have ar:=V aV b[k]<|ei B;have aJ:=O λW=>Pr W ar;generalize b[k]=l at*;go_wp2_with fail;refine(aJ _).m ?_;intro bI bp;have ap:a6 wr bI:=bp▸cf cc bo _
 have:aA bI (N (J wr.1) 2)=ae (M l.type):=by simp_all
 have w:=ac.below ap;have bQ:=O w;have⟨o,aq⟩:=du<|ib l.data;rw[aq];have aa:=O aq;have aO:=O<|YL o w.1 G;have⟨_,_,a9⟩:=w.1.slice;obtain⟨-,bS,-⟩:=js a9;have⟨_,_,a5⟩:=w.2.slice;obtain⟨-,bT,-⟩:=js a5;subst bS bT;have:=ap.4;generalize J wr.1=cS at*;clear bp aJ au ap w a9 a5 aq;by_cases Q:lq l=ak;{
 have bq:(l.type != 2)=aD:=by unfold lq at Q;simp_all
 have bU:(l.type != 15)=aD:=by unfold lq at Q;simp_all
 have bt:ao (nA h i (be (k+1) b)=(dw,q)):=by rw[ao,V ad,Fu,V S,YE Q]
 clear Q;exact Nn};{
 have aH:lq l=aD:=by simp_all
 have cb:(l.type != 2)=ak\/((l.type != 2)=aD/\(l.type != 15)=ak):=by{by_cases cC:l.type=2;{simp_all};{right;unfold lq at aH;simp_all}};have bL:=O aH;have⟨cg,X⟩:=du<|dw.contains o;rw[X]at aO;replace X:=O X;rcases cb with bq|⟨bq,bU⟩;all_goals(
 go_wp2_with fail;refine aO.m ?_;rintro c3 rfl;cases cg with
 |true=>{
 have bt:ao (nA h i (be (k+1) b)=(dw,q)):=by rw[ao,V ad,Fu,V S,YF (by rw[V aa];assumption)]
 exact Nn}
 |false=>{
 have⟨bB,an⟩:=du<|jb (dF h o) 1;have bt:ao (nA h i (be (k+1) b)=(dw++[o],q++dT (λa=>!i.any (a == ·)) bB)):=by{rw[ao,V ad,Fu,V S,YG (V bL) (by rw[V aa];assumption),V aa,an]};have⟨c0,c4,P,aP,bR,fJ,bV⟩:=bQ.aDp o G;subst bV;have aB:=O P;have b2:=O aP;have aI:=O<|I4 o 1 (az.below aP.4) G;rw[an]at aI;go_wp2_with (at_builtin;go_loud (refine uw dl (.tmp 39) (.tmp 41) 23 dl dl dl (V aB) ?_));refine aI.mono ?_;rintro ah c5 ⟨⟨c1,rfl,aR⟩,ca⟩;have aT:=b2.below ca;have:=O aT;have bO:=RA (az.below aT.4) aR;obtain⟨cT,cx,rfl⟩:=xi bO;have cn:=O aR;have cs:E bB<=60:=by rw[<-an];exact cJ (cJ (Da _ _)<|A4 _ _) br
 go_wp2;go_loopw [5,47] (λF r wr=>∃j:Nat,r=M j/\j<=E bB/\(∃a bz y,F=aE a bz y)/\rW bH wr (aE bR (E dw+1) fJ) F (dw++[o]) (q++dT (λa=>!i.any (a == ·)) (be j bB))) λ_ r _=>E bB-(intOf r).toNat;·exact⟨0,U,dJ _,⟨_,_,_,U⟩,(by rw[qW,List.filter_nil,kW];assumption)⟩
 ·(
 obtain⟨j,rfl,cF,⟨cL,cM,kx,rfl⟩,n⟩:=hrel;have aW:=RA (az.below n.4)<|V cn;have bW:=O n;have:=n.4.4;have ba:=(n.4.cell (p:=⟨J f.1,2,af⟩) ck).trans (V b_);have cG:E (dT (λa=>!i.any (a == ·))<|be j bB)<=60:=by{have:=sH (λa:aK=>!i.any (a == ·))<|be j bB;rw[iv]at this;omega};by_cases R:j<E bB;{
 have aX:=O<|g8 R;rcases aW with⟨A,aj⟩|⟨b6,cO,cB,A,cE,av⟩;{rw[aj]at R;simp at R};{
 cases A;have au:=av.four j R;have:=av.1;have Y:=O λW (ce:a6 wr W)=>YK bB[j] ((cq.below n.4).below ce) G;generalize bB[j]=a at*;have:¬b6=J wr.1:=G;have:¬J f.1=J wr.1:=G;have aU:∀(d:Obj) (a:Addr) (v:bk),aA wr a=ae v->aA (aN wr d) a=ae v:=λd a v bb=>(dR<|dv wr d a.1<|g_ _ _ bb).trans bb;have cd:=λd=>aU d _ _ ba;have a4:∀d,a6 wr (aN wr d):=λd=>cf cc bo _;have bw:=O a4;have⟨ch,Z⟩:=du (i.any (a == ·));have aM:=O Z;rw[Z]at Y;have⟨_,_,a8⟩:=n.2.slice;obtain⟨-,aY,-⟩:=js a8;rw[dj]at aY;subst aY;clear av n aU a4 Z a8;go_wp2_with fail;refine(Y _<|bw _).m ?_;intro t aF;have bM:=(bw<|aZ #[am<|D a.owner,ag ai a.aP,ag ai a.type,am<|D a.data] 83).trans<|bN aF ax;have a0:=bW.below bM;have bX:=O a0;have bP:=(aF.5 (J wr.1) ax).trans<|cW wr _;have cP:aA t (N (J wr.1) 0)=ae (aS a.owner):=E7
 have cR:aA t (N (J wr.1) 1)=ae (M a.aP):=E7
 have fa:aA t (N (J wr.1) 2)=ae (M a.type):=E7
 have fy:aA t (N (J wr.1) 3)=ae (aS a.data):=E7
 clear aF a0 bP au ba cd Y;cases ch with
 |true=>{have T:ao (dT (λa=>!i.any (a == ·)) (be (j+1) bB)=dT (λa=>!i.any (a == ·)) (be j bB)):=by{rw[ao,V aX,qV,yP (by rw[V aM];simp)];simp};go_wp2;exact⟨⟨j+1,dd,G,⟨_,_,_,U⟩,by rw[V T];assumption⟩,dz⟩}
 |false=>{have T:ao (dT (λa=>!i.any (a == ·)) (be (j+1) bB)=dT (λa=>!i.any (a == ·)) (be j bB)++[a]):=by{rw[ao,V aX,qV,wD (by rw[V aM];rfl)];rfl};have bx:a6 t (aN t<|aZ #[am<|D a.owner,ag ai a.aP,ag ai a.type,am<|D a.data] 83):=cf cc bo _;have⟨c2,c6,P,a1,⟨cw,cz,a2⟩,bY⟩:=(bX.below bx).aDq a (YP t a _) (by rw[dj];omega);rw[dj]at a2;subst a2;have aB:=O P;have:=O a1;clear P a1 bY bx;go_wp2_with (at_builtin;go_loud (refine uw dl (.tmp 56) (.tmp 58) 77 dl dl dl (V aB) ?_));go_wp2;exact⟨⟨j+1,dd,G,⟨_,_,_,U⟩,by rw[V T,<-iz];assumption⟩,dz⟩}}};{have:j=E bB:=G;have ci:¬(j:Int)<E bB:=G;have cm:ao (nA h i (be (k+1) b)=(dw++[o],q++dT (λa=>!i.any (a == ·)) (be j bB))):=wg;clear n aW;go_wp2;exact⟨⟨k+1,dd,G,⟨_,_,_,U⟩,⟨_,_,_,U⟩,by rw[V cm];assumption⟩,dz⟩})})}}};{have:k=E b:=G;have ci:¬(k:Int)<E b:=G;have bt:ao (nA h i b=(dw,q)):=by{grind};clear u;go_wp2;go_ret;exact⟨⟨_,U,by rw[V L,V bt];exact ac.2.base bn⟩,bC b4<|bN ac.4 bn⟩})
end Go.Proofs.YtkkpahmoljiepabGreatDoor
