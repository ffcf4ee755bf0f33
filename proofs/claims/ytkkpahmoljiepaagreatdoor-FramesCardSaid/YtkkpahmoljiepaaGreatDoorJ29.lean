import Derived.Test.YtkkpahmoljiepaaGreatDoorJ16
set_option maxRecDepth 1000000
set_option maxHeartbeats 12800000
set_option linter.unusedSimpArgs false
set_option linter.unusedVariables false
namespace Go.Proofs.YtkkpahmoljiepaaGreatDoor
open Go.RowKit Go.Proofs.Tryz
def fg(h:World)(a:Nat)(g:Value)(e d:Int)(b:ah)(c:Value):Prop:=h.heap[a]? = some (.cells #[g,.int .i64 e,.int .i64 d,.string (ai b),c] 119)
theorem fg.cells{w:World}{b:Nat}{c a:Value}{t k:Int}{d:ah}(h:fg w b c t k d a):w.cell? ⟨b,0,none⟩=some c/\w.cell? ⟨b,1,none⟩=some (.int .i64 t)/\w.cell? ⟨b,2,none⟩=some (.int .i64 k)/\w.cell? ⟨b,3,none⟩=some (.string (ai d))/\w.cell? ⟨b,4,none⟩=some a:=by unfold fg at h;exact BC
theorem fg.frozen{w:World}{b:Nat}{c a:Value}{t k:Int}{d:ah}(h:fg w b c t k d a)(i:Nat):w.frozen? ⟨b,i,none⟩=false:=by unfold fg at h;exact jW
theorem fg.lt{w:World}{b:Nat}{c a:Value}{t k:Int}{d:ah}(h:fg w b c t k d a):b<w.heap.size:=(bn.1 h).1
theorem Ch{P:Prop}(h:P:=by unfold fg at *;exact yC):P:=h
theorem fg.set{w:World}{a:Nat}{l j:Value}{t k:Int}{d:ah}(h:fg w a l t k d j)(b c:Value)(i g:Int)(e:ah):fg (((((w.setCell ⟨a,0,none⟩ b).setCell ⟨a,1,none⟩ (.int .i64 i)).setCell ⟨a,2,none⟩ (.int .i64 g)).setCell ⟨a,3,none⟩ (.string (ai e))).setCell ⟨a,4,none⟩ c) a b i g e c:=by exact Ch
def qa(g:World)(e:Nat)(v:Value)(b:List ah):Prop:=∃a d c,v=.slice (some ⟨a,d,none⟩) b.length c/\b.length<=c/\gJ g a d b/\e<=a
def Dr(s:ah)(b:Nat)(n:Ending)(l:World):Prop :=
 ∃k g c h e d i m j,n=.returned (.tuple #[.agg #[.slice k g c,.int .i64 h,.int .i64 e,.string (ai d),.slice i m j],.bool (ea s).isSome]) /\
  ∀a,ea s=some a->h=a.aI/\e=a.type/\d=a.data/\qa l b (.slice k g c) (aC 46 a.owner)/\qa l b (.slice i m j) (aC 32 a.data)
theorem LB(d:UInt8):∀(c:List ah) (m:Nat),(∀a∈c,a.length<=m)->(dd d c).length<=c.length*(m+1)
 | [],_,_=>b6 _
 | [a],m,b=>by have:=b a am;simp[dd];omega
 | a::h::g,m,b=>by have j:=b a am;have k:=LB d (h::g) m (fun i e=>b i (fs _ e));rw[dd,a6,bi,bi,rk];omega
theorem LC{b:World}{a c:Nat}(e:a<b.heap.size)(d:Obj):(b.alloc d).drew.cell? ⟨a,c,none⟩=b.cell? ⟨a,c,none⟩:=b7 (bx b d a e)
theorem xN{c a:World}{g:Nat}{e h:Value}{o:Obj}(j:g<c.heap.size)(b:a.cell? ⟨g,0,none⟩=some e/\a.cell? ⟨g,2,none⟩=some h/\ax c a):(a.alloc o).cell? ⟨g,0,none⟩=some e/\(a.alloc o).cell? ⟨g,2,none⟩=some h/\ax c (a.alloc o):=by have i:=b.2.2.size;have d:ax a (a.alloc o):=aE.alloc av _;exact⟨(d.cell (p:=⟨g,0,none⟩) uJ).trans b.1,(d.cell (p:=⟨g,2,none⟩) uJ).trans b.2.1,b.2.2.alloc i _⟩
theorem M9{e a:World}{b:Nat}{g h:Value}{o:Obj}(d:b<e.heap.size)(c:a.cell? ⟨b,0,none⟩=some g/\a.cell? ⟨b,2,none⟩=some h/\ax e a):(a.alloc o).drew.cell? ⟨b,0,none⟩=some g/\(a.alloc o).drew.cell? ⟨b,2,none⟩=some h/\ax e (a.alloc o).drew :=
 ⟨(xN (o:=o) d c).1,(xN (o:=o) d c).2.1,(xN (o:=o) d c).2.2.drew⟩
theorem uK{h a:World}{c b g:Nat}{l n v:Value}(q:c<h.heap.size)(p:h.heap.size<=b)(i:a.cell? ⟨c,0,none⟩=some l/\a.cell? ⟨c,2,none⟩=some n/\ax h a):(a.setCell ⟨b,g,none⟩ v).cell? ⟨c,0,none⟩=some l/\(a.setCell ⟨b,g,none⟩ v).cell? ⟨c,2,none⟩=some n/\ax h (a.setCell ⟨b,g,none⟩ v):=by
 have k:∀d,d≠b->(a.setCell ⟨b,g,none⟩ v).heap[d]? = a.heap[d]?:=fun d j=>bC _ _ _ _ j;have e:=i.2.2;have o:(a.setCell ⟨b,g,none⟩ v).heap.size=a.heap.size:=g8
 exact⟨(b7 (k c ae)).trans i.1,(b7 (k c ae)).trans i.2.1,e.os,e.tape,e.output,by rw[o];exact e.size,fun d j=>(k d ae).trans (e.block d j)⟩
theorem Lj{c a:World}{b:Nat}{e g:Value}(h:b<c.heap.size)(d:a.cell? ⟨b,0,none⟩=some e/\a.cell? ⟨b,2,none⟩=some g/\ax c a):((a.alloc (.cells #[.slice none 0 0,.int .i64 0,.int .i64 0,.string ⟨#[]⟩,.slice none 0 0] 119)).cell? ⟨b,0,none⟩=some e/\(a.alloc (.cells #[.slice none 0 0,.int .i64 0,.int .i64 0,.string ⟨#[]⟩,.slice none 0 0] 119)).cell? ⟨b,2,none⟩=some g/\ax c (a.alloc (.cells #[.slice none 0 0,.int .i64 0,.int .i64 0,.string ⟨#[]⟩,.slice none 0 0] 119)))/\fg (a.alloc (.cells #[.slice none 0 0,.int .i64 0,.int .i64 0,.string ⟨#[]⟩,.slice none 0 0] 119)) a.heap.size (.slice none 0 0) 0 0 [] (.slice none 0 0)/\c.heap.size<=a.heap.size :=
 ⟨xN h d,World.alloc_heap_new a _,d.2.2.size⟩
theorem M_{a:World}{b:Nat}{c d:Value}(g:b<a.heap.size)(e:a.cell? ⟨b,0,none⟩=some c/\a.cell? ⟨b,2,none⟩=some d/\ax a a):((a.alloc (.cells #[.slice none 0 0,.int .i64 0,.int .i64 0,.string ⟨#[]⟩,.slice none 0 0] 119)).drew.cell? ⟨b,0,none⟩=some c/\(a.alloc (.cells #[.slice none 0 0,.int .i64 0,.int .i64 0,.string ⟨#[]⟩,.slice none 0 0] 119)).drew.cell? ⟨b,2,none⟩=some d/\ax a (a.alloc (.cells #[.slice none 0 0,.int .i64 0,.int .i64 0,.string ⟨#[]⟩,.slice none 0 0] 119)).drew)/\fg (a.alloc (.cells #[.slice none 0 0,.int .i64 0,.int .i64 0,.string ⟨#[]⟩,.slice none 0 0] 119)).drew a.heap.size (.slice none 0 0) 0 0 [] (.slice none 0 0)/\a.heap.size<=a.heap.size :=
 ⟨M9 g e,World.alloc_heap_new a _,bb _⟩
theorem fg.kept{e w':World}{b:Nat}{d c:Value}{t k:Int}{a:ah}(g:fg e b d t k a c)(h:w'.heap[b]? = e.heap[b]?):fg w' b d t k a c:=h.trans g
theorem fg.set1{g:World}{b:Nat}{e c:Value}{t k:Int}{a:ah}(h:fg g b e t k a c)(d:Int):fg (g.setCell ⟨b,1,none⟩ (.int .i64 d)) b e d k a c:=by exact Ch
theorem fg.jv{g:World}{b:Nat}{e c:Value}{d k:Int}{i:ah}(h:fg g b e d k i c)(a:ah):fg (g.setCell ⟨b,3,none⟩ (.string (ai a))) b e d k a c:=by exact Ch
theorem xO{g:World}{b h i:Nat}{D:Option Addr}{F E:Nat}{q v u:Value}{C B:Int}{p:ah}{e:Option (List ah)}(r:fg g b (.slice D F E) C B p q)(k:jK g h v e):jK (g.setCell ⟨b,i,none⟩ u) h v e:=by
 cases e with
 | none=>exact k
 | some n =>
  obtain⟨j,c,o,t,w,x,d⟩:=k;have A:c≠b:=by
   rintro rfl;have z:0<n.length:=by cases n with
    | nil=>exact absurd rfl j
    | cons=>simp
   have:=d.2 0 z;rw[dT,r.cells.1]at this;cases this
  exact⟨j,c,o,t,w,x,by simp[World.setCell];exact d.1,fun l y=>(b7 (a:=⟨c,0+l,none⟩) (bC _ _ _ _ A)).trans (d.2 l y)⟩
theorem Lk{d:World}{b:Nat}{v:Value}{a:Option (List ah)}(n:Obj)(c:jK d b v a):jK (d.alloc n) b v a:=by
 cases a with
 | none=>exact c
 | some o =>{obtain⟨h,g,e,i,j,k,l⟩:=c;exact⟨h,g,e,i,j,k,l.below (aE.alloc av _)⟩}
theorem Pg{h:World}{b j:Nat}{K:Option Addr}{M L:Nat}{A v r t u w x:Value}{J I:Int}{z:ah}{g:Option (List ah)}(B:fg h b (.slice K M L) J I z A)(l:jK h j v g):jK (((((h.setCell ⟨b,0,none⟩ r).setCell ⟨b,1,none⟩ t).setCell ⟨b,2,none⟩ u).setCell ⟨b,3,none⟩ w).setCell ⟨b,4,none⟩ x) j v g:=by
 cases g with
 | none=>exact l
 | some p =>
  obtain⟨k,c,y,C,D,E,e⟩:=l;have H:c≠b:=by
   rintro rfl;have G:0<p.length:=by cases p with
    | nil=>exact absurd rfl k
    | cons=>simp
   have:=e.2 0 G;rw[dT,B.cells.1]at this;cases this
  have d:∀(i:World) (n:Nat) (q:Value),(i.setCell ⟨b,n,none⟩ q).heap[c]? = i.heap[c]?:=fun i n q=>bC _ _ _ _ H;refine⟨k,c,y,C,D,E,by simp[World.setCell];exact e.1,fun o F=>?_⟩;rw[<- e.2 o F];refine b7 (a:=⟨c,0+o,none⟩) ?_;rw[d,d,d,d,d]
theorem xP{j:World}{b i c d:Nat}{u:Value}{h:List ah}(l:c≠b)(e:gJ j c d h):gJ (j.setCell ⟨b,i,none⟩ u) c d h :=
 ⟨by simp[World.setCell];exact e.1,fun g k=>(b7 (a:=⟨c,d+g,none⟩) (bC _ _ _ _ l)).trans (e.2 g k)⟩
theorem Ll(b:UInt8):∀(f:Nat) (s:ah),s.length<=f->∀c∈aC b s,b ∉ c
 | f,s,h,c,a=>by
  rcases hP b s with⟨e,d⟩|⟨j,g,i,e,d⟩;{
  rw[d]at a;have:c=s:=by simpa using a
  rw[this];exact e};{
  rw[d]at a;rcases co.1 a with rfl|a;{exact e};{
  have k:g.length<f:=by rw[i]at h;simp at h;omega
  exact Ll b (f-1) g ae c a}}
termination_by f=>f
decreasing_by omega
theorem Ds(a:UInt8):∀(h:List ah),h≠[]->(∀c∈h,a ∉ c)->aC a (dd a h)=h
 | [],e,_=>absurd rfl e
 | [c],_,e=>by rcases hP a c with⟨_,i⟩|⟨o,p,j,_,_⟩;{exact i};{exact absurd (by rw[j];simp) (e c am)}
 | c::l::k,_,e=>by
  have r:=e c am;have w:=Ds a (l::k) am (fun n u=>e n (fs _ u));rw[dd];rcases hP a (c++a::dd a (l::k))with⟨t,_⟩|⟨o,p,j,q,i⟩;{exact absurd am t};{
  have:o=c/\p=dd a (l::k):=by{
  rcases List.append_eq_append_iff.1 j with⟨g,d,b⟩|⟨g,d,b⟩;{
  cases g with
  | nil=>simp at d b;exact⟨d,b.symm⟩
  | cons n g=>simp at b;rw[d,<- b.1]at q;exact absurd am q};{
  cases g with
  | nil=>simp at d b;exact⟨d.symm,b⟩
  | cons n g=>simp at b;rw[d,<- b.1]at r;exact absurd am r}};rw[i,this.1,this.2,w]}
theorem Lm{c:Bool}{s:ah}{b:List ah}(a:dS c s=some b):b=aC 46 s:=by unfold dS at a;split at a;{exact(cZ a).symm};{cases a}
theorem Na{s a o p:ah}{c:List ah}(R:c≠[])(T:∀aa∈c,(32:UInt8) ∉ aa)(Y:ea s=uQ (a::o::p::c)){wr h:World}{b i r q H G F x:Nat}{l:Option Addr}{E:Int}{n t:Bool}(S:d_ p=E)(I:cf 86400 o=n/\cQ (d_ p) c=t)(Z:n=true->x=e_ 86400 o)(j:jK wr H (.slice l G F) (dS true a)) (K:gJ wr i 3 c) (Q:c.length=q-3) (af:q-3<=r-3) (W:∀d,d≠b->h.heap[d]? = wr.heap[d]?) (N:wr.heap.size<=h.heap.size) (ac:b<H) (ad:b<i):Dr s b (.returned (.tuple #[.agg #[.slice l G F,.int .i64 x,.int .i64 E,.string (ai (dd 32 c)),.slice (some ⟨i,3,none⟩) (q-3) (r-3)],.bool (n&&t && !l.isNone)])) h:=by
 have V:(!l.isNone)=jh a:=by
  rw[<- tG];cases k:dS true a with
  | none=>rw[k]at j;cases j;rfl
  | some X=>rw[k]at j;obtain⟨_,A,J,z,_⟩:=j;cases z;rfl
 obtain⟨g,e,rfl⟩:∃g e,c=g::e:=by cases c with
  | nil=>exact absurd rfl R
  | cons g e=>exact⟨g,e,rfl⟩
 have y:ea s=if jh a&&cf 86400 o&&cQ (d_ p) (g::e)then some (a,e_ 86400 o,d_ p,dd 32 (g::e))else none:=Y
 rw[I.1,I.2]at y;have U:(n&&t && !l.isNone)=(ea s).isSome:=by
  rw[V,y];cases jh a<;>cases n<;>cases t<;>rfl
 have M:∀(d C:Nat),d≠b->h.cell? ⟨d,C,none⟩=wr.cell? ⟨d,C,none⟩:=fun d C O=>b7 (W d O);refine⟨l,G,F,x,E,dd 32 (g::e),some ⟨i,3,none⟩,q-3,r-3,by rw[U],fun ag u=>?_⟩;rw[y]at u;split at u
 ·rename_i w;simp only[bW]at w;obtain rfl:=(cZ u).symm;refine⟨?_,S.symm,rfl,?_,?_⟩
  ·rw[Z w.1.2];rfl
  ·show qa h b _ (aC 46 a);cases k:dS true a with
   | none=>have:=tG a;rw[k,w.1.1]at this;cases this
   | some X =>
    rw[k]at j;obtain rfl:=Lm k;obtain⟨_,A,J,z,P,ab,L⟩:=j;rw[z];exact⟨A,0,J,rfl,P,⟨cp L.1 N,fun D B=>(M A _ ae).trans (L.2 D B)⟩,ae⟩
  ·show qa h b _ (aC 32 (dd 32 (g::e)));rw[Ds 32 (g::e) am T,<- Q];exact⟨i,3,r-3,rfl,ae,⟨cp K.1 N,fun D B=>(M i _ ae).trans (K.2 D B)⟩,ae⟩
 ·cases u
theorem Ln(a b:ah):ai a++ai b=ai (a++b):=by apply uW;simp[ai]
theorem Nb(a:ah):ai a++⟨#[32]⟩=ai (a++[32]):=Ln a [32]
theorem Eo{P:Prop}(h:P:=by obtain⟨z0,z1,z2,z3,z4⟩:=hR.cells;have HM:=hR.frozen;refine ec (rs:=[12]) aB am (dr rfl (fun K hK=>?_) eb);go_simp;refine hK.out _ _ (uK jY lB (uK jY lB (uK jY lB (uK jY lB (uK jY lB hS))))) (fun hS=>?_);clear hK K;refine mz aB ?_ _;go_wp2_with fail;go_meet;case rel=>exact⟨_,_,_,_,rfl,hR.set (.slice va vn vc) (.slice (some ⟨g,3,none⟩) (N-3) (cap-3)) 0 (d_ x2) [],Pg hR (ag mA),hS.2.2,lB⟩):P:=h
theorem DR{P:Prop}(h:P:=by
 try simp only[Act.put,ep,c5,dl]
 refine ec (rs:=[7]) aB am (dr rfl (fun K hK=>?_) eb);go_simp;go_wp2_with (go_at_call 114;go_loud (refine(UI _).mono ?_;rintro e W' ⟨rfl,rfl⟩));refine hK.out _ _ hS (fun hS=>?_);clear hK K;try simp only[Act.put,ep,c5,dl]
 refine fS 10 hS ?_;exact Eo):P:=h
theorem Nc(s:ah)(h:World)(c9:s.length<=3000):az 64 #[.string (ai s)] h fun e o=>Dr s h.heap.size e o/\ax h o:=by
 have c_:=a7 s;have bI:Hid (∀q,az 62 #[.string (ai s),.int .u8 32] q fun e o=>(∃v,e=.returned v/\nM o q.heap.size v (aC 32 s))/\ax q o):=fun q=>qI s 32 q ae;have cu:(aC 32 s).length<=3001:=by have:=iq 32 s;omega
 have aT:Hid (∀r∈aC 32 s,r.length<=3000):=fun r A=>by have:=jo 32 s.length s av r A;omega
 have cA:=af (io 32 s);have bS:=af (T4 s);have b5:=af (Ll 32 s.length s av);generalize aC 32 s=R at *;go_enter func64,ntmps64;go_wp2_with fail;refine(bI _).mono ?_;rintro e j ⟨⟨v,rfl,bz⟩,a0⟩;obtain⟨g,cap,rfl,cl,bw,D⟩:=l6 bz (ag cA);have aL:fg j h.heap.size (.slice none 0 0) 0 0 [] (.slice none 0 0):=(a0.block _ am).trans (World.alloc_heap_new h _);have a4:=af aL;obtain⟨dp,dq,ds,dt,dv⟩:=aL.cells;have c6:=aL.frozen;have bv:ax h j:=(aE.alloc av _).trans (a0.mono am);have bf:h.heap.size+1<=g:=by simpa using bw
 have L:=af (aQ bf (aQ D bv));have jY:=D.1;clear bz a0 bI bw D aL bv bf;by_cases ac:R.length<4;{
 have bd:(R.length:Int)<4:=ae;go_wp2_with fail;have bx:ea s=none:=by{
 rw[ag bS];match R,ac with
 | [],_=>rfl
 | [_],_=>rfl
 | [_,_],_=>rfl
 | [_,_,_],_=>rfl
 | _::_::_::_::_,l=>exact absurd l am};have aW:=a4.set (.slice none 0 0) (.slice none 0 0) 0 0 [];obtain⟨aM,aN,aO,aP,aR⟩:=aW.cells;rw[show ai ([]:ah)=⟨#[]⟩from rfl]at aM aN aO aP aR;refine cc (v:=.tuple #[.agg #[.slice none 0 0,.int .i64 0,.int .i64 0,.string (ai []),.slice none 0 0],.bool (ea s).isSome]) ?_ rfl ?_;rw[show ai ([]:ah)=⟨#[]⟩from rfl];{simp[results,results64,go_sem,bx,aM,aN,aO,aP,aR]};{refine⟨⟨none,0,0,0,0,[],none,0,0,rfl,fun dw G=>by rw[bx]at G;cases G⟩,?_⟩;exact((((L.2.2.setCell (p:=⟨h.heap.size,0,none⟩) av _).setCell (p:=⟨h.heap.size,1,none⟩) av _).setCell (p:=⟨h.heap.size,2,none⟩) av _).setCell (p:=⟨h.heap.size,3,none⟩) av _).setCell (p:=⟨h.heap.size,4,none⟩) av _}};{
 have bd:¬(R.length:Int)<4:=ae;obtain⟨k,x,x2,c,rfl,bu⟩:∃k x x2 c,R=k::x::x2::c/\c≠[]:=by{
 match R,ac with
 | k::x::x2::cH::cB,_=>exact⟨k,x,x2,cH::cB,rfl,am⟩
 | [],l=>exact absurd am l
 | [_],l=>exact absurd am l
 | [_,_],l=>exact absurd am l
 | [_,_,_],l=>exact absurd am l};have M:=lc L.2.1 0 k rfl;have ap:=lc L.2.1 1 x rfl;have O:=lc L.2.1 2 x2 rfl;rw[cT]at M ap O;have db:=ag aT k am;have dc:=ag aT x am;have dg:=ag aT x2 am;have a5:Hid (∀q,(q.cell? ⟨g,0,none⟩=some (.string (ai k))/\q.cell? ⟨g,2,none⟩=some (.string (ai x2))/\ax j q)->az 63 #[.string (ai k),.bool true] q fun e o=>∃va V U,e=.returned (.slice va V U)/\(o.cell? ⟨g,0,none⟩=some (.string (ai k))/\o.cell? ⟨g,2,none⟩=some (.string (ai x2))/\ax j o)/\jK o j.heap.size (.slice va V U) (dS true k)/\ax q o):=fun q hS=>by{
 refine(rt k true q ae).mono ?_;rintro e o ⟨⟨v,rfl,H⟩,y⟩;obtain⟨ao,W,bR⟩:=hS;have bB:=bR.size;obtain⟨va,V,U,rfl⟩:∃va V U,v=.slice va V U:=by{
 cases F:dS true k with
 | none=>rw[F]at H;exact⟨none,0,0,H⟩
 | some bG=>rw[F]at H;obtain⟨_,aH,aG,rfl,_⟩:=H;exact⟨_,_,_,rfl⟩};refine⟨va,V,U,rfl,⟨(y.cell (p:=⟨g,0,none⟩) uJ).trans ao,(y.cell (p:=⟨g,2,none⟩) uJ).trans W,bR.trans (y.mono bB)⟩,?_,y⟩;cases F:dS true k with
 | none=>rw[F]at H;exact H
 | some bG =>{rw[F]at H;obtain⟨cv,aH,aG,cw,cy,dh,cz⟩:=H;exact⟨cv,aH,aG,cw,cy,ae,cz⟩}};have UI:=af (fun q=>Qz x2 q);obtain⟨N,aZ⟩:=a2 ((k::x::x2::c).length);rw[<- aZ]at cl bd ⊢;have bg:4<=N/\N=c.length+3:=by rw[aZ];simp;have:c.length≠0:=fun l=>bu (df l);omega
 have c4:¬cap=3:=ae;have dz:(3:Int)<=(N:Int):=ae;have bU:=af bg;have cL:0<N:=ae;have cJ:2<N:=ae;have cM:(0:Int)<(N:Int):=ae;have cN:(2:Int)<(N:Int):=ae;clear aZ bg;clear ac;have cO:¬g=j.heap.size:=ae;have cP:j.drew.heap.size=j.heap.size:=rfl;have b3:∀Q,(j.alloc Q).drew.cell? ⟨g,0,none⟩=some (.string (ai k)):=fun Q=>(LC jY Q).trans M;have b4:∀Q,(j.alloc Q).drew.cell? ⟨g,2,none⟩=some (.string (ai x2)):=fun Q=>(LC jY Q).trans O;have bT:j.cell? ⟨g,0,none⟩=some (.string (ai k))/\j.cell? ⟨g,2,none⟩=some (.string (ai x2))/\ax j j:=⟨M,O,bk _ _⟩;have hS:j.drew.cell? ⟨g,0,none⟩=some (.string (ai k))/\j.drew.cell? ⟨g,2,none⟩=some (.string (ai x2))/\ax j j.drew:=⟨M,O,aE.drew⟩;have cj:j.drew.cell? ⟨g,0,none⟩=some (.string (ai k)):=M;have ck:j.drew.cell? ⟨g,2,none⟩=some (.string (ai x2)):=O;go_upto_region 4 with fail;go_cut [5]from 16 (fun cD wc=>∃n va vn vc,cD=.pointer (some ⟨n,0,none⟩)/\fg wc n (.slice va vn vc) 0 (d_ x2) [] (.slice (some ⟨g,3,none⟩) (N-3) (cap-3))/\jK wc j.heap.size (.slice va vn vc) (dS true k)/\ax j wc/\j.heap.size<=n);case first =>(
 refine y_ (S:=(fun o:World=>o.cell? ⟨g,0,none⟩=some (.string (ai k))/\o.cell? ⟨g,2,none⟩=some (.string (ai x2))/\ax j o)) aB hS (fun hS=>?_);refine fS 0 hS ?_;refine fS 1 hS ?_;refine fS 2 hS ?_;refine fS 4 hS ?_;refine fS 5 hS ?_;refine fS 6 hS ?_;refine fS 8 hS ?_;refine fS 9 hS ?_;refine ec (rs:=[3,11]) aB am (dr rfl (fun K hK=>?_) (dr rfl (fun K hK=>?_) eb));{
 go_simp;go_wp2_with (go_at_call 63;go_loud (refine(a5 _ hS).mono ?_;rintro e W' ⟨va,vn,vc,rfl,t,aa,an⟩;have mA:=af aa;have E:=af an;clear aa an));refine hK.out _ _ t (fun hS=>?_);clear hK K t E;try simp only[Act.put,ep,c5,dl]
 refine ec (rs:=[7,11]) aB am (dr rfl (fun K hK=>?_) (dr rfl (fun K hK=>?_) eb));{
 go_simp;go_wp2_with (go_at_call 114;go_loud (refine(UI _).mono ?_;rintro e W' ⟨rfl,rfl⟩));refine hK.out _ _ hS (fun hS=>?_);clear hK K;try simp only[Act.put,ep,c5,dl]
 refine fS 10 hS ?_;refine ec (rs:=[11]) aB am (dr rfl (fun K hK=>?_) eb);go_simp;obtain⟨t,hR,lB⟩:=Lj jY hS;have mA:=af (Lk (.cells #[.slice none 0 0,.int .i64 0,.int .i64 0,.string ⟨#[]⟩,.slice none 0 0] 119) (ag mA));refine hK.out _ _ t (fun hS=>?_);clear hK K t;revert hR mA hS;generalize World.alloc _ _=W';intro hR mA hS;try simp only[Act.put,ep,c5,dl]
 exact Eo};{
 go_simp;obtain⟨t,hR,lB⟩:=Lj jY hS;have mA:=af (Lk (.cells #[.slice none 0 0,.int .i64 0,.int .i64 0,.string ⟨#[]⟩,.slice none 0 0] 119) (ag mA));refine hK.out _ _ t (fun hS=>?_);clear hK K t;revert hR mA hS;generalize World.alloc _ _=W';intro hR mA hS;exact DR}};{
 go_simp;obtain⟨t,hR,lB⟩:=M_ jY bT;refine hK.out _ _ t (fun hS=>?_);clear hK K t;revert hR hS;generalize World.drew _=W';intro hR hS;try simp only[Act.put,ep,c5,dl]
 refine ec (rs:=[3]) aB am (dr rfl (fun K hK=>?_) eb);go_simp;go_wp2_with (go_at_call 63;go_loud (refine(a5 _ hS).mono ?_;rintro e W' ⟨va,vn,vc,rfl,t,aa,an⟩;have mA:=af aa;have E:=af an;clear aa an));have hR:=hR.kept (E.block _ hR.lt);refine hK.out _ _ t (fun hS=>?_);clear hK K t E;exact DR})
 case rest =>(
 obtain⟨n,va,vn,vc,rfl,ar,bh,ad,au⟩:=hcut;have da:=ad.size;have bs:wc.cell? ⟨g,1,none⟩=some (.string (ai x)):=(ad.cell (p:=⟨g,1,none⟩) jY).trans ap;obtain⟨bL,bN,a6,bO,bQ⟩:=ar.cells;have bH:=ar.frozen;have aS:=af ar;have bF:=af bh;have bt:=af ad;have b2:=af (fun q=>ph x 86400 q ae ba);have bc:c.length=N-3:=by have:=ag bU;omega
 have bi:Hid (gJ wc g 3 c):=by{have l:=L.2.1.below ad;refine⟨l.1,fun al c7=>?_⟩;have:=l.2 (3+al) aA;rw[cT]at this;rw[this];have:(k::x::x2::c)[3+al]' aA=c[al]:=by{simp only[show 3+al=al+1+1+1 by omega,cF]};rw[this]};clear ar bh ad M ap O b3 b4 bT hS cj ck a5 UI;go_wp2_with fail;refine(b2 _).mono ?_;rintro e bb ⟨⟨w,rfl,bK⟩,rfl⟩;have be:=af bK;clear bK;have cs:g≠n:=ae;have bD:=a4.lt;have P:=aS.set1 w;have J:=af P;obtain⟨ao,a8,W,a9,a_⟩:=P.cells;have Y:=af (xO (i:=1) (u:=.int .i64 w) (ag aS) (ag bF));have T:=af (xP (b:=n) (i:=1) (u:=.int .i64 w) cs (ag bi));have X:=af (bt.setCell (p:=⟨n,1,none⟩) au (.int .i64 w));have aX:=af (fun r A=>ag aT r (fs _ (fs _ (fs _ A))));have cC:=af (fun r A=>ag b5 r (fs _ (fs _ (fs _ A))));have b8:c.length<=3001:=by simp at cu;omega
 obtain⟨I,aF⟩:∃I,cf 86400 x=I:=⟨_,rfl⟩;obtain⟨C,aJ⟩:∃C,cQ (d_ x2) c=C:=⟨_,rfl⟩;rw[aF];have b9:Hid (I=true->w=e_ 86400 x):=fun l=>ag be (by rw[aF];exact l);have b_:=af (aQ aF aJ);have Z:Hid (0<d_ x2->az 116 #[.int .i64 (d_ x2),.slice (some ⟨g,3,none⟩) (N-3) (cap-3)] (bb.setCell ⟨n,1,none⟩ (.int .i64 w)) fun e o=>e=.returned (.bool C)/\Below (bb.setCell ⟨n,1,none⟩ (.int .i64 w)).heap.size (bb.setCell ⟨n,1,none⟩ (.int .i64 w)) o):=fun z=>by{have:=T2 x2 z g 3 (cap-3) c _ (ag T) b8 ae (ag aX);rw[bc,aJ]at this;exact this};have aj:Hid (d_ x2=0->C=false):=fun l=>by rw[<- aJ,l];exact T3 c
 obtain⟨B,aw⟩:∃B,d_ x2=B:=⟨_,rfl⟩;have dx:0<=B:=by rw[<- aw];rcases Jh x2 with e|e|e|e|e|e|e<;>omega
 have ca:=af aw;rw[aw]at aS J Z aj a6 W;clear aw aF aJ be P;go_upto_region 7 with fail;go_cut [8]from 36 (fun cE aU=>cE=.bool C/\fg aU n (.slice va vn vc) w B [] (.slice (some ⟨g,3,none⟩) (N-3) (cap-3))/\jK aU j.heap.size (.slice va vn vc) (dS true k)/\gJ aU g 3 c/\ax j aU);case first =>(
 by_cases z:0<B;{
 go_wp2_with fail;refine(Z z).mono ?_;rintro e cG ⟨rfl,aq⟩;have b0:=af (J.kept (aq.block n (by have:=J.lt;exact this)));have cb:=af (T.below aq);have b1:Hid (jK cG j.heap.size (.slice va vn vc) (dS true k)):=by{
 have:=ag Y;cases F:dS true k with
 | none=>rw[F]at this;exact this
 | some bG =>{rw[F]at this;obtain⟨cn,aH,aG,co,cp,ac,cq⟩:=this;exact⟨cn,aH,aG,co,cp,ac,cq.below aq⟩}};have bX:=af (X.trans (aq.mono X.size));clear Z aq bL bN a6 bO bQ bH ao a8 W a9 a_ bs;go_wp2_with fail;go_meet;case rel=>exact⟨rfl,b0,b1,cb,bX⟩};{have cd:B=0:=ae;have bj:=ag aj cd;have cI:=af bj;clear Z bj;go_wp2_with fail;go_meet;case rel=>exact⟨by rw[ag cI],J,Y,T,X⟩})
 case rest =>(
 obtain⟨rfl,P,bl,bm,bJ⟩:=hcut;clear Z J Y T X bL bN a6 bO bQ bH ao a8 W a9 a_ bs aS bF bt bi;have J:=af P;have Y:=af bl;have T:=af bm;have X:=af bJ;obtain⟨ao,a8,W,a9,a_⟩:=P.cells;clear P bl bm bJ;go_wp2_with fail;go_loopw [9] (fun i wr=>∃d:Nat,d<=c.length/\i=.int .i64 d/\fg wr n (.slice va vn vc) w B (dd 32 (c.take d)) (.slice (some ⟨g,3,none⟩) (N-3) (cap-3))/\jK wr j.heap.size (.slice va vn vc) (dS true k)/\gJ wr g 3 c/\ax j wr) (fun i _=>c.length-(intOf i).toNat);case atStart=>exact⟨0,b6 _,rfl,J,Y,T,X⟩
 case round =>(
 obtain⟨d,z,rfl,G,aI,D,y⟩:=hrel;have a3:=LB 32 (c.take d) 3000 (fun r A=>ag aX r (mJ A));have cU:(ai (dd 32 (c.take d))).size<=9006001:=by{
 rw[a7];have:(c.take d).length<=3001:=jX
 have:=pz (3000+1) this;omega};obtain⟨M,ap,O,cV,aK⟩:=G.cells;have cX:=G.frozen;have aD:=af G;have bn:=af aI;have bo:=af D;have E:=af y;have bB:=y.size;by_cases a1:d<c.length;{
 have cm:(d:Int)<((N-3:Nat):Int):=ae;have aY:=D.2 d a1;have bE:=ag aX c[d] (bM a1);have ak:=du a1;obtain⟨r,A⟩:=a2 (c[d]);rw[<- A]at aY bE ak;have dy:(ai r).size<=3000:=by rw[a7];exact bE
 clear G aI D y A;by_cases aj:d=0;{subst aj;have ab:Hid (ai (dd 32 ([]:List ah))++ai r=ai (dd 32 (c.take (0+1)))):=by{rw[Hid,ak];exact rfl};rw[dT]at aY;have c8:(ai (dd 32 ([]:List ah))).size<=5:=ba;clear ak a3;go_upto_region 13 with fail;go_region;all_goals(go_wp2_with fail;refine⟨⟨0+1,ae,by first|rfl|go_num,?_,?_,?_,?_⟩,ci⟩;{rw[ag ab];exact aD.jv _};{exact xO (ag aD) (ag bn)};{exact xP ae (ag bo)};{exact(E.setCell (p:=⟨n,3,none⟩) au _).drew})};{
 have dm:(0:Int)<(d:Int):=ae;have ab:Hid (ai (dd 32 (c.take d)++[32])++ai r=ai (dd 32 (c.take (d+1)))):=by{rw[Hid,ak,Be 32 r _ (by intro l;have:=bP List.length l;rw[de,cW]at this;omega),Ln];simp};have ay:=aD.jv (dd 32 (c.take d)++[32]);have bp:=af ay;obtain⟨cY,cZ,c0,c1,c2⟩:=ay.cells;have c3:=ay.frozen;have bq:=xP (b:=n) (i:=3) (u:=.string (ai (dd 32 (c.take d)++[32]))) ae (ag bo);have cR:(wr.setCell ⟨n,3,none⟩ (.string (ai (dd 32 (c.take d)++[32])))).cell? ⟨g,3+d,none⟩=some (.string (ai r)):=(b7 (a:=⟨g,3+d,none⟩) (bC _ _ _ _ ae)).trans aY;have ce:=Nb (dd 32 (c.take d));have cS:(ai (dd 32 (c.take d)++[32])).size<=9006002:=by rw[<- ce,ByteArray.size_append];show _+1<=_;omega
 have cg:=af (xO (i:=3) (u:=.string (ai (dd 32 (c.take d)++[32]))) (ag aD) (ag bn));have ch:=af bq;clear ak a3 aj ay bq;go_upto_region 13 with fail;go_region;all_goals(go_wp2_with fail;refine⟨⟨d+1,ae,by first|rfl|go_num,?_,?_,?_,?_⟩,ci⟩;{rw[ag ab];exact bp.jv _};{exact xO (ag bp) (ag cg)};{exact xP ae (ag ch)};{exact((E.setCell (p:=⟨n,3,none⟩) au _).setCell (p:=⟨n,3,none⟩) au _).drew})}};{
 have cm:¬(d:Int)<((N-3:Nat):Int):=ae;have ct:d=c.length:=ae;have ab:Hid (dd 32 (c.take d)=dd 32 c):=by rw[Hid,ct,dK]
 have aV:=a4.kept (y.block h.heap.size bD);obtain⟨di,dj,cK,cx,dk⟩:=aV.cells;have dn:=aV.frozen;have bA:Dr s h.heap.size (.returned (.tuple #[.agg #[.slice va vn vc,.int .i64 w,.int .i64 B,.string (ai (dd 32 (c.take d))),.slice (some ⟨g,3,none⟩) (N-3) (cap-3)],.bool (I&&C && !va.isNone)])) ((((((wr.setCell ⟨h.heap.size,0,none⟩ (.slice va vn vc)).setCell ⟨h.heap.size,1,none⟩ (.int .i64 w)).setCell ⟨h.heap.size,2,none⟩ (.int .i64 B)).setCell ⟨h.heap.size,3,none⟩ (.string (ai (dd 32 (c.take d))))).setCell ⟨h.heap.size,4,none⟩ (.slice (some ⟨g,3,none⟩) (N-3) (cap-3))).drew):=by{rw[ag ab];refine Na bu (ag cC) (ag bS) (ag ca) (ag b_) (ag b9) aI D bc ae (b:=h.heap.size) (fun d z=>?_) g8 bD (by have:=L.1;omega);show(((((wr.setCell ⟨h.heap.size,0,none⟩ _).setCell ⟨h.heap.size,1,none⟩ _).setCell ⟨h.heap.size,2,none⟩ _).setCell ⟨h.heap.size,3,none⟩ _).setCell ⟨h.heap.size,4,none⟩ _).heap[d]? = _;rw[bC _ _ _ _ (by exact z),bC _ _ _ _ (by exact z),bC _ _ _ _ (by exact z),bC _ _ _ _ (by exact z),bC _ _ _ _ (by exact z)]};have bY:=af bA;have bZ:=af aV;clear G aI D y a3 aV bA;generalize dd 32 (c.take d)=bW at *;have cr:I=false\/(I=true/\C=false)\/(I=true/\C=true):=by cases I<;>cases C<;>simp
 rcases cr with rfl|⟨rfl,rfl⟩|⟨rfl,rfl⟩;all_goals go_upto_region 14 with fail
 all_goals go_region
 all_goals(go_wp2_with fail;have aW:=bZ.set (.slice va vn vc) (.slice (some ⟨g,3,none⟩) (N-3) (cap-3)) w B bW;obtain⟨aM,aN,aO,aP,aR⟩:=aW.cells;have br:=ag bY;simp only[uS,nI,nH,rd]at br;refine cc ?_ rfl ⟨br,?_⟩;{simp[results,results64,go_sem,aM,aN,aO,aP,aR]};{have bV:=L.2.2.trans (E.mono ae);exact(((((bV.setCell (p:=⟨h.heap.size,0,none⟩) av _).setCell (p:=⟨h.heap.size,1,none⟩) av _).setCell (p:=⟨h.heap.size,2,none⟩) av _).setCell (p:=⟨h.heap.size,3,none⟩) av _).setCell (p:=⟨h.heap.size,4,none⟩) av _).drew})})))}
end Go.Proofs.YtkkpahmoljiepaaGreatDoor
