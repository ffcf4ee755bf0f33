import Derived.Test.YtkkpahmoljiepaaGreatDoorJ27
import Derived.Test.YtkkpahmoljiepaaGreatDoorJ28
import Derived.Test.YtkkpahmoljiepaaGreatDoorJ29
set_option maxRecDepth 1000000
set_option maxHeartbeats 12800000
set_option linter.unusedSimpArgs false
set_option linter.unusedVariables false
namespace Go.Proofs.YtkkpahmoljiepaaGreatDoor
open Go.RowKit Go.Proofs.Tryz
theorem WK(a:Option Addr)(b:Nat)(w:World):az 117 #[.slice a 0 b,aJ] w fun c e=>c=.returned (.bool true)/\e=w:=by
 go_enter func117,ntmps117;go_wp2_with fail;go_loopw [5] (fun d wr=>d=ak 0/\wr=w) (fun _ _=>0);case atStart=>exact dX
 case round =>(obtain⟨rfl,rfl⟩:=hrel;go_wp2;go_ret;exact dX)
theorem WL(v:Value)(a:List ah)(w:World)(j:eY w v a)(r:a.length<=1000):az 119 #[v,aJ] w fun b k=>b=.returned (.bool true)/\k=w:=by obtain⟨o,t,h,rfl,p,c⟩:=j;have q:=c.1;clear c;have n:¬(a.length:Int)<0:=ae;have d:=af (fun e g=>WK e g w);generalize a.length=i at *;by_cases l:h=i;all_goals(go_enter func119,ntmps119;go_wp2_with fail;refine(d _ _).mono ?_;rintro b u ⟨rfl,rfl⟩;go_wp2;go_ret;exact⟨rfl,rfl⟩)
theorem WM(b:Nat)(o:ah)(rs:List aj)(w:World)(hz:nC w b o rs)(a:nb o rs):az 143 #[aO b,aJ] w fun c z=>(∃y:Bool,c=.returned (.bool y))/\ax w z:=by
 obtain⟨D,j,u,q,z0,A,F,g⟩:=hz;have B:=(bn.1 z0).1;have G:w.cell? (aq b 1)=some (aF j u rs.length q):=by exact BD
 have k:=af g;have C:=a.2.1;have i:=af a;clear z0 A g a;go_enter func143,ntmps143;go_wp2_with fail;go_loopw [5] (fun t wr=>t=ak 0/\wr=w) (fun _ _=>0);case atStart=>exact dX
 case round =>(obtain⟨rfl,rfl⟩:=hrel;by_cases d:0<rs.length;{have r:(0:Int)<(rs.length:Int):=ae;obtain⟨x,rw',l,ap,n,p,aK,b9,cm⟩:=(ag k) 0 d;have e:=i.2.2 rs[0] (bM d);have h:=af (WL x (aC 46 rs[0].owner) _ b9 (iz e));rw[i4,dT]at l;clear ap n p aK b9 cm e;go_wp2_with fail;refine h.mono ?_;rintro c E ⟨rfl,rfl⟩;go_wp2;go_ret;exact⟨⟨true,rfl⟩,bk _ _⟩};{have r:¬(0:Int)<(rs.length:Int):=ae;go_wp2;go_ret;exact⟨.inl rfl,bk _ _⟩})
structure tB(vb:Option Nat)(n:Nat)(w w':World):Prop where
 os:w'.os=w.os
 tape:w'.tape=w.tape
 output:w'.output=w.output
 size:w.heap.size<=w'.heap.size
 block:∀k,k<w.heap.size->some k≠vb->w'.heap[k]? = w.heap[k]?
 cell:∀g,vb=some g->∀off,(∀j,j<n->off≠j*5)->w'.cell? (aq g off)=w.cell? (aq g off)
theorem tB.refl(vb:Option Nat)(n:Nat)(w:World):tB vb n w w:=⟨rfl,rfl,rfl,bb _,fun _ _ _=>rfl,fun _ _ _ _=>rfl⟩
section
variable {vb:Option Nat} {n:Nat} {w A C:World}
theorem tB.below(b:tB vb n w A)(d:ax A C)(l:∀c,vb=some c->c<w.heap.size):tB vb n w C :=
 ⟨d.os.trans b.os,d.tape.trans b.tape,d.output.trans b.output,aZ b.size d.size,fun h g j=>(d.block h (cp g b.size)).trans (b.block h g j),
  fun c e i k=>(b7 (a:=⟨c,i,none⟩) (d.block c (cp (l c e) b.size))).trans (b.cell c e i k)⟩
theorem tB.set(b:tB vb n w A){a:Nat}(d:vb=some a){c:Nat}(l:c<n)(i:Value):tB vb n w (A.setCell ⟨a,c*5,none⟩ i) :=
 ⟨b.os,b.tape,b.output,aZ b.size am,fun h p e=>(kX A (aq a (c*5)) h i (fun j=>e (by rw[d,j]))).trans (b.block h p e),
  fun k t r g=>by
   obtain rfl:a=k:=cZ (d.symm.trans t);refine Eq.trans ?_ (b.cell a d r g);have q:=g c l;unfold World.cell? World.setCell;simp only[j0,gC];cases x:A.heap[a]? with
   | none=>rfl
   | some o =>
    cases o with
    | cells u y f=>simp[yV,rl q]
    | _=>rfl⟩
theorem tB.azr(j:tB vb n w A)(q:∀i,vb=some i->∀e,e<n->∃a m h,w.cell? (aq i (e*5))=some (.slice a m h)){b d:Nat}{l:ByteArray}(c:w.cell? (aq b d)=some (.string l)):A.cell? (aq b d)=some (.string l):=by by_cases g:some b=vb;{refine(j.cell b g.symm d fun e p o=>?_).trans c;obtain⟨a,m,h,k⟩:=q b g.symm e p;rw[o]at c;rw[c]at k;cases k};{exact(b7 (a:=⟨b,d,none⟩) (j.block b (ef w (aq b d) c) g)).trans c}
theorem tB.nm(d:tB vb n w A)(o:∀b,vb=some b->∀c,c<n->∃a m h,w.cell? (aq b (c*5))=some (.slice a m h)){v:Value}{g:List ah}(p:eY w v g):eY A v g:=by obtain⟨b,q,i,j,k,e⟩:=p;exact⟨b,q,i,j,k,cp e.1 d.size,fun c l=>d.azr o (e.2 c l)⟩
theorem tB.row(h:tB vb n w A){v:Value}{l:List bL}(j:iE w v l)(d:(∀b,v.ownBlock=some b->vb≠some b)\/l=[]\/n=0):iE A v l:=by rcases j with j|⟨b,G,u,p,y,q,z⟩;{exact .inl j};{refine .inr ⟨b,G,u,p,y,cp q h.size,fun t g=>?_⟩;have e:(some b≠vb\/n=0)->∀(o:Nat) (k:Value),w.cell? (aq b o)=some k->A.cell? (aq b o)=some k:=fun c o k r=>by{by_cases i:some b=vb;{rcases c with c|c;{exact absurd i c};{exact(h.cell b i.symm o (fun t g=>ae)).trans r}};{exact(b7 (a:=⟨b,o,none⟩) (h.block b q i)).trans r}};obtain⟨B,C,D,E,F⟩:=z t g;have c:some b≠vb\/n=0:=by{rcases d with d|d|d;{exact .inl fun x=>d b (by rw[p];rfl) x.symm};{rw[d]at g;simp at g};{exact .inr d}};exact⟨e c _ _ B,e c _ _ C,e c _ _ D,e c _ _ E,e c _ _ F⟩}
end
def gs(a:Value×Value×aj):bL:=(a.1,a.2.1,a.2.2,aY a.2.2.owner)
theorem uo(a:List (Value×Value×aj)):(a.map gs).flatMap jQ=a.flatMap lg:=by rw[List.flatMap_map];rfl
def kx(c:Value)(b:List ah)(a:bL):bL:=if aY a.2.2.1.owner=cO b then(c,a.2.1,a.2.2.1,b)else a
def fF(d:Value)(c:List ah)(b:List bL)(a:Nat):List bL:=(b.take a).map (kx d c)++b.drop a
theorem x9(d:Value)(c:List ah)(a:List bL)(b:Nat):(fF d c a b).length=a.length:=by unfold fF;rw[a6,bD,de,c8];omega
theorem CO(e:Value)(d:List ah)(b:List bL)(a:Nat)(c:a<b.length):(fF e d b a)[a]? = some b[a]:=by unfold fF;rw[lT (by rw[bD,de];omega),bD,de,kb ae,i3,vA,dT,dV c]
theorem KS(d:Value)(c:List ah)(b:List bL)(a:Nat)(e:a<b.length):fF d c b (a+1)=(fF d c b a).set a (kx d c b[a]):=by
 unfold fF;have g:((b.take a).map (kx d c)).length=a:=by rw[bD,de];omega
 rw[du e,d0,fQ e,mU _ _ ae,g,i3,c5,c_];rfl
theorem WN(d:Value)(c:List ah)(b:List bL)(a:Nat)(e:a<b.length)(i:aY b[a].2.2.1.owner≠cO c):fF d c b (a+1)=fF d c b a:=by
 have j:kx d c b[a]=b[a]:=by unfold kx;rw[ar i]
 rw[KS d c b a e,j];have g:=CO d c b a e;have h:a<(fF d c b a).length:=by rw[x9];exact e
 rw[dV h]at g;rw[<- cZ g,List.set_getElem_self]
theorem WO(d:Value)(c:List ah)(a:List bL)(b:Nat):(fF d c a b).map (·.2.2.1)=a.map (·.2.2.1):=by unfold fF;rw[d0,fT];have:(a.take b).map ((·.2.2.1) ∘ kx d c)=(a.take b).map (·.2.2.1):=hN fun e _=>by{show(kx d c e).2.2.1=e.2.2.1;unfold kx;split<;>rfl};rw[this,<- d0,ft]
theorem WP(c:Value)(b:List ah)(a:List bL):fF c b a a.length=a.map (kx c b):=by unfold fF;rw[dK,kN,eu]
theorem WQ(c:Value)(b:List ah)(a:List bL):fF c b a 0=a:=rfl
theorem KT:∀(b:List bL) (a:Nat) (d:a<b.length) (c:Value),(b.flatMap jQ).set (a*5) c=(b.set a (c,b[a].2)).flatMap jQ
 | e::b,0,_,c=>rfl
 | e::b,a+1,d,c=>by
  have g:a<b.length:=by simp at d;omega
  rw[eT,mU _ _ (by show 5<=_;omega),dl,eT];have:(a+1)*5-(jQ e).length=a*5:=by show(a+1)*5-5=_;omega
  rw[this,KT b a g c];rfl
theorem WR(c:Value)(d:List ah)(b:List bL)(a:Nat)(j:a<b.length)(p:aY b[a].2.2.1.owner=cO d):(((fF c d b a).flatMap jQ).set (a*5) c)=(fF c d b (a+1)).flatMap jQ:=by
 have q:kx c d b[a]=(c,b[a].2.1,b[a].2.2.1,d):=by unfold kx;rw[ay p]
 have l:a<(fF c d b a).length:=by rw[x9];exact j
 have k:=CO c d b a j;rw [dV l] at k;have o:=cZ k;rw [KS c d b a j,q];rw [KT (fF c d b a) a l c,o]
 have t:∀(i:List bL) (e:Nat) (g h:bL),jQ g=jQ h->(i.set e g).flatMap jQ=(i.set e h).flatMap jQ:=by{
 intro i;induction i with
 | nil=>intro e g h _;rfl
 | cons u i r =>{
 intro e g h n;cases e with
 | zero=>rw[c5,c5,eT,eT,n]
 | succ e=>rw[dl,dl,eT,eT,r e g h n]}};exact t _ _ _ _ rfl
theorem WS{b:Nat->Prop}{w w':World}{v:Value}{c:List bL}(h:iE w v c)(hf:bG b w w')(hp:∀g,v.ownBlock=some g->b g):iE w' v c:=by exact Ec
theorem CP{w d:World}{v:Value}{a:List ah}{b:Nat}{r:Int}{e:Bool}(i:eY w v a)(n:0<a.length)(o:ew w b r e (aJ) (aJ) (aJ))(l:bG (fun p=>p≠b) w d):eY d v a:=by obtain⟨h,q,g,j,k,c⟩:=i;exact⟨h,q,g,j,k,c.fr l (Bl c n o)⟩
theorem KU{w:World}{c:Nat}{v:Value}{xs:List bL}(e:w.ownsRow c 119 5 v xs.length (xs.flatMap jQ))(g:0<xs.length):∃a,v.ownBlock=some a/\w.cell? (aq a 2)=some (ak xs[0].2.2.1.type):=by rcases e.2 with⟨_,l⟩|⟨a,i,j,rfl,n,d,k,o,p,h⟩;{omega};{refine⟨a,rfl,?_⟩;have b:=um xs 0 g 2 ae;rw[<- h,kS ae]at b;unfold World.cell?;rw[d];simpa [jQ]using b}
structure azy(w':World)(v:Value)(q:Int×Bool×List aj×List aj)(add:List aj)(qn:List ah)(t:Bool)(va vu vd:Value)(xa bU xd:List bL):Prop where
 v:v=.agg #[ak q.1,.bool q.2.1,va,vu,vd]
 ra:iE w' va xa
 aFE:iE w' vu bU
 aFF:iE w' vd xd
 ma:xa.map (·.2.2.1)=q.2.2.1
 mu:bU.map (·.2.2.1)=q.2.2.2
 md:xd.map (·.2.2.1)=add
 la:∀x∈xa,x.2.2.2=if t=false/\aY x.2.2.1.owner=cO qn then qn else aY x.2.2.1.owner
 Aw:∀x∈bU++xd,x.2.2.2=aY x.2.2.1.owner
 nm:∀x∈xa++(bU++xd),eY w' x.1 x.2.2.2/\eY w' x.2.1 (aC 32 x.2.2.1.data)
def CQ(k:World)(c:Ending)(d:Int×Bool×List aj×List aj)(a:List aj)(e:List ah):Prop:=∃v g h j i l b n,c=.returned v/\azy k v d a e g h j i l b n
theorem FY{P:Prop}(h:P:=by exact ⟨this.1.nm.below uC,this.2.nm.below uC,rfl⟩):P:=h
theorem El{P:Prop}(h:P:=by simp[results,results77,go_sem,n0,n1,n2,n3,n4]):P:=h
theorem WT(bl t z:Nat)(o cd T:ah)(rs:List aj)(c:List ah)(B bK:Int)(cb:Bool)(cf bI:Int)(b3 w:World)(hz:nC b3 bl o rs)(b2:ax b3 w)(cI:kG o rs)(bZ:gJ w t 0 c)(el:c.length<=z)(d4:c≠[])(c0:aY T=cO c)(cr:gp T)(cl:T.length<=260)(cn:∀b∈c,b.length<=255)(ex:c.length<=300)(cN:(fj o rs B T).2.2.2≠[]->(∀aZ∈(fj o rs B T).2.2.1,aZ.type=5)/\∀aZ∈(fj o rs B T).2.2.2,aZ.type≠5):az 77 #[aO bl,.agg #[au cd,aF t 0 c.length z,ak B,ak bK,.bool cb,ak cf,ak bI]] w fun e dt=>CQ dt e (fj o rs B T) (lG o rs B T) c/\ax w dt:=by
 obtain⟨d8,ea,d5,d6,d7⟩:=fO qU;obtain⟨eH,ca⟩:∃eH:Obj,eH=.cells #[.string (ai cd),.slice (some ⟨t,0,none⟩) c.length z,.int .i64 B,.int .i64 bK,.bool cb,.int .i64 cf,.int .i64 bI] 144:=⟨_,rfl⟩;obtain⟨dP,b7⟩:∃dP:Obj,dP=.cells #[.int .i64 0,.bool false,.slice none 0 0,.slice none 0 0,.slice none 0 0] 123:=⟨_,rfl⟩;have a7:Hid (ax w ((w.alloc eH).alloc dP)):=(aE.alloc av _).alloc am _;have c5:((w.alloc eH).alloc dP).heap.size=w.heap.size+2:=am;have bi:Hid (((w.alloc eH).alloc dP).heap[w.heap.size]? = some (.cells #[.string (ai cd),.slice (some ⟨t,0,none⟩) c.length z,.int .i64 B,.int .i64 bK,.bool cb,.int .i64 cf,.int .i64 bI] 144)):=by{rw[Hid,<- ca];exact B2};have b9:Hid (ew ((w.alloc eH).alloc dP) (w.heap.size+1) 0 false (aJ) (aJ) (aJ)):=by{have:=World.alloc_heap_new (w.alloc eH) dP;rw[cv]at this;unfold ew;rw[Hid,this,b7]};have cM:=af hz;have a5:=af cI;have cw:=af cn;have N:=af (aQ c0 (aQ cr cl));have cj:=af cN;have dk:=af (fun bz (Y:ax w bz)=>b2.trans (Y.mono b2.size));have bB:=af bZ;have di:=bZ.1;clear hz cI cn c0 cr cl cN b2 bZ;go_enter func77,ntmps77;go_wp2_with fail;rw[<- ca,<- b7];obtain⟨Z,c9⟩:∃Z,(w.alloc eH).alloc dP=Z:=⟨_,rfl⟩;rw[c9]at a7 c5 bi b9 ⊢;have eR:w.heap.size+2<=Z.heap.size:=ae;clear c9 ca b7 c5;go_loopw [5,6] (fun d_ al wr=>∃k:Nat,al=ak k/\k<=c.length/\nM wr Z.heap.size d_ ((cO c).take k)/\ax Z wr) (fun _ al _=>c.length-(intOf al).toNat);case atStart=>exact⟨0,rfl,b6 _,⟨e8 _ _ _ _,am⟩,bk _ _⟩
 case round =>(
 obtain⟨k,rfl,hk,aM,Y⟩:=hrel;have aR:=af Y;have bp:=af aM;have eG:=Y.size;have bV:wr.heap[w.heap.size]? = _:=(Y.block w.heap.size ae).trans (ag bi);have aX:wr.cell? (aq w.heap.size 1)=some (aF t 0 c.length z):=by simp[World.cell?,bV]
 have ek:wr.cell? (aq w.heap.size 2)=some (ak B):=by simp[World.cell?,bV]
 clear Y aM bV;by_cases hlk:k<c.length;{
 have ap:wr.cell? (aq t k)=some (.string (ai c[k])):=by{have aH:=bB.2 k hlk;rw[cT]at aH;exact((a7.trans (aR.mono ae)).cell (p:=⟨t,k,none⟩) di).trans aH};have d9:=ag cw c[k] (bM hlk);have dL:Hid ((cO c).take (k+1)=(cO c).take k++[c[k].map fM]):=F0;have eJ:Hid (((cO c).take k).length=k):=by rw[Hid,de,ke,kb hk]
 generalize c[k]=b at *;have dj:=af (G2 b wr ae);have dA:(k:Int)<(c.length:Int):=ae;generalize dJ:(cO c).take k=dB at *;clear dJ d9;go_wp2_with fail;refine dj.mono ?_;rintro e et ⟨rfl,bd⟩;have bQ:=af bd;have eS:=bd.size;have gY:=af (eg bp.1 bd);have ev:=ag eJ;clear bd dj ap aX ek;go_wp2_with (at_builtin;go_loud (refine oe _ rfl (.tmp 18) (.tmp 25) 113 rfl Z.heap.size 9 d8 (.string ⟨#[]⟩) 1 16 rH ea d5 d6 d7 rfl ba _ dB.length _ rfl (gY.alloc _) (aq et.heap.size 0) 1 1 [au (b.map fM)] rfl rfl (vW _ _ _) (fun e3 hu=>qw) gW ae aA ?_));intro er r hown' hgrow zC _;have cR:Hid (nM r Z.heap.size er ((cO c).take (k+1))/\ax Z r):=by{rw[Hid,ag dL];exact DT};clear hown' hgrow zC;go_wp2;exact⟨⟨k+1,bq,ae,cR.1,cR.2⟩,ci⟩};{
 obtain rfl:k=c.length:=ae;have aM:=ag bp;rw[ie (by rw[ke];exact bb _),<- N.1]at aM;have dA:¬(c.length:Int)<(c.length:Int):=ae;obtain⟨aU,aV,rfl,bX,eO,bS⟩:=l6 aM (xu T);have co:=af bS;have dM:=xg T;have b_:=a7.trans (aR.mono ae);have ce:=af b_;have cq:=af (KD bl (aF aU 0 (aY T).length aV) o rs B (fj o rs B T) (fun _=>False) b3 wr (ag cM) (dk wr b_) (fun _ _ h=>h) (fun _ _ h=>h) (ag a5) (.inl ⟨aU,0,aV,T,rfl,fun h=>h,bS,bX,N.2.1,N.2.2,rfl⟩));have ey:(((aY T).length:Int)==0)=false:=by simp[xu T]
 clear aM bp hlk hk bS b_ cw;go_wp2_with fail;refine cq.mono ?_;rintro e r ⟨⟨v,rfl,c8⟩,aI⟩;obtain⟨dC,a4⟩:=a2 (fj o rs B T);obtain⟨ck,bC⟩:=a2 (lG o rs B T);have c1:Bv rs (fj o rs B T)=ck:=by rw[bC];rfl
 rw [c1,<- a4] at c8;rw [<- a4] at cj;have a3:=af (aQ a4 bC);obtain ⟨e5,e7,e6,rfl,ed,dE,ee,c2⟩:=c8;obtain ⟨C,dq,bA,cz⟩:=ed;obtain ⟨j,cA,u1,u2⟩:=dE;obtain ⟨u,dp,bO,cL⟩:=ee;have ez:=aI.size;have c_:=ce.trans (aI.mono ce.size);have aP:=af c_
 have bg:∀ {v:Value} {n:Nat} {xs:List Value},r.ownsRow wr.heap.size 119 5 v n xs->∃a bJ,v=.slice a n bJ:=fun h=>by{rcases h.2 with⟨h,aH⟩|⟨g,eF,bN,h,_⟩;{exact⟨none,0,by rw[h,aH]⟩};{exact⟨_,_,h⟩}};obtain⟨x,y,ep⟩:=bg bA;obtain⟨E,F,dI⟩:=bg u1;obtain⟨G,H,es⟩:=bg bO;have dc:=af ((aI.block w.heap.size ae).trans ((aR.block w.heap.size ae).trans (ag bi)));have dd:Hid (ew r (w.heap.size+1) 0 false (aJ) (aJ) (aJ)):=(aI.block (w.heap.size+1) ae).trans ((aR.block (w.heap.size+1) ae).trans (ag b9));have bv:=af (co.below aI);have aa:=af (aQ dq (aQ bA cz));have W:=af (aQ cA (aQ u1 u2));have aW:=af (aQ dp (aQ bO cL));have ct:=af c2;clear dq bA cz cA u1 u2 dp bO cL c2 aI c_ cq aR a7 ce bi b9 co a4 bC c1 bg;subst ep dI es;obtain⟨R,O,aD,aG⟩:=dC;simp only at *;go_wp2_with fail;obtain⟨ab,bt⟩:∃ab:Obj,ab=.cells #[.int .i64 R,.bool O,.slice x C.length y,.slice E j.length F,.slice G u.length H] 123:=⟨_,rfl⟩;rw[<- bt];have be:ax r (r.alloc ab):=aE.alloc av _;have cs:Hid (ew (r.alloc ab) r.heap.size R O (.slice x C.length y) (.slice E j.length F) (.slice G u.length H)):=by{unfold ew;rw[Hid,World.alloc_heap_new,bt]};have eL:(r.alloc ab).heap.size=r.heap.size+1:=am;have bU:=af be;have cW:=aP.trans (be.mono aP.size);have cB:(aY T).length<=1000:=by rw[N.1,ke];omega
 have dx:=af (Bw bl o rs (aF aU 0 (aY T).length aV) (aY T) (r.alloc ab) (cM.below (dk _ cW)) (xD (ag a5)) ⟨aU,0,aV,rfl,bX,bv.below be⟩ cB dM);clear be cW;generalize r.alloc ab=e_ at *;refine dx.mono ?_;rintro e D ⟨rfl,bf⟩;have uC:=bU.trans (bf.mono bU.size);obtain⟨an,c7⟩:=a2 (jL rs (aY T));rw[<- c7];clear c7;have eA:=uC.size;have eB:=bf.size;have cC:Hid (ew D r.heap.size R O (.slice x C.length y) (.slice E j.length F) (.slice G u.length H)):=(bf.block r.heap.size ae).trans (ag cs);have em:=af ((uC.block w.heap.size ae).trans (ag dc));have ec:Hid (ew D (w.heap.size+1) 0 false (aJ) (aJ) (aJ)):=(uC.block (w.heap.size+1) ae).trans (ag dd);have dN:=af (bv.below uC);have a8:=af (aP.trans (uC.mono aP.size));obtain⟨l,a0⟩:=a2 (C.map gs);have a1:l.length=C.length:=by rw[a0,bD]
 have bh:Hid (D.ownsRow wr.heap.size 119 5 (.slice x C.length y) C.length (l.flatMap jQ)):=by rw[Hid,a0,uo];exact eg aa.2.1 uC
 have aK:Hid (∀b∈l,eY D b.1 (aY b.2.2.1.owner)/\eY D b.2.1 (aC 32 b.2.2.1.data)/\b.2.2.2=aY b.2.2.1.owner):=fun b i=>by{rw[a0]at i;obtain⟨M,U,rfl⟩:=fz.1 i;have:=aa.2.2 M U;exact⟨this.1.nm.below uC,this.2.nm.below uC,rfl⟩};have bw:Hid (l.map (·.2.2.1)=aD):=by rw[Hid,a0,fT];exact aa.1
 have bE:Hid (iE D (.slice E j.length F) (j.map gs)/\iE D (.slice G u.length H) (u.map gs)/\(∀b∈j.map gs++u.map gs,eY D b.1 (aY b.2.2.1.owner)/\eY D b.2.1 (aC 32 b.2.2.1.data)/\b.2.2.2=aY b.2.2.1.owner)/\(j.map gs).map (·.2.2.1)=aG/\(u.map gs).map (·.2.2.1)=ck):=by{
 have dl:D.ownsRow wr.heap.size 119 5 (.slice E j.length F) (j.map gs).length ((j.map gs).flatMap jQ):=by rw[uo,bD];exact eg W.2.1 uC
 have dm:D.ownsRow wr.heap.size 119 5 (.slice G u.length H) (u.map gs).length ((u.map gs).flatMap jQ):=by rw[uo,bD];exact eg aW.2.1 uC
 refine ⟨xY dl,xY dm,fun b i=>?_,by rw [fT]; exact W.1,by rw [fT]; exact aW.1⟩;rcases dv.1 i with i | i;{obtain ⟨M,U,rfl⟩:=fz.1 i;have:=W.2.2 M U;exact FY};{obtain ⟨M,U,rfl⟩:=fz.1 i;have:=aW.2.2 M U;exact FY}};have Q:Hid ((∀ g,(Value.slice x C.length y).ownBlock=some g->wr.heap.size<=g/\g<r.heap.size)/\(∀ g,(Value.slice E j.length F).ownBlock=some g->wr.heap.size<=g/\g<r.heap.size)/\(∀ g,(Value.slice G u.length H).ownBlock=some g->wr.heap.size<=g/\g<r.heap.size)):=⟨e9 aa.2.1,e9 W.2.1,e9 aW.2.1⟩
 have cu:Hid ((Value.slice E j.length F).ownBlock≠(Value.slice x C.length y).ownBlock\/j.map gs=[]\/C=[]):=by{by_cases J:j=[];{exact .inr (.inl (by rw[J];rfl))};by_cases X:C=[];{exact .inr (.inr X)};refine .inl fun K=>?_;have dO:aG≠[]:=fun e=>J (by have:=W.1;rw[e]at this;exact kJ);obtain⟨en,eo⟩:=ag cj dO;have b4:=nT.2 X;have bn:=nT.2 J;obtain⟨g,bR,da⟩:=KU (xs:=C.map gs) (by rw[uo,bD];exact aa.2.1) (by rw[bD];exact b4);obtain⟨cS,aT,db⟩:=KU (xs:=j.map gs) (by rw[uo,bD];exact W.2.1) (by rw[bD];exact bn);have dz:=cZ (bR.symm.trans (K.symm.trans aT));rw[dz]at da;rw[da]at db;have cD:((C.map gs)[0]'(by rw[bD];exact b4)).2.2.1.type=((j.map gs)[0]'(by rw[bD];exact bn)).2.2.1.type:=by{have:=cZ db;simpa using this};rw[kT,kT]at cD;refine eo j[0].2.2 ?_ ?_;{rw[<- W.1];exact nz (bM bn)};{refine(Eq.symm cD).trans (en C[0].2.2 ?_);rw[<- aa.1];exact nz (bM b4)}};have L:Hid (∀g,(Value.slice x C.length y).ownBlock=some g->∀V,V<C.length->∃a m bJ,D.cell? (aq g (V*5))=some (.slice a m bJ)):=fun g I V c3=>by{have dK:x=some (aq g 0):=by{rcases bh.2 with⟨h,_⟩|⟨cS,cJ,bN,h,_⟩;{rw[h]at I;cases I};{have J:=(gL h).1;rw[J]at I ⊢;simp[Value.ownBlock]at I;rw[I]}};have c4:=ag bh;rw[dK]at c4;have ad:=kj c4 (V*5) ae;have i:=um l V ae 0 ae;rw[dT]at i;rw[i]at ad;obtain⟨cU,eU,eE,aT,_,_⟩:=(aK l[V] (bM _)).1;exact⟨_,_,_,ad.trans (bP some aT)⟩};have dF:=af (aQ rfl rfl:(aD=aD/\aG=aG));obtain⟨n,bY⟩:=a2 C.length;rw[<- bY]at cC bh Q cu L a1 ct ⊢;have dQ:Hid (C=[]->n=0):=fun h=>by rw[bY,h];rfl
 clear bY dx aa W aW cs bU aP dc dd bv bf uC a0 bt dF cj;have fa:n<=1000:=by{have h:=(pT (ag a5) B 9 true false [] T N.2.1 N.2.2 (fun aZ b0=>by cases b0) (b6 _)).2.2.1;have e:jP o (aS rs) B 9 true false [] T=(R,O,aD,aG):=a3.1.symm;rw[e]at h;have X:=bP List.length (ag bw);rw[bD,a1]at X;simp only at h;omega};generalize wr=dw at *;go_wp2_with fail;go_loopw [9] (fun al wr=>∃d:Nat,al=ak d/\d<=n/\(an=true->d=0)/\Hid (wr.ownsRow dw.heap.size 119 5 (.slice x n y) n ((fF (aF t 0 c.length z) c l d).flatMap jQ)/\tB (Value.slice x n y).ownBlock n D wr)) (fun al _=>n-(intOf al).toNat);case atStart=>exact⟨0,rfl,b6 _,fun _=>rfl,by unfold fF;rw[kW,kg];exact bh,tB.refl _ _ _⟩
 case round =>(
 obtain⟨d,rfl,ao,bF,a9⟩:=hrel;obtain⟨P,q⟩:=ag a9;have b8:wr.heap[r.heap.size]? = D.heap[r.heap.size]?:=q.block _ ae (fun e=>by have:=(Q.1 _ e.symm).2;omega);obtain⟨eh,ei,cK,cx,ej⟩:=(cC.kept b8).cells;have dD:∀g,(Value.slice x n y).ownBlock=some g->g<D.heap.size:=fun g I=>by have:=(Q.1 g I).2;omega
 have bo:wr.heap[w.heap.size]? = D.heap[w.heap.size]?:=q.block _ ae (fun e=>by have:=(Q.1 _ e.symm).1;omega);have aX:wr.cell? (aq w.heap.size 1)=some (aF t 0 c.length z):=by simp[World.cell?,bo,ag em]
 have eP:=q.size;by_cases ad:d<n/\an=false;{
 obtain⟨d3,rfl⟩:=ad;clear bF;have aB:d<l.length:=ae;obtain⟨g,dR⟩:∃g,x=some ⟨g,0,none⟩:=by{rcases P.2 with⟨_,aH⟩|⟨g,cJ,bN,h,_⟩;{omega};{exact⟨g,(gL h).1⟩}};subst dR;have eQ:=Q.1 g rfl;have eI:n<=y:=by{rcases P.2 with⟨_,aH⟩|⟨cS,cJ,bN,h,_,_,bT,_⟩;{omega};{have:=(gL h).2.2;omega}};have bW:wr.cell? (aq g (d*5))=some l[d].1:=by{
 have J:=kj P (d*5) ae;have X:d<(fF (aF t 0 c.length z) c l d).length:=by rw[x9];exact aB
 have bT:=um _ d X 0 ae;have cY:=CO (aF t 0 c.length z) c l d aB;rw[dV X]at cY;rw[dT,cZ cY]at bT;rw[J,bT];rfl};have dZ:=zU P (d*5);have dr:=ag aK l[d] (bM aB);have df:=q.nm (ag L) dr.1;have dh:=q.nm (ag L) ⟨aU,0,aV,rfl,bX,dN⟩;have cX:(aY l[d].2.2.1.owner).length<=1000:=by{have h:=(pT (ag a5) B 9 true false [] T N.2.1 N.2.2 (fun aZ b0=>by cases b0) (b6 _)).1;have e:jP o (aS rs) B 9 true false [] T=(R,O,aD,aG):=a3.1.symm;rw[e]at h;have J:=(h l[d].2.2.1 (by rw[<- ag bw];exact nz (bM aB))).own;have X:=iq 46 l[d].2.2.1.owner;rw[lu];omega};have br:=af (lJ _ _ (aY l[d].2.2.1.owner) (aY T) wr df dh cX cB);have cg:Hid (aY l[d].2.2.1.owner≠aY T->fF (aF t 0 c.length z) c l (d+1)=fF (aF t 0 c.length z) c l d):=fun h=>WN _ _ _ _ aB (by rw[<- N.1];exact h);have ch:Hid (aY l[d].2.2.1.owner=aY T->(((fF (aF t 0 c.length z) c l d).flatMap jQ).set (d*5) (aF t 0 c.length z))=(fF (aF t 0 c.length z) c l (d+1)).flatMap jQ):=fun h=>WR _ _ _ _ aB (by rw[<- N.1];exact h);obtain⟨eu,eX,eV,cy,_,_⟩:=df;have eM:(d:Int)<(n:Int):=ae;rw[cy]at br bW;generalize (aY l[d].2.2.1.owner).length=eW at *;generalize aY l[d].2.2.1.owner=ef at *;clear dr dh cX cy P q b8 bo eh ei cx ej;go_wp2_with fail;refine br.mono ?_;rintro e bj ⟨rfl,ac⟩;obtain⟨P,q⟩:=ag a9;have bH:=eg P ac;have cE:=q.below ac dD;have e4:=ac.size;have eZ:bj.cell? (aq w.heap.size 1)=some (aF t 0 c.length z):=(ac.cell (p:=⟨w.heap.size,1,none⟩) (by show w.heap.size<_;omega)).trans aX;have cm:bj.cell? (aq g (d*5))=_:=(ac.cell (p:=⟨g,d*5,none⟩) uJ).trans bW;have eK:bj.frozen? (aq g (d*5))=false:=zU bH (d*5);have KV:bj.cell? (aq r.heap.size 2)=_:=(ac.cell (p:=⟨r.heap.size,2,none⟩) (by show r.heap.size<_;omega)).trans cK;have cF:=af bH;have cG:=af cE;clear P q bH cE ac br a9 aX bW dZ cK;by_cases aN:ef=aY T;{have bs:=af (ch aN);rw[eC aN];clear aN ch cg;go_wp2_with fail;have c6:=World.ownsRow.stored (ag cF) (d*5) (aF t 0 c.length z);rw[ag bs]at c6;exact⟨⟨d+1,bq,ae,(fun h=>by cases h),c6.1,cG.set rfl d3 _⟩,ci⟩};{have bs:=af (cg aN);rw[eD aN];clear aN ch cg;go_wp2;exact⟨⟨d+1,bq,ae,(fun h=>by cases h),by rw[ag bs];exact cF,cG⟩,ci⟩}};{
 have dy:wr.heap[w.heap.size+1]? = D.heap[w.heap.size+1]?:=q.block _ ae (fun e=>by have:=(Q.1 _ e.symm).1; omega);have bc:=ec.kept dy;obtain ⟨e0,dl,dm,e1,e2⟩:=bc.cells;have eT:=bc.frozen;have cH:ax w wr:=a8.trans ⟨q.os,q.tape,q.output,q.size,fun k hk=>q.block k (by have:=a8.size; omega) (fun e=>by have:=(Q.1 _ e.symm).1; omega)⟩
 have dY:Hid (∃aw,iE wr (.slice x n y) aw/\aw.map (·.2.2.1)=aD/\(∀b∈aw,b.2.2.2=if an=false/\aY b.2.2.1.owner=cO c then c else aY b.2.2.1.owner)/\∀b∈aw,eY wr b.1 b.2.2.2/\eY wr b.2.1 (aC 32 b.2.2.1.data)):=by{
 refine⟨fF (aF t 0 c.length z) c l d,xY (by rw[x9,a1];exact P),by rw[WO];exact bw,?_⟩;cases an with
 | true =>{rw[bF rfl,WQ];refine⟨fun b i=>?_,fun b i=>?_⟩;{rw[ar am];exact(aK b i).2.2};{have h:=ag aK b i;rw[h.2.2];exact⟨q.nm (ag L) h.1,q.nm (ag L) h.2.1⟩}}
 | false =>{have d1:d=l.length:=by{rw[a1];exact Nat.le_antisymm ao (Nat.le_of_not_lt fun h=>ad ⟨h,rfl⟩)};rw[d1,WP];have dG:=q.nm (ag L) ⟨t,0,z,rfl,el,cp bB.1 a8.size,fun V c3=>(a8.cell (p:=⟨t,0+V,none⟩) di).trans (bB.2 V c3)⟩;refine⟨fun b i=>?_,fun b i=>?_⟩;{obtain⟨M,U,rfl⟩:=fz.1 i;have h:=ag aK M U;unfold kx;by_cases K:aY M.2.2.1.owner=cO c;{rw[ay K,ay ⟨rfl,K⟩]};{rw[ar K,ar (fun h=>K h.2)];exact h.2.2}};{obtain⟨M,U,rfl⟩:=fz.1 i;have h:=ag aK M U;unfold kx;by_cases K:aY M.2.2.1.owner=cO c;{rw[ay K];exact⟨dG,q.nm (ag L) h.2.1⟩};{rw[ar K,h.2.2];exact⟨q.nm (ag L) h.1,q.nm (ag L) h.2.1⟩}}}};have dH:Hid (iE wr (.slice E j.length F) (j.map gs)/\iE wr (.slice G u.length H) (u.map gs)/\∀b∈j.map gs++u.map gs,b.2.2.2=aY b.2.2.1.owner/\eY wr b.1 b.2.2.2/\eY wr b.2.1 (aC 32 b.2.2.1.data)):=by{obtain⟨bR,aT,dS,_,_⟩:=ag bE;refine⟨q.row bR ?_,q.row aT (.inl fun g I=>ag ct g I),fun b i=>?_⟩;{rcases ag cu with h|h|h;{exact .inl fun g I K=>h (I.trans K.symm)};{exact .inr (.inl h)};{exact .inr (.inr (dQ h))}};{have h:=dS b i;rw[h.2.2];exact⟨rfl,q.nm (ag L) h.1,q.nm (ag L) h.2.1⟩}};have dg:=af cH;have ds:=af bc;have eq:¬(d:Int)<(n:Int)\/((d:Int)<(n:Int)/\an=true):=by{by_cases J:d<n;{right;refine⟨ae,?_⟩;cases an;{exact absurd ⟨J,rfl⟩ ad};{rfl}};{left;omega}};clear P q b8 bo dy bc cH ad a9 bF aX;have eN:Hid (∀(bz:World),ew bz (w.heap.size+1) R O (.slice x n y) (.slice E j.length F) (.slice G u.length H)->True):=fun _ _=>aL;rcases eq with J|⟨J,fb⟩;all_goals(go_wp2_with fail;have bm:=(((((ds.set0 R).set1 O).set2 (.slice x n y)).jv (.slice E j.length F)).mh (.slice G u.length H));have S:bG (fun k=>k≠w.heap.size+1) wr (((((wr.setCell ⟨w.heap.size+1,0,none⟩ (.int .i64 R)).setCell ⟨w.heap.size+1,1,none⟩ (.bool O)).setCell ⟨w.heap.size+1,2,none⟩ (.slice x n y)).setCell ⟨w.heap.size+1,3,none⟩ (.slice E j.length F)).setCell ⟨w.heap.size+1,4,none⟩ (.slice G u.length H)) := (((((bG.kA (A:=wr) (a:=⟨w.heap.size+1,0,none⟩) _ (fun _ h=>h)).trans (bG.kA (a:=⟨w.heap.size+1,1,none⟩) _ (fun _ h=>h))).trans (bG.kA (a:=⟨w.heap.size+1,2,none⟩) _ (fun _ h=>h))).trans (bG.kA (a:=⟨w.heap.size+1,3,none⟩) _ (fun _ h=>h))).trans (bG.kA (a:=⟨w.heap.size+1,4,none⟩) _ (fun _ h=>h)));have bu:ax w (((((wr.setCell ⟨w.heap.size+1,0,none⟩ (.int .i64 R)).setCell ⟨w.heap.size+1,1,none⟩ (.bool O)).setCell ⟨w.heap.size+1,2,none⟩ (.slice x n y)).setCell ⟨w.heap.size+1,3,none⟩ (.slice E j.length F)).setCell ⟨w.heap.size+1,4,none⟩ (.slice G u.length H)):=dg.trans ⟨S.os,S.tape,S.output,S.size,fun k hk=>S.block k (by have:=dg.size;omega) ae⟩;revert bm S bu;generalize World.setCell _ _ _=dn;intro bm S bu;obtain⟨n0,n1,n2,n3,n4⟩:=bm.cells;obtain⟨aw,dU,dW,cP,cQ⟩:=ag dY;obtain⟨dX,cU,cV⟩:=ag dH;refine cc (v:=.agg #[.int .i64 R,.bool O,.slice x n y,.slice E j.length F,.slice G u.length H]) El rfl ⟨⟨_,an,.slice x n y,.slice E j.length F,.slice G u.length H,aw,j.map gs,u.map gs,rfl,?_⟩,bu⟩;rw[<- a3.1,<- a3.2];have b1:∀ {v:Value} {xs:List bL},iE wr v xs->(∀g,v.ownBlock=some g->dw.heap.size<=g/\g<r.heap.size)->iE dn v xs:=fun h Y=>WS h S (fun g I=>by have:=(Y g I).1;omega);have a_:∀ {v:Value} {b5:List ah},eY wr v b5->0<b5.length->eY dn v b5:=fun h d2=>CP h d2 (ag ds) S;have eb:∀b∈aw,0<b.2.2.2.length:=fun b i=>by{rw[cP b i];split;{exact nT.2 d4};{exact xg _}};refine⟨rfl,b1 dU Q.1,b1 dX Q.2.1,b1 cU Q.2.2,dW,bE.2.2.2.1,bE.2.2.2.2,cP,fun b i=>(cV b i).1,fun b i=>?_⟩;rcases dv.1 i with i|i;{exact⟨a_ (cQ b i).1 (eb b i),a_ (cQ b i).2 (tY 32 _)⟩};{have h:=cV b i;exact⟨a_ h.2.1 (by rw[h.1];exact xg _),a_ h.2.2 (tY 32 _)⟩})})})
theorem Wv(l:Nat)(o K:ah)(rs:List aj)(e y:Int)(J:Bool)(L u:Int)(F w:World)(hz:nC F l o rs)(E:ax F w)(T:kG o rs):az 77 #[aO l,.agg #[au K,aJ,ak e,ak y,.bool J,ak L,ak u]] w fun z an=>CQ an z (5,false,[],[]) [] []/\ax w an:=by
 obtain⟨eH,I⟩:∃eH:Obj,eH=.cells #[.string (ai K),.slice none 0 0,.int .i64 e,.int .i64 y,.bool J,.int .i64 L,.int .i64 u] 144:=⟨_,rfl⟩;obtain⟨dP,G⟩:∃dP:Obj,dP=.cells #[.int .i64 0,.bool false,.slice none 0 0,.slice none 0 0,.slice none 0 0] 123:=⟨_,rfl⟩;have h:Hid (ax w ((w.alloc eH).alloc dP)):=(aE.alloc av _).alloc am _;have W:((w.alloc eH).alloc dP).heap.size=w.heap.size+2:=am;have N:((w.alloc eH).alloc dP).heap[w.heap.size]? = some (.cells #[.string (ai K),.slice none 0 0,.int .i64 e,.int .i64 y,.bool J,.int .i64 L,.int .i64 u] 144):=by{rw[<- I];exact B2};have ac:((w.alloc eH).alloc dP).cell? (aq w.heap.size 1)=some (aJ):=by simp[World.cell?,N]
 have ad:((w.alloc eH).alloc dP).cell? (aq w.heap.size 2)=some (ak e):=by simp[World.cell?,N]
 have H:Hid (ew ((w.alloc eH).alloc dP) (w.heap.size+1) 0 false (aJ) (aJ) (aJ)):=by{have:=World.alloc_heap_new (w.alloc eH) dP;rw[cv]at this;unfold ew;rw[Hid,this,G]};have V:=af hz;have U:=af T;have al:=af (fun aw (aB:ax w aw)=>E.trans (aB.mono E.size));clear hz T E N;go_enter func77,ntmps77;go_wp2_with fail;rw[<- I,<- G];obtain⟨c,X⟩:∃c,(w.alloc eH).alloc dP=c:=⟨_,rfl⟩;rw[X]at h W ac ad H ⊢;have aL:w.heap.size+2<=c.heap.size:=ae;clear X I G W;go_loopw [5,6] (fun aC D wr=>aC=aJ/\D=ak 0/\wr=c) (fun _ _ _=>0);case atStart=>exact⟨rfl,rfl,rfl⟩
 case round =>(
 obtain⟨rfl,rfl,C⟩:=hrel;have t:=C.symm;subst t;have P:=af (KD l (aJ) o rs e (0,false,[],[]) (fun _=>False) F c (ag V) (al c h) (fun _ _ A=>A) (fun _ _ A=>A) (ag U) (.inr ⟨rfl,rfl⟩));go_wp2_with fail;refine P.mono ?_;rintro z a ⟨⟨v,rfl,aZ,a1,a0,rfl,aa,R,ab,_⟩,j⟩;obtain⟨aF,ap,rfl⟩:=aa.slice;obtain⟨aG,aI,rfl⟩:=R.slice;obtain⟨aH,aK,rfl⟩:=ab.slice;have Y:=h.trans (j.mono ae);have aM:=j.size;have Z:Hid (ew a (w.heap.size+1) 0 false (aJ) (aJ) (aJ)):=(j.block (w.heap.size+1) ae).trans (ag H);have x:=af Y;clear aa R ab j Y P ac ad H h;go_wp2_with fail;obtain⟨b,q⟩:∃b:Obj,b=.cells #[.int .i64 5,.bool false,.slice none 0 0,.slice none 0 0,.slice none 0 0] 123:=⟨_,rfl⟩;rw[<- q];have B:ax a (a.alloc b):=aE.alloc av _;have Q:ew (a.alloc b) a.heap.size 5 false (aJ) (aJ) (aJ):=by unfold ew;rw[World.alloc_heap_new,q]
 have O:ew (a.alloc b) (w.heap.size+1) 0 false (aJ) (aJ) (aJ):=(B.block (w.heap.size+1) ae).trans (ag Z);have i:=x.trans (B.mono x.size);have ar:=af (WM l o rs (a.alloc b) (V.below (al _ i)) (xD (ag U)));refine ar.mono ?_;rintro z M ⟨⟨aY,rfl⟩,k⟩;have S:ew M a.heap.size 5 false (aJ) (aJ) (aJ):=(k.block a.heap.size am).trans Q;have g:ew M (w.heap.size+1) 0 false (aJ) (aJ) (aJ):=(k.block (w.heap.size+1) aA).trans O;have ay:=af (i.trans (k.mono i.size));obtain⟨aP,aQ,cK,cx,aR⟩:=S.cells;obtain⟨aS,aT,aU,aV,aW⟩:=g.cells;have aN:=g.frozen;have aD:=af g;clear k i Q O S g B ar q Z x;go_wp2_with fail;go_loopw [9] (fun D wr=>D=ak 0/\wr=M) (fun _ _=>0);case atStart=>exact dX
 case round =>(obtain⟨rfl,C⟩:=hrel;have t:=C.symm;subst t;go_wp2_with fail;have n:=(((((aD.set0 5).set1 false).set2 (aJ)).jv (aJ)).mh (aJ));have r:=(((((ay.setCell (p:=⟨w.heap.size+1,0,none⟩) c9 (ak 5)).setCell (p:=⟨w.heap.size+1,1,none⟩) c9 (.bool false)).setCell (p:=⟨w.heap.size+1,2,none⟩) c9 (aJ)).setCell (p:=⟨w.heap.size+1,3,none⟩) c9 (aJ)).setCell (p:=⟨w.heap.size+1,4,none⟩) c9 (aJ));revert n r;generalize World.setCell _ _ _=aX;intro n r;obtain⟨n0,n1,n2,n3,n4⟩:=n.cells;refine cc (v:=.agg #[.int .i64 5,.bool false,.slice none 0 0,.slice none 0 0,.slice none 0 0]) El rfl ⟨⟨_,true,aJ,aJ,aJ,[],[],[],rfl,?_⟩,r⟩;exact⟨rfl,.inl ⟨rfl,rfl⟩,.inl ⟨rfl,rfl⟩,.inl ⟨rfl,rfl⟩,rfl,rfl,rfl,fun ao d=>(by cases d),fun ao d=>(by cases d),fun ao d=>by cases d⟩))
structure mX(T:ah)(r:aj):Prop where
 own:r.owner=T\/xE r.owner
 UM:r.owner.length<=255
 aAQ:r.owner≠[]
 aI:r.aI<=86400
 dat:cQ r.type (aC 32 r.data)=true
 len:r.data.length<=3000
theorem mX.wr{T:ah}{r:aj}(h:mX T r):Lp r:=⟨aZ h.UM ae,py h.aI ae,h.dat,h.len⟩
theorem Lo{n:ah}(b:gp n):n≠[]:=fun a=>by
 subst a;exact absurd rfl (b [] (by simp[m0]))
section
variable {o:ah} {rs:List aj} (hz:kG o rs) {T:ah}
include hz
theorem Dt{b:aj}(c:b∈rs):mX T b:=by have a:=hz.recs b c;have d:=oX a.vL;exact⟨.inr (We a.vL),ae,Lo d.1,a.aI,a.dat,a.len⟩
theorem Lq{n:ah}(g:gp n)(e:n.length<=255)(d:n=T\/xE n){b:aj}(c:b∈rs):mX T (cI n b):=by have a:=hz.recs b c;exact⟨d,e,Lo g,a.aI,a.dat,a.len⟩
theorem xQ:∀b∈eo o (aS rs),mX T b/\b.type=6:=by intro b e;unfold eo at e;obtain⟨i,c,rfl⟩:=fz.1 e;rw[rF]at c;obtain⟨h,d⟩:=dg.1 c;have a:=Dt hz (T:=T) h;have g:i.type=6:=by{rw[bW]at d;simpa using d.2};exact⟨⟨a.own,a.UM,a.aAQ,aZ (Nat.min_le_left _ _) a.aI,a.dat,a.len⟩,g⟩
omit hz in
theorem Nd{n:ah}{b:Int}{a:aj}(h0:a∈cz rs n b):a∈rs:=by exact FH
theorem Ls{n:ah}(l:gp n)(B:n.length<=255)(z:n=T\/xE n)(a:Int)(first k:Bool)(e:List aj)(g:∀r∈e,mX T r/\r.type=5):(∀r∈(cC o (aS rs) a first k e n).2.2.1,mX T r)/\(∀r∈(cC o (aS rs) a first k e n).2.2.2.1,mX T r/\(r.type=2\/r.type=6))/\((cC o (aS rs) a first k e n).2.2.2.1≠[]->∀r∈(cC o (aS rs) a first k e n).2.2.1,r.type=5)/\∀d,(cC o (aS rs) a first k e n).2.2.2.2=some d->dQ d=true/\∀r∈(cC o (aS rs) a first k e n).2.2.1,r.type=5:=by
 cases i:dU n o with
 | false =>{unfold cC;rw[ay i];exact⟨fun r hr=>(g r hr).1,o4,fun h=>absurd rfl h,mx⟩}
 | true =>{
 by_cases q:(ca o (aS rs) n).length=0;{
 have t:=df q;cases C:(cG (aS rs) n).2 with
 | false =>{rw[Bo i t C];exact⟨fun r hr=>(g r hr).1,fun r hr=>⟨(xQ hz r hr).1,.inr (xQ hz (T:=T) r hr).2⟩,fun _ r hr=>(g r hr).2,mx⟩}
 | true =>{
 by_cases p:(a=5\/a=255)\/jl o (aS rs) n=none;{rw[Bp i t C p];have E:∀r∈fC a (cG (aS rs) n).1,mX T r:=by{rcases tW hz l a with h|⟨s,h⟩;{rw[h];intro r hr;cases hr};{rw[h];intro r hr;obtain⟨N,G,rfl⟩:=fz.1 hr;exact Lq hz l B z (Nd G)}};refine⟨fun r hr=>?_,fun r hr=>?_,fun h r hr=>?_,mx⟩;{rcases dv.1 hr with h|h;{exact(g r h).1};{exact E r h}};{have b:r∈(if jH a (cG (aS rs) n).1 then []else eo o (aS rs)):=hr;split at b;{cases b};{exact⟨(xQ hz r b).1,.inr (xQ hz (T:=T) r b).2⟩}};{have w:(if jH a (cG (aS rs) n).1 then []else eo o (aS rs))≠[]:=h;split at w;{exact absurd rfl w};{rename_i M;have I:fC a (cG (aS rs) n).1=[]:=by{have J:(be bH (cG (aS rs) n).1).filter (fB a)=[]:=by{rw[i2];intro c j q;exact M (hM.2 ⟨c,j,q⟩)};unfold fC g0;rw[J];rfl};have b:r∈e++fC a (cG (aS rs) n).1:=hr;rw[I,eu]at b;exact(g r b).2}}};{
 have x:a≠5:=fun h=>p (.inl (.inl h));have D:a≠255:=fun h=>p (.inl (.inr h));cases u:jl o (aS rs) n with
 | none=>exact absurd (.inr u) p
 | some r =>{
 obtain⟨N,K,F,H,L⟩:=xb hz l u;by_cases y:e.length=8;{rw[xI i t u x D y];exact⟨o4,o4,fun h=>absurd rfl h,mx⟩};{
 rw[uc i t u x D y];have A:∀c∈e++[r],mX T c/\c.type=5:=by{
 intro c j;rcases dv.1 j with h|h;{exact g c h};{
 obtain rfl:c=r:=kI
 rw[F];exact⟨Lq hz l B z K,H⟩}};exact⟨fun c j=>(A c j).1,o4,fun h=>absurd rfl h,fun d aH=>⟨by obtain rfl:r.data=d:=cZ aH;exact L,fun c j=>(A c j).2⟩⟩}}}}};{rw[xH i q];refine⟨fun r hr=>(g r hr).1,fun r hr=>?_,fun _ r hr=>(g r hr).2,mx⟩;have b:r∈ca o (aS rs) n:=hr;refine⟨Dt hz (J5 hz l i r b),.inl ?_⟩;rcases xA (jR hz) l i with⟨_,h⟩|⟨O,_,_,h,_⟩;{rw[h]at b;cases b};{rw[h]at b;have:=(dg.1 b).2;rw[bW]at this;simpa using this.2}}}
theorem Du(e:Int):∀(f:Nat) (first d:Bool) (b:List aj) (n:ah),gp n->n.length<=255->(n=T\/xE n)->(∀a∈b,mX T a/\a.type=5)->(∀a∈(jP o (aS rs) e f first d b n).2.2.1,mX T a)/\(∀a∈(jP o (aS rs) e f first d b n).2.2.2,mX T a/\(a.type=2\/a.type=6))/\((jP o (aS rs) e f first d b n).2.2.2≠[]->∀a∈(jP o (aS rs) e f first d b n).2.2.1,a.type=5)
 | 0,first,d,b,n,j,i,g,h=>by
  have c:=Ls hz j i g e first d b h
  exact⟨c.1,c.2.1,c.2.2.1⟩
 | f+1,first,d,b,n,j,i,g,h=>by
  have c:=Ls hz j i g e first d b h
  unfold jP;generalize cC o (aS rs) e first d b n=w at c
  obtain⟨y,r,u,x,t⟩:=w;cases t with
  | none=>exact⟨c.1,c.2.1,c.2.2.1⟩
  | some l =>{obtain⟨k,q⟩:=c.2.2.2 l rfl;exact Du e f false r u l (ed k).1 (aZ (ed k).2 ae) (.inr (s2 k)) fun a p=>⟨c.1 a p,q a p⟩}
omit hz in
theorem Lt(n:ah):∀(c:List aj) (s:List ah),s.contains n=false->(cE c n 1).length+(c.filter (fun a=>s.contains a.owner)).length<=(c.filter (fun a=>(s++[n]).contains a.owner)).length
 | [],s,_=>by simp[cE]
 | a::c,s,g=>by
  have i:=Lt n c s g;unfold cE at i ⊢;have h:(s++[n]).contains a.owner=(s.contains a.owner||a.owner==n):=by{rw[List.contains_eq_mem,List.contains_eq_mem];by_cases b:a.owner∈s<;>by_cases d:a.owner=n<;>simp[b,d]};rw[vz,vz,vz];simp only[h];by_cases b:a.owner=n;{
  have d:s.contains a.owner=false:=by rw[b];exact g
  rw[d];have e:(a.owner==n)=true:=by simpa using b
  rw[e];simp only[mF,nI,gC,pr,pA,bi];split;{rw[bi];omega};{omega}};{
  have e:(a.owner==n)=false:=by simpa using b
  rw[e];simp only[zt,nH,pr,pA];split;{rw[bi,bi];omega};{omega}}
omit hz in
theorem Dv(c:List aj):∀(d:List aj) (s:List ah×List aj),s.2.length<=(rs.filter (fun e=>s.1.contains e.owner)).length->(d.foldl (iY rs c) s).2.length<=rs.length
 | [],s,b=>aZ b (nS _ _)
 | a::d,s,b=>by
  refine Dv c d _ ?_;unfold iY;split;{
  split;{exact b};{
  rename_i h;have i:s.1.contains (dq a.data)=false:=by simpa using h
  have j:=Lt (dq a.data) rs s.1 i;show(if c.any (fun g=>g.owner==dq a.data&&g.type==1)then s.2 else s.2++cE rs (dq a.data) 1).length<=(rs.filter (fun e=>(s.1++[dq a.data]).contains e.owner)).length;split;{omega};{rw[a6];omega}}};{exact b}
omit hz in
theorem Lu(d:Int)(first b:Bool)(c:List aj)(n:ah):∃a:Nat,a<=16/\(cC o (aS rs) d first b c n).1=(a:Int):=by
 unfold cC;split;{
 cases first
 {exact sr};{exact⟨5,ae,rfl⟩}};{
 split;{exact sr};{
 split;{split;{exact⟨2,ae,rfl⟩};{exact sr}};{
 show ∃a:Nat,a<=16/\gE o (aS rs) n=(a:Int);unfold gE;repeat' split
 all_goals first|exact⟨0,ae,rfl⟩|exact⟨3,ae,rfl⟩}}}
omit hz in
theorem Lv(c:Int):∀(f:Nat) (first a:Bool) (b:List aj) (n:ah),∃e:Nat,e<=16/\(jP o (aS rs) c f first a b n).1=(e:Int)
 | 0,first,a,b,n=>Lu c first a b n
 | f+1,first,a,b,n=>by
  have d:=Lu (o:=o) (rs:=rs) c first a b n
  unfold jP;generalize cC o (aS rs) c first a b n=k at d
  obtain⟨p,h,j,l,i⟩:=k;cases i with
  | none=>exact d
  | some g=>exact Lv c f false h j g
theorem Lw(d:List aj):∀(e:List aj) (s:List ah×List aj),(∀a∈s.2,mX T a)->∀a∈(e.foldl (iY rs d) s).2,mX T a
 | [],s,b=>b
 | h::e,s,b=>by refine Lw d e _ ?_;unfold iY;split;{split;{exact b};{show ∀a∈(if d.any (fun g=>g.owner==dq h.data&&g.type==1)then s.2 else s.2++cE rs (dq h.data) 1),mX T a;split;{exact b};{intro a c;rcases dv.1 c with c|c;{exact b a c};{exact Dt hz (dg.1 c).1}}}};{exact b}
end
structure Jg(q:(Int×Bool×List aj×List aj)×List aj)(qn:List ah)(t:Bool)(xa bU xd:List bL):Prop where
 ma:xa.map (·.2.2.1)=q.1.2.2.1
 mu:bU.map (·.2.2.1)=q.1.2.2.2
 md:xd.map (·.2.2.1)=q.2
 la:∀x∈xa,x.2.2.2=if t=false/\aY x.2.2.1.owner=cO qn then qn else aY x.2.2.1.owner
 Aw:∀x∈bU++xd,x.2.2.2=aY x.2.2.1.owner
def lz(o:ah)(rs:List aj)(m b:ah):Prop :=
 if m.length<12\/128<=(m.getD 2 0).toNat then b=[]
 else if(m.getD 2 0).toNat/8%16≠0 then b=iu m false false 4 [0,0,0,0]
 else match cR m with
  | none=>b=iu m false false 1 [0,0,0,0]
  | some (k,a,g,e,c,l,d)=>∃n i h j,Jg (ce o rs (aU a) g e c d) a n i h j/\b=p0 m k a c l (ce o rs (aU a) g e c d).1.1.toNat (ce o rs (aU a) g e c d).1.2.1 [i,h,j]
theorem Ly:∀ {f:Nat} {s:ah} {c g:List ah} {h:ah},gg f s c=some (g,h)->kV g+h.length+1=kV c+s.length/\((∀b∈c,b≠[]/\b.length<=63)->∀b∈g,b≠[]/\b.length<=63)
 | 0,_,_,_,_,a=>by cases a
 | f+1,[],_,_,_,a=>by cases a
 | f+1,d::s,c,g,h,a=>by
  unfold gg at a;split at a;{have:=cZ a;obtain⟨rfl,rfl⟩:=ev this;exact⟨by rw[bi];omega,fun a=>a⟩};{
  rename_i o;split at a;{cases a};{
  rename_i r;have q:d.toNat≠0:=fun a=>o (lX a);obtain⟨j,k⟩:=Ly a;have l:kV (c++[s.take d.toNat])=kV c+(d.toNat+1):=by{have p:d.toNat<=s.length:=ae;unfold kV;rw[d0,List.sum_append];show _+((s.take d.toNat).length+1+0)=_;rw[de,kb p]};rw[l,c8]at j;refine⟨by rw[bi];omega,fun n=>k fun b e=>?_⟩;rcases dv.1 e with e|e;{exact n b e};{
  obtain rfl:b=s.take d.toNat:=by simpa using e
  refine⟨fun i=>?_,by rw[de];omega⟩;have:=bP List.length i;rw[de,kb ae]at this;exact q this}}}
theorem rT{m d:ah}{h:List ah}{o k:Nat}{r:Bool}{n j:Nat}(a:cR m=some (d,h,o,k,r,n,j)):kV h<=254/\(∀b∈h,b≠[]/\b.length<=63)/\d.length<=259/\o<65536/\k<65536/\n<65536/\j<256/\d=d:=by
 have c:∀(s:ah) (i:Nat),aG s i<65536:=fun s i=>by{exact F3};unfold cR at a;split at a;{cases a};{
 cases e:gg (m.length+1) (m.drop 12) []with
 | none=>rw[e]at a;cases a
 | some b =>{obtain⟨u,w⟩:=b;rw[e]at a;obtain⟨p,l⟩:=Ly e;have q:kV ([]:List ah)=0:=rfl;rw[q,c8]at p;simp only at a;split at a;{cases a};{rename_i t;split at a;{split at a;{have:=cZ a;simp only[rn]at this;obtain⟨rfl,rfl,rfl,rfl,rfl,rfl,rfl⟩:=this;exact⟨ae,l (fun b g=>by cases g),uH,c _ _,c _ _,ae,ae,rfl⟩};{cases a}};{split at a;{cases a};{have:=cZ a;simp only[rn]at this;obtain⟨rfl,rfl,rfl,rfl,rfl,rfl,rfl⟩:=this;exact⟨ae,l (fun b g=>by cases g),uH,c _ _,c _ _,c _ _,dt _,rfl⟩}}}}}
theorem xR(b c:ah)(a:List ah):Lib.join (b::c::a) [46]=b++46::Lib.join (c::a) [46]:=by rw[Lib.join_cons,Lib.join_cons];simp[Lib.joinTail]
theorem Lz:∀(a:List ah),Lib.join a [46]=dd 46 a
 | []=>rfl
 | [c]=>by rw[Lib.join_one];rfl
 | c::d::b=>by rw[xR,Lz (d::b)];rfl
theorem rX{a:List ah}(h:a≠[]):aY (aU a)=cO a:=by have e:aC 46 (aU a)=a.map fN:=by{unfold aU;rw[Lz,Ds 46 _ kI (fun d g=>?_)];obtain⟨j,_,rfl⟩:=fz.1 g;exact Ed};unfold aY;rw[e,fT];unfold cO;refine hN fun d _=>?_;show(fN d).map lr=d.map fM;unfold fN;rw[fT];refine hN fun c _=>?_;show lr (fK c)=fM c;unfold fK fM;by_cases h1:65<=c.toNat/\c.toNat<=90;{rw[ay h1,ay h1];unfold lr;rw[ar];intro b;have:=bP UInt8.toNat b;rw[iZ]at this;have i:(80:UInt8).toNat=80:=rfl;omega};{rw[ar h1,ar h1];by_cases h2:c.toNat=46;{rw[ay h2];exact(lX (show c.toNat=(46:UInt8).toNat from h2)).symm ▸ rfl};{rw[ar h2];unfold lr;rw[ar];intro b;exact h1 (by rw[b];decide)}}
theorem qc:∀(b:List ah),b≠[]->(aU b).length+1=kV b
 | [a],_=>by have:aU [a]=fN a:=Lib.join_one _ _;rw[this,s7];simp[kV]
 | a::d::c,_=>by have g:=qc (d::c) am;have e:aU (a::d::c)=fN a++46::aU (d::c):=xR _ _ _;rw[e,oF,<- g,a6,bi,s7];omega
theorem uf{a:List ah}(g:a≠[])(h:∀d∈a,d≠[]):gp (aU a):=fun d c=>by
 have b:=t8 (aU a);rw[rX g]at b;rw[<- b]at c;obtain⟨k,i,rfl⟩:=fz.1 c;obtain⟨j,hz,rfl⟩:=fz.1 i;intro e;exact h j hz (by simpa using e)
end Go.Proofs.YtkkpahmoljiepaaGreatDoor
