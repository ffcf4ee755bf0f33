import Derived.Test.YtkkpahmoljiepaaGreatDoorJ11
set_option maxRecDepth 1000000
set_option maxHeartbeats 12800000
set_option linter.unusedSimpArgs false
set_option linter.unusedVariables false
namespace Go.Proofs.YtkkpahmoljiepaaGreatDoor
open Go.RowKit Go.Proofs.Tryz
structure yu(s mb:Nat)(size:Int)(cs:List Int)(W:World):Prop where
 b0:aW W s (aO mb) 216
 b1:aW W (s+1) (ak size) 3
 b2:aW W (s+2) (aJ) 56
 b3:f_ W (s+3) cs 3
 b4:aW W (s+4) (aF (s+3) 0 3 3) 56
theorem yu.kept{s mb:Nat}{size:Int}{cs:List Int}{W c:World}(a:yu s mb size cs W)(b:∀k,s<=k->k<s+5->c.heap[k]? = W.heap[k]?):yu s mb size cs c :=
 ⟨(b _ ae ae).trans a.b0,(b _ ae ae).trans a.b1,(b _ ae ae).trans a.b2,(b _ ae ae).trans a.b3,(b _ ae ae).trans a.b4⟩
theorem yu.lt{s mb:Nat}{size:Int}{cs:List Int}{W:World}(h:yu s mb size cs W):s+4<W.heap.size:=aW.lt h.b4
theorem yu.set{s mb:Nat}{size:Int}{cs:List Int}{W:World}(a:yu s mb size cs W)(b:Nat)(x:Int):yu s mb size (cs.set b x) (W.setCell ⟨s+3,b,none⟩ (.int .i64 x)) :=
 ⟨(bC _ _ _ _ (by show s≠s+3;omega)).trans a.b0,(bC _ _ _ _ (by show s+1≠s+3;omega)).trans a.b1,(bC _ _ _ _ (by show s+2≠s+3;omega)).trans a.b2,a.b3.set b x,(bC _ _ _ _ (by show s+4≠s+3;omega)).trans a.b4⟩
theorem Sg(b:Option Addr)(d c:Nat)(w:World):az 107 #[.slice b d c] w fun e a=>e=.returned (.func (.func 233) #[] #[aO w.heap.size,aO (w.heap.size+1)])/\a.heap.size=w.heap.size+2/\ax w a/\aW a w.heap.size (.slice b d c) 41/\aW a (w.heap.size+1) (.func (.func 177) #[] #[]) 261:=by refine(Hp b d c w).mono ?_;rintro e a ⟨rfl,rfl⟩;refine⟨rfl,am,(aE.alloc av _).alloc am _,(aW.mZ _ _ _).alloc _,?_⟩;have:=aW.mZ (w.alloc (.cells #[.slice b d c] 41)) (.func (.func 177) #[] #[]) 261;rwa [cv]at this
def g4(b:List aj)(a:Nat):List aj:=((be bH b).take a).flatMap (·.2)
theorem Sh(a:List aj):g4 a 0=[]:=rfl
theorem Si{b:List aj}{a:Nat}{c:Nat×List aj}(d:(be bH b)[a]? = some c):g4 b (a+1)=g4 b a++c.2:=by unfold g4;rw[s8 d,jt];simp
theorem AK(a:List aj)(b:Nat):(g4 a b).length<=a.length:=by
 have c:a=g4 a b++((be bH a).drop b).flatMap (·.2):=by{unfold g4;rw[<- jt,ft];exact(s9 bH _ _ _ av).symm};conv=>rhs;rw[c,a6]
 omega
theorem AL{c:List aj}{d:Nat×List aj}(e:d∈be bH c){b:aj}(a:b∈d.2):b∈c:=by rw[(ll e).2.2]at a;exact vF (mJ a)
theorem Sj{w g:World}{mb base d:Nat}{c:ah}{e:cY}(h:oC w mb base d c e)(a:ax w g):oC g mb base d c e:=by obtain⟨n,o,b,i,j,k,l⟩:=h;exact⟨n,o,b.kept (a.block mb b.lt),eg i a,eg j a,k,l⟩
theorem wA{w:World}{mb base:Nat}{b:ah}{c:cY}(a:cj w mb base b c):oC w mb base mb b c:=by have e:=a;obtain⟨g,h,h1,_⟩:=e;exact a.away ⟨fun d hc=>ys,fun d hc=>ys⟩
theorem rQ{w q:World}{mb base d c:Nat}{o:ah}{p:cY}(r:oC w mb base d o p)(n:(∀a,w.heap[c]?≠some (.cells a 5 (0,0)))/\∀a,w.heap[c]?≠some (.cells a 343 (0,0)))(y:mb≠c)(i:∀j,j≠c->q.heap[j]? = w.heap[j]?):oC q mb base d o p:=by obtain⟨z,A,t,k,l,u,x⟩:=r;refine⟨z,A,t.kept (i mb y),iv k fun g h=>i g fun e=>?_,iv l fun g h=>i g fun e=>?_,u,x⟩;{obtain⟨a,b⟩:=nZ k h;rw[e]at b;exact n.1 a b};{obtain⟨a,b⟩:=n5 l h;rw[e]at b;exact n.2 a b}
theorem pR{mb base b:Nat}{W c:World}{v:Value}{a:TypeId}(e:aW W b v a)(i:bR mb base W c)(h:b≠mb)(g:a≠5)(d:a≠343):aW c b v a:=i.box e h g d
theorem Sk{s mb base:Nat}{size:Int}{cs:List Int}{W c:World}(a:yu s mb size cs W)(b:bR mb base W c)(e:mb<s):yu s mb size cs c:=by have d:=a.lt;refine⟨pR a.b0 b ae ba ba,pR a.b1 b ae ba ba,pR a.b2 b ae ba ba,?_,pR a.b4 b ae ba ba⟩;have:=a.b3;unfold f_ at this ⊢;exact b.box this ae ba ba
structure oI(mb base s lb:Nat)(size:Int)(vs:Array Value)(w:World)(ds:List Nat)(cs:List Int)(d:Nat)(S:ah×cY)(W:World):Prop where
 fb:yu s mb size cs W
 lists:W.heap[lb]? = some (.cells vs 41)
 msg:oC W mb base d S.1 S.2
 po:jk S.2
 g:bT W
 tg:bR mb base w W
 defs:∀x∈ds,W.heap[x]? = some (.deferred (some []))
section
variable {mb base s lb:Nat} {size:Int} {vs:Array Value} {w:World} {ds:List Nat} {cs:List Int} {d:Nat} {S S':ah×cY} {W B:World}
theorem oI.re(a:oI mb base s lb size vs w ds cs d S W)(c:Nat)(e:(∀b,W.heap[c]?≠some (.cells b 5 (0,0)))/\∀b,W.heap[c]?≠some (.cells b 343 (0,0))):oI mb base s lb size vs w ds cs c S W :=
 ⟨a.fb,a.lists,a.msg.msg.away e,a.po,a.g,a.tg,a.defs⟩
theorem oI.keeps(a:oI mb base s lb size vs w ds cs d S W)(b:dz d W B)(n:s+4<d)(o:lb<d)(p:mb<d)(j:w.heap.size<=d)(k:∀c∈ds,c≠d):oI mb base s lb size vs w ds cs d S B:=by have q:=a.fb.lt;obtain⟨g,h,i⟩:=a.g;exact⟨a.fb.kept fun l r t=>b.block l ae ae,(b.block lb (bn.1 a.lists).1 ae).trans a.lists,a.msg.keeps b ae,a.po, ⟨cp g b.size,h,(b7 (b.block 0 g ae)).trans i⟩,a.tg.keeps b j,fun c e=>(b.block c (bn.1 (a.defs c e)).1 (k c e)).trans (a.defs c e)⟩
theorem oI.below(a:oI mb base s lb size vs w ds cs d S W)(b:ax W B):oI mb base s lb size vs w ds cs d S B:=by have h:=a.fb.lt;exact⟨a.fb.kept fun g i j=>b.block g ae,(b.block lb (bn.1 a.lists).1).trans a.lists,Sj a.msg b,a.po,a.g.below b,a.tg.trans (bR.qB b),fun c e=>(b.block c (bn.1 (a.defs c e)).1).trans (a.defs c e)⟩
theorem oI.fit(a:oI mb base s lb size vs w ds cs d S W)(b:bR mb base W B)(p:cj B mb base S'.1 S'.2)(q:jk S'.2)(j:mb<s)(k:lb≠mb)(l:0<base)(n:0<mb)(o:∀c∈ds,c≠mb)(h:(∀e,B.heap[d]?≠some (.cells e 5 (0,0)))/\∀e,B.heap[d]?≠some (.cells e 343 (0,0))):oI mb base s lb size vs w ds cs d S' B :=
 ⟨Sk a.fb b j,b.box a.lists k ba ba,p.away h,q,a.g.tg b l n,a.tg.trans b,fun c g=>(b.other (a.defs c g) (o c g) (fun _ _ _ i=>by cases i)).trans (a.defs c g)⟩
theorem oI.set(a:oI mb base s lb size vs w ds cs d S W)(e:Nat)(x:Int)(r:mb<s)(t:lb<s)(u:w.heap.size<=s)(o:∀y∈ds,y≠s+3):oI mb base s lb size vs w ds (cs.set e x) d S (W.setCell ⟨s+3,e,none⟩ (.int .i64 x)):=by have h:=a.fb.b3;unfold f_ at h;have c:∀g,g≠s+3->(W.setCell ⟨s+3,e,none⟩ (.int .i64 x)).heap[g]? = W.heap[g]?:=fun g p=>bC _ _ _ _ p;refine⟨a.fb.set e x,(c lb ae).trans a.lists,rQ a.msg ⟨fun k b=>?_,fun k b=>?_⟩ ae c,a.po,?_,a.tg.same rfl rfl rfl g8 fun q ao=>c q ae,fun y i=>(c y (o y i)).trans (a.defs y i)⟩;{rw[h]at b;simp at b};{rw[h]at b;simp at b};{obtain⟨l,j,n⟩:=a.g;exact⟨by simpa [World.setCell]using l,j,(b7 (c 0 ae)).trans n⟩}
end
section
attribute [local go_sem] Oper.semAt_some undef
theorem Sl(w:World):(Instr.makeSlice 56 (ak 3) (ak 3)).run prog w=.ok (aF w.heap.size 0 3 3) (w.alloc (.cells #[.int .i64 0,.int .i64 0,.int .i64 0] 3)):=aB
end
section
attribute [local go_sem] Oper.semAt_some undef
end
section
attribute [local go_sem] Oper.semAt_some undef
def et(s:Nat)(n:ah):List (ah×Nat):=(bo n).map fun a=>(a,s+n.length-a.length)
theorem Sm(s:Nat)(a:ah){c:Nat}{b:ah}(e:(bo a)[c]? = some b):(et s a).take (c+1)=(et s a).take c++[(b,s+a.length-b.length)]:=by
 have:(et s a)[c]? = some (b,s+a.length-b.length):=by simp[et,e]
 obtain⟨ao,d⟩:=fy.1 this;rw[du ao,d]
theorem IR:∀(f:Nat) (a:ah),a.length<=f->(bo a).length<=a.length
 | 0,a,c=>by obtain rfl:a=[]:=df ae;simp[i7]
 | f+1,a,c=>by by_cases b:a=[];{subst b;simp[i7]};{have d:=pc a b;rw[iO a b,bi];have:=IR f (eh a) ae;omega}
theorem Sn{W:World}{base c:Nat}{v:Value}{g:List (ah×Nat)}(e:fY W base v g)(ao:∀a,W.heap[c]?≠some (.cells a 343 (0,0))):some c≠v.ownBlock:=fun b=>by
 obtain⟨_,⟨rfl,_⟩|⟨i,h,a,rfl,_,d,_⟩⟩:=e
 ·simp[Value.ownBlock]at b
 ·simp only[Value.ownBlock,nr]at b;subst b;exact ao a d
theorem R1{W:World}{base a:Nat}{v:Value}{b:List (ah×Nat)}(h:fY W base v b)(hg:v.ownBlock=some a):∃cur,W.heap[a]? = some (.cells cur 343 (0,0)):=by exact BG
def n_(W:World)(a:Nat)(d e g h i j:Int)(o l:ah)(k c:Int)(n:Bool)(p b:Int):Prop:=W.heap[a]? = some (.cells #[.int .i64 d,.int .i64 e,.int .i64 g,.int .i64 h,.int .i64 i,.int .i64 j,.string (ai o),.string (ai l),.int .i64 k,.int .i64 c,.bool n,.int .i64 p,.int .i64 b] 137)
theorem n_.cells{W:World}{b:Nat}{e g i j l o:Int}{a n:ah}{k d:Int}{p:Bool}{q c:Int}(h:n_ W b e g i j l o a n k d p q c):W.cell? (aq b 6)=some (au a)/\W.cell? (aq b 7)=some (au n):=by unfold n_ at h;exact Cp
theorem n_.lt{W:World}{b:Nat}{d e g i j l:Int}{q n:ah}{k c:Int}{o:Bool}{p a:Int}(h:n_ W b d e g i j l q n k c o p a):b<W.heap.size:=(bn.1 h).1
theorem R2(mb base:Nat)(R z x K S T:Int)(A n:ah)(C u:Int)(V:Bool)(Y Q:Int)(P:Value)(c:ah)(w:World)(aC:bJ w mb P (aJ))(aD:dA w base P c)(b:bT w)(bl:base<=w.heap.size)(bW:0<base)(bZ:base<=mb)(b0:n.length<=900)(bY:c.length+A.length<=10000):az 135 #[aO mb,cP R z x K S T A n C u V Y Q] w fun i an=>i=.returned (.tuple #[])/\(∃aS k,bJ an mb aS k/\dA an base aS (c++A)/\fY an base k (et c.length n))/\Below base w an:=by
 unfold cP;refine(bK (n:=0)).1 ?_;refine callsIn_of_wp_marks func135 rfl aL ?_;simp only[ntmps135,ib,bi,cW,Nat.reduceAdd,Nat.reduceSub,h_,ik,im,il,dJ,dF];have bm:=af aC;have a_:=af aD;have a9:=af b;have bA:=aC.lt;have bX:=b.1;have bB:prog.follows .mixedOrders=true:=aB;have bI:=af (fun a b=>(e9 aD a b).2);have bQ:=IR _ n av;clear aC aD b;gi_wp2_with fail;refine⟨aL,rfl,?_⟩;refine(bK.2 (vr _ _)).mono ?_;rintro i W2 ⟨rfl,ac,ay,aU⟩;have bn:aW W2 w.heap.size (aO mb) 216:=((aW.mZ _ _ _).alloc _).below ay cu;have bp:n_ W2 (w.heap.size+1) R z x K S T A n C u V Y Q:=by{refine(ay.block _ am).trans ?_;have:=World.alloc_heap_new (w.alloc (.cells #[.pointer (some ⟨mb,0,none⟩)] 216)) (.cells #[.int .i64 R,.int .i64 z,.int .i64 x,.int .i64 K,.int .i64 S,.int .i64 T,.string (ai A),.string (ai n),.int .i64 C,.int .i64 u,.bool V,.int .i64 Y,.int .i64 Q] 137);exact kJ};have ad:ax w W2:=((aE.alloc av _).alloc am _).trans (ay.mono cu);simp only[cv]at ac aU;have bH:=af (bm.kept (ad.block mb bA));have br:Hid (dA W2 base P c):=eg (ag a_) ad;have bb:=af (a9.below ad);gi_wp2_with fail;have bz:∀X,ax W2 ((W2.alloc (.deferred (some []))).alloc (.loop X)):=fun X=>(aE.alloc av _).alloc am _;have bu:=ad.mono bl;have bN:c.length<=10000:=ae;refine Ao (xs:=bo n) (encs:=fun i:ah=>#[au i]) (St:=fun J B=>ax J B) (Kp:=fun J B=>J.heap.size<=B.heap.size/\B.heap[0]? = J.heap[0]?) (Kx:=fun _ _=>True) (gf:=241) (lb:=#[aO (w.heap.size+1+1)]) rfl (enters_of func241 aB rfl) (fun _=>rfl) ?seq [0] aA (fun J B h=>h) (fun J B h bs=>⟨bs,h _ am⟩) (fun _ _=>aL) (fun L W=>Below base w W/\dA W base P c/\aW W w.heap.size (aO mb) 216/\n_ W (w.heap.size+1) R z x K S T A n C u V Y Q/\∃k,bJ W mb P k/\fY W base k ((et c.length n).take L)/\∀a,k.ownBlock=some a->a≠W2.heap.size+1) (fun _ _=>False) (fun L J B h bt o=>⟨h.1.trans (o.below ae ae),iv h.2.1 (fun a b=>o.block a (e9 h.2.1 a b).2 (by have:=ag bI a b;omega)),aW.kept h.2.2.1 (o.block _ (aW.lt h.2.2.1) ae),(o.block _ h.2.2.2.1.lt ae).trans h.2.2.2.1,by{obtain⟨k,ak,cK,cx⟩:=h.2.2.2.2;exact⟨k,ak.kept (o.block mb ak.lt ae),iv cK (fun a b=>o.block a (e9 cK a b).2 (cx a b)),cx⟩}⟩) (fun u J B h bt o=>h) ⟨bu,br,bn,bp,aJ,bH,e8 _ _ _ _,fun a b=>by simp[Value.ownBlock]at b⟩ ?round ?done ?stop;case seq =>(intro X;have b:=bz X;exact vv _ n _ ((b.cell (p:=⟨w.heap.size+1+1,0,none⟩) sI).trans aU) (bb.below b) ae)
 case round =>(
 intro b3 L I bO W aj U a3 aV a4;obtain⟨y,D,G,E,H,r,q,ao⟩:=U;have b2:=vq (ki aj);have b7:=(fy.1 aj).1;obtain⟨Z,bF,ab,rfl⟩:=i8 D;have bL:bF=c.length:=by{obtain⟨_,⟨i,b1⟩|⟨bq,bU,bV,i,_⟩⟩:=D;{cases i;omega};{cases i;rfl}};subst bL;obtain⟨bh,ap⟩:=r.cells;have aT:=G.cell;obtain⟨bk,bj⟩:=E.cells;have b4:=a7 I;have bM:=a7 n;have bP:0<mb:=ae;have bc:ax W W.drew:=aE.drew;have aM:=af (Rs mb base I (c.length+n.length-I.length) _ H _ W.drew (r.kept rfl) (eg q bc) (by show base<=W.heap.size;have:=y.size;omega) (by simp[et];omega) ae);have a0:((c.length+n.length-I.length:Nat):Int)=(c.length:Int)+(n.length:Int)-(I.length:Int):=ae;have bD:Hid (∀e,(∃k,bJ e mb (.slice Z c.length ab) k/\fY e base k ((et c.length n).take L++[(I,c.length+n.length-I.length)])/\(k.ownBlock=H.ownBlock\/∃a,k.ownBlock=some a/\W.drew.heap.size<=a)/\bG (fun L=>L≠mb/\some L≠H.ownBlock) W.drew e)->fi W2.heap.size W e/\(∀C∈[0],e.heap[C]? = W.heap[C]?)/\Below base w e/\dA e base (.slice Z c.length ab) c/\aW e w.heap.size (aO mb) 216/\n_ e (w.heap.size+1) R z x K S T A n C u V Y Q/\∃k,bJ e mb (.slice Z c.length ab) k/\fY e base k ((et c.length n).take (L+1))/\∀a,k.ownBlock=some a->a≠W2.heap.size+1):=by{
 rintro e ⟨k,ak,cK,cx,O⟩;have o:∀g,g<W.heap.size->g≠mb->(∀N,W.heap[g]?≠some (.cells N 343 (0,0)))->e.heap[g]? = W.heap[g]?:=fun g hj bd be=>O.block g hj ⟨bd,Sn q be⟩;have aG:∀g,g<base->e.heap[g]? = W.heap[g]?:=fun g hj=>O.block g (by show g<W.heap.size;have:=y.size;omega) ⟨ae,fun i=>by{have:=(e9 q g i.symm).1;omega}⟩;have aY:W.heap.size<=e.heap.size:=O.size;refine⟨⟨aY,o _ ae ae (fun N j=>by rw[aV]at j;cases j),o _ ae ae (fun N j=>by obtain⟨X,bC⟩:=a4;rw[bC]at j;cases j)⟩,fun g hj=>?_,?_,?_,?_,?_,k,ak,?_,?_⟩;{
 obtain rfl:g=0:=uD
 exact aG 0 ae};{exact y.trans ⟨O.os,O.tape,O.output,aY,fun g hj=>aG g ae⟩};{refine iv D fun a b=>?_;obtain⟨N,t⟩:=nZ D b;exact o a (e9 D a b).2 (fun i=>by subst i;rw[r]at t;simp at t) (fun u j=>by rw[t]at j;simp at j)};{exact G.kept (o _ G.lt ae (fun u j=>by rw[G]at j;simp at j))};{exact(o _ E.lt ae (fun u j=>by rw[E]at j;simp at j)).trans E};{rw[Sm _ _ aj];exact cK};{intro a b;rcases cx with h|⟨bq,h,bw⟩;{exact ao a (by rw[<- h];exact b)};{rw[b]at h;cases h;have:W.heap.size<=a:=bw;omega}}};rw[a0]at aM;have b5:IntKind.i64.wrap ((c.length:Int)+(n.length:Int))=(c.length:Int)+(n.length:Int):=by exact sK
 have b6:IntKind.i64.wrap ((c.length:Int)+(n.length:Int)-(I.length:Int))=(c.length:Int)+(n.length:Int)-(I.length:Int):=by exact sK
 have ar:=af (aQ r (aQ q (aQ D (aQ G E))));clear r q D G E ao y aV a4 aj a0;gi_wp2_with fail;refine⟨aL,?_⟩;gi_wp2_with fail;refine H9 (fun W=>W.cell? (aq w.heap.size 0)=some (aO mb)/\W.cell? (aq (w.heap.size+1) 7)=some (au n)/\W.cell? (aq mb 0)=some (.slice Z c.length ab)) bB (m4 aB) ⟨aT,bj,bh⟩ fun l=>?_;refine gP 0 l (fun _ _ _ h=>(eU.nw h am).elim) ?_;refine gP 1 l (fun _ _ _ h=>(eU.nw h am).elim) ?_;refine gP 2 l (fun _ _ _ h=>(eU.nw h am).elim) ?_;refine gP 3 l (fun _ _ _ h=>(eU.nw h am).elim) ?_;refine gP 4 l (fun _ _ _ h=>(eU.nw h am).elim) ?_;refine gP 5 l (fun _ _ _ h=>(eU.nw h am).elim) ?_;refine gP 6 l (fun _ _ _ h=>(eU.nw h am).elim) ?_;refine gP 7 l (fun _ _ _ h=>(eU.nw h am).elim) ?_;refine gP 8 l (fun _ _ _ h=>(eU.nw h am).elim) ?_;refine gP 9 l (fun _ _ _ h=>(eU.nw h am).elim) ?_;refine gP 10 l (fun _ _ _ h=>(eU.nw h am).elim) ?_;refine gP 11 l (fun _ _ _ h=>(eU.nw h am).elim) ?_;refine gP 12 l (fun _ _ _ h=>(eU.nw h am).elim) ?_;refine gP 13 l (fun _ _ _ h=>(eU.nw h am).elim) ?_;refine ec (rs:=[14]) aB am (dr rfl (fun ba aZ=>?_) eb);go_simp;refine aM.mono ?_;rintro i e ⟨rfl,aF⟩;have aa:=af (bD e aF);clear aF;obtain⟨_,_,_,_,aN,aP,bR,a2,_⟩:=ag aa;refine aZ.out _ _ ⟨aN.cell,aP.cells.2,a2.cells.1⟩ (fun l=>?_);clear aZ ba aN aP a2;refine mz aB ?_ _;refine⟨rfl,?_⟩;gi_wp2_with fail;exact⟨aa.1,aa.2.1,aa.2.2⟩)
 case done =>(
 intro W U F a3;obtain⟨y,D,G,E,H,r,q,ao⟩:=U;rw[show(bo n).length=(et c.length n).length by simp[et],dK]at q;have aT:=G.cell;have bk:=E.cells.1;have a8:=r.lt;have bS:=y.size;have hnew:=World.alloc_heap_new W (.cells #[.iface 224 (.string (ai A))] 297);have a5:=af (ta mb base W.heap.size 1 [bE A] P H c (W.alloc (.cells #[.iface 224 (.string (ai A))] 297)) ((bx _ _ _ a8).trans r) (D.alloc _) aA (fun f a1=>by simp at a1;subst a1;exact fu _) am ae (.inr fun N h=>uF) (fun g hj=>by{
 match g,hj with
 | 0,_=>exact gA
 | g+1,hj=>simp at hj}) am am (by simp[bv,bE];omega))
 have ar:=af (aQ y (aQ r (aQ q F)));have bf:W2.heap.size≠mb:=ae;have a6:=af ac;clear r q D G E ao y F hnew ac;gi_wp2_with fail;refine⟨aL,rfl,?_⟩;refine(bK.2 (ag a5)).mono ?_;rintro i e ⟨rfl,⟨aw,z,x⟩,K⟩;have M:=af ((lK.WE (aE.alloc av _)).trans K);have bg:Hid (bJ e mb aw H/\dA e base aw (c++A)):=⟨z,by simpa [bv,bE]using x⟩;clear z x K a5;obtain⟨y,r,q,F⟩:=ag ar;have aK:e.heap[W2.heap.size]? = some (.deferred (some [])):=(M.block _ ae bf (.inr fun u j=>by rw[F]at j;cases j)).trans F;have aR:=af aK;clear y r q F aK;gi_wp2_with fail;refine⟨am,.inl ⟨_,_,rfl,run_takeDeferred (ag aR),?_⟩⟩;have ac:=ag a6;obtain⟨y,r,q,F⟩:=ag ar;obtain⟨z,x⟩:=ag bg;have al:=dz.put (d:=W2.heap.size) e W2.heap.size (.deferred none);have aH:∀a,H.ownBlock=some a->e.heap[a]? = W.heap[a]?/\a≠W2.heap.size:=fun a b=>by{obtain⟨N,t⟩:=R1 q b;refine⟨M.block a (e9 q a b).2 (fun i=>?_) (.inr fun u j=>?_),fun i=>?_⟩;{rw[i,r]at t;simp at t};{rw[t]at j;simp at j};{rw[i,F]at t;cases t}};have aI:fY e base H (et c.length n):=iv q fun a b=>(aH a b).1;have aX:=y.trans ⟨M.os,M.tape,M.output,M.size,fun C o=>M.block C ae ae (.inl o)⟩;exact⟨.tuple #[],by simp[results,results135],rfl,⟨aw,H,z.kept (al.block mb z.lt ae),iv x fun a b=>al.block a (e9 x a b).2 (fun i=>by{obtain⟨N,t⟩:=nZ x b;rw[i,ag aR]at t;cases t}),iv aI fun a b=>al.block a (e9 aI a b).2 (aH a b).2⟩,aX.trans (al.below ae (by have:=aX.size;omega))⟩)
 case stop =>(intro u W U F a3;exact U.elim)
end
theorem R3{W a:World}{s:Nat}{e ap g h aK b9 cm i hZ j me ox oz k l n:Value}(G:ax W a)(d:W.cell? (aq s 0)=some e/\W.cell? (aq s 1)=some ap/\W.cell? (aq s 2)=some g/\W.cell? (aq s 3)=some h/\W.cell? (aq s 4)=some aK/\W.cell? (aq s 5)=some b9/\W.cell? (aq s 6)=some cm/\W.cell? (aq s 7)=some i/\W.cell? (aq s 8)=some hZ/\W.cell? (aq s 9)=some j/\W.cell? (aq s 10)=some me/\W.cell? (aq s 11)=some ox/\W.cell? (aq s 12)=some oz/\W.cell? (aq (s+1) 2)=some k/\W.cell? (aq (s+1) 3)=some l/\W.cell? (aq (s+1) 4)=some n):a.cell? (aq s 0)=some e/\a.cell? (aq s 1)=some ap/\a.cell? (aq s 2)=some g/\a.cell? (aq s 3)=some h/\a.cell? (aq s 4)=some aK/\a.cell? (aq s 5)=some b9/\a.cell? (aq s 6)=some cm/\a.cell? (aq s 7)=some i/\a.cell? (aq s 8)=some hZ/\a.cell? (aq s 9)=some j/\a.cell? (aq s 10)=some me/\a.cell? (aq s 11)=some ox/\a.cell? (aq s 12)=some oz/\a.cell? (aq (s+1) 2)=some k/\a.cell? (aq (s+1) 3)=some l/\a.cell? (aq (s+1) 4)=some n:=by have b:∀(c:Addr) (v:Value),W.cell? c=some v->a.cell? c=some v:=fun c v d=>(G.cell (ef W c d)).trans d;obtain⟨o,p,u,w,x,y,z,A,B,C,q,r,t,D,E,F⟩:=d;exact⟨b _ _ o,b _ _ p,b _ _ u,b _ _ w,b _ _ x,b _ _ y,b _ _ z,b _ _ A,b _ _ B,b _ _ C,b _ _ q,b _ _ r,b _ _ t,b _ _ D,b _ _ E,b _ _ F⟩
theorem R4(a:ah)(d:a.length<=900):jk (et 12 a):=by intro e b;unfold et at b;obtain⟨c,_,rfl⟩:=fz.1 b;show 12+a.length-c.length<16384;omega
theorem R6{W:World}{a:Nat}{c e g d h f:Int}(i:f_ W a [c,e,g,d,h,f] 133)(b:Int):f_ (W.setCell ⟨a,5,none⟩ (.int .i64 b)) a [c,e,g,d,h,b] 133:=i.set 5 b
structure Hq(s hb:Nat)(h0 h1 h2 h3 h4 h5:Int)(q n:ah)(k kc:Int)(op:Bool)(sz bV:Int)(rc:Int)(bI va vb vc:Value)(hs:List Int)(W:World):Prop where
 qu:gh W s h0 h1 h2 h3 h4 h5 q n k kc op sz bV
 an:eM W (s+1) (ak rc) bI va vb vc
 hd:f_ W hb hs 133
 g:bT W
theorem Hq.keep{s d base:Nat}{i j k l n o:Int}{w t:ah}{q r:Int}{u:Bool}{y h:Int}{x:Int}{g z A B:Value}{p:List Int}{W c:World}(a:Hq s d i j k l n o w t q r u y h x g z A B p W)(b:∀e,e<base->c.heap[e]? = W.heap[e]?) (E:W.heap.size<=c.heap.size) (F:s+1<base) (G:d<base):Hq s d i j k l n o w t q r u y h x g z A B p c:=by obtain⟨C,m,D⟩:=a.g;exact⟨a.qu.kept (b _ ae),(b _ ae).trans a.an,(b _ ae).trans a.hd,⟨cp C E,m,(b7 (b 0 ae)).trans D⟩⟩
def ks(a m:Int)(b:Bool):Int:=if b=true then bits .or .i64 a m else a
theorem yb{P:Prop}(h:P:=by rw[this]at hc;simp at hc):P:=h
theorem D8{P:Prop}(h:P:=by unfold f_ at this;exact⟨fun c hc=>yb,fun c hc=>yb⟩):P:=h
theorem So(e T n H I R g ap o O P Q:Nat)(L M N:Option Addr)(y A B C D E F X:Int)(t q:ah)(G z aD:Int)(u:ah)(j:ah×cY)(w:World)(bn:bT w)(b_:g<=3001)(ca:ap<=3001)(cb:o<=3001)(r ab:Bool)(x:Nat)(aj:x=cond r (o+1) o)(bM:e<65536) (ci:T<65536) (bz:ks (ko y X) 1024 ab=(T:Int)) (cN:q.length<=900) (dC:t.length<=300)(bU:Bool) (Y:bU=(decide ((g:Int)<(H:Int))||decide ((ap:Int)<(I:Int)))) (bc:ks (T:Int) 512 bU=(n:Int)) (a_:n<65536)(cz:∀W mb base lb,ax w W->w.heap.size<=base->base<=W.heap.size->w.heap.size<=mb->cj W mb base (List.replicate 12 0++t) (et 12 q)->W.heap[lb]? = some (.cells #[.slice L H O,.slice M I P,.slice N R Q] 41)->lb≠mb->az 137 #[aO mb,ak (aD-(u.length:Int)),aF lb 0 3 3] W fun p b =>
   p=.returned (aF (W.heap.size+3) 0 3 3)/\f_ b (W.heap.size+3) [(g:Int),ap,o] 3/\cj b mb base j.1 j.2/\bR mb base W b)(cs:∀W,bT W->az 136 #[cP e y A B C D t q E F r G z,ak X] W (aP (au u) W))(cA:∀W,az 138 #[cP e y A B C D t q E F r G z] W (aP (ak aD) W))(d3:u.length<=100) (dR:aD<=2000) (dT:0<=aD) (cl:12<=j.1.length) (cd:j.1.length+u.length<=5000):az 73 #[cP e y A B C D t q E F r G z,.agg #[ak X,.bool ab,.slice L H O,.slice M I P,.slice N R Q]] w fun p b=>p=.returned (au (bv (ei e n 1 g ap x)++(j.1++u).drop 12))/\ax w b:=by
 have dc:=af cz;have di:=af cs;have dj:=af cA;have dU:=a7 u;have d7:IntKind.i64.wrap (aD-(u.length:Int))=aD-(u.length:Int):=cX
 clear cz cs cA;obtain⟨bS,bf⟩:=a2 ((w.alloc (.cells #[.int .i64 e,.int .i64 y,.int .i64 A,.int .i64 B,.int .i64 C,.int .i64 D,.string (ai t),.string (ai q),.int .i64 E,.int .i64 F,.bool r,.int .i64 G,.int .i64 z] 137)).alloc (.cells #[.int .i64 X,.bool ab,.slice L H O,.slice M I P,.slice N R Q] 43));have bk:ax w bS:=by rw[bf];exact BB
 have bo:gh bS w.heap.size e y A B C D t q E F r G z:=by
  rw[bf];exact yx
 have bL:eM bS (w.heap.size+1) (ak X) (.bool ab) (.slice L H O) (.slice M I P) (.slice N R Q):=by
  rw[bf];have:=World.alloc_heap_new (w.alloc (.cells #[.int .i64 e,.int .i64 y,.int .i64 A,.int .i64 B,.int .i64 C,.int .i64 D,.string (ai t),.string (ai q),.int .i64 E,.int .i64 F,.bool r,.int .i64 G,.int .i64 z] 137)) (.cells #[.int .i64 X,.bool ab,.slice L H O,.slice M I P,.slice N R Q] 43)
  rwa [cv]at this
 have cJ:=af (aQ bk (aQ bo bL));have cu:=af bn;have dV:w.heap.size+2<=bS.heap.size:=by rw[bf];simp<;>omega
 clear bn bk bo bL;unfold cP;go_enter func73,ntmps73;go_wp2_with fail;rw[<- bf];have dO:=af bf;clear bf;refine(Hg _ _ _ _ _ _ _ _).mono ?_;rintro p a ⟨rfl,bA⟩;obtain⟨bk,bo,bL⟩:=ag cJ;have bn:=ag cu;have bP:=bo.kept (bA.block _ bo.lt);have bH:eM a (w.heap.size+1) _ _ _ _ _:=(bA.block _ ae).trans bL;have a5:ax w a:=bk.trans (bA.mono bk.size);have d6:=bA.size;obtain⟨dE,dF,dG,dH,dI⟩:=eM.cells bH;obtain⟨dS,cB⟩:=a2 (ko y X);rw[<- cB]at bz ⊢;have cS:=af (aQ bP (aQ bH a5));clear bk bo bL bn bP bH a5 cB bA cJ dG dH dI;have dW:w.heap.size+1<a.heap.size:=ae;have cC:=af Y;have dJ:=af bc;have dL:=af aj;clear Y bc aj
 go_upto_if 15 with fail
 go_cut []from 16 (fun K=>K=(a.alloc (.cells #[.int .i64 e,.int .i64 T,.int .i64 0,.int .i64 0,.int .i64 0,.int .i64 0] 133)))
 case first =>
  cases ab with
  | true =>
   simp only[ks,gC]at bz;go_wp2_with fail;go_meet;rfl
  | false =>
   simp only[ks,pr,pA]at bz;subst bz;go_wp2_with fail;go_meet;rfl
 case rest =>
 subst hcut;go_wp2_with fail;have cZ:Hid ((Hq w.heap.size a.heap.size e y A B C D t q E F r G z X (.bool ab) (.slice L H O) (.slice M I P) (.slice N R Q) [(e:Int),T,0,0,0,0] (a.alloc (.cells #[.int .i64 e,.int .i64 T,.int .i64 0,.int .i64 0,.int .i64 0,.int .i64 0] 133)))/\ax w (a.alloc (.cells #[.int .i64 e,.int .i64 T,.int .i64 0,.int .i64 0,.int .i64 0,.int .i64 0] 133))/\a.heap.size<(a.alloc (.cells #[.int .i64 e,.int .i64 T,.int .i64 0,.int .i64 0,.int .i64 0,.int .i64 0] 133)).heap.size):=by
  obtain⟨bP,bH,a5⟩:=ag cS;have bn:=ag cu;have aC:=a5.alloc ae (.cells #[.int .i64 e,.int .i64 T,.int .i64 0,.int .i64 0,.int .i64 0,.int .i64 0] 133);exact⟨⟨bP.kept (bx _ _ _ ae),(bx _ _ _ ae).trans bH,World.alloc_heap_new a _,bn.below aC⟩,aC,am⟩
 clear cS dE dF bz dO;generalize (a.alloc (.cells #[.int .i64 e,.int .i64 T,.int .i64 0,.int .i64 0,.int .i64 0,.int .i64 0] 133))=cy at *;refine(IE _).mono ?_;rintro p c3 ⟨rfl,⟨dN,bX,cg⟩,a_⟩;obtain⟨cK,a5,dD⟩:=ag cZ;have bY:=a_.size;have a9:=cK.keep (fun d ao=>a_.block d ao) a_.size ae ae;obtain⟨base,cL⟩:=a2 cy.heap.size;obtain⟨mb,db⟩:=a2 (cy.heap.size+1);have aC:ax w c3:=a5.trans (a_.mono ae);rw[<- db]at bX ⊢;rw[<- cL]at cg dD bY;have dQ:base<mb:=ae;have bZ:=af (R2 mb base e y A B C D t q E F r G z dN (List.replicate 12 0) c3 bX cg a9.g bY ae ae cN aA);unfold cP at bZ;obtain⟨aH,aI,aJ,aK,aL,aM,aN,aR,aS,aT,al,mp,mr⟩:=a9.qu.cells;have cW:=af (aQ a9 aC);clear a9 aC bX cg a_ cK a5 cZ cL db;go_wp2_with fail;refine bZ.mono ?_;rintro p cm ⟨rfl,⟨dh,de,bG,da,c0⟩,bB⟩;obtain⟨a9,aC⟩:=ag cW;have aV:=a9.keep (fun d ao=>bB.block d ao) bB.size ae ae;have bD:ax w cm:=aC.trans (bB.mono ae);have dk:=aZ bY bB.size;clear aH aI aJ aK aL aM aN aR aS aT al mp mr;obtain⟨aH,aI,aJ,aK,aL,aM,aN,aR,aS,aT,al,mp,mr⟩:=aV.qu.cells;obtain⟨bu,bw,aw,ay,aB⟩:=eM.cells aV.an;have b0:=af (di cm aV.g);unfold cP at b0;have cU:Hid (cj cm mb base (List.replicate 12 0++t) (et 12 q)):=⟨dh,de,bG,da,c0⟩
 have cV:=af (aQ aV bD);clear bG da c0 aV bD a9 aC cW bZ bB;go_wp2_with fail;refine b0.mono ?_;rintro p l ⟨rfl,bm⟩;obtain⟨aV,bD⟩:=ag cV;have bG:=ag cU;have br:=aV.keep (base:=base) (fun d ao=>bm.block d ae) bm.size ae ae;have bQ:ax w l:=bD.trans (bm.mono ae);have ce:=bG.below bm;have dX:=aZ dk bm.size;clear aH aI aJ aK aL aM aN aR aS aT al mp mr bu bw aw ay aB;obtain⟨aH,aI,aJ,aK,aL,aM,aN,aR,aS,aT,al,mp,mr⟩:=br.qu.cells;obtain⟨bu,bw,aw,ay,aB⟩:=eM.cells br.an;have cD:Hid (∀W,az 138 #[.agg #[ak e,ak y,ak A,ak B,ak C,ak D,au t,au q,ak E,ak F,.bool r,ak G,ak z]] W (aP (ak aD) W)):=ag dj;have bV:Hid (∀W lb,ax l W->W.heap[lb]? = some (.cells #[.slice L H O,.slice M I P,.slice N R Q] 41)->l.heap.size<=lb->az 137 #[aO mb,ak (aD-(u.length:Int)),aF lb 0 3 3] W fun p b =>
   ∃U,p=.returned (aF U 0 3 3)/\(b.cell? (aq w.heap.size 0)=some (ak e)/\b.cell? (aq w.heap.size 1)=some (ak y)/\b.cell? (aq w.heap.size 2)=some (ak A)/\b.cell? (aq w.heap.size 3)=some (ak B)/\b.cell? (aq w.heap.size 4)=some (ak C)/\b.cell? (aq w.heap.size 5)=some (ak D)/\b.cell? (aq w.heap.size 6)=some (au t)/\b.cell? (aq w.heap.size 7)=some (au q)/\b.cell? (aq w.heap.size 8)=some (ak E)/\b.cell? (aq w.heap.size 9)=some (ak F)/\b.cell? (aq w.heap.size 10)=some (.bool r)/\b.cell? (aq w.heap.size 11)=some (ak G)/\b.cell? (aq w.heap.size 12)=some (ak z)/\b.cell? (aq (w.heap.size+1) 2)=some (.slice L H O)/\b.cell? (aq (w.heap.size+1) 3)=some (.slice M I P)/\b.cell? (aq (w.heap.size+1) 4)=some (.slice N R Q))/\Hid (l.heap.size<=U/\f_ b U [(g:Int),ap,o] 3/\Hq w.heap.size a.heap.size e y A B C D t q E F r G z X (.bool ab) (.slice L H O) (.slice M I P) (.slice N R Q) [(e:Int),T,0,0,0,0] b/\ax w b/\base<=b.heap.size/\cj b mb base j.1 j.2)):=by
  intro W lb bl dM d5;have dY:=ce.lt;have dz:=br.keep (base:=base) (fun d ao=>bl.block d ae) bl.size ae ae;have dZ:=bl.size;refine(dc W mb base lb (bQ.trans (bl.mono ae)) ae ae ae (ce.below bl) dM ae).mono ?_;rintro p b ⟨rfl,V,dK,aW⟩;have bW:=dz.keep (base:=base) (fun d ao=>aW.block d ae ae (.inl ao)) aW.size ae ae;have dd:ax w W:=bQ.trans (bl.mono ae);have d9:=aW.size;obtain⟨aH,aI,aJ,aK,aL,aM,aN,aR,aS,aT,al,mp,mr⟩:=bW.qu.cells;obtain⟨_,_,aw,ay,aB⟩:=eM.cells bW.an;refine⟨W.heap.size+3,rfl,⟨aH,aI,aJ,aK,aL,aM,aN,aR,aS,aT,al,mp,mr,aw,ay,aB⟩,ae,V,bW,dd.trans (show Below w.heap.size W b from⟨aW.os,aW.tape,aW.output,aW.size,fun d ao=>aW.block d ae ae (.inl ae)⟩),ae,dK⟩
 have dP:=af (aQ br bQ);have dA:l.drew.cell? (aq w.heap.size 0)=some (ak e)/\l.drew.cell? (aq w.heap.size 1)=some (ak y)/\l.drew.cell? (aq w.heap.size 2)=some (ak A)/\l.drew.cell? (aq w.heap.size 3)=some (ak B)/\l.drew.cell? (aq w.heap.size 4)=some (ak C)/\l.drew.cell? (aq w.heap.size 5)=some (ak D)/\l.drew.cell? (aq w.heap.size 6)=some (au t)/\l.drew.cell? (aq w.heap.size 7)=some (au q)/\l.drew.cell? (aq w.heap.size 8)=some (ak E)/\l.drew.cell? (aq w.heap.size 9)=some (ak F)/\l.drew.cell? (aq w.heap.size 10)=some (.bool r)/\l.drew.cell? (aq w.heap.size 11)=some (ak G)/\l.drew.cell? (aq w.heap.size 12)=some (ak z)/\l.drew.cell? (aq (w.heap.size+1) 2)=some (.slice L H O)/\l.drew.cell? (aq (w.heap.size+1) 3)=some (.slice M I P)/\l.drew.cell? (aq (w.heap.size+1) 4)=some (.slice N R Q):=⟨aH,aI,aJ,aK,aL,aM,aN,aR,aS,aT,al,mp,mr,aw,ay,aB⟩
 clear bG aV bD cV cU br bQ ce b0 bm;have dl:=af (aQ bM (aQ ci (aQ cl (aQ cd (aQ b_ (aQ ca cb))))));clear bM ci cl cd b_ ca cb cN dC;go_wp2_with fail
 go_region_held (fun b=>b.cell? (aq w.heap.size 0)=some (ak e)/\b.cell? (aq w.heap.size 1)=some (ak y)/\b.cell? (aq w.heap.size 2)=some (ak A)/\b.cell? (aq w.heap.size 3)=some (ak B)/\b.cell? (aq w.heap.size 4)=some (ak C)/\b.cell? (aq w.heap.size 5)=some (ak D)/\b.cell? (aq w.heap.size 6)=some (au t)/\b.cell? (aq w.heap.size 7)=some (au q)/\b.cell? (aq w.heap.size 8)=some (ak E)/\b.cell? (aq w.heap.size 9)=some (ak F)/\b.cell? (aq w.heap.size 10)=some (.bool r)/\b.cell? (aq w.heap.size 11)=some (ak G)/\b.cell? (aq w.heap.size 12)=some (ak z)/\b.cell? (aq (w.heap.size+1) 2)=some (.slice L H O)/\b.cell? (aq (w.heap.size+1) 3)=some (.slice M I P)/\b.cell? (aq (w.heap.size+1) 4)=some (.slice N R Q)) (first|assumption|go_keep)
  (first
   | (go_at_call 138;go_loud (refine(cD _).mono ?_;rintro p d8 ⟨rfl,ba⟩;have dg:=R3 ba gj))
   | (go_at_call 137;refine(bV _ _ ((aE.drew.trans ba).alloc ba.size _) (World.alloc_heap_new _ _) ba.size).mono ?_;rintro p bd ⟨U,rfl,cp,ch⟩)
   | (go_at_call 137;refine(bV _ _ ((aE.alloc av _).drew.trans (ba.mono am)) ((ba.block _ am).trans (World.alloc_heap_new l _)) av).mono ?_;rintro p bd ⟨U,rfl,cp,ch⟩))
 all_goals
  rename_i dy;obtain⟨bM,ci,cl,cd,b_,ca,cb⟩:=ag dl;clear dy cp ba dg bV cD dP dA aH aI aJ aK aL aM aN aR aS aT al mp mr bu bw aw ay aB;obtain⟨d0,V,bi,bp,dm,bq⟩:=ag ch;have aX:=V.cell 0 am;have aY:=V.cell 1 am;have a0:=V.cell 2 am;simp only[cw,cF]at aX aY a0;obtain⟨bu,bw,aw,ay,aB⟩:=eM.cells bi.an;have cq:=af (aQ V (aQ bi (aQ bp bq)));clear V bi bp bq ch;go_upto_region 8 with fail
  go_cut [57]from 42 (fun v K=>v=.bool bU/\Hid (∃m,K=bd.drewN m))
  case first =>
   by_cases cQ:(g:Int)<(H:Int)
   ·have Y:=ag cC;have ck:=eC cQ;rw[ck,uU]at Y;subst Y;go_quiet (fail);go_wp2_with fail;go_meet;exact⟨rfl,_,rfl⟩
   ·have Y:=ag cC;have ck:=eD cQ;rw[ck,mF]at Y;by_cases cR:(ap:Int)<(I:Int)
    ·have b8:=eC cR;rw[b8]at Y;subst Y;go_quiet (fail);go_wp2_with fail;go_meet;exact⟨rfl,_,rfl⟩
    ·have b8:=eD cR;rw[b8]at Y;subst Y;go_quiet (fail);go_wp2_with fail;go_meet;exact⟨rfl,_,rfl⟩
  case rest =>
  obtain⟨rfl,cE⟩:=hcut;obtain⟨nq,rfl⟩:=ag cE;clear cE;have a8:ax bd (bd.drewN nq):=fm aE nq;obtain⟨V,bi,bp,bq⟩:=ag cq;have i:=bi.keep (base:=base) (fun d ao=>a8.block d ae) a8.size ae ae;have aa:f_ (bd.drewN nq) U [(g:Int),ap,o] 3:=(a8.block U V.lt).trans V;have an:=bq.below a8;have aU:ax w (bd.drewN nq):=bp.trans (a8.mono bp.size);have bs:=aZ dm a8.size;clear V bi bp bq cq aX aY a0 bu bw aw ay aB a8;generalize bd.drewN nq=Z at *;have aX:=aa.cell 0 am;have aY:=aa.cell 1 am;have a0:=aa.cell 2 am;simp only[cw,cF]at aX aY a0;have bI:=i.hd.cell 2 am;have bJ:=i.hd.cell 3 am;have bK:=i.hd.cell 4 am;have aG:=i.hd.cell 5 am;simp only[cw,cF]at bI bJ bK aG;have bF:=i.hd.frozen;have dn:U≠a.heap.size:=ae;have c_:=i.hd.cell 1 am;simp only[cw,cF]at c_;have bc:=ag dJ;have a3:∀d,d≠a.heap.size->(Z.setCell ⟨a.heap.size,1,none⟩ (.int .i64 n)).heap[d]? = Z.heap[d]?:=fun d ao=>bC _ _ _ _ ao;have cG:(∀S,Z.heap[a.heap.size]?≠some (.cells S 5 (0,0)))/\∀S,Z.heap[a.heap.size]?≠some (.cells S 343 (0,0)):=by
   have:=i.hd;unfold f_ at this;exact⟨fun c hc=>yb,fun c hc=>yb⟩
  have bN:(Z.setCell ⟨a.heap.size,1,none⟩ (.int .i64 n)).heap.size=Z.heap.size:=g8
  have b1:Hid (Hq w.heap.size a.heap.size e y A B C D t q E F r G z X (.bool ab) (.slice L H O) (.slice M I P) (.slice N R Q) [(e:Int),n,0,0,0,0] (Z.setCell ⟨a.heap.size,1,none⟩ (.int .i64 n))/\cj (Z.setCell ⟨a.heap.size,1,none⟩ (.int .i64 n)) mb base j.1 j.2/\ax w (Z.setCell ⟨a.heap.size,1,none⟩ (.int .i64 n))/\f_ (Z.setCell ⟨a.heap.size,1,none⟩ (.int .i64 n)) U [(g:Int),ap,o] 3/\base<=(Z.setCell ⟨a.heap.size,1,none⟩ (.int .i64 n)).heap.size):=by
   obtain⟨dw,dp,dx⟩:=i.g;exact⟨⟨i.qu.kept (a3 _ ae),(a3 _ ae).trans i.an,i.hd.set 1 n,⟨by rw[bN];exact dw,dp,(b7 (a3 0 ae)).trans dx⟩⟩,(rQ (wA an) cG ae a3).msg,aU.trans ⟨rfl,rfl,rfl,by rw[bN];exact bb _,fun d ao=>a3 d ae⟩,(a3 U dn).trans aa,by rw[bN];exact bs⟩
  have bO:=af (aQ i (aQ an (aQ aU (aQ aa bs))));clear i an aU aa a3 cG bN aX aY a0 bI bJ bK aG bs
  go_upto_if 57 with fail
  go_cut []from 58 (fun K=>Hid (Hq w.heap.size a.heap.size e y A B C D t q E F r G z X (.bool ab) (.slice L H O) (.slice M I P) (.slice N R Q) [(e:Int),n,0,0,0,0] K/\cj K mb base j.1 j.2/\ax w K/\f_ K U [(g:Int),ap,o] 3/\base<=K.heap.size))
  case first =>
   cases bU with
   | true =>
    simp only[ks,gC]at bc;clear bO;go_wp2_with fail;go_meet;exact b1
   | false =>
    simp only[ks,pr,pA]at bc;rw[bc]at bO;clear b1;go_wp2_with fail;go_meet;exact bO
  case rest =>
  obtain⟨i,an,aU,aa,bs⟩:=ag hcut;clear b1 bO c_ bF bc hcut;generalize wc=J at *;have aX:=aa.cell 0 am;have aY:=aa.cell 1 am;have a0:=aa.cell 2 am;simp only[cw,cF]at aX aY a0;have bI:=i.hd.cell 2 am;have bJ:=i.hd.cell 3 am;have bK:=i.hd.cell 4 am;have aG:=i.hd.cell 5 am;simp only[cw,cF]at bI bJ bK aG;have bF:=i.hd.frozen;have cr:=af (aQ i (aQ an aU));clear i an aU aa;go_wp2_with fail
  go_region
  have ct:Hid (gh ((((J.setCell ⟨a.heap.size,2,none⟩ (.int .i64 1)).setCell ⟨a.heap.size,3,none⟩ (.int .i64 g)).setCell ⟨a.heap.size,4,none⟩ (.int .i64 ap)).setCell ⟨a.heap.size,5,none⟩ (.int .i64 o)).drew w.heap.size e y A B C D t q E F r G z/\f_ ((((J.setCell ⟨a.heap.size,2,none⟩ (.int .i64 1)).setCell ⟨a.heap.size,3,none⟩ (.int .i64 g)).setCell ⟨a.heap.size,4,none⟩ (.int .i64 ap)).setCell ⟨a.heap.size,5,none⟩ (.int .i64 o)).drew a.heap.size [(e:Int),n,1,g,ap,o] 133/\cj ((((J.setCell ⟨a.heap.size,2,none⟩ (.int .i64 1)).setCell ⟨a.heap.size,3,none⟩ (.int .i64 g)).setCell ⟨a.heap.size,4,none⟩ (.int .i64 ap)).setCell ⟨a.heap.size,5,none⟩ (.int .i64 o)).drew mb base j.1 j.2/\ax w ((((J.setCell ⟨a.heap.size,2,none⟩ (.int .i64 1)).setCell ⟨a.heap.size,3,none⟩ (.int .i64 g)).setCell ⟨a.heap.size,4,none⟩ (.int .i64 ap)).setCell ⟨a.heap.size,5,none⟩ (.int .i64 o)).drew/\base<=(((((J.setCell ⟨a.heap.size,2,none⟩ (.int .i64 1)).setCell ⟨a.heap.size,3,none⟩ (.int .i64 g)).setCell ⟨a.heap.size,4,none⟩ (.int .i64 ap)).setCell ⟨a.heap.size,5,none⟩ (.int .i64 o)).drew).heap.size):=by
   obtain⟨i,an,aU⟩:=ag cr;have dB:=(((i.hd.set 2 1).set 3 g).set 4 ap).set 5 o;have cf:∀d,d≠a.heap.size->(((((J.setCell ⟨a.heap.size,2,none⟩ (.int .i64 1)).setCell ⟨a.heap.size,3,none⟩ (.int .i64 g)).setCell ⟨a.heap.size,4,none⟩ (.int .i64 ap)).setCell ⟨a.heap.size,5,none⟩ (.int .i64 o)).drew).heap[d]? = J.heap[d]?:=fun d ao =>
    (bC _ _ _ _ ao).trans ((bC _ _ _ _ ao).trans ((bC _ _ _ _ ao).trans (bC _ _ _ _ ao)))
   have cO:(((((J.setCell ⟨a.heap.size,2,none⟩ (.int .i64 1)).setCell ⟨a.heap.size,3,none⟩ (.int .i64 g)).setCell ⟨a.heap.size,4,none⟩ (.int .i64 ap)).setCell ⟨a.heap.size,5,none⟩ (.int .i64 o)).drew).heap.size=J.heap.size:=by simp[World.setCell,World.drew]
   have b9:(∀S,J.heap[a.heap.size]?≠some (.cells S 5 (0,0)))/\∀S,J.heap[a.heap.size]?≠some (.cells S 343 (0,0)):=by
    have:=i.hd;exact D8
   refine⟨i.qu.kept (cf _ ae),dB,(rQ (wA an) b9 ae cf).msg,?_,by rw[cO];exact bs⟩
   ·refine aU.trans (show Below w.heap.size J ((((J.setCell ⟨a.heap.size,2,none⟩ (.int .i64 1)).setCell ⟨a.heap.size,3,none⟩ (.int .i64 g)).setCell ⟨a.heap.size,4,none⟩ (.int .i64 ap)).setCell ⟨a.heap.size,5,none⟩ (.int .i64 o)).drew from⟨rfl,rfl,rfl,by rw[cO];exact bb _,fun d ao=>cf d ae⟩)
  clear aX aY a0 bI bJ bK aG bF cr;generalize ((((J.setCell ⟨a.heap.size,2,none⟩ (.int .i64 1)).setCell ⟨a.heap.size,3,none⟩ (.int .i64 g)).setCell ⟨a.heap.size,4,none⟩ (.int .i64 ap)).setCell ⟨a.heap.size,5,none⟩ (.int .i64 o)).drew=k at *;obtain⟨cn,ac,bt,bg,b2⟩:=ag ct;obtain⟨_,_,_,_,_,_,_,_,_,_,al,_,_⟩:=cn.cells;have aG:=ac.cell 5 am;simp only[cw,cF]at aG;have bF:=ac.frozen;have b3:∀d,d≠a.heap.size->(k.setCell ⟨a.heap.size,5,none⟩ (.int .i64 x)).heap[d]? = k.heap[d]?:=fun d ao=>bC _ _ _ _ ao;have a4:(k.setCell ⟨a.heap.size,5,none⟩ (.int .i64 x)).heap.size=k.heap.size:=g8
  have b4:Hid (f_ (k.setCell ⟨a.heap.size,5,none⟩ (.int .i64 x)) a.heap.size [(e:Int),n,1,g,ap,x] 133/\cj (k.setCell ⟨a.heap.size,5,none⟩ (.int .i64 x)) mb base j.1 j.2/\ax w (k.setCell ⟨a.heap.size,5,none⟩ (.int .i64 x))/\base<=(k.setCell ⟨a.heap.size,5,none⟩ (.int .i64 x)).heap.size):=by
   have b9:(∀S,k.heap[a.heap.size]?≠some (.cells S 5 (0,0)))/\∀S,k.heap[a.heap.size]?≠some (.cells S 343 (0,0)):=by
    have:=ac;exact D8
   refine⟨R6 ac x,(rQ (wA bt) b9 ae b3).msg,?_,by rw[a4];exact b2⟩;exact bg.trans (show Below w.heap.size k (k.setCell ⟨a.heap.size,5,none⟩ (.int .i64 x))from⟨rfl,rfl,rfl,by rw[a4];exact bb _,fun d ao=>b3 d ae⟩)
  have b5:=af (aQ ac (aQ bt (aQ bg b2)));have aj:=ag dL;clear ac bt bg b2 ct cn b3 a4
  go_upto_if 74 with fail
  go_cut []from 75 (fun K=>Hid (f_ K a.heap.size [(e:Int),n,1,g,ap,x] 133/\cj K mb base j.1 j.2/\ax w K/\base<=K.heap.size))
  case first =>
   cases r with
   | true =>
    have d1:(o:Int)+1=(x:Int):=by simp only[cond]at aj;omega
    clear aj b5;go_wp2_with fail;go_meet;exact b4
   | false =>
    simp only[cond]at aj;subst aj;clear b4;go_wp2_with fail;go_meet;exact b5
  case rest =>
  have d2:x<=3002:=by cases r<;>simp only[cond]at aj<;>omega
  clear aj b4 b5 aG bF;have b6:=hcut;clear hcut;generalize wc=k at *;have a4:k.heap.size=k.heap.size:=rfl;obtain⟨ad,bj,a1,d4⟩:=ag b6;have dq:=bj.lt;have hnew:=World.alloc_heap_new k (.cells #[.iface 224 (.string (ai u))] 297);rw[a4]at hnew;have c1:Hid (az 139 #[aO mb,aF k.heap.size 0 1 1] (k.alloc (.cells #[.iface 224 (.string (ai u))] 297)) fun p b=>p=.returned (.tuple #[])/\cj b mb base (j.1++bv [bE u]) j.2/\bR mb base (k.alloc (.cells #[.iface 224 (.string (ai u))] 297)) b) :=
   s3 mb base k.heap.size 1 [bE u] j.1 j.2 (k.alloc (.cells #[.iface 224 (.string (ai u))] 297)) (bj.below (aE.alloc av _)) aA
   (fun f cM=>by simp at cM;subst cM;exact fu _) (by rw[cv,a4];omega) (by rw[a4]at dq;omega) (.inr fun S h=>uF)
   (fun cT cc=>by
    match cT,cc with
    | 0,_=>unfold World.cell?; rw[hnew];rfl
    | cT+1,cc=>simp at cc) am am (by
     simp only[bv,bE,eT,rj,eu];omega)
  clear hnew ad bj a1;go_wp2_with fail;refine c1.mono ?_;rintro p be ⟨rfl,cx,cH⟩;obtain⟨ac,bt,bg,dr⟩:=ag b6;have ar:=(bR.qB (aE.alloc av _)).trans cH;have ad:f_ be a.heap.size [(e:Int),n,1,g,ap,x] 133:=(ar.block _ ae ae (.inl ae)).trans ac;have a1:ax w be:=bg.trans (show Below w.heap.size k be from⟨ar.os,ar.tape,ar.output,ar.size,fun d ao=>ar.block d ae ae (.inl ae)⟩);have ds:=aZ dr ar.size;rw[show bv [bE u]=u by simp[bv,bE]]at cx;obtain⟨dt,du,bj,cI,_⟩:=cx;have c4:=ad.cell 0 am;have c5:=ad.cell 1 am;have c6:=ad.cell 2 am;have c7:=ad.cell 3 am;have c8:=ad.cell 4 am;have c9:=ad.cell 5 am;simp only[cw,cF]at c4 c5 c6 c7 c8 c9;have co:Hid (az 131 #[aO mb,.agg #[ak e,ak n,ak 1,ak g,ak ap,ak x]] be fun p b=>p=.returned (au (bv (ei e n 1 g ap x)++(j.1++u).drop 12))/\WD mb base be b) :=
   Il mb base e n 1 g ap x dt du _ be bj cI ds (by simp only[a6];omega) (by simp only[a6];omega) bM a_ ae ae ae ae
  have df:=af a1;clear ac bt bg bj cI cH ar ad a1 c1 b6;go_wp2_with fail;refine co.mono ?_;rintro p c2 ⟨rfl,bh⟩;have a1:=ag df;have dv:Hid (ax w c2):=a1.trans (show Below w.heap.size be c2 from⟨bh.os,bh.tape,bh.output,bh.size,fun d ao=>bh.block d ae ae (.inl ae)⟩);clear bh a1 co c4 c5 c6 c7 c8 c9;go_wp2;go_ret;exact⟨rfl,dv⟩
theorem iJ.afr{w c:World}{b:TypeId}{a:Nat}{v g:Value}(d:iJ w c b a v g):iJ w c b a v v:=⟨d.row,fun _ e=>.inl ⟨e,bb _⟩⟩
theorem S0(mb base I a1 aK:Nat)(size:Int)(e:aj->List eF)(b:List aj)(g:cY)(h:ah)(w:World)(E:cj w mb base h g)(a0:jk g)(aP:bT w)(bs:base<=w.heap.size)(aN:0<base)(aS:0<mb)(aa:cy w I a1 b) (bL:I<base) (bb:I≠mb) (b4:b.length<=aK) (cb:b.length<=3001) (aJ:∀a∈b,qD a (e a)) (ca:(bB e b h g).1.length<=50000) (aU:(bB e b h g).2.length<=20000) (aW:size<((bB e b h g).1.length:Int)):az 203 #[aO mb,ak size,aF I a1 b.length aK] w fun u c=>u=.returned (.bool false)/\cj c mb base h g/\bR mb base w c:=by
 have aA:=af E;obtain⟨cg,ck,x,F,D⟩:=E;obtain⟨i,j,ap,rfl⟩:=i8 F;obtain⟨k,n,l,rfl⟩:=i8 D;obtain⟨cc,cd⟩:=x.cells;have bS:=x.lt;have aB:bR mb base w (w.alloc (.cells #[.slice i j ap,.slice k n l] 283)):=bR.qB (aE.alloc av _);have bt:=af (show cj (w.alloc (.cells #[.slice i j ap,.slice k n l] 283)) mb base h g from aA.below (aE.alloc av _));have bH:=af aB;have be:=af (aQ x (aQ F D));have bh:Hid (bJ (w.alloc (.cells #[.slice i j ap,.slice k n l] 283)) w.heap.size (.slice i j ap) (.slice k n l)):=World.alloc_heap_new w _;have bl:w.heap.size≠mb:=ae;have bd:=af aP;have bo:=af aa;have U:=af aJ;have bP:=af a0;have bc:=aa.1;clear x F D aP aa aJ aB aA a0;go_enter func203,ntmps203;go_wp2_with fail
 go_loopw [15] (fun L wr=>∃(d:Nat),L=ak d/\d<=b.length/\cj wr mb base (bB e (b.take d) h g).1 (bB e (b.take d) h g).2/\bR mb base w wr/\bJ wr w.heap.size (.slice i j ap) (.slice k n l)) (fun L _=>b.length-(intOf L).toNat)
 case atStart=>exact⟨0,rfl,b6 _,bt,bH,bh⟩
 case round =>
  obtain⟨d,rfl,aR,G,A,H⟩:=hrel;have bK:=af H;have bm:=H.lt;have aC:=af G;have bi:=af A;have b8:=A.size;by_cases Z:d<b.length
  ·have ce:(d:Int)<(b.length:Int):=ae;have a3:=m3 (ag bo) A.size (A.block I bc bb (.inl bL));obtain⟨a4,a5,a6,a7⟩:=a3.four d Z;have y:=ag U b[d] (bM Z);have an:=af (HR e b d Z h g);have am:=af (HZ e b (ag U) h g (d+1));have ar:=af ((rO e (b.take d) (fun f bF=>ag U f (mJ bF)) h g).2.2 (ag bP));have Y:=(bd.tg A aN aS)
   have X:ax wr (wr.alloc (.cells #[.string (ai b[d].owner),.int .i64 b[d].aI,.int .i64 b[d].type,.string (ai b[d].data)] 47)):=aE.alloc av _;have N:i_ (wr.alloc (.cells #[.string (ai b[d].owner),.int .i64 b[d].aI,.int .i64 b[d].type,.string (ai b[d].data)] 47)) wr.heap.size b[d]:=World.alloc_heap_new wr _;obtain⟨a,al⟩:=a2 (b[d]);rw[<- al]at a4 a5 a6 a7 y X N;obtain⟨C,z,O⟩:∃C z,bB e (b.take d) h g=(C,z):=⟨_,_,rfl⟩
   have T:Hid (bB e (b.take (d+1)) h g=eN a (e a) C z):=by
    have:=ag an;rw[O,<- al]at this;exact this
   have bj:Hid (cj wr mb base C z):=by rw[O]at G;exact G
   have bk:Hid (jk z):=by have:=ag ar;rw[O]at this;exact this
   clear a3 G A al an O aC ar H;have bu:wr.heap.size≠mb:=ae;have ay:Hid (∀o,ax wr o->i_ o wr.heap.size a->az 254 #[.agg #[au a.owner,ak a.aI,ak a.type,au a.data]] o.drew fun u c=>∃r q,u=.returned (aF r 0 (e a).length q) /\
     (c.cell? (aq wr.heap.size 0)=some (au a.owner)/\c.cell? (aq wr.heap.size 1)=some (ak a.aI)/\c.cell? (aq wr.heap.size 2)=some (ak a.type)/\c.cell? (aq wr.heap.size 3)=some (au a.data)) /\
     Hid ((e a).length<=q/\h8 mb c r (e a)/\i_ c wr.heap.size a/\cj c mb base C z/\bT c/\(bR mb base w c/\bJ c w.heap.size (.slice i j ap) (.slice k n l)))):=by
    intro o bE aV;have P:ax wr o.drew:=bE.drew;refine(y.data o.drew (Y.below P)).mono ?_;rintro u c ⟨⟨v,rfl,bG⟩,Q⟩;obtain⟨r,q,rfl,ad,ac⟩:=HU (mb:=mb) bG y.ne (by have:=P.size;omega);have S:i_ c wr.heap.size a:=(Q.block _ (bn.1 aV).1).trans aV;have R:ax wr c:=P.trans (Q.mono P.size);have bN:bR mb base wr c:=bR.qB R;exact⟨r,q,rfl,S.cells,ad,ac,S,bj.below R,Y.below R,bi.trans bN,bK.kept (R.block _ bm)⟩
   have ab:Hid (∀r q p,Hid ((e a).length<=q/\h8 mb p r (e a)/\i_ p wr.heap.size a/\cj p mb base C z/\bT p/\(bR mb base w p/\bJ p w.heap.size (.slice i j ap) (.slice k n l))) ->
     az 139 #[aO mb,aF p.heap.size 0 5 5] (p.alloc (.cells #[.iface 291 (.string (ai a.owner)),.iface 284 (.int .u16 a.type.toNat),.iface 284 (.int .u16 1),.iface 344 (.int .u32 a.aI),.iface 293 (.slice (some ⟨r,0,none⟩) (e a).length q)] 297)) fun u c =>
      u=.returned (.tuple #[])/\(c.cell? (aq wr.heap.size 0)=some (au a.owner)/\c.cell? (aq wr.heap.size 1)=some (ak a.aI)/\c.cell? (aq wr.heap.size 2)=some (ak a.type)/\c.cell? (aq wr.heap.size 3)=some (au a.data)) /\
      Hid (cj c mb base (bB e (b.take (d+1)) h g).1 (bB e (b.take (d+1)) h g).2/\bR mb base w c/\bJ c w.heap.size (.slice i j ap) (.slice k n l))):=by
    intro r q p W;obtain⟨ad,ac,S,bf,bg,aw,Q⟩:=ag W;have bA:=ag am;rw[ag T]at bA;refine(H0 mb base r q a (e a) y aN aS C z p bg ac ad bf (ag bk) (aZ bs aw.size) ae ae).mono ?_;rintro u c ⟨rfl,aL,J⟩;refine⟨rfl,(H1 S J bu).cells,?_,aw.trans J,J.box Q bl ba ba⟩;rw[ag T];exact aL
   have bQ:IntKind.u16.wrap a.type=(a.type.toNat:Int):=by
    have V:=y.typ.1;have aL:=y.typ.2;rw[yQ];omega
   have cn:IntKind.u32.wrap (a.aI:Int)=(a.aI:Int):=by
    have V:=y.aI;rw[vS];omega
   clear y am Y T;obtain⟨cf,aX⟩:=a2 a.type.toNat;rw[<- aX]at bQ ab;clear aX;go_wp2_with fail;have a_:=af (ay _ X N);have aM:=N.cells;clear X N ay a4 a5 a6 a7;generalize (wr.alloc (.cells #[.string (ai a.owner),.int .i64 a.aI,.int .i64 a.type,.string (ai a.data)] 47))=o at *;have bD:(o.drew.cell? (aq wr.heap.size 0)=some (au a.owner)/\o.drew.cell? (aq wr.heap.size 1)=some (ak a.aI)/\o.drew.cell? (aq wr.heap.size 2)=some (ak a.type)/\o.drew.cell? (aq wr.heap.size 3)=some (au a.data)):=aM;clear aM
   go_region_held (fun c=>c.cell? (aq wr.heap.size 0)=some (au a.owner)/\c.cell? (aq wr.heap.size 1)=some (ak a.aI)/\c.cell? (aq wr.heap.size 2)=some (ak a.type)/\c.cell? (aq wr.heap.size 3)=some (au a.data)) (first|assumption|go_keep)
    (first
     | (go_at_call 254;go_loud (refine a_.mono ?_;rintro u cl ⟨r,q,rfl,bw,aI⟩))
     | (go_at_call 139;go_loud (refine(ab _ _ _ aI).mono ?_;rintro u cm ⟨rfl,bI,bp⟩)))
   rename_i bz;clear bz bD bw bI aI a_ ab;go_wp2_with fail;obtain⟨V,J,bx⟩:=ag bp;exact⟨⟨d+1,bq,ae,V,J,bx⟩,ci⟩
  ·have bv:d=b.length:=ae;subst bv;rw[dK]at G;have aD:=af A;obtain⟨ch,bZ,K,aT,_⟩:=G;obtain⟨bY,b3,rfl⟩:=HQ aT;obtain⟨b0,b1⟩:=K.cells;obtain⟨b5,b7⟩:=H.cells;have bU:=aW;have b_:=K.frozen;have bX:=fun bO=>(K.set0 bO).frozen 1;have M:=af K;clear K aT A aC aW H;generalize (bB e b h g).1.length=bW at *;go_wp2;go_ret;obtain⟨x,F,D⟩:=ag be;have aR:=aD.kp _ _ x;obtain⟨b2,b9,bV,a8,a9⟩:=aR;have aY:=s_ x F;have aG:=Am x D;have aH:=(M.set0 (.slice i j ap)).set1 (.slice k n l);have W:=(oA (ag M) (t:=5) ba 0 (.slice i j ap) (.slice i j ap) 1).trans (oA (M.set0 (.slice i j ap)) ba 1 (.slice k n l) _ 1) g8;have br:=(oA (ag M) (t:=343) ba 0 (.slice i j ap) (.slice k n l) 2).trans (oA (M.set0 (.slice i j ap)) ba 1 (.slice k n l) _ 2) g8;have B:=ag aD;refine⟨rfl,⟨_,_,aH,pe (pe (a8.adT F) aY _ _) aY _ _,pe (pe (a9.adT D) aG _ _) aG _ _⟩,B.os,B.tape,B.output,by simpa [World.setCell]using B.size,fun L ao E aU=>((bC _ _ _ _ E).trans (bC _ _ _ _ E)).trans (B.block L ao E aU),kQ.of x aH (a8.afr.trans W B.size) (a9.afr.trans br B.size)⟩
section
attribute [local go_sem] Oper.semAt_some undef
structure Hx(mb base s:Nat)(w:World)(ds:List Nat)(cs:List Int)(d:Nat)(S:ah×cY)(W:World):Prop where
 b2:aW W (s+2) (aF (s+3) 0 3 3) 56
 b3:f_ W (s+3) cs 3
 msg:oC W mb base d S.1 S.2
 tg:bR mb base w W
 defs:∀x∈ds,W.heap[x]? = some (.deferred (some []))
theorem Hx.keeps{mb base s:Nat}{w:World}{ds:List Nat}{cs:List Int}{d:Nat}{S:ah×cY}{W B:World}(a:Hx mb base s w ds cs d S W)(c:dz d W B)(i:s+4<d)(j:mb<d)(g:w.heap.size<=d)(h:∀b∈ds,b≠d):Hx mb base s w ds cs d S B :=
 ⟨aW.kept a.b2 (c.block _ (aW.lt a.b2) ae),(c.block _ (bn.1 a.b3).1 ae).trans a.b3,a.msg.keeps c ae,a.tg.keeps c g,fun b e=>(c.block b (bn.1 (a.defs b e)).1 (h b e)).trans (a.defs b e)⟩
end
end Go.Proofs.YtkkpahmoljiepaaGreatDoor
