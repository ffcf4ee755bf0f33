import Derived.Test.YtkkpahmoljiepaaGreatDoorJ05
set_option maxRecDepth 1000000
set_option maxHeartbeats 12800000
set_option linter.unusedSimpArgs false
set_option linter.unusedVariables false
namespace Go.Proofs.YtkkpahmoljiepaaGreatDoor
open Go.RowKit Go.Proofs.Tryz
section
attribute [local go_sem] Oper.semAt_some
def cr(w:World)(sb zb:Nat)(k rc:Int)(bI:Bool)(va vb vc:Value)(cb:Nat):Prop :=
 w.heap[sb]? = some (.cells #[.pointer (some ⟨zb,0,none⟩),.int .i64 k,.int .i64 rc,.bool bI,va,vb,vc,.pointer (some ⟨cb,0,none⟩)] 210)
structure bG(p:Nat->Prop)(A B:World):Prop where
 os:B.os=A.os
 tape:B.tape=A.tape
 output:B.output=A.output
 size:A.heap.size<=B.heap.size
 block:∀k,k<A.heap.size->p k->B.heap[k]? = A.heap[k]?
theorem bG.refl(p:Nat->Prop)(a:World):bG p a a:=⟨rfl,rfl,rfl,bb _,fun _ _ _=>rfl⟩
theorem bG.trans{p:Nat->Prop}{A B a:World}(h:bG p A B)(k:bG p B a):bG p A a :=
 ⟨k.os.trans h.os,k.tape.trans h.tape,k.output.trans h.output,aZ h.size k.size,fun c ao b=>(k.block c (cp ao h.size) b).trans (h.block c ao b)⟩
theorem bG.mono{p q:Nat->Prop}{A B:World}(a:bG p A B)(d:∀k,k<A.heap.size->q k->p k):bG q A B:=⟨a.os,a.tape,a.output,a.size,fun k b c=>a.block k b (d k b c)⟩
theorem bG.wI{p:Nat->Prop}{b B:World}(a:ax b B):bG p b B:=⟨a.os,a.tape,a.output,a.size,fun k c _=>a.block k c⟩
theorem bG.QY{p:Nat->Prop}{b c:World}{d:Option Nat}(a:b.grownBy c d)(g:∀k,p k->some k≠d):bG p b c:=⟨a.os,a.tape,a.output,a.size,fun k e h=>a.block k e (g k h)⟩
theorem bG.kA{p:Nat->Prop}{A:World}{a:Addr}(d:Value)(c:∀k,p k->k≠a.block):bG p A (A.setCell a d):=⟨rfl,rfl,rfl,by simp[World.setCell],fun k _ b=>bC _ _ _ _ (c k b)⟩
theorem bG.below{p:Nat->Prop}{b B:World}{n:Nat}(a:bG p b B)(d:∀k,k<n->p k)(e:n<=b.heap.size):Below n b B:=⟨a.os,a.tape,a.output,a.size,fun k c=>a.block k ae (d k c)⟩
theorem bG.yf{d:Nat}{b c:World}(a:dz d b c):bG (fun k=>k≠d) b c:=⟨a.os,a.tape,a.output,a.size,a.block⟩
section
variable {w:World} {sb zb cb:Nat} {k rc:Int} {bI:Bool} {va vb vc:Value}
theorem cr.lt(h:cr w sb zb k rc bI va vb vc cb):sb<w.heap.size:=(bn.1 h).1
theorem cr.cells(a:cr w sb zb k rc bI va vb vc cb):w.cell? (aq sb 0)=some (aO zb)/\w.cell? (aq sb 1)=some (ak k)/\w.cell? (aq sb 2)=some (ak rc)/\w.cell? (aq sb 3)=some (.bool bI)/\w.cell? (aq sb 4)=some va/\w.cell? (aq sb 5)=some vb/\w.cell? (aq sb 6)=some vc/\w.cell? (aq sb 7)=some (aO cb):=by unfold cr at a;refine⟨?_,?_,?_,?_,?_,?_,?_,?_⟩<;>simp[World.cell?,a]
theorem cr.frozen(h:cr w sb zb k rc bI va vb vc cb)(i:Nat):w.frozen? (aq sb i)=false:=by unfold cr at h;exact jW
theorem cr.kept{w':World}(a:cr w sb zb k rc bI va vb vc cb)(b:w'.heap[sb]? = w.heap[sb]?):cr w' sb zb k rc bI va vb vc cb:=b.trans a
theorem cr.set2(h:cr w sb zb k rc bI va vb vc cb)(a:Int):cr (w.setCell ⟨sb,2,none⟩ (.int .i64 a)) sb zb k a bI va vb vc cb:=by unfold cr at *;exact gX
theorem cr.jv(h:cr w sb zb k rc bI va vb vc cb)(a:Bool):cr (w.setCell ⟨sb,3,none⟩ (.bool a)) sb zb k rc a va vb vc cb:=by unfold cr at *;exact gX
theorem cr.mh(h:cr w sb zb k rc bI va vb vc cb)(a:Value):cr (w.setCell ⟨sb,4,none⟩ a) sb zb k rc bI a vb vc cb:=by unfold cr at *;exact gX
theorem cr.pL(h:cr w sb zb k rc bI va vb vc cb)(a:Value):cr (w.setCell ⟨sb,5,none⟩ a) sb zb k rc bI va a vc cb:=by unfold cr at *;exact gX
theorem cr.tR(h:cr w sb zb k rc bI va vb vc cb)(a:Value):cr (w.setCell ⟨sb,6,none⟩ a) sb zb k rc bI va vb a cb:=by unfold cr at *;exact gX
end
theorem cA.kept{w w':World}{base:Nat}{v:Value}{rs:List aj}(h:cA w base v rs)(hg:∀g,v.ownBlock=some g->w'.heap[g]? = w.heap[g]?):cA w' base v rs:=by exact F5
theorem cA.pM{w:World}{b:Nat}{v:Value}{rs:List aj}(c:cA w b v rs):∀a,v.ownBlock=some a->b<=a/\a<w.heap.size:=e9 c
def fB(k:Int)(a:Nat×List aj):Bool:=k==255||k==gu a
def g0(k:Int)(a:List (Nat×List aj)):List aj:=(a.filter (fB k)).flatMap (·.2)
def fC(k:Int)(a:List aj):List aj:=g0 k (be bH a)
def jH(k:Int)(a:List aj):Bool:=(be bH a).any (fB k)
theorem QZ{k:Int}{b:List (Nat×List aj)}{a:Nat}{c:Nat×List aj}(d:b[a]? = some c)(e:fB k c=false):g0 k (b.take (a+1))=g0 k (b.take a)/\(b.take (a+1)).any (fB k)=(b.take a).any (fB k):=by rw[s8 d];unfold g0;simp[kP,e]
theorem Q0{k:Int}{b:List (Nat×List aj)}{a:Nat}{c:Nat×List aj}(d:b[a]? = some c)(e:fB k c=true):g0 k (b.take (a+1))=g0 k (b.take a)++c.2/\(b.take (a+1)).any (fB k)=true:=by rw[s8 d];unfold g0;simp[kP,e]
theorem s9(bh:aj->aj->Bool):∀(f k:Nat) (l:List aj),l.length<=f->(fd bh f k l).flatMap (·.2)=l
 | 0,k,l,a=>by obtain rfl:l=[]:=df ae;rfl
 | f+1,k,[],a=>rfl
 | f+1,k,b::t,a=>by have c:(t.dropWhile (bh b)).length<=t.length:=by{have:=bP List.length (lP (p:=bh b) (l:=t));rw[a6]at this;omega};rw[fd,eT,s9 bh f _ _ (by simp at a;omega)];simp[lP]
theorem Ha(k:Int):∀(a:List (Nat×List aj)),(g0 k a).length<=(a.flatMap (·.2)).length
 | []=>by simp[g0]
 | c::t=>by have b:=Ha k t;unfold g0 at *;rw[vz];split;{simp only[eT,a6];omega};{simp only[eT,a6];omega}
theorem Q1(k:Int)(a:List aj)(b:Nat):(g0 k ((be bH a).take b)).length<=a.length:=by
 have h1:=Ha k ((be bH a).take b);have h2:(((be bH a).take b).flatMap (·.2)).length<=((be bH a).flatMap (·.2)).length:=by{
 conv=>rhs;rw[<- ft b (be bH a),jt,a6]
 omega};have h3:(be bH a).flatMap (·.2)=a:=s9 bH _ _ _ av;rw[h3]at h2;omega
theorem Hb(a b:List aj):dZ (a++b)=dZ a++dZ b:=by simp[dZ]
theorem AB(d:Nat)(va:Value)(a xs:List aj)(b e c:Nat)(w:World)(h:cA w d va a)(i:cy w b e xs)(g:d<=w.heap.size)(r:a.length+xs.length<=100000):∃v' w',(Builtin.append_ #[41,41] 41 #[va,aF b e xs.length c]).run prog w=.ok v' w'/\cA w' d v' (a++xs)/\w.grownBy w' va.ownBlock/\(v'.ownBlock=va.ownBlock\/v'.ownBlock=some w.heap.size):=by obtain⟨o,ao,k,l,n⟩:=fO qT;obtain⟨v',w',h1,h2,h3,_,h5⟩:=run_append_own_at (P:=prog) w d 41 41 47 o _ 4 48 vi ao k l n rfl ae va a.length (dZ a) h (aq b e) xs.length c (dZ xs) (tw xs) (fun p q j=>by rw[sX];exact HJ i p q j) Az sw ae g;refine⟨v',w',h1,?_,h3,h5⟩;unfold cA;rw[a6,Hb];exact h2
theorem DD{P:Program}{b:Oper}{a:Act}{w:World}{c:Act->World->Prop}{g:Exit->Act->World->Prop}(s d:Operand)(t:TypeId)(ho:b.op=.call { callee:=.builtin .append,args:=#[s,d],argTypes:=#[t,t] })(v e v':Value)(w':World)(hs:a.eval s=v)(hx:a.eval d=e)(hr:(Builtin.append_ #[t,t] b.type #[v,e]).run P w=.ok v' w') (h:c (a.put b.dst v') w'):b.wpIn Fence.wide 0 P a w c g:=by unfold Oper.wpIn;refine⟨fun _ _=>aL,?_⟩;rw[show Fence.wide.round=none from rfl,Oper.semAt_none];unfold execOp;exact DS
def q7(sb zb cb:Nat)(k rc:Int)(bI:Bool)(va vb vc:Value)(g:List aj)(h e g4:Nat)(l:World)(j:List aj)(i:Bool)(b:World):Prop :=
 ∃c,cr b sb zb k rc bI c vb vc cb/\cA b (sb+1) c (g++j)/\(c.ownBlock=va.ownBlock\/∃a,c.ownBlock=some a/\e+2<=a)/\(∀a,va.ownBlock=some a->a<h)/\aW b g4 (.bool i) 4/\bG (fun d=>d≠sb/\some d≠va.ownBlock/\d≠g4/\d<e) l b
theorem q7.keeps{sb zb cb:Nat}{k rc:Int}{bI:Bool}{va vb vc:Value}{j:List aj}{e d g4:Nat}{u:World}{r:List aj}{l:Bool}{c i:World}(x:q7 sb zb cb k rc bI va vb vc j e d g4 u r l c)(b:dz (d+1) c i)(h1:sb<d)(h2:e<=d)(h3:g4<d)(h4:d<=c.heap.size):q7 sb zb cb k rc bI va vb vc j e d g4 u r l i:=by obtain⟨w,q,p,a,o,z,y⟩:=x;refine⟨w,q.kept (b.block sb q.lt ae),p.kept (fun g h=>b.block g (p.pM g h).2 ?_),a,o,z.below (b.below (n:=d) ae h4) h3,y.trans ((bG.yf b).mono (fun D _ C=>ae))⟩;rcases a with a|⟨A,t,B⟩;{have:=o g (by rw[<- a];exact h);omega};{rw[h]at t;cases t;omega}
theorem Cd{P:Prop}(h:P:=by {rw[<- e]at h2;cases h2;omega}):P:=h
theorem BY{P:Prop}(h:P:=by go_simp;refine hK _ _ ?_;clear hK K;refine fL 7 fun K hK=>?_;rw[ay dO];refine DD (.tmp 31) (.tmp 32) 41 rfl _ _ _ w' rfl rfl hrun ?_;refine hK _ _ ?_;clear hK K;refine gb 8 ?_;refine gb 9 ?_;refine gb 10 ?_;refine fL 11 fun K hK=>?_;go_simp;refine hK _ _ ?_;clear hK K;refine o8 aB ?_ _;gi_wp2_with fail;exact Et):P:=h
theorem Hc(sb zb cb b A:Nat)(k rc:Int)(bI:Bool)(va vb vc v:Value)(E g:List aj)(w:World)(an:cr w sb zb k rc bI va vb vc cb)(ak:cA w (sb+1) va E)(ac:qW v b A g) (Q:cy w b A g) (aT:b≠sb) (aU:va.ownBlock≠some b) (bo:g.length<=3001) (bW:E.length<=90000):az 248 #[aO sb,v] w fun e w'=>e=.returned (.bool (jH k g))/\(∃o,cr w' sb zb k rc bI o vb vc cb/\cA w' (sb+1) o (E++fC k g))/\bG (fun a=>a≠sb/\some a≠va.ownBlock) w w':=by
 refine(bK (n:=0)).1 ?_;refine vX func248 rfl aL ?_;simp only[ntmps248,ib,bi,cW,Nat.reduceAdd,Nat.reduceSub,h_,ik,im,il,dJ,dF];have bF:=an.lt;have bL:=Q.1;have a0:=ak.pM;have a9:=af an;have a8:=af ak;have bd:=af Q;have bj:=af ac;have bv:=af a0;have ai:prog.follows .mixedOrders=true:=aB;have aC:eZ w v g:=by{rcases ac with h|⟨bg,h1,h2⟩;{exact iG};{exact .inr ⟨b,A,bg,h1,h2,Q⟩}};have aa:ax w ((w.alloc (.cells #[.pointer (some ⟨sb,0,none⟩)] 206)).alloc (.cells #[.bool false] 4)):=(aE.alloc av _).alloc am _;have a2:=af (aC.below aa);obtain⟨bT,bV,rfl⟩:=pk aC;clear an ak Q ac aC a0;gi_wp2_with fail;refine⟨aL,rfl,?_⟩;refine(bK.2 (Ar _ g _ (ag a2))).mono ?_;rintro e W2 ⟨rfl,bh,U,Y,Z⟩;have aN:aW W2 w.heap.size (aO sb) 206:=((aW.mZ _ _ _).alloc _).below U cu;have aP:aW W2 (w.heap.size+1) (.bool false) 4:=by{have:=(aW.mZ (w.alloc (.cells #[.pointer (some ⟨sb,0,none⟩)] 206)) (.bool false) 4).below U cu;rwa [cv]at this};have u:ax w W2:=aa.trans (U.mono cu);simp only[cv]at bh Y Z;clear aa U a2;gi_wp2_with fail;have aV:∀R,ax W2 ((W2.alloc (.deferred (some []))).alloc (.loop R)):=fun R=>(aE.alloc av _).alloc am _;have aw:=af (bd.below u);have aK:=af (a9.kept (u.block sb bF));have aR:=af (a8.below u);refine PM (xs:=be bH g) (encs:=fun j:Nat×List aj=>#[aF b (A+j.1*4) j.2.length j.2.length]) (St:=fun F G=>ax F G) (Kp:=fI (w.heap.size+1+1) (w.heap.size+1+1+1) b) (Kx:=fun _ _=>True) (gf:=233) (lb:=#[aO (w.heap.size+1+1),aO (w.heap.size+1+1+1)]) rfl (enters_of func233 aB rfl) (fun _=>rfl) ?seq [w.heap.size+1+1,w.heap.size+1+1+1,b] aA (fun F G h=>h) (fun F G h bm=>⟨bm,h _ am,h _ am,h _ am⟩) (fun _ _=>aL) (fun r d=>q7 sb zb cb k rc bI va vb vc E w.heap.size W2.heap.size (w.heap.size+1) W2 (g0 k ((be bH g).take r)) (((be bH g).take r).any (fB k)) d) (fun _ _=>False) (fun r F G h aS aX=>h.keeps aX ae ae ae aS) (fun c F G h aS aX=>h) ⟨va,aK,by simpa [g0]using ag aR,.inl rfl,fun l hg=>(bv l hg).2,aP,bG.refl _ _⟩ ?round ?done ?stop;case seq =>(intro R;have hg:=aV R;exact As _ b A _ _ g _ (ag bj) ((hg.cell (p:=⟨w.heap.size+1+1,0,none⟩) sI).trans Y) ((hg.cell (p:=⟨w.heap.size+1+1+1,0,none⟩) Cm).trans Z) (aw.below hg) ij ij bo)
 case round =>(
 intro bY r j bM d au y ap;gi_wp2_with fail;refine⟨aL,?_⟩;have aQ:=af y;obtain⟨o,D,L,I,J,T,x⟩:=y;have P:=ki au;have a4:=(ll P).2.1;have bX:=oo P;have bq:=x.block b ae ⟨aT,fun h=>aU h.symm,ae,ae⟩;have X:=pj (m3 (ag aw) x.size bq) P;obtain⟨br,bs,bt,bu⟩:=X.four 0 a4;clear br bs bu;rw[i4,dT,Hr j a4]at bt;have bR:(0:Int)<(j.2.length:Int):=ae;have aH:d.cell? (aq w.heap.size 0)=some (aO sb):=(b7 (x.block w.heap.size ae ⟨ae,fun h=>by have:=J _ h.symm;omega,ae,ae⟩)).trans aN.cell;obtain⟨bw,b3,bx,bz,bA,bB,bD,bE⟩:=D.cells;clear bw bx bz bB bD bE;have W:=af au;have aJ:=af X;have M:=af D;have H:=af L;have C:=af I;have S:=af J;have aI:=af T;have t:=af x;have bZ:=Q1 k g r;have bP:(g0 k ((be bH g).take r)).length<=3001:=ae;clear au X D L I J T x P;cases q:fB k j;{
 have bf:Hid (∀nq,vh W2.heap.size [w.heap.size+1+1,w.heap.size+1+1+1,b] (fun d=>q7 sb zb cb k rc bI va vb vc E w.heap.size W2.heap.size (w.heap.size+1) W2 (g0 k ((be bH g).take (r+1))) (((be bH g).take (r+1)).any (fB k)) d) (fun _ _=>False) d .normal { tmps:=#[],defers:=[] } (d.drewN nq)):=fun nq=>by{obtain⟨aD,aG⟩:=QZ (ag W) q;refine⟨⟨bb _,rfl,rfl⟩,fun _ _=>rfl,?_⟩;rw[aD,aG];exact aQ.keeps (dz.AR (fm (bk _ d) nq)) ae ae ae ae};have bp:(k==255)=false:=by unfold fB at q;rw[sU]at q;exact q.1
 have a_:(k==gu j)=false:=by unfold fB at q;rw[sU]at q;exact q.2
 clear q;gi_wp2_with fail;refine G_ ai (m4 aB) aB ?_;repeat (go_big_quiet_step (fail))
 refine wpQuiet_nil ?_;intro _ ar;obtain⟨nq,rfl⟩:=ar;gi_wp2_with fail;exact bf nq};{
 have ba:k=255\/((k==255)=false/\(k==gu j)=true):=by{unfold fB at q;cases h:k==255;{rw[h]at q;exact .inr ⟨rfl,q⟩};{exact .inl kI}};have a5:Hid (∀nq,∃v' w',(∃N a3 O,v'=Value.slice N a3 O)/\(Builtin.append_ #[41,41] 41 #[o,aF b (A+j.1*4) j.2.length j.2.length]).run prog (d.drewN nq).drew=.ok v' w' /\ w'.cell? (aq w.heap.size 0)=some (aO sb)/\w'.cell? (aq sb 4)=some o/\w'.frozen? (aq sb 4)=false /\ (w'.setCell ⟨sb,4,none⟩ v').cell? (aq (w.heap.size+1) 0)=some (.bool (((be bH g).take r).any (fB k)))/\(w'.setCell ⟨sb,4,none⟩ v').frozen? (aq (w.heap.size+1) 0)=false /\ Hid (vh W2.heap.size [w.heap.size+1+1,w.heap.size+1+1+1,b] (fun d=>q7 sb zb cb k rc bI va vb vc E w.heap.size W2.heap.size (w.heap.size+1) W2 (g0 k ((be bH g).take (r+1))) (((be bH g).take (r+1)).any (fB k)) d) (fun _ _=>False) d .normal { tmps:=#[],defers:=[] } ((w'.setCell ⟨sb,4,none⟩ v').setCell ⟨w.heap.size+1,0,none⟩ (.bool true)))):=fun nq=>by{have ab:ax d (d.drewN nq).drew:=(fm (bk _ d) nq).drew;have bQ:(d.drewN nq).drew.heap.size=d.heap.size:=rfl;obtain⟨aD,aG⟩:=Q0 (ag W) q;obtain⟨v',w',hrun,al,ah,bn⟩:=AB (sb+1) o _ j.2 b (A+j.1*4) j.2.length (d.drewN nq).drew (H.below ab) (aJ.below ab) ae (by rw[a6];omega);have bc:=M.lt;have B:∀a,(a<=sb\/(w.heap.size<=a/\a<W2.heap.size+2))->some a≠o.ownBlock:=by{intro a i e;have h1:=H.pM a e.symm;rcases ag C with h|⟨l,h2,h3⟩;{have:=ag S a (by rw[<- h];exact e.symm);omega};exact Cd};have bJ:some b≠o.ownBlock:=by{intro e;rcases ag C with h|⟨l,h2,h3⟩;{rw[h]at e;exact aU e.symm};exact Cd};have ad:∀a,a<d.heap.size->some a≠o.ownBlock->w'.heap[a]? = d.heap[a]?:=fun a i h=>(ah.block a i h).trans rfl;have ao:=M.kept (ad sb bc (B sb ae));have bS:d.heap.size<=w'.heap.size:=ah.size;have V:aW (w'.setCell ⟨sb,4,none⟩ v') (w.heap.size+1) (.bool (((be bH g).take r).any (fB k))) 4 := (bC _ _ _ _ (by show w.heap.size+1≠sb;omega)).trans ((ad (w.heap.size+1) ae (B _ ae)).trans (ag aI));have z:bG (fun a=>a≠sb/\some a≠o.ownBlock/\a≠w.heap.size+1) d ((w'.setCell ⟨sb,4,none⟩ v').setCell ⟨w.heap.size+1,0,none⟩ (.bool true)) := (((bG.wI ab).trans (bG.QY ah (fun a i=>i.2.1))).trans (bG.kA v' (fun a i=>i.1))).trans (bG.kA (.bool true) (fun a i=>i.2.2));have aY:v'.ownBlock=va.ownBlock\/∃l,v'.ownBlock=some l/\W2.heap.size+2<=l:=by{rcases bn with h|h;{rw[h];exact C};{exact .inr ⟨_,h,ap⟩}};refine⟨v',w',by obtain⟨N,O,h⟩:=al.slice;exact⟨N,_,O,h⟩,hrun,(b7 (ad w.heap.size ae (B _ ae))).trans aH,ao.cells.2.2.2.2.1,ao.frozen 4,V.cell,V.frozen,⟨⟨z.size,z.block _ ae ⟨ae,B _ ae,ae⟩,z.block _ ae ⟨ae,B _ ae,ae⟩⟩,?_,?_⟩⟩;{intro a i;simp only[co,lE,kd]at i;rcases i with rfl|rfl|rfl;{exact z.block _ ae ⟨ae,B _ ae,ae⟩};{exact z.block _ ae ⟨ae,B _ ae,ae⟩};{exact z.block _ ae ⟨aT,bJ,ae⟩}};{rw[aD,aG];refine⟨v',?_,?_,aY,S,V.set _,t.trans (z.mono ?_)⟩;{exact(ao.mh v').kept (bC _ _ _ _ (by show sb≠w.heap.size+1;omega))};{rw[<- c_];refine(al.kept ?_);intro l hg;have h1:=al.pM l hg;have a7:l≠w.heap.size+1:=by{rcases aY with h|⟨bl,h2,h3⟩;{have:=ag S l (by rw[<- h];exact hg);omega};{rw[hg]at h2;cases h2;omega}};exact(bC _ _ _ _ a7).trans (bC _ _ _ _ (by show l≠sb;omega))};{intro a _ i;refine⟨i.1,?_,i.2.2.1⟩;intro e;rcases ag C with h|⟨l,h2,h3⟩;{rw[h]at e;exact i.2.1 e};exact Cd}}};clear aQ W aJ M H C S aI t q aw aK aR Y Z aN aP aV;rcases ba with rfl|⟨bp,a_⟩;all_goals(
 gi_wp2_with fail;refine G_ ai (m4 aB) aB ?_;repeat (go_big_quiet_step (fail))
 refine wpQuiet_nil ?_;intro _ ar;obtain⟨nq,rfl⟩:=ar;obtain⟨v',w',⟨N,a3,O,rfl⟩,hrun,b0,cK,cx,b1,b2,Et⟩:=ag a5 nq;have bN:(d.drewN nq).drew.cell? (aq w.heap.size 0)=some (aO sb):=aH;have bO:(d.drewN nq).drew.cell? (aq sb 4)=some o:=bA;clear a5;gi_wp2_with fail;refine pi ai (m4 aB) ?_;refine gb 6 ?_;refine lF (rs:=[0,1]) aB am ?_;refine hi rfl (fun K hK=>?_) (hi rfl (fun K hK=>?_) nn);{go_simp;refine hK _ _ ?_;clear hK K;refine fL 1 fun K hK=>?_;go_simp;refine hK _ _ ?_;clear hK K;refine gb 2 ?_;refine gb 3 ?_;refine gb 4 ?_;refine fL 5 fun K hK=>?_;exact BY};{go_simp;refine hK _ _ ?_;clear hK K;refine gb 2 ?_;refine gb 3 ?_;refine gb 4 ?_;refine lF (rs:=[0,5]) aB am ?_;refine hi rfl (fun K hK=>?_) (hi rfl (fun K hK=>?_) nn);{go_simp;refine hK _ _ ?_;clear hK K;refine fL 5 fun K hK=>?_;exact BY};{go_simp;refine hK _ _ ?_;clear hK K;refine lF (rs:=[0,7]) aB am ?_;refine hi rfl (fun K hK=>?_) (hi rfl (fun K hK=>?_) nn);{exact BY};{rw[ay dO];refine DD (.tmp 31) (.tmp 32) 41 rfl _ _ _ w' rfl rfl hrun ?_;refine hK _ _ ?_;clear hK K;refine fL 0 fun K hK=>?_;go_simp;refine hK _ _ ?_;clear hK K;refine gb 8 ?_;refine gb 9 ?_;refine gb 10 ?_;refine fL 11 fun K hK=>?_;go_simp;refine hK _ _ ?_;clear hK K;refine o8 aB ?_ _;gi_wp2_with fail;exact Et}}})})
 case done =>(intro d y aM ap;rw[dK]at y;obtain⟨o,D,L,I,J,T,x⟩:=y;have bU:=T.cell;have M:=af D;have H:=af L;have C:=af I;have t:=af x;clear D L I x;gi_wp2_with fail;refine⟨am,.inl ⟨_,_,rfl,pE aM,?_⟩⟩;refine⟨.bool (jH k g),by simp[results,results248,go_sem];rfl,rfl,⟨o,?_,?_⟩,?_⟩;{exact M.kept (lQ ae)};{refine H.kept (fun l hg=>lQ ?_);rcases ag C with h|⟨bl,h1,h2⟩;{have:=J l (by rw[<- h];exact hg);omega};{rw[hg]at h1;cases h1;omega}};{refine⟨t.os.trans u.os,t.tape.trans u.tape,t.output.trans u.output,by rw[pC];exact aZ u.size t.size,fun a i a1=>?_⟩;rw[lQ ae,t.block a ae ⟨a1.1,a1.2,ae,ae⟩];exact u.block a i})
 case stop =>(intro c d y aM ap;exact y.elim)
end
def f_(w:World)(b:Nat)(xs:List Int)(t:TypeId):Prop:=w.heap[b]? = some (.cells (xs.map (Value.int .i64)).toArray t)
section
variable {w:World} {b:Nat} {xs:List Int} {t:TypeId}
theorem f_.lt(h:f_ w b xs t):b<w.heap.size:=(bn.1 h).1
theorem f_.cell(h:f_ w b xs t)(i:Nat)(ao:i<xs.length):w.cell? (aq b i)=some (ak xs[i]):=by unfold f_ at h;simp[World.cell?,h,ao]
theorem f_.frozen(h:f_ w b xs t)(i:Nat):w.frozen? (aq b i)=false:=by unfold f_ at h;exact jW
theorem f_.set(h:f_ w b xs t)(a:Nat)(x:Int):f_ (w.setCell ⟨b,a,none⟩ (.int .i64 x)) b (xs.set a x) t:=by unfold f_ at *;exact BU
theorem f_.kept{w':World}{a:Nat}(c:f_ w b xs t)(e:dz a w w')(d:b≠a):f_ w' b xs t:=(e.block b c.lt d).trans c
end
def hC:Nat->ah->Bool->List Nat×ah×Bool
 | 0,s,a=>([],s,a)
 | k+1,s,a=>((bS s a).1::(hC k (bS s a).2.1 (bS s a).2.2).1,(hC k (bS s a).2.1 (bS s a).2.2).2)
theorem lH(s:ah)(a:Bool):(bS s a).2.1.length<=s.length:=aZ (l2 _ _) (l2 _ _)
theorem Q2(s:ah)(a:Bool):(bS s a).1<65536:=by have h1:=qS s a;have h2:=qS (bZ s a).2.1 (bZ s a).2.2;simp only[bS];omega
def pp(s:ah):List Nat×Bool:=((hC 6 s false).1,!(hC 6 s false).2.2)
theorem Q3(s:ah)(w:World)(aa:s.length<=140737488355328):az 70 #[au s] w fun h w'=>h=.returned (.tuple #[.agg ((pp s).1.map fun n:Nat=>Value.int .i64 n).toArray,.bool (pp s).2])/\ax w w':=by
 have an:cS ((w.alloc (.cells #[.int .i64 0,.int .i64 0,.int .i64 0,.int .i64 0,.int .i64 0,.int .i64 0] 133)).alloc (.cells #[.string (ai s),.bool false] 215)) (w.heap.size+1) s false:=by{have:=World.alloc_heap_new (w.alloc (.cells #[.int .i64 0,.int .i64 0,.int .i64 0,.int .i64 0,.int .i64 0,.int .i64 0] 133)) (.cells #[.string (ai s),.bool false] 215);simpa [cS]using this};have l:f_ ((w.alloc (.cells #[.int .i64 0,.int .i64 0,.int .i64 0,.int .i64 0,.int .i64 0,.int .i64 0] 133)).alloc (.cells #[.string (ai s),.bool false] 215)) w.heap.size [0,0,0,0,0,0] 133 := (bx _ _ _ am).trans (World.alloc_heap_new w _);have V:=af (((bk w.heap.size w).alloc av (.cells #[.int .i64 0,.int .i64 0,.int .i64 0,.int .i64 0,.int .i64 0,.int .i64 0] 133)).alloc am (.cells #[.string (ai s),.bool false] 215));have Y:=gF _ s false _ an aa;have d:=af l;have L:=af Y;have F:Hid (pp s=((bS s false).1::(bS (bS s false).2.1 (bS s false).2.2).1::(hC 4 (bS (bS s false).2.1 (bS s false).2.2).2.1 (bS (bS s false).2.1 (bS s false).2.2).2.2).1,!(hC 4 (bS (bS s false).2.1 (bS s false).2.2).2.1 (bS (bS s false).2.1 (bS s false).2.2).2.2).2.2)):=rfl;have z:=af (aZ (lH s false) aa);generalize pp s=Q at *;generalize bS s false=a3 at *;obtain⟨i,N,D⟩:=a3;simp only at L F z;clear an l Y;go_enter func70,ntmps70;go_wp2_with fail;refine L.mono ?_;rintro h w1 ⟨rfl,ab,H,aj⟩;have M:=af (gF _ N D w1 ab (ag z));have S:=af (aZ (lH N D) (ag z));generalize bS N D=O at *;obtain⟨j,a1,aK⟩:=O;simp only at M F S;have aq:=af (d.kept H ae);have U:=af (V.trans (H.below ae aA));have I:Hid (w1.heap.size=w.heap.size+2):=by rw[Hid,aj];simp
 clear ab H aj L d V;go_wp2_with fail;refine M.mono ?_;rintro h w2 ⟨rfl,ac,J,al⟩;have ar:=af ac;have aw:=af (aq.kept J ae);have aM:=af (U.trans (J.below ae (by have:=ag I;omega)));have dw:Hid (w2.heap.size=w.heap.size+2):=by rw[Hid,al];exact I
 clear ac J al M aq U I;go_wp2_with fail;go_loopw [15] (fun K wr=>∃(k m:Nat) (done e:List Nat) (t:ah) (a:Bool),K=ak k/\done.length=k/\e.length=m/\k+m=4/\t.length<=140737488355328/\cS wr (w.heap.size+1) t a/\f_ wr w.heap.size [0,0,0,0,0,0] 133/\f_ wr w2.heap.size ((i::j::(done++e)).map Int.ofNat) 133/\ax w wr/\Q=(i::j::(done++(hC m t a).1),!(hC m t a).2.2)) (fun K _=>4-(intOf K).toNat);case atStart =>(refine⟨0,4,[],[0,0,0,0],a1,aK,rfl,rfl,rfl,rfl,S,?_,?_,?_,?_,F⟩;{exact(bx _ _ _ ar.lt).trans ar};{exact(bx _ _ _ aw.lt).trans aw};{exact Co};{exact aM.alloc qm _})
 case round =>(
 obtain⟨k,m,done,e,t,a,rfl,q,u,aH,ao,ay,l,T,X,W⟩:=hrel;have y:=af ay;have d:=af l;have g:=af T;have p:=af X;have E:=af W;clear ay l T X W;cases m with
 | zero =>{
 obtain rfl:e=[]:=df u;have Z:k=4:=ae;subst Z;obtain⟨aN,ap,aO,aP,rfl⟩:∃C b c G,done=[C,b,c,G]:=by{
 match done,q with
 | [C,b,c,G],_=>exact⟨C,b,c,G,rfl⟩};have aU:=g.cell 0 am;have aV:=g.cell 1 am;have aW:=g.cell 2 am;have aX:=g.cell 3 am;have aY:=g.cell 4 am;have a0:=g.cell 5 am;simp at aU aV aW aX aY a0;have a7:=y.cells.2;have aB:=d.cell 0 am;have aC:=d.cell 1 am;have aD:=d.cell 2 am;have aE:=d.cell 3 am;have aF:=d.cell 4 am;have aG:=d.cell 5 am;simp at aB aC aD aE aF aG;have aS:=d.frozen;have a9:w.heap.size≠w2.heap.size:=qm
 clear aH q u;go_wp2_with fail;go_region;all_goals(go_wp2;refine cc (v:=.tuple #[.agg #[.int .i64 i,.int .i64 j,.int .i64 aN,.int .i64 ap,.int .i64 aO,.int .i64 aP],.bool (!a)]) (by simp[results,results70,go_sem,aB,aC,aD,aE,aF,aG]) rfl ⟨?_,?_⟩;{rw[ag E];simp[hC]};{exact((((((p.setCell av _).setCell av _).setCell av _).setCell av _).setCell av _).setCell av _).drew})}
 | succ m =>{
 obtain⟨o,e,rfl⟩:∃o a4,e=o::a4:=by{
 cases e with
 | nil=>simp at u
 | cons o e=>exact⟨o,e,rfl⟩};have Z:k<4:=ae;have R:Hid (Q=(i::j::((done++[(bS t a).1])++(hC m (bS t a).2.1 (bS t a).2.2).1),!(hC m (bS t a).2.1 (bS t a).2.2).2.2)):=by{rw[Hid,ag E];simp[hC]};have A:=af (gF _ t a wr (ag y) ao);have P:=af (aZ (lH t a) ao);generalize bS t a=O at *;obtain⟨x,a2,aL⟩:=O;simp only at A P R;clear E;go_wp2_with fail;refine A.mono ?_;rintro h a_ ⟨rfl,ad,r,aT⟩;have aI:=af ad;have aJ:=af (d.kept r ae);have B:=af (g.kept r qm);have aQ:=af (p.trans (r.below ae (by have:=p.size;omega)));have a8:=B.cell (2+k) aA;have aS:=B.frozen;clear ad r aT A y d g p;go_wp2_with fail;have a6:w.heap.size<w2.heap.size:=qm
 have a5:w.heap.size+1<w2.heap.size:=qm
 have aR:=B.set (2+k) (x:Int);refine⟨⟨k+1,m,done++[x],e,a2,aL,bq,by simp[q],by simpa using u,ae,P,?_,?_,?_,aQ.setCell BX _,R⟩,ci⟩;{exact(bC _ _ _ _ (by show w.heap.size+1≠w2.heap.size;omega)).trans (ag aI)};{exact(bC _ _ _ _ (by show w.heap.size≠w2.heap.size;omega)).trans (ag aJ)};{have h:((i::j::(done++o::e)).map Int.ofNat).set (2+k) (x:Int)=(i::j::((done++[x])++e)).map Int.ofNat:=by{subst q;rw[show 2+done.length=done.length+1+1 from ae];simp[vJ]};rw[<- h];exact aR}})
def gh(w:World)(b:Nat)(h0 h1 h2 h3 h4 h5:Int)(q n:ah)(k c:Int)(opt:Bool)(sz bV:Int):Prop :=
 w.heap[b]? = some (.cells #[.int .i64 h0,.int .i64 h1,.int .i64 h2,.int .i64 h3,.int .i64 h4,.int .i64 h5,.string (ai q),.string (ai n),.int .i64 k,.int .i64 c,.bool opt,.int .i64 sz,.int .i64 bV] 137)
section
variable {w:World} {b:Nat} {h0 h1 h2 h3 h4 h5:Int} {q n:ah} {k c:Int} {opt:Bool} {sz bV:Int}
theorem gh.lt(h:gh w b h0 h1 h2 h3 h4 h5 q n k c opt sz bV):b<w.heap.size:=(bn.1 h).1
theorem gh.frozen(h:gh w b h0 h1 h2 h3 h4 h5 q n k c opt sz bV)(i:Nat):w.frozen? (aq b i)=false:=by unfold gh at h;exact jW
theorem gh.cells(a:gh w b h0 h1 h2 h3 h4 h5 q n k c opt sz bV):w.cell? (aq b 0)=some (ak h0)/\w.cell? (aq b 1)=some (ak h1)/\w.cell? (aq b 2)=some (ak h2)/\w.cell? (aq b 3)=some (ak h3)/\w.cell? (aq b 4)=some (ak h4)/\w.cell? (aq b 5)=some (ak h5)/\w.cell? (aq b 6)=some (au q)/\w.cell? (aq b 7)=some (au n)/\w.cell? (aq b 8)=some (ak k)/\w.cell? (aq b 9)=some (ak c)/\w.cell? (aq b 10)=some (.bool opt)/\w.cell? (aq b 11)=some (ak sz)/\w.cell? (aq b 12)=some (ak bV):=by unfold gh at a;refine⟨?_,?_,?_,?_,?_,?_,?_,?_,?_,?_,?_,?_,?_⟩<;>simp[World.cell?,a]
theorem gh.tR(h:gh w b h0 h1 h2 h3 h4 h5 q n k c opt sz bV)(a:ah):gh (w.setCell ⟨b,6,none⟩ (.string (ai a))) b h0 h1 h2 h3 h4 h5 a n k c opt sz bV:=by unfold gh at *;exact gX
theorem gh.apm(h:gh w b h0 h1 h2 h3 h4 h5 q n k c opt sz bV)(a:ah):gh (w.setCell ⟨b,7,none⟩ (.string (ai a))) b h0 h1 h2 h3 h4 h5 q a k c opt sz bV:=by unfold gh at *;exact gX
theorem gh.apn(h:gh w b h0 h1 h2 h3 h4 h5 q n k c opt sz bV)(a:Int):gh (w.setCell ⟨b,8,none⟩ (.int .i64 a)) b h0 h1 h2 h3 h4 h5 q n a c opt sz bV:=by unfold gh at *;exact gX
theorem gh.apo(h:gh w b h0 h1 h2 h3 h4 h5 q n k c opt sz bV)(a:Int):gh (w.setCell ⟨b,9,none⟩ (.int .i64 a)) b h0 h1 h2 h3 h4 h5 q n k a opt sz bV:=by unfold gh at *;exact gX
theorem gh.kept{w':World}(a:gh w b h0 h1 h2 h3 h4 h5 q n k c opt sz bV)(d:w'.heap[b]? = w.heap[b]?):gh w' b h0 h1 h2 h3 h4 h5 q n k c opt sz bV:=d.trans a
end
theorem Q5{w:World}{e:Nat}{v:Value}{b:List ah}(k:nM w e v b):Hz w v b:=by obtain⟨⟨h1,h2⟩,h3⟩:=k;rcases h2 with⟨a,_⟩|⟨j,g,h,a,q,c,n,r,t,o⟩;{exact .inl ⟨a,h3.1 a⟩};{refine .inr ⟨j,g,a,n,(bn.1 c).1,fun d l=>?_⟩;have i:h.toList[d]? = (b.map fun p=>Value.string (ai p))[d]?:=by{rw[<- o,lU];rw[ay ae]};simp only[World.cell?,c];rw[<- GH,i];simp[l]}
theorem Q6(s:ah)(a:Bool)(n:Nat):(bX s a n).1.length<=n:=by unfold bX;split<;>simp;omega
theorem Hd:∀(f n:Nat) (s:ah) (a:Bool) (c:Nat) (b:List ah),(∀e∈b,e.length<=63)->b.length<=c->c<=255->(∀e∈(gR f n s a c b).1,e.length<=63)/\(gR f n s a c b).1.length<=255/\(gR f n s a c b).2.1.length<=s.length
 | 0,n,s,a,c,b,h1,h2,h3=>⟨h1,by simp only[gR];omega,bb _⟩
 | f+1,n,s,a,c,b,h1,h2,h3=>by rw[gR];split;{exact⟨h1,by simp only;omega,bb _⟩};{split;{exact⟨am,am,bb _⟩};{rename_i h g;have:=Hd f (bZ (bX s a n).2.1 (bX s a n).2.2).1 (bZ (bX s a n).2.1 (bX s a n).2.2).2.1 (bZ (bX s a n).2.1 (bX s a n).2.2).2.2 (c+1+n) (b++[(bX s a n).1]) ?_ aA ae;{exact⟨this.1,this.2.1,aZ this.2.2 (aZ (l2 _ _) (oh _ _ _))⟩};{intro e d;rcases dv.1 d with d|d;{exact h1 e d};{rw[kU.1 d];have:=Q6 s a n;omega}}}}
theorem He(s:ah)(a:Bool):(∀b∈(jG s a).1,b.length<=63)/\(jG s a).1.length<=255/\(jG s a).2.1.length<=s.length:=by have:=Hd 256 (bZ s a).1 (bZ s a).2.1 (bZ s a).2.2 1 [] am am ae;exact⟨this.1,this.2.1,aZ this.2.2 (l2 _ _)⟩
theorem yK{P:Prop}(h:P:=by show rb≠qb;omega):P:=h
theorem Hf(qb rb:Nat)(s:ah)(j:Bool)(w:World){h0 h1 h2 h3 h4 h5:Int}{q n:ah}{k c:Int}{opt:Bool}{sz bV:Int}(F:gh w qb h0 h1 h2 h3 h4 h5 q n k c opt sz bV) (G:cS w rb s j) (o:qb≠rb) (E:s.length<=140737488355328){g:List ah} {Z U:Nat} {i t d:ah} {h u J:Bool} (y:jG s j=(g,i,h)) (z:bS i h=(Z,t,u)) (A:bS t u=(U,d,J)):az 133 #[aO qb,aO rb] w fun e w'=>e=.returned (.tuple #[])/\gh w' qb h0 h1 h2 h3 h4 h5 (s.take (s.length-d.length)) (aU g) Z U opt sz bV/\cS w' rb d J/\bG (fun a=>a≠qb/\a≠rb) w w':=by have p:=af (Qs rb s j w G E);have T:=He s j;rw[y]at T;rw[Hid,y]at p;obtain⟨iB,aD,aq⟩:=T;simp only at p iB aD aq;have aa:=lH i h;have ab:=lH t u;rw[z]at aa;rw[A]at ab;simp only at aa ab;have aP:=G.cells.1;have au:=af F;have aB:=af z;have aE:=af A;have ar:=af iB;have ay:=F.lt;clear F G y z A iB;go_enter func133,ntmps133;go_wp2_with fail;refine p.mono ?_;rintro e w1 ⟨v,rfl,Y,W,B⟩;have ac:=af (PO v g w1 (Q5 Y) ae (fun aC E=>by have:=ag ar aC E;omega));have I:=af (au.kept (B.block qb ay o));have K:=af W;have P:Hid (bG (fun a=>a≠qb/\a≠rb) w w1):=(bG.yf B).mono fun a _ b=>b.2;clear Y W B p;go_wp2_with fail;refine ac.mono ?_;rintro e x ⟨rfl,l⟩;have r:=af (I.kept (l.block qb I.lt));have aj:Hid (cS x rb i h):=(l.block rb K.lt).trans K;have S:=af (P.trans (bG.wI l));have V:=r.frozen;have ao:=r.cells.2.2.2.2.2.2.2.1;clear l ac I K P;go_wp2_with fail;have H:=af (r.apm (aU g));have ad:Hid (cS (x.setCell ⟨qb,7,none⟩ (.string (ai (aU g)))) rb i h):=(bC _ _ _ _ yK).trans (ag aj);have al:Hid (bG (fun a=>a≠qb/\a≠rb) w (x.setCell ⟨qb,7,none⟩ (.string (ai (aU g))))):=S.trans (bG.kA _ fun a b=>b.1);clear r aj S ao V;generalize x.setCell ⟨qb,7,none⟩ (.string (ai (aU g)))=aF at *;have L:=gF rb i h aF (ag ad) ae;rw[ag aB]at L;refine L.mono ?_;rintro e aG ⟨rfl,X,C,aw⟩;have M:=af (H.kept (C.block qb H.lt o));have am:=af X;have Q:=af (al.trans ((bG.yf C).mono fun a _ b=>b.2));clear X C aw L H ad al;go_wp2_with fail;have O:=gF rb t u aG (ag am) ae;rw[ag aE]at O;refine O.mono ?_;rintro e aH ⟨rfl,R,D,aA⟩;have N:=af (M.kept (D.block qb M.lt o));have ak:Hid (cS aH rb d J):=R;have an:=af (Q.trans ((bG.yf D).mono fun a _ b=>b.2));clear R D aA O M am Q;have V:=N.frozen;obtain⟨-,-,-,-,-,-,aI,-,aL,aK,-,-,-⟩:=N.cells;have aQ:=ak.cells.1;have aR:=a7 s;have aS:=a7 d;have aM:(s.length:Int)-d.length=((s.length-d.length:Nat):Int):=ae;have ax:s.length-d.length<=s.length:=ae;have av:=af (pG s (s.length-d.length) ax);have aJ:rb≠qb:=fun e=>o e.symm;generalize ap:s.length-d.length=aN at *;go_wp2_with fail;refine iI (v:=.tuple #[]) (by simp[results,results133]) rfl ?_;rw[ag av,ap];refine⟨rfl,((N.apn _).apo _).tR _,?_,((an.trans (bG.kA _ fun a b=>b.1)).trans (bG.kA _ fun a b=>b.1)).trans (bG.kA _ fun a b=>b.1)⟩;exact(bC _ _ _ _ yK).trans ((bC _ _ _ _ yK).trans ((bC _ _ _ _ yK).trans (ag ak)))
def cP(h0 h1 h2 h3 h4 h5:Int)(q n:ah)(k c:Int)(opt:Bool)(sz bV:Int):Value :=
 .agg #[ak h0,ak h1,ak h2,ak h3,ak h4,ak h5,.string (ai q),.string (ai n),ak k,ak c,.bool opt,ak sz,ak bV]
theorem Q7(a:World):(Op.equalIn 10000 131 (.agg #[ak 1,ak 0,ak 0,ak 0]) (.agg #[ak 1,ak 0,ak 0,ak 0])).run prog a=.ok true a:=aB
def q8(w:World)(b a:Int)(s:ah):World :=
 (((w.alloc (.cells #[.int .i64 b,.int .i64 a,.int .i64 1,.int .i64 0,.int .i64 0,.int .i64 0] 133)).alloc
   (.cells #[.int .i64 0,.int .i64 0,.int .i64 0,.int .i64 0,.int .i64 0,.int .i64 0,.string ⟨#[]⟩,.string ⟨#[]⟩,.int .i64 0,.int .i64 0,.bool false,.int .i64 0,.int .i64 0] 137)).alloc
   (.cells #[.int .i64 b,.int .i64 a,.int .i64 1,.int .i64 0,.int .i64 0,.int .i64 0,.string ⟨#[]⟩,.string ⟨#[]⟩,.int .i64 0,.int .i64 0,.bool false,.int .i64 0,.int .i64 0] 137)).alloc
   (.cells #[.string (ai s),.bool false] 215)
theorem Q8(w:World)(b a:Int)(s:ah):gh (q8 w b a s) (w.heap.size+1+1) b a 1 0 0 0 [] [] 0 0 false 0 0/\gh (q8 w b a s) (w.heap.size+1) 0 0 0 0 0 0 [] [] 0 0 false 0 0/\cS (q8 w b a s) (w.heap.size+1+1+1) s false/\ax w (q8 w b a s):=by refine⟨?_,?_,?_,?_⟩;{refine(bx _ _ _ am).trans ?_;have:=World.alloc_heap_new ((w.alloc (.cells #[.int .i64 b,.int .i64 a,.int .i64 1,.int .i64 0,.int .i64 0,.int .i64 0] 133)).alloc (.cells #[.int .i64 0,.int .i64 0,.int .i64 0,.int .i64 0,.int .i64 0,.int .i64 0,.string ⟨#[]⟩,.string ⟨#[]⟩,.int .i64 0,.int .i64 0,.bool false,.int .i64 0,.int .i64 0] 137)) (.cells #[.int .i64 b,.int .i64 a,.int .i64 1,.int .i64 0,.int .i64 0,.int .i64 0,.string ⟨#[]⟩,.string ⟨#[]⟩,.int .i64 0,.int .i64 0,.bool false,.int .i64 0,.int .i64 0] 137);simpa [ai]using this};{refine(bx _ _ _ am).trans ((bx _ _ _ am).trans ?_);have:=World.alloc_heap_new (w.alloc (.cells #[.int .i64 b,.int .i64 a,.int .i64 1,.int .i64 0,.int .i64 0,.int .i64 0] 133)) (.cells #[.int .i64 0,.int .i64 0,.int .i64 0,.int .i64 0,.int .i64 0,.int .i64 0,.string ⟨#[]⟩,.string ⟨#[]⟩,.int .i64 0,.int .i64 0,.bool false,.int .i64 0,.int .i64 0] 137);simpa [ai]using this};{have:=World.alloc_heap_new (((w.alloc (.cells #[.int .i64 b,.int .i64 a,.int .i64 1,.int .i64 0,.int .i64 0,.int .i64 0] 133)).alloc (.cells #[.int .i64 0,.int .i64 0,.int .i64 0,.int .i64 0,.int .i64 0,.int .i64 0,.string ⟨#[]⟩,.string ⟨#[]⟩,.int .i64 0,.int .i64 0,.bool false,.int .i64 0,.int .i64 0] 137)).alloc (.cells #[.int .i64 b,.int .i64 a,.int .i64 1,.int .i64 0,.int .i64 0,.int .i64 0,.string ⟨#[]⟩,.string ⟨#[]⟩,.int .i64 0,.int .i64 0,.bool false,.int .i64 0,.int .i64 0] 137)) (.cells #[.string (ai s),.bool false] 215);simpa [cS,q8]using this};exact D5
theorem DY{P:Prop}(h:P:=by go_region;all_goals(go_wp2;refine cc (v:=.tuple #[cP id bits 1 0 0 0 q nm k' c' false 0 0,.bool false]) (by simp[results,results72,go_sem,cP,cU,d1,d2,d3,d4,d5,d6,d7,d8,d9,d10,d11,d12]) rfl ⟨ag G4 false rfl,?_⟩;first|exact(aN _ (aN _ (aN _ (aN _ (aN _ (aN _ (aN _ (aN _ (aN _ (aN _ (aN _ (aN _ (aN _ bN _ _) _ _) _ _) _ _) _ _) _ _) _ _) _ _) _ _) _ _) _ _) _ _) _ _).drew|exact(aN _ (aN _ (aN _ (aN _ (aN _ (aN _ (aN _ (aN _ (aN _ (aN _ (aN _ (aN _ (aN _ bN.drew _ _) _ _) _ _) _ _) _ _) _ _) _ _) _ _) _ _) _ _) _ _) _ _) _ _))):P:=h
theorem DH(id bits:Int)(m:ah)(w:World)(V:12<=m.length)(U:m.length<=140737488355328){e:List ah} {k' c':Nat} {M N a:ah} {L P d:Bool} (c:jG (m.drop 12) false=(e,M,L)) (i:bS M L=(k',N,P)) (j:bS N P=(c',a,d)):az 72 #[.agg #[ak id,ak bits,ak 1,ak 0,ak 0,ak 0],.string (ai m)] w fun B w'=>B=.returned (.tuple #[cP id bits 1 0 0 0 ((m.drop 12).take ((m.drop 12).length-a.length)) (aU e) k' c' false 0 0,.bool (!d&&a.isEmpty)])/\ax w w':=by
 have W:=a7 m;have y:=af (qR m 12 _ rfl);have X:=Q7;have r:=af c;have H:=af i;have O:=af j;clear c i j;obtain⟨u,o,G,D⟩:=Q8 w id bits (m.drop 12);have x:=af (Hf (w.heap.size+1+1) (w.heap.size+1+1+1) (m.drop 12) false (q8 w id bits (m.drop 12)) u G ae aA (ag r) (ag H) (ag O));have n:=af o;have h:=af D;clear u o G D;go_enter func72,ntmps72;go_wp2_with fail;rw[ag y];refine x.mono ?_;rintro B w1 ⟨rfl,Q,E,l⟩;have k:=af (n.kept (l.block _ n.lt ⟨ae,ae⟩));have bN:Hid (ax w w1):=h.trans (l.below (fun an ao=>⟨ae,ae⟩) h.size);have I:=af Q;have J:=af E;clear Q E l x n h X;generalize z:(m.drop 12).take ((m.drop 12).length-a.length)=q at *;generalize C:aU e=nm at *;have A:=af z;have F:=af C;clear z C;obtain⟨ab,ap,ac,ad,aK,b9,cm,aj,hZ,al,me,ox,oz⟩:=I.cells;obtain⟨cU,d1,d2,d3,d4,d5,d6,d7,d8,d9,d10,d11,d12⟩:=k.cells;have am:=k.frozen;obtain⟨Z,aq⟩:=J.cells;go_wp2_with fail;clear r H O y V U W I J k;have K:∀b:Bool,(!d&&a.isEmpty)=b->Ending.returned (.tuple #[cP id bits 1 0 0 0 q nm k' c' false 0 0,.bool b])=.returned (.tuple #[cP id bits 1 0 0 0 ((m.drop 12).take ((m.drop 12).length-a.length)) (aU e) k' c' false 0 0,.bool (!d&&a.isEmpty)]):=fun b T=>by{rw[ag A,ag F,T]};have G4:=af K;clear K A F;have aN:=af fun(R:World) (S:ax w R) (Y:Nat) (v:Value)=>S.setCell (p:=⟨w.heap.size+1,Y,none⟩) c9 v;cases d;{
 cases a with
 | nil =>{have c:ai []=⟨#[]⟩:=rfl;rw[c]at Z;go_region;all_goals(go_wp2;refine cc (v:=.tuple #[cP id bits 1 0 0 0 q nm k' c' false 0 0,.bool true]) (by simp[results,results72,go_sem,cP,cU,d1,d2,d3,d4,d5,d6,d7,d8,d9,d10,d11,d12]) rfl ⟨ag G4 true rfl,?_⟩;first|exact(aN _ (aN _ (aN _ (aN _ (aN _ (aN _ (aN _ (aN _ (aN _ (aN _ (aN _ (aN _ (aN _ bN _ _) _ _) _ _) _ _) _ _) _ _) _ _) _ _) _ _) _ _) _ _) _ _) _ _).drew|exact(aN _ (aN _ (aN _ (aN _ (aN _ (aN _ (aN _ (aN _ (aN _ (aN _ (aN _ (aN _ (aN _ bN.drew _ _) _ _) _ _) _ _) _ _) _ _) _ _) _ _) _ _) _ _) _ _) _ _) _ _))}
 | cons g t =>{
 have c:((ai (g::t)).toList==(⟨#[]⟩:ByteArray).toList)=false:=by rw[qO];rfl
 have i:(ai (g::t)).toList.isEmpty=false:=by rw[c7];rfl
 have j:¬(ai (g::t)).size=0:=by rw[a7];simp
 generalize ai (g::t)=aa at *;exact DY}};{exact DY}
def mi(k:Int):Bool:=k != 0&&k != 41&&(decide (k<249)||decide (254<k))
def ko(b rc:Int):Int:=bits .or .i64 (bits .or .i64 32768 (bits .and .i64 b 30976)) (bits .and .i64 rc 15)
theorem Hg(a b c ap d e rc:Int)(w:World):az 132 #[.agg #[ak a,ak b,ak c,ak ap,ak d,ak e],ak rc] w fun g w'=>g=.returned (.agg #[ak a,ak (ko b rc),ak 0,ak 0,ak 0,ak 0])/\ax w w':=by go_enter func132,ntmps132;go_wp2;refine cc (v:=.agg #[.int .i64 a,.int .i64 (ko b rc),.int .i64 0,.int .i64 0,.int .i64 0,.int .i64 0]) (by simp[results,results132,go_sem,ko]) rfl ⟨rfl,?_⟩;first|exact(aE.alloc av _).alloc am _|exact(((((((((Below.refl _ _).alloc (Nat.le_refl _) _).alloc am _).setCell c9 _).setCell c9 _).setCell c9 _).setCell c9 _).setCell c9 _).setCell c9 _)
theorem Q9(h0 h1 h2 h3 h4 h5:Int)(q n:ah)(k c sz bV:Int)(w:World):az 138 #[cP h0 h1 h2 h3 h4 h5 q n k c false sz bV] w (aP (ak 512) w):=by unfold cP;go_enter func138,ntmps138;go_wp2;go_ret;exact uB
theorem Ra(h0 h1 h2 h3 h4 h5:Int)(q n:ah)(k c sz bV rc:Int)(w:World):az 136 #[cP h0 h1 h2 h3 h4 h5 q n k c false sz bV,ak rc] w (aP (.string ⟨#[]⟩) w):=by unfold cP;go_enter func136,ntmps136;go_wp2;go_ret;exact uB
section
open Go
def G5:Value->Nat
 | .slice _ n _=>n
 | _=>0
structure iJ(w w':World)(t:TypeId)(sz:Nat)(v v':Value):Prop where
 row:∀(i:Nat) (cur:Array Value),w.heap[i]? = some (.cells cur t (0,0))->∃cur',w'.heap[i]? = some (.cells cur' t (0,0))/\cur'.size=cur.size/\∀j,(v.ownBlock=some i->j<G5 v*sz)->cur'[j]? = cur[j]?
 own:∀g,v'.ownBlock=some g->(v.ownBlock=some g/\G5 v<=G5 v')\/w.heap.size<=g
section
variable {w w' w1:World} {t:TypeId} {sz:Nat} {v v' v1:Value}
theorem iJ.same(v:Value)(sz:Nat)(d:∀(a:Nat) (b:Array Value),w.heap[a]? = some (.cells b t (0,0))->w'.heap[a]? = w.heap[a]?):iJ w w' t sz v v :=
 ⟨fun a b c=>⟨b,(d a b c).trans c,rfl,fun _ _=>rfl⟩,fun _ e=>.inl ⟨e,bb _⟩⟩
theorem iJ.refl(w:World)(t:TypeId)(sz:Nat)(v:Value):iJ w w t sz v v:=iJ.same v sz fun _ _ _=>rfl
theorem iJ.trans(h:iJ w w1 t sz v v1)(k:iJ w1 w' t sz v1 v')(r:w.heap.size<=w1.heap.size):iJ w w' t sz v v':=by refine⟨fun d n g=>?_,fun e q=>?_⟩;{obtain⟨ap,h1,h2,h3⟩:=h.row d n g;obtain⟨l,u,x,y⟩:=k.row d ap h1;have ao:=(bn.1 g).1;refine⟨l,u,x.trans h2,fun j i=>(y j fun p=>?_).trans (h3 j i)⟩;rcases h.own d p with⟨a,b⟩|a;{exact cp (i a) (pz _ b)};{omega}};{rcases k.own e q with⟨a,b⟩|a;{rcases h.own e a with⟨c,o⟩|c;{exact .inl ⟨c,aZ o b⟩};{exact .inr c}};{exact .inr (aZ r a)}}
theorem iJ.adT(h:iJ w w' t sz v v'){a n:Nat}{xs:List Value}(c:w.ownsRow a t sz v n xs):w'.ownsRow a t sz v n xs:=by refine⟨c.1,?_⟩;rcases c.2 with l|⟨b,d,e,rfl,i,j,h1,h2,h3,h4⟩;{exact .inl l};{obtain⟨g,p,q,r⟩:=h.row b e j;refine .inr ⟨b,d,g,rfl,i,p,h1,h2,q.trans h3,?_⟩;rw[<- h4];apply List.ext_getElem?;intro o;rw[lU,lU];split;{rename_i k;have:=r o fun _=>k;exact kJ};{rfl}}
end
theorem Rb{w:World}{b:Obj}{a:Nat}(ao:a<w.heap.size):(w.drew.alloc b).heap[a]? = w.heap[a]?:=bx w.drew b a ao
theorem Mz{w:World}{t:TypeId}{sz:Nat}{v v':Value}(e:Obj)(d:v'.ownBlock=some w.heap.size):iJ w (w.drew.alloc e) t sz v v' :=
 ⟨fun h c a=>⟨c,(Rb (bn.1 a).1).trans a,rfl,fun _ _=>rfl⟩,fun g b=>.inr (by rw[d]at b;cases b;exact bb _)⟩
theorem Hh{w:World}{t:TypeId}{sz g n k cap:Nat}{a:Array Value}{news:List Value}(e:w.heap[g]? = some (.cells a t (0,0)))(q:n*sz+news.length<=a.size)(j:n<=k):iJ w (w.setRow g (a.toList.take (n*sz)++news++a.toList.drop (n*sz+news.length)).toArray) t sz (aF g 0 n cap) (aF g 0 k cap):=by
 refine⟨fun b c hc=>?_,fun p o=>.inl ⟨o,j⟩⟩;by_cases d:b=g;{
 subst d;rw[e]at hc;obtain rfl:a=c:=sy
 refine⟨_,setRow_heap w b a _ t _ e,aA,fun l h=>?_⟩;have i:l<n*sz:=h rfl;rw[GR,c_,pv aA,lU,ay i];simp};{exact⟨c,(setRow_other w g b _ d).trans hc,rfl,fun _ _=>rfl⟩}
section
variable {P:Program} (w:World)
theorem yo{P:Prop}(h:P:=by rw[q]at hr;cases hr;exact Mz _ rfl):P:=h
theorem Rc(F:Nat)(t j b:TypeId)(a:TypeInfo)(u:Value)(h x:Nat)(r:P.underlying t=some (.slice b))(ao:P.info? b=some a)(C:a.zero=some u)(L:a.size=h) (H:a.bytes=x) (R:0<h)(v:Value) (n:Nat) (xs:List Value) (p:w.ownsRow F b h v n xs)(e:Addr) (m c:Nat) (d:List Value) (i:d.length=m*h) (o:∀D k,d[D]? = some k->w.cell? (e.add D)=some k) (h1:∀k∈d,k.oneCell'=true)(G:n+m<=maxLen) (z:(n+m)*x<=140737488355328) (v':Value) (w':World) (hr:(Builtin.append_ #[t,t] j #[v,.slice (some e) m c]).run P w=.ok v' w') (J:0<m):iJ w w' b h v v':=by
 subst L;subst H;have N:n+m<=9223372036854775807:=by simp only[maxLen]at G;omega
 rcases p.2 with⟨rfl,rfl⟩|⟨g,l,y,rfl,O,A,S,Q,I,M⟩;{have q:=run_append_nil (P:=P) w t j b a u r ao C e m c d i o J ae (by simp only[cT]at z;omega);exact yo};{
 by_cases B:n+m<=l;{
 have E:n*a.size+d.length<=y.size:=by rw[i,I,<- rk];exact pz _ B
 have q:=run_append_room (P:=P) w t j b a r ao g n l y A e m c d i o h1 B E;rw[q]at hr;cases hr;exact Hh A E ae};{have K:=p.cells (g:=g) rfl;have q:=run_append_grow (P:=P) w t j b a u r ao C (aq g 0) n l xs p.1 K e m c d i o ae ae (growslice_fits ae z);exact yo}}
theorem QA(y:Nat)(t c d a:TypeId)(b:TypeInfo)(e:P.underlying t=some (.slice a))(h:P.underlying c=some .string)(ao:P.info? a=some b)(x:b.zero=some (.int .u8 0))(j:b.size=1) (o:b.bytes=1) (v:Value) (n:Nat) (xs:List Value) (i:w.ownsRow y a 1 v n xs) (s:ByteArray)(z:n+s.size<=maxLen) (I:n+s.size<=140737488355328) (v':Value) (w':World) (hr:(Builtin.append_ #[t,c] d #[v,.string s]).run P w=.ok v' w'):iJ w w' a 1 v v':=by
 have G:n+s.size<=9223372036854775807:=by simp only[maxLen]at z;omega
 have D:xs.length=n:=by simpa using i.1
 rcases i.2 with⟨rfl,rfl⟩|⟨g,cap,l,rfl,H,r,K,J,A,E⟩;{by_cases u:s.size=0;{have p:=Lib.run_firstCells_string (P:=P) w 1 s;rw[u]at p;have q:(Builtin.append_ #[t,c] d #[aJ,.string s]).run P w=.ok (aJ) w:=by{simp[Builtin.append_,zv e,zv h,sizeOf,typeInfo,ao,j,Builtin.lenOf,u,p]};rw[q]at hr;cases hr;exact iJ.refl _ _ _ _};{have q:=run_append_nil_string (P:=P) w t c d a b (.int .u8 0) e h ao x s ae ae (by rw[o];omega);exact yo}};{
 have F:l.size=cap:=by simpa using A
 by_cases C:n+s.size<=cap;{have q:=Lib.run_append_room_string (P:=P) w t c d a b e h ao j g n cap l r s C ae;rw[q]at hr;cases hr;have:=Hh (sz:=1) (n:=n) (k:=n+s.size) (cap:=cap) (news:=Lib.strCells s) r (by rw[Lib.strCells_length];omega) ae;rw[lV,Lib.strCells_length]at this;exact this};{have B:=i.cells (g:=g) rfl;have q:=Lib.run_append_grow_string (P:=P) w t c d a b (.int .u8 0) e h ao x (aq g 0) n cap xs (by rw[j];simpa using D) B s ae ae (by rw[o];exact growslice_fits ae ae);exact yo}}
theorem Hi{G:Array Oper}{rest:List Oper}{g:Oper}{i:Act}{p:Exit->Act->World->Prop}(L:g.guard=none)(s H:Operand)(t:TypeId)(N:g.op=.call { callee:=.builtin .append,args:=#[s,H],argTypes:=#[t,t] })(h:Nat) (b:TypeId) (d:TypeInfo) (o:Value) (a k:Nat) (D:P.underlying t=some (.slice b)) (ao:P.info? b=some d) (E:d.zero=some o)(B:d.size=a) (r:d.bytes=k) (R:o.cells.size=a) (C:0<a)(v:Value) (n:Nat) (xs:List Value) (O:i.eval s=v) (z:w.ownsRow h b a v n xs)(j:Addr) (m c:Nat) (e:List Value) (M:0<m) (Q:i.eval H=.slice (some j) m c) (x:e.length=m*a) (y:∀F l,e[F]? = some l->w.cell? (j.add F)=some l) (h1:∀l∈e,l.oneCell'=true)(q:n+m<=maxLen) (u:(n+m)*k<=140737488355328) (K:h<=w.heap.size)(I:∀v' w',w'.ownsRow h b a v' (n+m) (xs++e)->w.grownBy w' v.ownBlock->iJ w w' b a v v'->(v'.ownBlock=v.ownBlock\/v'.ownBlock=some w.heap.size)->wpList P G p rest (i.put g.dst v') w'):wpList P G p (g::rest) i w:=by refine wpList_plain L fun S J=>?_;obtain⟨v',w',A,h2,h3,_,h5⟩:=run_append_own_at (P:=P) w h t g.type b d o a k D ao E B r R C v n xs z j m c e x y h1 q u K;have h4:=Rc (P:=P) w h t g.type b d o a k D ao E B r C v n xs z j m c e x y h1 q u v' w' A M;unfold Oper.wp execOp;simp only[N,resolve,invoke,builtin,Sem.run_bind,uM,qC,uN,fl,kK,O,Q,A];exact J _ _ (I v' w' h2 h3 h4 h5)
theorem QB{x:Array Oper}{rest:List Oper}{c:Oper}{e:Act}{h:Exit->Act->World->Prop}(D:c.guard=none)(y z:Operand)(t g:TypeId)(E:c.op=.call { callee:=.builtin .append,args:=#[y,z],argTypes:=#[t,g] })(d:Nat) (a:TypeId) (b:TypeInfo) (q:P.underlying t=some (.slice a)) (r:P.underlying g=some .string) (ao:P.info? a=some b) (u:b.zero=some (.int .u8 0))(p:b.size=1) (j:b.bytes=1)(v:Value) (n:Nat) (xs:List Value) (F:e.eval y=v) (l:w.ownsRow d a 1 v n xs) (s:ByteArray) (G:e.eval z=.string s)(i:n+s.size<=maxLen) (k:n+s.size<=140737488355328) (C:d<=w.heap.size)(A:∀v' w',w'.ownsRow d a 1 v' (n+s.size) (xs++Lib.strCells s)->w.grownBy w' v.ownBlock->iJ w w' a 1 v v'->wpList P x h rest (e.put c.dst v') w'):wpList P x h (c::rest) e w:=by refine wpList_plain D fun H B=>?_;obtain⟨v',w',o,h2,h3,_⟩:=Lib.run_append_own_string (P:=P) w d t g c.type a b q r ao u p j v n xs l s i k C;have h4:=QA (P:=P) w d t g c.type a b q r ao u p j v n xs l s i k v' w' o;unfold Oper.wp execOp;simp only[E,resolve,invoke,builtin,Sem.run_bind,uM,qC,uN,fl,kK,F,G,o];exact B _ _ (A v' w' h2 h3 h4)
end
end
def bJ(w:World)(b:Nat)(vb vp:Value):Prop:=w.heap[b]? = some (.cells #[vb,vp] 283)
section
variable {w:World} {b:Nat} {vb vp:Value}
theorem bJ.lt(h:bJ w b vb vp):b<w.heap.size:=(bn.1 h).1
theorem bJ.cells(h:bJ w b vb vp):w.cell? (aq b 0)=some vb/\w.cell? (aq b 1)=some vp:=by unfold bJ at h;exact Cp
theorem bJ.frozen(h:bJ w b vb vp)(i:Nat):w.frozen? (aq b i)=false:=by unfold bJ at h;exact jW
theorem bJ.set0(h:bJ w b vb vp)(v:Value):bJ (w.setCell ⟨b,0,none⟩ v) b v vp:=by unfold bJ at *;exact gX
theorem bJ.set1(h:bJ w b vb vp)(v:Value):bJ (w.setCell ⟨b,1,none⟩ v) b vb v:=by unfold bJ at *;exact gX
theorem bJ.kept{w':World}(a:bJ w b vb vp)(c:w'.heap[b]? = w.heap[b]?):bJ w' b vb vp:=c.trans a
end
theorem oA{w:World}{b:Nat}{vb vp:Value}{t:TypeId}(e:bJ w b vb vp)(g:t≠283)(i:Nat)(j v:Value)(sz:Nat):iJ w (w.setCell ⟨b,i,none⟩ j) t sz v v :=
 iJ.same v sz fun h k a=>bC _ _ _ _ fun c=>by
  have d:h=b:=c;rw[d,e]at a;simp at a;exact g a.2.symm
theorem Hj(w:World)(b:Obj)(t:TypeId)(sz:Nat)(v:Value):iJ w (w.alloc b) t sz v v :=
 iJ.same v sz fun _ _ a=>bx _ _ _ (bn.1 a).1
def dA(w:World)(b:Nat)(v:Value)(a:ah):Prop:=w.ownsRow b 5 1 v a.length (a.map fun c=>.int .u8 c.toNat)
theorem Hk:(prog.info? 5).map (fun a=>(a.zero,a.size,a.bytes))=some (some (.int .u8 0),1,1):=aB
theorem zY:prog.underlying 58=some (.slice 5):=aB
theorem pe{w:World}{b a:Nat}{t:TypeId}{sz n:Nat}{v:Value}{xs:List Value}(j:w.ownsRow b t sz v n xs)(d:some a≠v.ownBlock)(o:Nat)(p:Value):(w.setCell ⟨a,o,none⟩ p).ownsRow b t sz v n xs:=by obtain⟨h1,h2⟩:=j;refine⟨h1,?_⟩;rcases h2 with h2|⟨c,g,h,rfl,k,e,l⟩;{exact .inl h2};{exact .inr ⟨c,g,h,rfl,k,(bC _ _ _ _ (by show c≠a;intro i;subst i;exact d rfl)).trans e,l⟩}
theorem s_{w:World}{c d:Nat}{vb vp v:Value}{h:ah}(e:bJ w c vb vp)(g:dA w d v h):some c≠v.ownBlock:=fun a=>by
 obtain⟨_,⟨rfl,_⟩|⟨k,i,j,rfl,_,b,_⟩⟩:=g
 ·simp[Value.ownBlock]at a
 ·simp only[Value.ownBlock,nr]at a;subst a;rw[e]at b;simp at b
theorem i8{w:World}{b:Nat}{t:TypeId}{sz n:Nat}{v:Value}{xs:List Value}(h:w.ownsRow b t sz v n xs):∃a m c,v=.slice a m c:=by obtain⟨_,⟨rfl,_⟩|⟨g,d,e,rfl,_⟩⟩:=h;{exact⟨_,_,_,rfl⟩};{exact⟨_,_,_,rfl⟩}
theorem QC(d e:Nat)(c:UInt8)(vb vp:Value)(k:ah)(w:World)(l:bJ w d vb vp)(A:dA w e vb k)(P:e<=w.heap.size)(T:k.length<=1000000):az 341 #[.int .u8 c.toNat,aO d] w fun G w'=>G=.returned (.tuple #[])/\∃g,bJ w' d g vp/\dA w' e g (k++[c])/\(g.ownBlock=vb.ownBlock\/∃i,g.ownBlock=some i/\w.heap.size<=i)/\iJ w w' 5 1 vb g/\bG (fun a=>a≠d/\some a≠vb.ownBlock) w w':=by
 obtain⟨M,ao,J,K,L⟩:=fO Hk;have R:=l.cells.1;have q:=af l;have p:=af A;have H:=l.lt;clear l A;go_enter func341,ntmps341;go_wp2_with (at_builtin;go_loud (refine Hi _ rfl (.tmp 8) (.tmp 10) 58 rfl e 5 M (.int .u8 0) 1 1 zY ao J K L rfl ba _ k.length _ rfl (p.alloc _) (aq w.heap.size 0) 1 1 [.int .u8 c.toNat] ba rfl rfl ?ap ?c2 ?c3 ?aK ?b9 ?_))
 case ap =>
  intro N O hj
  match N,hj with
  | 0,hj=>exact uz
  | n+1,hj=>simp at hj
 case c2=>intro O B;simp at B;subst B;rfl
 case c3=>exact lC
 case aK=>omega
 case b9=>simp;omega
 intro v' D t b x z;obtain⟨va,u,vc,rfl⟩:=i8 t;have y:Hid (dA D e (.slice va u vc) (k++[c])):=by
  unfold Hid dA;rw[a6,d0];exact t
 have r:=fun a ao o =>
  (b.block a aA o).trans (bx _ _ _ ao)
 have o:=s_ (ag q) (ag p);have j:=af (q.kept (r d H o));have C:Hid (bG (fun a=>a≠d/\some a≠vb.ownBlock) w D) :=
  ⟨b.os,b.tape,b.output,aZ am b.size,fun a ao I=>r a ao I.2⟩
 have F:Hid ((Value.slice va u vc).ownBlock=vb.ownBlock\/∃i,(Value.slice va u vc).ownBlock=some i/\w.heap.size<=i):=by
  rcases z with h|h
  ·exact iG
  ·exact .inr ⟨_,h,am⟩
 have E:=af ((Hj w _ _ _ _).trans x am);have S:=j.frozen;have Q:=j.cells.1;clear t b x z r o q p;go_wp2_with fail;refine iI (v:=.tuple #[]) (by simp[results,results341]) rfl ?_;refine⟨rfl,_,j.set0 _,?_,F,E.trans (oA (ag j) ba _ _ _ _) C.size,C.trans (bG.kA _ fun a h=>h.1)⟩;exact pe (ag y) (s_ (ag j) (ag y)) _ _
def kQ(c:Nat)(w w':World):Prop:=∀vb vp,bJ w c vb vp->∃a b,bJ w' c a b/\iJ w w' 5 1 vb a/\iJ w w' 343 2 vp b
theorem kQ.of{b:Nat}{w w':World}{vb vp c d:Value}(e:bJ w b vb vp)(g:bJ w' b c d)(h1:iJ w w' 5 1 vb c)(h2:iJ w w' 343 2 vp d):kQ b w w':=fun h i a=>by
 unfold bJ at e a;rw[e]at a;obtain⟨rfl,rfl⟩:vb=h/\vp=i:=by simpa using a
 exact⟨_,_,g,h1,h2⟩
theorem kQ.trans{a:Nat}{w w1 w':World}(h:kQ a w w1)(k:kQ a w1 w')(b:w.heap.size<=w1.heap.size):kQ a w w':=fun vb vp e=>by
 obtain⟨c,j,g,l,o⟩:=h vb vp e;obtain⟨d,cK,i,n,p⟩:=k c j g;exact⟨d,cK,i,l.trans n b,o.trans p b⟩
theorem kQ.same{i:Nat}{w w1 w':World}(o:kQ i w w1)(e:∀a,a<w.heap.size->w'.heap[a]? = w1.heap[a]?):kQ i w w':=fun vb vp j=>by
 obtain⟨n,r,q,k,l⟩:=o vb vp j;have p:=j.lt;refine⟨n,r,q.kept (e i p),⟨fun a d b=>?_,k.own⟩,⟨fun a d b=>?_,l.own⟩⟩
 ·obtain⟨c,g,h⟩:=k.row a d b;exact⟨c,(e a (bn.1 b).1).trans g,h⟩
 ·obtain⟨c,g,h⟩:=l.row a d b;exact⟨c,(e a (bn.1 b).1).trans g,h⟩
theorem kQ.refl(b:Nat)(w:World):kQ b w w:=fun vb vp a=>⟨vb,vp,a,iJ.refl _ _ _ _,iJ.refl _ _ _ _⟩
theorem kQ.below{mb:Nat}{w w':World}(a:ax w w'):kQ mb w w':=(kQ.refl mb w).same fun b ao=>a.block b ao
theorem kQ.apF{h:Nat}{w w1:World}{vb vp v1 B:Value}(G:kQ h w w1)(z:bJ w h vb vp)(q:bJ w1 h v1 B){d k:Nat}(H:v1.ownBlock=some d)(L:G5 vb<=k){F:Array Value}(p:w1.heap[d]? = some (.cells F 5 (0,0)))(t:Value):kQ h w (w1.setCell ⟨d,k,none⟩ t):=by
 obtain⟨E,J,o,u,C⟩:=G vb vp z;obtain⟨rfl,rfl⟩:E=v1/\J=B:=by{unfold bJ at o q;rw[o]at q;simpa using q};have r:∀a,a≠d->(w1.setCell ⟨d,k,none⟩ t).heap[a]? = w1.heap[a]?:=fun a ao=>bC _ _ _ _ ao;have D:h≠d:=fun e=>by rw[<- e,o]at p;simp at p
 refine kQ.of z (o.kept (r h D)) ⟨fun a c j=>?_,u.own⟩ ⟨fun a c j=>?_,C.own⟩;{obtain⟨i,g,l,n⟩:=u.row a c j;by_cases e:a=d;{subst e;refine⟨i.setIfInBounds k t,?_,by simpa using l,fun A y=>?_⟩;{simp only[World.setCell];rw[j0,ay rfl,g];rfl};{have I:k≠A:=fun K=>by{rcases u.own a H with⟨x,b⟩|x;{have:=y x;omega};{have:=(bn.1 j).1;omega}};rw[GF I];exact n A y}};{exact⟨i,(r a e).trans g,l,n⟩}};{obtain⟨i,g,l,n⟩:=C.row a c j;refine⟨i,(r a fun e=>?_).trans g,l,n⟩;rw[e,p]at g;simp at g}
structure WD(mb base:Nat)(w w':World):Prop where
 os:w'.os=w.os
 tape:w'.tape=w.tape
 output:w'.output=w.output
 size:w.heap.size<=w'.heap.size
 block:∀i,i<w.heap.size->i≠mb->(i<base\/∀cur,w.heap[i]?≠some (.cells cur 5 (0,0)))->w'.heap[i]? = w.heap[i]?
structure lK(mb base:Nat)(w w':World):Prop where
 os:w'.os=w.os
 tape:w'.tape=w.tape
 output:w'.output=w.output
 size:w.heap.size<=w'.heap.size
 block:∀i,i<w.heap.size->i≠mb->(i<base\/∀cur,w.heap[i]?≠some (.cells cur 5 (0,0)))->w'.heap[i]? = w.heap[i]?
 kp:kQ mb w w'
theorem lK.refl(b a:Nat)(w:World):lK b a w w:=⟨rfl,rfl,rfl,bb _,fun _ _ _ _=>rfl,kQ.refl _ _⟩
theorem lK.trans{a base:Nat}{A B b:World}(h:lK a base A B)(k:lK a base B b):lK a base A b :=
 ⟨k.os.trans h.os,k.tape.trans h.tape,k.output.trans h.output,aZ h.size k.size,fun g ao d e=>by
  have c:=h.block g ao d e;refine(k.block g (cp ao h.size) d ?_).trans c;rw[c];exact e,h.kp.trans k.kp h.size⟩
theorem lK.WE{g d:Nat}{b c:World}(a:ax b c):lK g d b c:=⟨a.os,a.tape,a.output,a.size,fun e ao _ _=>a.block e ao,kQ.below a⟩
theorem lK.adY{j l:Nat}{d g:World}{v:Value}{w:ah}(o:dA d l v w)(b:bG (fun c=>c≠j/\some c≠v.ownBlock) d g){vp v':Value}(h:bJ d j v vp)(p:bJ g j v' vp)(u:iJ d g 5 1 v v'):lK j l d g :=
 ⟨b.os,b.tape,b.output,b.size,fun c ao h i=>b.block c ao ⟨h,fun a=>by
  obtain⟨_,⟨rfl,_⟩|⟨r,q,n,rfl,t,k,_⟩⟩:=o
  ·simp[Value.ownBlock]at a
  ·simp only[Value.ownBlock,nr]at a;subst a;rcases i with i|i
   ·omega
   ·exact i n k⟩,kQ.of h p u (iJ.same _ _ fun c n e=>b.block c (bn.1 e).1 ⟨fun a=>by rw[a,h]at e;simp at e,fun a=>by
  obtain⟨_,⟨rfl,_⟩|⟨r,q,x,rfl,t,k,_⟩⟩:=o
  ·simp[Value.ownBlock]at a
  ·simp only[Value.ownBlock,nr]at a;subst a;rw[k]at e;simp at e⟩)⟩
theorem QD(b a:Nat)(c:UInt8)(vb vp:Value)(e:ah)(w:World)(h:bJ w b vb vp)(i:dA w a vb e)(j:a<=w.heap.size)(k:e.length<=1000000):az 341 #[.int .u8 c.toNat,aO b] w fun g w'=>g=.returned (.tuple #[])/\(∃d,bJ w' b d vp/\dA w' a d (e++[c]))/\lK b a w w':=by refine(QC b a c vb vp e w h i j k).mono ?_;rintro g w' ⟨rfl,d,h1,h2,_,h3,h4⟩;exact⟨rfl,⟨d,h1,h2⟩,lK.adY i h4 h h1 h3⟩
theorem QE(c b:Nat)(s:ah)(vb vp:Value)(e:ah)(w:World)(i:bJ w c vb vp)(p:dA w b vb e)(x:b<=w.heap.size)(L:e.length<=1000000)(M:s.length<=1000000000):az 336 #[au s,aO c] w fun y w'=>y=.returned (.tuple #[])/\(∃l,bJ w' c l vp/\dA w' b l (e++s))/\lK c b w w':=by
 obtain⟨G,ao,D,E,F⟩:=fO Hk;have J:=i.cells.1;have h:=af i;have g:=af p;have A:=i.lt;have C:=a7 s;have u:Hid (prog.underlying 224=some .string):=by unfold Hid;kernel_rfl
 clear i p;go_enter func336,ntmps336;go_wp2_with (at_builtin;go_loud (refine QB _ rfl (.tmp 8) (.tmp 9) 58 224 rfl b 5 G zY (ag u) ao D E F _ e.length _ rfl (ag g) (ai s) rfl ?c3 ?aK x ?_));case c3=>exact lC
 case aK=>omega
 intro v' t j a k;obtain⟨va,r,vc,rfl⟩:=i8 j;have n:Hid (dA t b (.slice va r vc) (e++s)):=by{unfold Hid dA;rw[a6,d0,<- C];exact j};have o:=s_ (ag h) (ag g);have d:=af (h.kept (a.block c A o));have H:Hid (lK c b w (t.setCell ⟨c,0,none⟩ (.slice va r vc))):=lK.adY (ag g) (bG.trans ⟨a.os,a.tape,a.output,a.size,fun q ao B=>a.block q ao B.2⟩ (bG.kA _ fun q z=>z.1)) (ag h) (d.set0 _) (k.trans (oA (ag d) ba _ _ _ _) a.size);have K:=d.frozen;have I:=d.cells.1;clear j a k o h g;go_wp2_with fail;refine iI (v:=.tuple #[]) (by simp[results,results336]) rfl ?_;refine⟨rfl,⟨_,d.set0 _,pe (ag n) (s_ (ag d) (ag n)) _ _⟩,H⟩
end Go.Proofs.YtkkpahmoljiepaaGreatDoor
