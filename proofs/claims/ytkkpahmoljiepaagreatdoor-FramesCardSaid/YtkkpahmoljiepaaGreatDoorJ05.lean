import Derived.Test.YtkkpahmoljiepaaGreatDoorJ04
import Derived.Lib.SmallJoins
set_option maxRecDepth 1000000
set_option maxHeartbeats 12800000
set_option linter.unusedSimpArgs false
set_option linter.unusedVariables false
namespace Go.Proofs.YtkkpahmoljiepaaGreatDoor
open Go.RowKit Go.Proofs.Tryz
def ou(w:World)(b:Nat)(l:ah):Prop:=b<w.heap.size/\(∀a (c:a<l.length),w.cell? (aq b a)=some (.int .u8 l[a].toNat))/\∀a,a<l.length->w.frozen? (aq b a)=false
theorem ou.set{w:World}{d:Nat}{l:ah}(i:ou w d l)(b:Nat)(g:UInt8)(o:b<l.length):ou (w.setCell ⟨d,b,none⟩ (.int .u8 g.toNat)) d (l.set b g):=by obtain⟨j,h,k⟩:=i;refine⟨by simpa [World.setCell]using j,fun c a=>?_,fun c a=>?_⟩;{rw[s1]at a;by_cases e:b=c;{subst e;rw[World.cell?_setCell_same _ _ _ (h b a)];simp};{rw[zu _ _ _ _ (fun n=>e (bP Addr.off n)),h c a];simp[List.getElem_set,e]}};{rw[s1]at a;rw[World.frozen?_setCell];exact k c a}
theorem Av(w:World)(l:ah)(a:Nat):ou (w.drew.alloc (.cells (bytesRow (ai l) a) 5 ((bytesRow (ai l) a).size,(bytesRow (ai l) a).size+1))) w.heap.size l:=by
 have c:(w.drew.alloc (.cells (bytesRow (ai l) a) 5 ((bytesRow (ai l) a).size,(bytesRow (ai l) a).size+1))).heap[w.heap.size]? = some (.cells (bytesRow (ai l) a) 5 ((bytesRow (ai l) a).size,(bytesRow (ai l) a).size+1)):=World.alloc_heap_new w.drew _;have e:l.length<=(bytesRow (ai l) a).size:=by simp[bytesRow,ai]
 refine⟨am,fun d b=>?_,fun d b=>?_⟩;{have:=bytesRow_at (ai l) a d (by simpa [ai]using b);simp only[World.cell?,c];rw[this];rfl};{simp only[World.frozen?,c];simp;omega}
def fK(a:UInt8):UInt8:=if 65<=a.toNat/\a.toNat<=90 then UInt8.ofNat (a.toNat+32)else if a.toNat=46 then 80 else a
theorem P7(l:ah)(a:Nat)(d:UInt8)(b:a<l.length):((l.take a).map fK++l.drop a).set a (fK l[a])=(l.take (a+1)).map fK++l.drop (a+1):=by have c:((l.take a).map fK).length=a:=aA;rw[fQ b,du b,vJ,ar ae,c,i3,d0,c_,c5];rfl
theorem P8(l:ah)(a:Nat)(b:a<l.length)(c:fK l[a]=l[a]):(l.take (a+1)).map fK++l.drop (a+1)=(l.take a).map fK++l.drop a:=by rw[fQ b,du b,d0,c_];simp only[fl,kK,c,GU]
theorem P9(l:ah)(w:World)(Q:l.length<=1000):az 252 #[au l] w (aP (au (l.map fK)) w):=by
 have T:=y8 (P:=prog) w 9 58 5 (ai l) underlying9 underlying58 underlying5;have z:=af (Av w l (grownCap w (ai l).size 0 5));have x:=af ((bk w.heap.size w).drew.alloc (bb w.heap.size) (.cells (bytesRow (ai l) (grownCap w (ai l).size 0 5)) 5 ((bytesRow (ai l) (grownCap w (ai l).size 0 5)).size,(bytesRow (ai l) (grownCap w (ai l).size 0 5)).size+1)));have I:l.length<=grownCap w (ai l).size 0 5:=by{have:=vT w (ai l).size 0 5;rw[a7]at this ⊢;exact this};generalize grownCap w (ai l).size 0 5=i at *;generalize w.drew.alloc (.cells (bytesRow (ai l) i) 5 ((bytesRow (ai l) i).size,(bytesRow (ai l) i).size+1))=H at *;have S:=a7 l;go_enter func252,ntmps252;go_wp2_with fail;go_loopw [10] (fun n wr=>∃k:Nat,n=ak k/\k<=l.length/\ou wr w.heap.size ((l.take k).map fK++l.drop k)/\ax w wr) (fun n _=>l.length-(intOf n).toNat);case atStart=>exact⟨0,rfl,b6 _,by simpa using ag z,x⟩
 case round =>(
 obtain⟨k,rfl,hk,d,q⟩:=hrel;have nL:=af d;have nk:=af q;clear d q;by_cases r:k<l.length;{
 have F:((l.take k).map fK++l.drop k).length=l.length:=aA;have N:wr.cell? (aq w.heap.size k)=some (.int .u8 l[k].toNat):=FZ;have O:=nL.2.2 k ae;have A:=af (P7 l k 0 r);have HS:=af (nL.set k (fK l[k]) ae);have y:=af (P8 l k r);generalize l[k]=a at *;have M:=dt a;have t:Hid (((fK a).toNat:Int)=if 65<=a.toNat/\a.toNat<=90 then(a.toNat:Int)+32 else if a.toNat=46 then 80 else a.toNat):=by{unfold Hid fK;split;{simp[iZ];omega};{split<;>rfl}};have u:Hid (fK a=a->ou wr w.heap.size ((l.take (k+1)).map fK++l.drop (k+1))):=fun h=>by rw[ag y h];exact nL
 rw[ag A]at HS;have C:Hid (¬(65<=a.toNat/\a.toNat<=90)->¬a.toNat=46->fK a=a):=fun b e=>by unfold fK;rw[ar b,ar e]
 generalize R:a.toNat=c at *;clear F;by_cases b:65<=c/\c<=90;{
 have g:((fK a).toNat:Int)=(c:Int)-65+97:=by rw[ag t,ay b];omega
 rw[g]at HS;clear g;obtain⟨b,e⟩:=b;go_wp2;exact BF};{
 by_cases e:c=46;{
 have g:((fK a).toNat:Int)=80:=by rw[ag t,ar b,ay e]
 rw[g]at HS;clear g;subst e;go_wp2;exact BF};{have a_:=af (u (C b e));have J:((c:Int)==46)=false:=aA;by_cases K:65<=c;{have L:¬c<=90:=ae;clear b;go_wp2;exact yI};{clear b;go_wp2;exact yI}}}};{
 have p:k=l.length:=ae;have D:Hid ((l.take k).map fK++l.drop k=l.map fK):=by rw[Hid,p];simp
 have d:=ag nL;rw[ag D]at d;have o:(l.map fK).length=l.length:=am;have G:=y9 (P:=prog) wr 58 9 5 (aq w.heap.size 0) i (l.map fK) underlying58 underlying5 underlying9 (fun j E=>by{
 have B:((aq w.heap.size 0):Addr).add j=(aq w.heap.size j):=BT
 rw[B];exact d.2.1 j E})
 rw[o]at G;clear d o;subst p;go_wp2;go_ret;exact⟨rfl,nk⟩})
theorem P_(l:ah)(w:World)(c:bT w)(g:l.length<=3000):az 340 #[au l] w (aP (au (Lib.cut l [46]).1) w):=by obtain⟨_,m,a⟩:=c;have b:=af (Tryz.strings_Cut (ai l) ⟨#[46]⟩ m w gB a);clear a;go_enter func340,ntmps340;go_wp2_with fail;refine b.mono ?_;rintro e h ⟨rfl,d,rfl⟩;go_wp2;go_ret;exact⟨rfl,fm (bk _ w) d⟩
def ig(w:World)(g:Nat)(l:List ah):Prop:=w.heap[g]? = some (.cells ((l.map fun a=>Value.string (ai a)).toArray) 9)
section
variable {w:World} {g:Nat} {l:List ah}
theorem ig.lt(h:ig w g l):g<w.heap.size:=(bn.1 h).1
theorem ig.cell(h:ig w g l)(i:Nat)(ao:i<l.length):w.cell? (aq g i)=some (.string (ai l[i])):=by unfold ig at h;simp[World.cell?,h,ao]
theorem ig.frozen(h:ig w g l)(i:Nat):w.frozen? (aq g i)=false:=by unfold ig at h;exact jW
theorem ig.set(h:ig w g l)(a:Nat)(x:ah):ig (w.setCell ⟨g,a,none⟩ (.string (ai x))) g (l.set a x):=by unfold ig at *;exact BU
theorem ig.below{b:World}(a:ig w g l)(c:ax w b):ig b g l:=(c.block g a.lt).trans a
end
def Hz(w:World)(v:Value)(a:List ah):Prop:=(v=aJ/\a=[])\/∃g c,v=aF g 0 a.length c/\a.length<=c/\g<w.heap.size/\∀b (d:b<a.length),w.cell? (aq g b)=some (.string (ai a[b]))
def fN(l:ah):ah:=l.map fK
theorem s7(l:ah):(fN l).length=l.length:=by simp[fN]
def aU(a:List ah):ah:=Lib.join (a.map fN) [46]
theorem Qa(w:World)(a:Nat):ig (w.alloc (.cells (madeCells (Value.string ⟨#[]⟩).cells a) 9)) w.heap.size (List.replicate a []):=by have b:madeCells (Value.string ⟨#[]⟩).cells a=((List.replicate a ([]:ah)).map fun c=>Value.string (ai c)).toArray:=by{apply Array.ext';simp only[madeCells,Value.cells,Array.toList_map,Array.toList_range];apply List.ext_getElem;{simp};{intro g d e;simp[ai,Nat.mod_one]}};rw[b];exact World.alloc_heap_new w _
theorem Qb(b:List ah)(a:Nat)(d:a<b.length):(((b.take a).map fN)++List.replicate (b.length-a) []).set a (fN b[a])=((b.take (a+1)).map fN)++List.replicate (b.length-(a+1)) []:=by have c:((b.take a).map fN).length=a:=aA;rw[vJ,ar ae,c,i3,du d,show b.length-a=(b.length-(a+1))+1 from ae,List.replicate_succ,c5,d0,c_];rfl
theorem HA(l:List ah):(l.map ai).map (·.data.toList)=l:=by rw[fT];exact List.map_id' l
theorem HF(c:Nat):∀d:List ah,(∀a∈d,a.length<=c)->(Lib.join d [46]).length<=d.length*(c+1)
 | [],_=>by simp[Lib.join,List.intercalate]
 | [a],b=>by have:=b a am;simp[Lib.join,List.intercalate];omega
 | a::j::i,b=>by have e:=HF c (j::i) (fun k h=>b k (fs _ h));have l:=b a am;simp only[Lib.join,List.intercalate]at e ⊢;rw[List.intersperse];simp only[List.flatten_cons,a6,bi,cW]at e ⊢;{rw[Nat.succ_mul];omega};{intro g;cases g}
theorem PO(v:Value)(a:List ah)(w:World)(D:Hz w v a)(an:a.length<=1000)(C:∀l∈a,l.length<=1000):az 200 #[v] w (aP (au (aU a)) w):=by
 obtain⟨H,ao,E,F,G⟩:=fO qU;have h:=run_make (P:=prog) w 49 9 H (.string ⟨#[]⟩) vj ao E .i64 .i64 a.length a.length ae (Int.le_refl _) (by rw[G];omega) ae;rw[F]at h;simp only[pt,lV]at h;have z:=af (Qa w a.length);have aR:=af ((bk w.heap.size w).alloc av (.cells (madeCells (Value.string ⟨#[]⟩).cells a.length) 9));have I:=af (Any.strings_Join Tryz.lays156 Tryz.Builder_Extra_156);have ar:=af D;have A:=af C;generalize w.alloc (.cells (madeCells (Value.string ⟨#[]⟩).cells a.length) 9)=j at *;clear ao E F G H C;rcases D with⟨rfl,rfl⟩|⟨g,ac,rfl,ad,V,K⟩;{
 have T:=af (fun j:World=>Any.strings_Join_none Tryz.lays156 Tryz.Builder_Extra_156 (some (aq w.heap.size 0)) 0 ⟨#[46]⟩ j);clear I;simp only[cW]at h z aR;have Z:(Instr.makeSlice 49 (ak 0) (ak 0)).run prog w=.ok (aF w.heap.size 0 0 0) j:=h;clear h;go_enter func200,ntmps200;go_wp2_with fail;go_loopw [11] (fun e wr=>e=ak 0/\wr=j) (fun _ _=>0);case atStart=>exact dX
 case round =>(obtain⟨rfl,rfl⟩:=hrel;go_wp2_with fail;refine(T _).mono ?_;rintro k L ⟨rfl,rfl⟩;go_wp2;go_ret;exact mw)};{
 have N:=af K;clear K;go_enter func200,ntmps200;go_wp2_with fail;go_loopw [11] (fun e wr=>∃b:Nat,e=ak b/\b<=a.length/\ig wr w.heap.size (((a.take b).map fN)++List.replicate (a.length-b) [])/\ax w wr) (fun e _=>a.length-(intOf e).toNat);case atStart=>exact⟨0,rfl,b6 _,by simpa using ag z,aR⟩
 case round =>(
 obtain⟨b,rfl,al,u,B⟩:=hrel;have x:=af u;have i:=af B;clear u B;by_cases q:b<a.length;{have aj:wr.cell? (aq g b)=some (.string (ai a[b])):=(i.cell (p:=⟨g,b,none⟩) V).trans (N b q);have O:=af (Qb a b q);have R:=ag A a[b] (bM q);have am:(((a.take b).map fN)++List.replicate (a.length-b) []).length=a.length:=aA;generalize a[b]=c at *;have Q:=af (show az 252 #[au c] wr fun k Y=>k=.returned (au (fN c))/\ax wr Y from P9 c wr R);go_wp2_with fail;refine Q.mono ?_;rintro k L ⟨rfl,d⟩;have o:=x.below d;have aa:=o.cell b ae;have ab:=o.frozen b;have J:=af (o.set b (fN c));have S:=af ((i.trans (d.mono i.size)).setCell (p:=⟨w.heap.size,b,none⟩) av (au (fN c)));rw[ag O]at J;clear d o;go_wp2;exact⟨⟨b+1,bq,ae,J,S⟩,ci⟩};{
 have U:b=a.length:=ae;subst U;have y:Hid (ig wr w.heap.size (a.map fN)):=by{have:=ag x;rw[dK,i3,List.replicate_zero,eu]at this;exact this};have t:=af (I w.heap.size 0 a.length ((a.map fN).map ai) ⟨#[46]⟩ wr ?ap y.lt ?c2 ?c3 ?aK);case ap =>(intro X c n;rw[cT];rw[nR,G0]at n;obtain⟨M,r,rfl⟩:=n;obtain⟨W,rfl⟩:=fy.1 r;exact y.cell X W)
 case c2=>simp;omega
 case c3=>simp
 case aK =>(rw[HA];refine aZ (HF 1000 _ ?_) ?_;{intro c n;obtain⟨M,r,rfl⟩:=fz.1 n;rw[s7];exact A M r};{rw[bD];omega})
 rw[HA,bD,bD]at t;go_wp2_with fail;refine t.mono ?_;rintro k L ⟨rfl,d⟩;go_wp2;go_ret;exact⟨rfl,i.trans (d.mono i.size)⟩})}
section
attribute [local go_sem] Oper.semAt_some undef
def ii(b:List aj)(c:List aj)(a:ah):List aj:=if(gU (cM b a) 2).length=0 then c else gU (cM b a) 2
def ca(b:ah)(c:List aj)(n:ah):List aj:=((bo n).takeWhile (fun a=>!(a==b))).foldl (ii c) []
theorem HI{α:Type}(b:α->Bool):∀(l:List α),l.all b=true->l.takeWhile b=l
 | [],_=>rfl
 | d::c,a=>by rw[nN,bW]at a;rw[tk a.1,HI b c a.2]
theorem Ax{α:Type}(d:α->Bool):∀(l:List α) (b:Nat) (c:α),l[b]? = some c->(l.take b).all d=true->d c=false->l.takeWhile d=l.take b
 | [],b,c,a,_,_=>by simp at a
 | i::h,0,c,a,_,g=>by simp at a;subst a;rw[vK (by simp[g])];rfl
 | i::h,b+1,c,a,e,g=>by rw[nD,nN,bW]at e;rw[tk e.1,nD,Ax d h b c (by simpa using a) e.2 g]
theorem s8{α:Type}{l:List α}{a:Nat}{b:α}(c:l[a]? = some b):l.take (a+1)=l.take a++[b]:=by obtain⟨ao,rfl⟩:=fy.1 c;exact du ao
theorem vx(A B E Y:Nat)(e n:ah)(a:List aj)(w:World)(R:e6 w A e B E Y a)(y:bT w)(aP:a.length<=3001)(aQ:n.length<=3000)(a4:e.length<=3000):az 126 #[aO A,au n] w fun i aT=>(∃v,i=.returned v/\gS B E a v (ca e a n))/\ax w aT:=by
 refine(bK (n:=0)).1 ?_;refine callsIn_of_wp_marks func126 rfl aL ?_;simp only[ntmps126,ib,bi,cW,Nat.reduceAdd,Nat.reduceSub,h_,ik,im,il,dJ,dF];have aD:=af R;have ao:=af y;have a6:=R.1;have a5:=y.1;clear R y;gi_wp2_with fail;refine⟨aL,rfl,?_⟩;refine(bK.2 (vr _ _)).mono ?_;rintro i W2 ⟨rfl,aH,N,Z⟩;have aF:aW W2 w.heap.size (aO A) 110:=((aW.mZ _ _ _).alloc _).below N cu;have aG:aW W2 (w.heap.size+1) (aJ) 41:=by{have:=(aW.mZ (w.alloc (.cells #[.pointer (some ⟨A,0,none⟩)] 110)) (aJ) 41).below N cu;rwa [cv]at this};have aa:ax w W2:=((aE.alloc av _).alloc am _).trans (N.mono cu);simp only[cv]at aH Z;gi_wp2_with fail;have aN:∀I,ax W2 ((W2.alloc (.deferred (some []))).alloc (.loop I)):=fun I=>(aE.alloc av _).alloc am _;refine pF (xs:=bo n) (encs:=fun i:ah=>#[au i]) (St:=fun l o=>ax l o) (Kp:=fun l o=>l.heap.size<=o.heap.size/\o.heap[0]? = l.heap[0]?) (Kx:=fun _ _=>True) (gf:=241) (lb:=#[aO (w.heap.size+1+1)]) rfl (enters_of func241 aB rfl) (fun _=>rfl) ?seq [0] aA (fun l o aM c=>c.mono aM) (fun l o c aI=>⟨aI.1,c _ am⟩) (fun _ _ _=>aL) (fun d b=>((bo n).take d).all (fun i=>!(i==e))=true/\ax w b/\aW b w.heap.size (aO A) 110/\∃v,gS B E a v (((bo n).take d).foldl (ii a) [])/\aW b (w.heap.size+1) v 41) (fun K b=>K=.exit 0/\ax w b/\∃v,gS B E a v (ca e a n)/\aW b (w.heap.size+1) v 41) (fun d l o c x=>⟨c.1,c.2.1.trans (x.mono ae),c.2.2.1.below x ae,by obtain⟨v,L,M⟩:=c.2.2.2;exact⟨v,L,M.below x ae⟩⟩) (fun K l o c x=>⟨c.1,c.2.1.trans (x.mono ae),by obtain⟨v,L,M⟩:=c.2.2;exact⟨v,L,M.below x ae⟩⟩) ⟨rfl,aa,aF,_,.inl ⟨rfl,rfl⟩,aG⟩ ?round ?done ?stop;case seq =>(intro I;have y:=aN I;exact vv _ n _ ((y.cell (p:=⟨w.heap.size+1+1,0,none⟩) sI).trans Z) ((ao.below aa).below y) aQ)
 case round =>(
 intro aS d h aX b Q D ac;gi_wp2_with fail;refine⟨aL,?_⟩;obtain⟨u,g,t,v,k,r⟩:=D;have a7:=vq (ki Q);have F:=aD.below g;have a9:=F.2.1;have aw:=af F;have a3:=t.cell;have ak:((ai h).toList==(ai e).toList)=(h==e):=oi;have aR:=af t;have ad:=af r;have J:=af Q;have X:=af u;have z:=af k;have aU:=r.lt;have aq:=t.lt;have a2:=F.1;clear t r Q u k F;cases H:h==e;{
 rw[H]at ak;have W:Hid (((bo n).take (d+1)).all (fun i=>!(i==e))=true):=by{rw[Hid,s8 (ag J),pu,ag X];simp[H]};have U:Hid (((bo n).take (d+1)).foldl (ii a) []=ii a (((bo n).take d).foldl (ii a) []) h):=by{rw[Hid,s8 (ag J),mG];rfl};have an:=af (At A B E Y e h 2 a b (ag aw) aP);gi_wp2_with fail;refine⟨aL,rfl,?_⟩;refine(CallsIn.inRound aS (bK.2 (ag an))).mono ?_;rintro i ap ⟨⟨a8,rfl,P⟩,j⟩;obtain⟨a1,aK,rfl⟩:=P.slice;have al:=af P;have G:=ad.below j aU;have aY:=G.cell;have aZ:=G.frozen;have ab:=af G;have V:=af (aR.below j aq);have a0:=j.size;clear P G;by_cases O:(gU (cM a h) 2).length=0;{
 have q:Hid (((bo n).take (d+1)).foldl (ii a) []=((bo n).take d).foldl (ii a) []):=by rw[Hid,ag U,ii,ay O]
 have aV:¬(0:Int)<((gU (cM a h) 2).length:Int):=ae;gi_wp2_with fail;exact⟨bw.zq j,fun S hk=>j.block S ux,W,g.trans (j.mono g.size),V,v,by rw[ag q];exact z,ab⟩};{
 have q:Hid (((bo n).take (d+1)).foldl (ii a) []=gU (cM a h) 2):=by rw[Hid,ag U,ii,ar O]
 have aV:(0:Int)<((gU (cM a h) 2).length:Int):=ae;clear O;gi_wp2_with fail;refine⟨(bw.zq j).trans (bw.setCell ap _ _ ae),fun S hk=>?_,W,(g.trans (j.mono g.size)).setCell c9 _,?_,_,by rw[ag q];exact al,ab.set _⟩;{
 obtain rfl:S=0:=qt
 exact(bC _ _ _ _ (by show 0≠w.heap.size+1;omega)).trans (j.block 0 ae)};{exact(bC _ _ _ _ (by show w.heap.size≠w.heap.size+1;omega)).trans (ag V)}}};{rw[H]at ak;have q:Hid (ca e a n=((bo n).take d).foldl (ii a) []):=by{rw[Hid,ca,Ax _ _ d h (ag J) (ag X) (by simp[H])]};gi_wp2_with fail;exact⟨bw.refl _ _,rfl,g,v,by rw[ag q];exact z,ad⟩})
 case done =>(
 intro b D C ac;obtain⟨u,g,t,v,k,r⟩:=D;rw[dK]at u k;have q:Hid (ca e a n=(bo n).foldl (ii a) []):=by rw[Hid,ca,HI _ _ u]
 have z:=af k;clear u k t;have aC:=r.cell;gi_wp2_with fail;refine⟨am,.inl ⟨_,_,rfl,run_takeDeferred C,?_⟩⟩;have T:=g.trans (belowK_b (w:=W2) (show w.heap.size<=W2.heap.size by omega) b _ _ (.deferred none) av C rfl rfl);refine⟨v,by simp[results,results126,go_sem],⟨v,rfl,?_⟩,T⟩;rw[ag q];exact z)
 case stop =>(intro K b D C ac;obtain⟨rfl,g,v,k,r⟩:=D;have z:=af k;clear k;have aC:=r.cell;gi_wp2_with fail;refine⟨am,.inl ⟨_,_,rfl,run_takeDeferred C,?_⟩⟩;have T:=g.trans (belowK_b (w:=W2) (show w.heap.size<=W2.heap.size by omega) b _ _ (.deferred none) av C rfl rfl);exact⟨v,by simp[results,results126,go_sem],⟨v,rfl,z⟩,T⟩)
end
def cA(w:World)(a:Nat)(v:Value)(rs:List aj):Prop:=w.ownsRow a 47 4 v rs.length (dZ rs)
def cI(n:ah)(a:aj):aj:=(n,a.aI,a.type,a.data)
def dq(l:ah):ah:=l.drop (Lib.lastIndexByte (ai l) 32+1).toNat
def Ay(a:aj):Nat:=((Lib.atoi (dq a.data)).getD 0).toNat
def GW(a:aj):Prop:=(dq a.data).length<=18/\∃m:Nat,Lib.atoi (dq a.data)=some (m:Int)/\m<=1000000000
def lR(a:aj):aj:=(a.owner,min a.aI (Ay a),a.type,a.data)
def eo(a:ah)(b:List aj):List aj:=(gU (cM b a) 6).map lR
section
theorem cA.below{w a:World}{base:Nat}{v:Value}{rs:List aj}(b:cA w base v rs)(c:ax w a):cA a base v rs:=eg b c
theorem cA.base{w:World}{base a:Nat}{v:Value}{rs:List aj}(b:cA w base v rs)(c:a<=base):cA w a v rs:=pH b c
theorem cA.keeps{w h:World}{a d:Nat}{v:Value}{e:List aj}(l:cA w a v e)(p:dz d w h)(r:d<a):cA h a v e:=by obtain⟨n,b⟩:=l;refine⟨n,?_⟩;rcases b with b|⟨g,i,j,k,o,c,q⟩;{exact .inl b};{exact .inr ⟨g,i,j,k,o,(p.block g (bn.1 c).1 ae).trans c,q⟩}
theorem cA.adu{w:World}{a k:Nat}{v:Value}{rs:List aj}(c:cA w a v rs)(d:k<a)(b:Value):cA (w.setCell ⟨k,0,none⟩ b) a v rs:=ownsRow_setCell_below c d b
theorem cA.nO{w:World}{a k i:Nat}{v:Value}{b:List aj}(d:cA w a v b)(e:k<a)(c:Value):cA (w.setCell ⟨k,i,none⟩ c) a v b:=ownsRow_setCell_below d e c
theorem cA.QS{w:World}{a:Nat}{v:Value}{c:List aj}(b:cA w a v c):∀g,v.ownBlock=some g->a<=g/\g<w.heap.size:=e9 b
theorem cA.slice{w:World}{base:Nat}{v:Value}{rs:List aj}(h:cA w base v rs):∃a b,v=.slice a rs.length b:=by rcases h.2 with⟨rfl,c⟩|⟨g,d,e,rfl,_⟩;{exact⟨none,0,by rw[c]⟩};{exact qr}
theorem cA.rv{w:World}{c:Nat}{v:Value}{rs:List aj}(a:cA w c v rs):eZ w v rs:=by rcases a.2 with⟨rfl,h⟩|⟨g,e,k,rfl,l,d,i,n,o,p⟩;{exact .inl ⟨rfl,df h⟩};{refine .inr ⟨g,0,e,rfl,i,GA ((bn.1 d).1) (fun j q b=>?_)⟩;have:=kj a j (by have:=(fy.1 b).1;rw[tw]at this;exact this);rw[cT,this,b]}
end
theorem HJ{w:World}{g i:Nat}{b:List aj}(j:cy w g i b):∀a c,(dZ b)[a]? = some c->w.cell? (aq g (i+a))=some c:=by
 intro a c d;have k:a<b.length*4:=by have:=(fy.1 d).1;rwa [tw]at this
 have e:a/4<b.length:=ae;have h:a=a/4*4+a%4:=ae;rw[h,Gz b (a/4) (a%4) e ae]at d;have:=j.2 (a/4) e (a%4) c d;rw[nE,<- h]at this;exact this
theorem Az{d:List aj}: ∀c∈dZ d,c.oneCell'=true:=by intro c b;unfold dZ at b;obtain⟨e,_,a⟩:=nu.1 b;simp[aj.aX]at a;rcases a with rfl|rfl|rfl|rfl<;>rfl
theorem yR(v:Value)(a:List aj)(w:World)(j:eZ w v a)(r:a.length<=3001):az 243 #[v] w fun e w'=>∃b,e=.returned b/\cA w' w.heap.size b a/\ax w w':=by rcases j with⟨rfl,rfl⟩|⟨c,p,d,rfl,q,i⟩;{refine(AnyE.slices_Clone_nil Tryz.acO 0 0 w).mono ?_;exact FL};{obtain⟨o,ao,k,l,n⟩:=fO qT;refine(AnyE.slices_Clone Tryz.acO o _ 4 48 ao k l n rfl ae Tryz.sizeOf47 c p a.length d (dZ a) w (tw a) sw ae (HJ i) Az).mono ?_;rintro e w' ⟨b,rfl,g,_,h⟩;exact⟨b,rfl,g,h⟩}
theorem HL(d:ah):∀(c:List aj) (a:Nat) (b:a<c.length),(dZ c).set (a*4) (au d)=dZ (c.set a (cI d c[a]))
 | [],a,b=>by simp at b
 | i::g,0,_=>by simp[dZ,aj.aX,cI,aj.owner,aj.aI,aj.type,aj.data]
 | i::g,a+1,b=>by have e:=HL d g a (by simpa using b);have h:(a+1)*4=a*4+1+1+1+1:=ae;simp only[dZ,eT,dl,cF]at e ⊢;rw[<- e,h];simp[aj.aX]
theorem HN{f:aj->aj}{b:List aj}{a:Nat}(c:a<b.length):∃e:a<((b.take a).map f++b.drop a).length,((b.take a).map f++b.drop a)[a]=b[a]/\((b.take a).map f++b.drop a).set a (f b[a])=(b.take (a+1)).map f++b.drop (a+1):=by have d:((b.take a).map f).length=a:=aA;refine⟨aA,?_,?_⟩;{rw[uL ae];simp only[d,i3,o_,dT]};{rw[mU _ _ ae,d,i3,fQ c,c5,du c,d0];simp}
theorem vy{f:aj->aj}{a:List aj}{b:Nat}(c:b<=a.length):((a.take b).map f++a.drop b).length=a.length:=aA
theorem PP(b:ah)(v:Value)(rs:List aj)(w:World)(x:eZ w v rs)(J:rs.length<=3001):az 272 #[au b,v] w fun n B=>∃j,n=.returned j/\cA B w.heap.size j (rs.map (cI b))/\ax w B:=by
 have C:=af (yR v rs w x J);clear x;go_enter func272,ntmps272;go_wp2_with fail;refine C.mono ?_;rintro n V ⟨j,rfl,c,t⟩;obtain⟨k,l,rfl⟩:=c.slice;have e:=af c;clear c;go_wp2_with fail;go_loopw [10] (fun i wr=>∃a:Nat,i=ak a/\a<=rs.length/\cA wr w.heap.size (.slice k rs.length l) ((rs.take a).map (cI b)++rs.drop a)/\ax w wr) (fun i _=>rs.length-(intOf i).toNat);case atStart=>exact⟨0,rfl,b6 _,by simpa using ag e,t⟩
 case round =>(
 obtain⟨a,rfl,I,c,r⟩:=hrel;clear e t;by_cases K:a<rs.length;{
 obtain⟨L,z,q⟩:=HN (f:=cI b) K;have y:=vy (f:=cI b) I;have d:wr.ownsRow w.heap.size 47 4 (.slice k rs.length l) rs.length (dZ ((rs.take a).map (cI b)++rs.drop a)):=by{have:=c;unfold cA at this;rwa [y]at this};rcases d.2 with⟨o,Q⟩|⟨g,O,P,o,G,F,R,S,N,M⟩;{omega};{
 cases o;have h:=d.stored (a*4) (au b);have T:=d.frozenAt (a*4);have u:=d.cellAt (a*4) ae;rw[HL b _ a L,z,q]at h;have H:∃A,wr.cell? (aq g (a*4))=some A:=by{
 rw[u];have:a*4<(dZ ((rs.take a).map (cI b)++rs.drop a)).length:=by rw[tw,y];omega
 exact⟨_,dV this⟩};obtain⟨A,U⟩:=H;have D:=af h;have E:=af (r.setCell (p:=⟨g,a*4,none⟩) G (au b));clear h c d u F M z q;go_wp2_with fail;go_roundw;case rel =>(refine⟨a+1,bq,ae,?_,by simpa using ag E⟩;have:=D.1;unfold cA;rw[vy ae];simpa using this)
 case measure=>exact gz}};{obtain rfl:a=rs.length:=ae;have e:=af c;clear c;go_wp2;go_ret;refine⟨_,rfl,?_,r⟩;have:=ag e;rw[dK,kN,eu]at this;exact this})
theorem PQ(s:ByteArray): -1<=Lib.lastIndexByte s 32/\Lib.lastIndexByte s 32<s.size:=by unfold Lib.lastIndexByte;rcases Lib.lastIdx_spec s 32 s.size with⟨a,_⟩|⟨d,b,c,_⟩;{omega};{omega}
theorem HP(l:ah)(w:World)(h:l.length<=3000):az 196 #[au l] w fun a i=>a=.returned (au (dq l))/\i=w:=by
 have j:=PQ (ai l);have k:(ai l).size<=3000:=by rw[a7];exact h
 have e:Hid (dq l=(ai l).data.toList.drop (Lib.lastIndexByte (ai l) 32+1).toNat):=rfl;have d:=af (Tryz.strings_LastIndexByte (ai l) 32 ae w);generalize Lib.lastIndexByte (ai l) 32=b at *;obtain⟨c,g⟩:∃c:Nat,b+1=c:=⟨(b+1).toNat,ae⟩;go_enter func196,ntmps196;go_wp2_with fail;refine d.mono ?_;rintro a w ⟨rfl,rfl⟩;go_wp2;go_ret;refine⟨Gp ?_,rfl⟩;rw[jC,ag e,g,pt,uV,Array.toList_extract];simp;exact ie (by rw[c8,gn];omega)
theorem G8(m:Nat):∀(b:List aj) (a:Nat) (c:a<b.length),(dZ b).set (a*4+1) (ak m)=dZ (b.set a (b[a].owner,m,b[a].type,b[a].data))
 | [],a,c=>by simp at c
 | h::e,0,_=>by simp[dZ,aj.aX,aj.owner,aj.aI,aj.type,aj.data]
 | h::e,a+1,c=>by have d:=G8 m e a (by simpa using c);have g:(a+1)*4+1=(a*4+1)+1+1+1+1:=ae;simp only[dZ,eT,dl,cF]at d ⊢;rw[<- d,g];simp[aj.aX]
theorem PR(l:ah)(m:Nat)(w:World)(b:l.length<=18)(a:Lib.atoi l=some (m:Int)):az 274 #[au l] w (aP (.tuple #[ak m,.nilIface]) w):=by refine(Tryz.strconv_Atoi (ai l) m (by rw[a7];exact b) a w).mono ?_;rintro c e ⟨rfl,d,rfl⟩;exact⟨rfl,Go.Joins.below_bytesWorld _ _ _ _ av⟩
theorem yT(E K am x:Nat)(e:ah)(h:List aj)(w:World)(r:e6 w E e K am x h)(Z:h.length<=3001)(L:∀i∈gU (cM h e) 6,GW i/\i.data.length<=3000/\i.aI<=1000000000):az 245 #[aO E] w fun c an=>∃C,c=.returned C/\cA an w.heap.size C (eo e h)/\ax w an:=by
 have au:=af (At E K am x e e 6 h w r Z);have a5:=r.2.1;have aB:=af r.2.2.2.2;have aK:(gU (cM h e) 6).length<=3001:=aZ (vm _ _) (aZ (s6 _ _) Z);have aC:Hid (eo e h=(gU (cM h e) 6).map lR):=rfl;have aD:=af L;clear r L;generalize gU (cM h e) 6=b at *;go_enter func245,ntmps245;go_wp2_with fail;refine au.mono ?_;rintro c aR ⟨⟨aQ,rfl,ad⟩,l⟩;have ar:=af (yR aQ b aR (ad.rv (aB.below l)) aK);clear ad;go_wp2_with fail;refine ar.mono ?_;rintro c a8 ⟨C,rfl,d,U⟩;obtain⟨I,N,rfl⟩:=d.slice;have ab:=l.size;have k:=af (d.base ab);have T:=l.trans (U.mono ab);clear d;go_wp2_with fail;go_loopw [17] (fun A wr=>∃a:Nat,A=ak a/\a<=b.length/\cA wr w.heap.size (.slice I b.length N) ((b.take a).map lR++b.drop a)/\ax w wr) (fun A _=>b.length-(intOf A).toNat);case atStart=>exact⟨0,rfl,b6 _,by simpa using ag k,T⟩
 case round =>(
 obtain⟨a,rfl,aH,d,z⟩:=hrel;clear k l U T;by_cases aa:a<b.length;{
 obtain⟨ac,B,S⟩:=HN (f:=lR) aa;have aJ:=vy (f:=lR) aH;have n:wr.ownsRow w.heap.size 47 4 (.slice I b.length N) b.length (dZ ((b.take a).map lR++b.drop a)):=by{have:=d;unfold cA at this;rwa [aJ]at this};have F:=d.rv;obtain⟨⟨ay,m,u,aT⟩,aP,aS⟩:=ag aD b[a] (bM aa);rcases n.2 with⟨R,a1⟩|⟨g,x,aY,R,aG,M,a3,a4,aV,aM⟩;{omega};{
 cases R;have J:cy wr g 0 ((b.take a).map lR++b.drop a):=by{rcases F with⟨c,_⟩|⟨aW,a6,aX,c,_,aI⟩;{cases c};{simp only[Value.slice.injEq,nr,Addr.mk.injEq]at c;obtain⟨⟨rfl,rfl,_⟩,_,_⟩:=c;exact aI}};obtain⟨O,ap,P,Q⟩:=J.four a ac;rw[B]at O ap P Q;rw[cT]at O ap P Q;have o:=fun(j:World) (y:ax wr j)=>(eg n y).stored (a*4+1) (ak ((min b[a].aI m:Nat):Int));have Y:=fun(j:World) (y:ax wr j)=>(eg n y).frozenAt (a*4+1);rw[G8 _ _ a ac,B]at o;have X:lR b[a]=(b[a].owner,min b[a].aI m,b[a].type,b[a].data):=by{unfold lR Ay;rw[u];rfl};rw[<- X,S]at o;have H:=af o;have al:=af Y;have aL:=(bn.1 M).1;have G:=af (fun j=>HP b[a].data j aP);have ai:=af (fun j=>PR (dq b[a].data) m j ay u);clear o Y d n M aM B S X F J u;generalize b[a]=i at *;go_wp2_with fail;refine(G _).mono ?_;rintro c D ⟨rfl,q⟩;have V:ax wr D:=by rw[q];exact qx
 have aF:D.cell? (aq wr.heap.size 1)=some (ak i.aI):=by rw[q];go_simp
 have aN:wr.heap.size<D.heap.size:=by rw[q];simp
 clear q;go_wp2_with fail;refine(ai _).mono ?_;rintro c ao ⟨rfl,W⟩;have a0:=(W.cell (p:=⟨wr.heap.size,1,none⟩) aN).trans aF;have t:=V.trans (W.mono V.size);have a7:=(t.cell (p:=⟨g,a*4+1,none⟩) aL).trans ap;have a2:=ag al ao t;have aw:=af (H ao t);have aA:=af (((z.trans (t.mono z.size))).setCell (p:=⟨g,a*4+1,none⟩) aG (ak ((min i.aI m:Nat):Int)));have aU:(min (i.aI:Int) (m:Int))=((min i.aI m:Nat):Int):=ae;clear G ai H al;go_wp2_with fail;go_roundw;case rel =>(refine⟨a+1,bq,ae,?_,by simpa using ag aA⟩;have:=aw.1;unfold cA;rw[vy ae];exact kJ)
 case measure=>exact gz}};{obtain rfl:a=b.length:=ae;have k:=af d;clear d;go_wp2;go_ret;refine⟨_,rfl,?_,z⟩;have:=ag k;rw[dK,kN,eu]at this;rw[ag aC];exact this})
section
attribute [local go_sem] Oper.semAt_some undef
def cG(rs:List aj)(n:ah):List aj×Bool :=
 if ff rs n then(cM rs n,true)
 else match (bo (eh n)).find? (ff rs)with
  | some a=>((cM rs (42::46::a)).map (cI n),decide (0<(cM rs (42::46::a)).length))
  | none=>([],false)
def qZ(w:World)(v:Value)(c d:Nat)(l:List aj):Prop:=∃a b,qW v a b l/\cy w a b l/\(a=c\/d<=a)
theorem qZ.rv{w:World}{v:Value}{a c:Nat}{l:List aj}(h:qZ w v a c l):eZ w v l:=by obtain⟨b,k,i,j,_⟩:=h;rcases i with h|⟨d,e,g⟩;{exact iG};{exact .inr ⟨b,k,d,e,g,j⟩}
theorem qZ.own{w:World}{v:Value}{a c base':Nat}{l:List aj}(d:cA w base' v l)(g:a<w.heap.size)(i:c<=base'):qZ w v a c l:=by have n:=d.rv;rcases n with⟨rfl,rfl⟩|⟨b,k,e,rfl,h,j⟩;{exact⟨a,0,.inl ⟨rfl,rfl⟩,⟨g,fun o hj=>qk⟩,.inl rfl⟩};{exact⟨b,k,.inr ⟨e,rfl,h⟩,j,.inr (aZ i (d.QS b rfl).1)⟩}
theorem PS{p:ah->Bool}{l:List ah}{i:Nat}{a:ah}(h:l[i]? = some a):(l.drop i).find? p=if p a then some a else(l.drop (i+1)).find? p:=by exact E0
theorem E8{P:Prop}(h:P:=by simp[results,results244,go_sem,MJ,cr3];rfl):P:=h
theorem Ej{P:Prop}(h:P:=by
 by_cases h:n=[]
 ·subst h;decide
 ·have:=pc n h;omega):P:=h
theorem B3{P:Prop}(h:P:=by show w.heap.size<=w.heap.size+1+1+1;omega):P:=h
theorem Cf{P:Prop}(h:P:=by show w.heap.size+1+1+1≠w.heap.size+1+1;omega):P:=h
theorem Ce{P:Prop}(h:P:=by show w.heap.size+1+1≠w.heap.size+1+1+1;omega):P:=h
theorem MP{P:Prop}(h:P:=by refine hK _ _ ?_;clear hK K;refine fL 5 fun K hK=>?_;go_simp;refine⟨aL,rfl,?_⟩;refine(bK.2 (ag o6)).mono ?_;rintro e W5 ⟨v5,rfl,ju,hb5⟩;obtain⟨a5,b9,rfl⟩:=ju.slice;have jZ:=np W5 _ ju hb5;rw[bD]at jZ;obtain⟨k1,k2,k3,k4⟩:=jZ.1;clear ju np mK;refine hK _ _ ?_;clear hK K;refine fL 6 fun K hK=>?_;go_simp;refine hK _ _ ?_;clear hK K;refine o8 aB ?_ _;gi_wp2_with fail;exact jZ.2):P:=h
theorem B0{P:Prop}(h:P:=by refine hK _ _ ?_;clear hK K;refine fL 4 fun K hK=>?_;go_simp;refine⟨aL,rfl,?_⟩;refine(bK.2 (ag qp)).mono ?_;rintro e W4 ⟨⟨v4,rfl,hv4⟩,hb4⟩;obtain⟨d3,o6,np⟩:=ag mK W4 v4 hv4 hb4;clear hv4;refine hK _ _ ?_;clear hK K;refine fL 5 fun K hK=>?_;go_simp;refine⟨aL,rfl,?_⟩;refine(bK.2 (ag o6)).mono ?_;rintro e W5 ⟨v5,rfl,ju,hb5⟩;obtain⟨a5,b9,rfl⟩:=ju.slice;have jZ:=np W5 _ ju hb5;rw[bD]at jZ;obtain⟨k1,k2,k3,k4⟩:=jZ.1;clear ju np mK;refine hK _ _ ?_;clear hK K;refine fL 6 fun K hK=>?_;go_simp;refine hK _ _ ?_;clear hK K;refine o8 aB ?_ _;gi_wp2_with fail;exact jZ.2):P:=h
theorem FF{P:Prop}(h:P:=by refine hK _ _ ?_;clear hK K;refine fL 1 fun K hK=>?_;go_simp;exact B0):P:=h
theorem EJ{P:Prop}(h:P:=by go_simp;refine hK _ _ ?_;clear hK K;refine fL 3 fun K hK=>?_;go_simp;refine⟨aL,rfl,?_⟩;refine(bK.2 (MI _)).mono ?_;rintro e D3 ⟨rfl,Cs⟩;subst Cs;exact B0):P:=h
theorem EQ{P:Prop}(h:P:=by
 refine hK _ _ ?_;clear hK K;refine lF (rs:=[0,4]) aB am ?_;refine hi rfl (fun K hK=>?_) (hi rfl (fun K hK=>?_) nn)
 ·go_simp;exact B0
 ·go_simp;refine⟨aL,rfl,?_⟩;refine(bK.2 (ag qp)).mono ?_;rintro e W4 ⟨⟨v4,rfl,hv4⟩,hb4⟩;obtain⟨d3,o6,np⟩:=ag mK W4 v4 hv4 hb4;clear hv4;refine hK _ _ ?_;clear hK K;refine fL 0 fun K hK=>?_;go_simp;exact MP):P:=h
theorem AA(c i B S:Nat)(o n:ah)(rs:List aj)(w:World)(ak:e6 w c o i B S rs)(L:bT w)(Y:rs.length<=3001)(bP:n.length<=2900)(a4:∀N∈rs,N.owner.length<=3000):az 244 #[aO c,au n] w fun e C=>(∃v,e=.returned (.tuple #[v,.bool (cG rs n).2])/\qZ C v i w.heap.size (cG rs n).1)/\ax w C:=by
 refine(bK (n:=0)).1 ?_;refine vX func244 rfl aL ?_;simp only[ntmps244,ib,bi,cW,Nat.reduceAdd,Nat.reduceSub,h_,ik,im,il,dJ,dF];have F:=af ak;have aY:=af L;have a0:=af a4;have bS:=ak.1;have aX:=ak.2.2.2.2.1;have bO:=L.1;have bz:prog.follows .mixedOrders=true:=aB;have aM:ax w ((((w.alloc (.cells #[.pointer (some ⟨c,0,none⟩)] 110)).alloc (.cells #[.string (ai n)] 9)).alloc (.cells #[.slice none 0 0] 41)).alloc (.cells #[.bool false] 4)) :=
  (((aE.alloc av _).alloc am _).alloc aA _).alloc aA _
 clear ak L a4;have E:=af (Hu c i B S o n rs _ (F.below aM) Y ae (ag a0));gi_wp2_with fail;refine⟨aL,rfl,?_⟩;refine(bK.2 (ag E)).mono ?_;rintro e t ⟨rfl,I⟩;have T:aW t w.heap.size (aO c) 110:=((((aW.mZ _ _ _).alloc _).alloc _).alloc _).below I cu;have U:aW t (w.heap.size+1) (au n) 9:=by
  have:=(((aW.mZ (w.alloc (.cells #[.pointer (some ⟨c,0,none⟩)] 110)) (au n) 9).alloc (.cells #[.slice none 0 0] 41)).alloc (.cells #[.bool false] 4)).below I cu
  rwa [cv]at this
 have G:aW t (w.heap.size+1+1) (aJ) 41:=by
  have:=((aW.mZ ((w.alloc (.cells #[.pointer (some ⟨c,0,none⟩)] 110)).alloc (.cells #[.string (ai n)] 9)) (aJ) 41).alloc (.cells #[.bool false] 4)).below I cu
  rwa [cv,cv]at this
 have y:aW t (w.heap.size+1+1+1) (.bool false) 4:=by
  have:=(aW.mZ (((w.alloc (.cells #[.pointer (some ⟨c,0,none⟩)] 110)).alloc (.cells #[.string (ai n)] 9)).alloc (.cells #[.slice none 0 0] 41)) (.bool false) 4).below I cu
  rwa [cv,cv,cv]at this
 have H:ax w t:=aM.trans (I.mono cu);have bA:w.heap.size+4<=t.heap.size:=by have:=y.lt;omega
 clear I aM E;have br:=T.cell;have ap:=U.cell;cases be:ff rs n
 ·have aI:Hid (cG rs n=match (bo (eh n)).find? (ff rs)with
    | some a1=>((cM rs (42::46::a1)).map (cI n),decide (0<(cM rs (42::46::a1)).length))
    | none=>([],false)):=by unfold cG;rw[be];rfl
  have bk:=af (P6 n t (aY.below H) ae);gi_wp2_with fail;refine⟨aL,rfl,?_⟩;refine(bK.2 (ag bk)).mono ?_;rintro e b ⟨aV,rfl,bW,bH,J,a2⟩;have bn:=af a2;have a9:=T.below J T.lt;have a_:=U.below J U.lt;have ba:=G.below J G.lt;have bb:=y.below J y.lt;have a3:=H.trans (J.mono H.size);have bQ:=aZ bA J.size;clear T U G y br ap a2;gi_wp2_with fail;have bx:∀N,ax b ((b.alloc (.deferred (some []))).alloc (.loop N)):=fun N=>(aE.alloc av _).alloc am _;refine Pp (xs:=bo (eh n)) (encs:=fun e:ah=>#[au e]) (St:=fun q r=>ax q r) (Kp:=fun q r=>q.heap.size<=r.heap.size/\r.heap[0]? = q.heap[0]?) (Kx:=fun _ _=>True)
   (gf:=241) (lb:=#[aO aV]) rfl (enters_of func241 aB rfl) (fun _=>rfl) ?seq
   [0] aA (fun q r h=>h) (fun q r h bu=>⟨bu.1,h _ am⟩) (fun _ _ _=>aL)
   (fun M a=>((bo (eh n)).drop M).find? (ff rs)=(bo (eh n)).find? (ff rs)/\ax w a/\aW a w.heap.size (aO c) 110/\aW a (w.heap.size+1) (au n) 9/\aW a (w.heap.size+1+1) (aJ) 41/\aW a (w.heap.size+1+1+1) (.bool false) 4)
   (fun R a=>R=.ret/\ax w a/\∃v,cA a (b.heap.size+2) v (cG rs n).1/\aW a (w.heap.size+1+1) v 41/\aW a (w.heap.size+1+1+1) (.bool (cG rs n).2) 4)
   (fun M q r h V hk=>⟨h.1,h.2.1.trans (hk.below ae ae),h.2.2.1.below (hk.below (n:=b.heap.size) ae V) ae,h.2.2.2.1.below (hk.below (n:=b.heap.size) ae V) ae,h.2.2.2.2.1.below (hk.below (n:=b.heap.size) ae V) ae,h.2.2.2.2.2.below (hk.below (n:=b.heap.size) ae V) ae⟩)
   (fun R q r h V hk=>⟨h.1,h.2.1.trans (hk.below ae ae),by
    obtain⟨v,aP,aQ,bv⟩:=h.2.2;exact⟨v,aP.keeps hk ae,aQ.below (hk.below (n:=b.heap.size) ae ae) ae,bv.below (hk.below (n:=b.heap.size) ae ae) ae⟩⟩)
   ⟨rfl,a3,a9,a_,ba,bb⟩
   ?round ?done ?stop
  case seq =>
   intro N;have L:=bx N;exact vv _ _ _ ((L.cell (p:=⟨aV,0,none⟩) (by show aV<b.heap.size;omega)).trans (ag bn)) ((aY.below a3).below L) Ej
  case round =>
   intro bc M g bG a aT W a6;gi_wp2_with fail;refine⟨aL,?_⟩;obtain⟨X,l,Z,aa,A,u⟩:=W;have b3:(eh n).length<=n.length:=Ej
   have bU:=vq (ki aT);have ar:=F.below l;have bI:=af ar;have bM:=Z.cell;have bL:=aa.cell;have aS:=PS (p:=ff rs) aT;rw[X]at aS;have aw:=af aS;have ay:=af Z;have aC:=af aa;have O:=af A;have P:=af u;have bJ:=u.lt;have E:=af (Hu c i B S o g rs a ar Y ae (ag a0));clear X aS ar Z aa A u aT a9 a_ ba bb;cases a8:ff rs g
   ·have bm:Hid (((bo (eh n)).drop (M+1)).find? (ff rs)=(bo (eh n)).find? (ff rs)):=by rw[Hid,ag aw,a8];rfl
    gi_wp2_with fail;refine⟨aL,rfl,?_⟩;refine(CallsIn.inRound bc (bK.2 (ag E))).mono ?_;rintro e W4 ⟨rfl,hb4⟩;have bq:Hid (bw b.heap.size a W4/\(∀k∈[0],W4.heap[k]? = a.heap[k]?)/\(((bo (eh n)).drop (M+1)).find? (ff rs)=(bo (eh n)).find? (ff rs)/\ax w W4/\aW W4 w.heap.size (aO c) 110/\aW W4 (w.heap.size+1) (au n) 9/\aW W4 (w.heap.size+1+1) (aJ) 41/\aW W4 (w.heap.size+1+1+1) (.bool false) 4)) :=
     ⟨bw.zq hb4,fun k hk=>hb4.block k ux,bm,l.trans (hb4.mono l.size),ay.below hb4 ae,aC.below hb4 ae,O.below hb4 ae,P.below hb4 ae⟩
    gi_wp2_with fail;exact bq
   ·have j:Hid (cG rs n=((cM rs (42::46::g)).map (cI n),decide (0<(cM rs (42::46::g)).length))):=by
     rw[Hid,ag aI,ag aw,a8];rfl
    gi_wp2_with fail;refine⟨aL,rfl,?_⟩;refine(CallsIn.inRound bc (bK.2 (ag E))).mono ?_;rintro e ac ⟨rfl,z⟩;have aU:=l.trans (z.mono l.size);have bd:=ay.below z ae;have al:=aC.below z ae;have an:=O.below z ae;have ao:=P.below z ae;have bX:=bd.cell;have bY:=al.cell;have bB:=z.size;have bl:(ai g).size<=1000000:=gB
    have MI:Hid (∀ab,az 273 #[au g] ab fun e C=>e=.returned (au (42::46::g))/\C=ab):=fun ab=>Ps (ai g) ab bl;have qp:=af (Ht c i B S o (42::46::g) rs ac.drew ((F.below aU).below aE.drew) Y)
    -- behind the records of the star
    have mK:Hid (∀(W4:World) (v4:Value),gS i B rs v4 (cM rs (42::46::g))->Below ac.drew.heap.size ac.drew W4 ->
      W4.cell? (aq (w.heap.size+1) 0)=some (au n) /\
      Hid (az 272 #[au n,v4] W4 fun e C=>∃bf,e=.returned bf/\cA C W4.heap.size bf ((cM rs (42::46::g)).map (cI n))/\ax W4 C) /\
      (∀(W5:World) (v5:Value),cA W5 W4.heap.size v5 ((cM rs (42::46::g)).map (cI n))->ax W4 W5 ->
       Hid ((W5.cell? (aq (w.heap.size+1+1) 0)=some (aJ)/\W5.frozen? (aq (w.heap.size+1+1) 0)=false/\W5.cell? (aq (w.heap.size+1+1+1) 0)=some (.bool false)/\W5.frozen? (aq (w.heap.size+1+1+1) 0)=false) /\
        (zg b.heap.size [0] (fun a=>((bo (eh n)).drop (M+1)).find? (ff rs)=(bo (eh n)).find? (ff rs)/\ax w a/\aW a w.heap.size (aO c) 110/\aW a (w.heap.size+1) (au n) 9/\aW a (w.heap.size+1+1) (aJ) 41/\aW a (w.heap.size+1+1+1) (.bool false) 4)
         (fun R a=>R=.ret/\ax w a/\∃v,cA a (b.heap.size+2) v (cG rs n).1/\aW a (w.heap.size+1+1) v 41/\aW a (w.heap.size+1+1+1) (.bool (cG rs n).2) 4) a .ret { tmps:=#[],defers:=[] }
         ((W5.setCell ⟨w.heap.size+1+1,0,none⟩ v5).setCell ⟨w.heap.size+1+1+1,0,none⟩ (.bool (decide (0<(cM rs (42::46::g)).length)))))))):=by
     intro W4 v4 hv4 hb4;have D:ax ac W4:=(aE.drew).trans hb4;have aN:=aU.trans (D.mono aU.size);have bN:=D.size;refine⟨(al.below D al.lt).cell,PP n v4 _ W4 (hv4.rv (F.below aN).2.2.2.2) (aZ hv4.len Y),fun W5 v5 ju hb5=>?_⟩;have bF:=aN.trans (hb5.mono aN.size);have k2:=(an.below D an.lt).below hb5 (by have:=an.lt;omega);have k3:=(ao.below D ao.lt).below hb5 (by have:=ao.lt;omega);refine⟨⟨k2.cell,k2.frozen,k3.cell,k3.frozen⟩,?_⟩;have bR:=hb5.size;have bp:=D.trans (hb5.mono D.size);refine⟨?_,rfl,(bF.setCell sq _).setCell B3 _,v5,?_,?_,?_⟩
     ·exact((bw.zq (z.trans (bp.mono bB))).trans (bw.setCell W5 _ _ ae)).trans (bw.setCell _ _ _ ae)
     ·rw[ag j];exact((ju.adu (k:=w.heap.size+1+1) ae _).adu (k:=w.heap.size+1+1+1) ae _).base ae
     ·exact(bC _ _ _ _ Ce).trans (k2.set _)
     ·rw[ag j];exact(show aW (W5.setCell ⟨w.heap.size+1+1,0,none⟩ v5) (w.heap.size+1+1+1) (.bool false) 4 from(bC _ _ _ _ Cf).trans k3).set _
    clear E ay aC O P bd al an ao aw aI j;gi_wp2_with fail;refine pi bz (m4 aB) ?_;refine gb 2 ?_;refine lF (rs:=[0,1,3]) aB am ?_;refine hi rfl (fun K hK=>?_) (hi rfl (fun K hK=>?_) (hi rfl (fun K hK=>?_) nn))
    ·go_simp;refine hK _ _ ?_;clear hK K;refine lF (rs:=[1,3]) aB am ?_;refine hi rfl (fun K hK=>?_) (hi rfl (fun K hK=>?_) nn)
     ·exact EJ
     ·go_simp;refine⟨aL,rfl,?_⟩;refine(bK.2 (MI _)).mono ?_;rintro e D3 ⟨rfl,Cs⟩;subst Cs;exact FF
    ·go_simp;refine hK _ _ ?_;clear hK K;refine lF (rs:=[0,3]) aB am ?_;refine hi rfl (fun K hK=>?_) (hi rfl (fun K hK=>?_) nn)
     ·exact EJ
     ·go_simp;refine⟨aL,rfl,?_⟩;refine(bK.2 (MI _)).mono ?_;rintro e D3 ⟨rfl,Cs⟩;subst Cs;exact EQ
    ·go_simp;refine⟨aL,rfl,?_⟩;refine(bK.2 (MI _)).mono ?_;rintro e D3 ⟨rfl,Cs⟩;subst Cs;refine hK _ _ ?_;clear hK K;refine lF (rs:=[0,1]) aB am ?_;refine hi rfl (fun K hK=>?_) (hi rfl (fun K hK=>?_) nn)
     ·go_simp;exact FF
     ·go_simp;exact EQ
  case done =>
   intro a W ad a6;obtain⟨X,l,Z,aa,A,u⟩:=W;have j:Hid (cG rs n=([],false)):=by
    rw[Hid,ag aI,<- X,jr av];rfl
   have k2:=A.cell;have bs:=A.frozen;have k3:=u.cell;have bt:=u.frozen;have O:=af A;have P:=af u;clear X Z aa A u;gi_wp2_with fail;have bg:=(bC (a.setCell ⟨w.heap.size+1+1,0,none⟩ (.slice none 0 0)) (aq (w.heap.size+1+1+1) 0) (.bool false) b.heap.size (by show b.heap.size≠w.heap.size+1+1+1;omega)).trans ((bC a (aq (w.heap.size+1+1) 0) (aJ) b.heap.size (by show b.heap.size≠w.heap.size+1+1;omega)).trans ad);refine⟨am,.inl ⟨_,_,rfl,pE bg,?_⟩⟩;have aG:aW ((a.setCell ⟨w.heap.size+1+1,0,none⟩ (.slice none 0 0)).setCell ⟨w.heap.size+1+1+1,0,none⟩ (.bool false)) (w.heap.size+1+1) (aJ) 41:=(bC _ _ _ _ Ce).trans (O.set _);have aH:aW ((a.setCell ⟨w.heap.size+1+1,0,none⟩ (.slice none 0 0)).setCell ⟨w.heap.size+1+1+1,0,none⟩ (.bool false)) (w.heap.size+1+1+1) (.bool false) 4 :=
    (show aW (a.setCell ⟨w.heap.size+1+1,0,none⟩ (.slice none 0 0)) (w.heap.size+1+1+1) (.bool false) 4 from(bC _ _ _ _ Cf).trans (ag P)).set _
   have MJ:=(aG.put (d:=b.heap.size) (o:=.deferred none) ae).cell;have cr3:=(aH.put (d:=b.heap.size) (o:=.deferred none) ae).cell;have x:=((l.setCell (p:=⟨w.heap.size+1+1,0,none⟩) sq (aJ)).setCell (p:=⟨w.heap.size+1+1+1,0,none⟩) B3 (.bool false)).trans (og (w:=b) (show w.heap.size<=b.heap.size by omega) _ _ _ (.deferred none) av bg rfl rfl);refine⟨.tuple #[aJ,.bool false],by simp[results,results244,go_sem,MJ,cr3],⟨_,by rw[ag j],?_⟩,x⟩;rw[ag j];exact⟨i,B,.inl ⟨rfl,rfl⟩,⟨cp aX x.size,fun bV hj=>qk⟩,.inl rfl⟩
  case stop =>
   intro R a W ad a6;obtain⟨rfl,l,v,aR,k2,k3⟩:=W;have bj:=af aR;obtain⟨b1,b2,rfl⟩:=aR.slice;have aD:=af k2;have aF:=af k3;clear aR k2 k3;gi_wp2_with fail;refine⟨am,.inl ⟨_,_,rfl,pE ad,?_⟩⟩;have MJ:=(aD.put (d:=b.heap.size) (o:=.deferred none) ae).cell;have cr3:=(aF.put (d:=b.heap.size) (o:=.deferred none) ae).cell;have x:=l.trans (og (w:=b) (show w.heap.size<=b.heap.size by omega) a _ _ (.deferred none) av ad rfl rfl);refine⟨.tuple #[_,.bool (cG rs n).2],E8,⟨_,rfl,?_⟩,x⟩;exact qZ.own (cA.keeps (ag bj) (dz.put (d:=b.heap.size) a b.heap.size (.deferred none)) ae) (cp aX x.size) ae
 ·have j:Hid (cG rs n=(cM rs n,true)):=by unfold cG;rw[Hid,be];rfl
  have qp:=af (Ht c i B S o n rs t (F.below H) Y);gi_wp2_with fail;refine⟨aL,rfl,?_⟩;refine(bK.2 (ag qp)).mono ?_;rintro e W4 ⟨⟨v4,rfl,hv4⟩,hb4⟩;obtain⟨Q,aK,rfl⟩:=hv4.slice;have bh:=af hv4;have k2:=G.below hb4 G.lt;have k3:=y.below hb4 y.lt;have bZ:=k2.cell;have bs:=k2.frozen;have b0:=k3.cell;have bt:=k3.frozen;have aD:=af k2;have aF:=af k3;clear hv4 k2 k3 T U G y;gi_wp2_with fail;have aG:aW ((W4.setCell ⟨w.heap.size+1+1,0,none⟩ (.slice Q (cM rs n).length aK)).setCell ⟨w.heap.size+1+1+1,0,none⟩ (.bool true)) (w.heap.size+1+1) (.slice Q (cM rs n).length aK) 41:=(bC _ _ _ _ Ce).trans (aD.set _);have aH:aW ((W4.setCell ⟨w.heap.size+1+1,0,none⟩ (.slice Q (cM rs n).length aK)).setCell ⟨w.heap.size+1+1+1,0,none⟩ (.bool true)) (w.heap.size+1+1+1) (.bool true) 4 :=
   (show aW (W4.setCell ⟨w.heap.size+1+1,0,none⟩ (.slice Q (cM rs n).length aK)) (w.heap.size+1+1+1) (.bool false) 4 from(bC _ _ _ _ Cf).trans (ag aF)).set _
  have MJ:=aG.cell;have cr3:=aH.cell;have x:=(((H.trans (hb4.mono H.size)).setCell (p:=⟨w.heap.size+1+1,0,none⟩) sq (.slice Q (cM rs n).length aK)).setCell (p:=⟨w.heap.size+1+1+1,0,none⟩) B3 (.bool true))
  refine⟨.tuple #[_,.bool true],E8,⟨_,by rw[ag j],?_⟩,x⟩;rw[ag j];obtain⟨bE,aP,aQ,_⟩:=bh.at (F.below x).2.2.2.2;exact⟨i,bE,aQ,aP,.inl rfl⟩
end
section
variable {P:Program} {ops:Array Oper} {C:World->Prop} {l:Nat}
theorem QW{h:Oper}{b:Act}{i:Act->Prop}{j:Act->World->Prop}{l:Exit->Act->World->Prop}{w:World}(g:C w)(d:∀b c,C c->i b->j b c)(p:h.quiet P b C i):h.wpIn Fence.wide 0 P b w j l:=by
 obtain⟨v,q,e⟩:=p;have a:=q w g;unfold Oper.quietAt at a;unfold Oper.wpIn;refine⟨fun _ _=>aL,?_⟩;rw[show Fence.wide.round=none from rfl,Oper.semAt_none];generalize (execOp b.eval h).run P w=t at *;cases t with
 | ok k c =>
  cases k<;>simp only[Oper.quietUpon]at a
  ·obtain⟨rfl,rfl⟩:=a;exact d _ _ g e
  all_goals first
   | (obtain⟨rfl,rfl⟩:=a;exact d _ _ g e)
   | (obtain⟨rfl,n⟩:=a
      refine⟨fun h'=>Cr,callsIn_wide.2 (n.mono fun u x o=>?_)⟩;obtain⟨rfl,r⟩:=o;exact d _ _ r e)
   | exact a.elim
 | halt k c=>simp only[Oper.quietUpon]at a
theorem QX{j:Nat}{b:Act}{h:Act->Prop}{i:Act->World->Prop}{l:Exit->Act->World->Prop}{w:World}(d:C w)(c:∀b k,C k->h b->i b k)(a:qOp P ops C j h b):wpOpIn Fence.wide 0 P ops l j i b w:=by unfold qOp at a;unfold wpOpIn;split;{rename_i e;simp only[e]at a;exact c _ _ d a};{rename_i n e;simp only[e]at a;split;{rename_i g;simp only[g,gC]at a;exact QW d c a};{rename_i g;simp only[g]at a;exact⟨fun _ _=>aL,c _ _ d a⟩}}
theorem G9{md:Region.Mode}{Q:Act->Prop}{g:Exit->Act->World->Prop}(e:∀a w,C w->Q a->g .normal a w):∀(c:Nat) (h:Array Bool) (a:Act) (w:World),C w->wpAnyQ P md ops C Q c h a->wpAnyIn Fence.wide 0 P md ops g c h a w
 | 0,_,_,_,d,b=>⟨b.1,e _ _ d b.2⟩
 | c+1,_,_,_,d,b=>⟨fun j=>e _ _ d (b.1 j),fun l ao=>QX d (fun i n k=>G9 e c _ i n k) (b.2 l ao)⟩
theorem G_{q:Nat}{Q:Exit->Act->World->Prop}{d:Act}{w:World}{c:List Oper}(n:P.follows .mixedOrders=true)(k:∀(p:Nat) (i:Oper),c.toArray[p]? = some i->∀j,i.op≠.defer j)(h:Region.lexB .any c.toArray=true)(g:wpQuiet P c.toArray (fun a=>∃b,a=w.drewN b) (fun e=>∀a,(∃b,a=w.drewN b)->Q .normal e a) c d):(Code.region q c.toArray true).wpIn (Fence.wide.inRound l) 0 P Q d w:=by simp only[Region.lexB,bW]at h;refine pi n k (G9 (C:=fun a=>∃b,a=w.drewN b) (Q:=fun e=>∀a,(∃b,a=w.drewN b)->Q .normal e a) (fun _ a o g=>g a o) _ _ _ _ ⟨1,rfl⟩ ?_);have:=wpAnyQ_lex (C:=fun a=>∃b,a=w.drewN b) (md:=.any) h.1 c 0 (Array.replicate c.toArray.size false) d am (by simpa using h.2) g;exact kJ
end
end Go.Proofs.YtkkpahmoljiepaaGreatDoor
