import Derived.Test.YtkkpahmoljiepaaGreatDoorJ15
import Derived.Test.YtkkpahmoljiepaaGreatDoorJ28
set_option maxRecDepth 1000000
set_option maxHeartbeats 12800000
set_option linter.unusedSimpArgs false
set_option linter.unusedVariables false
namespace Go.Proofs.YtkkpahmoljiepaaGreatDoor
open Go.RowKit Go.Proofs.Tryz
theorem L8(l:Value)(m:ah)(j b e ap g h:Int)(c:Bool)(w:World)(k:c=false\/(c=true/\(bits .and .i64 b 32768 != 0)=true))(i:az 70 #[au m] w (aP (.tuple #[.agg #[ak j,ak b,ak e,ak ap,ak g,ak h],.bool c]) w)):az 27 #[l,au m] w (aP (.string ⟨#[]⟩) w):=by have d:=af i;clear i;go_enter func27,ntmps27;go_wp2_with fail;refine d.mono ?_;rintro n p ⟨rfl,a⟩;have aR:=af (a.alloc a.size (.cells #[.int .i64 j,.int .i64 b,.int .i64 e,.int .i64 ap,.int .i64 g,.int .i64 h] 133));clear a d;rcases k with rfl|⟨rfl,o⟩;{go_wp2;go_ret;exact mw};{go_wp2;go_ret;exact mw}
theorem M6(x:Value)(m:ah)(a b c:Nat)(e ap g h:Int)(w:World)(ao:a<65536)(u:c<65536)(q:ko b 4=(c:Int))(h1:(bits .and .i64 b 32768 != 0)=false)(h2:(bits .and .i64 b 30720 != 0)=true)(p:az 70 #[au m] w (aP (.tuple #[.agg #[ak a,ak b,ak e,ak ap,ak g,ak h],.bool true]) w)):az 27 #[x,au m] w (aP (au (bv (ei a c 0 0 0 0))) w):=by have k:=af p;have l:Hid (∀d,az 71 #[.agg #[ak a,ak b,ak e,ak ap,ak g,ak h],ak 4] d (aP (au (bv (ei a c 0 0 0 0))) d)):=fun d=>KI a b c 4 e ap g h d ao u q;clear p q;generalize ai (bv (ei a c 0 0 0 0))=y at *;go_enter func27,ntmps27;go_wp2_with fail;refine k.mono ?_;rintro t z ⟨rfl,j⟩;have n:=j.alloc j.size (.cells #[.int .i64 a,.int .i64 b,.int .i64 e,.int .i64 ap,.int .i64 g,.int .i64 h] 133);have i:=af n;clear j k n;go_wp2_with fail;refine(l _).mono ?_;rintro t A ⟨rfl,o⟩;have r:=af (i.trans (o.mono i.size));clear o l i;go_wp2;go_ret;exact⟨rfl,r⟩
theorem M7(Q:Value)(m:ah)(a b i:Nat)(c ap d e:Int)(w:World)(ao:a<65536)(H:i<65536)(D:ko b 1=(i:Int))(h1:(bits .and .i64 b 32768 != 0)=false)(h2:(bits .and .i64 b 30720 != 0)=false)(B:az 70 #[au m] w (aP (.tuple #[.agg #[ak a,ak b,ak c,ak ap,ak d,ak e],.bool true]) w))(C:∀h,az 72 #[.agg #[ak a,ak b,ak c,ak ap,ak d,ak e],au m] h fun k P=>(∃E,Bb E/\k=.returned (.tuple #[E,.bool false]))/\ax h P):az 27 #[Q,au m] w (aP (au (bv (ei a i 0 0 0 0))) w):=by have t:=af B;have u:=af C;have x:Hid (∀h,az 71 #[.agg #[ak a,ak b,ak c,ak ap,ak d,ak e],ak 1] h (aP (au (bv (ei a i 0 0 0 0))) h)):=fun h=>KI a b i 1 c ap d e h ao H D;clear B D C;generalize ai (bv (ei a i 0 0 0 0))=al at *;go_enter func27,ntmps27;go_wp2_with fail;refine t.mono ?_;rintro k j ⟨rfl,p⟩;have y:=p.alloc p.size (.cells #[.int .i64 a,.int .i64 b,.int .i64 c,.int .i64 ap,.int .i64 d,.int .i64 e] 133);have z:f_ (j.alloc (.cells #[.int .i64 a,.int .i64 b,.int .i64 c,.int .i64 ap,.int .i64 d,.int .i64 e] 133)) j.heap.size [(a:Int),(b:Int),c,ap,d,e] 133:=World.alloc_heap_new j _;have l:=af y;have n:=af z;clear p t y z;go_wp2_with fail;refine(u _).mono ?_;rintro k F ⟨⟨_,⟨R,S,W,X,Y,Z,ac,ad,U,V,aa,ab,T,rfl⟩,rfl⟩,q⟩;unfold cP;have g:f_ F j.heap.size [(a:Int),(b:Int),c,ap,d,e] 133:=(q.block _ n.lt).trans n;have o:=l.trans (q.mono l.size);have J:=g.cell 0 am;have K:=g.cell 1 am;have L:=g.cell 2 am;have M:=g.cell 3 am;have N:=g.cell 4 am;have O:=g.cell 5 am;simp only[cw,cF]at J K L M N O;have ag:=g.lt;have aj:¬j.heap.size=F.heap.size:=ae;have r:=af (fun I=>o.alloc o.size I);clear q u l n g o;go_wp2_with fail;refine(x _).mono ?_;rintro k an ⟨rfl,A⟩;have G:=af ((r _).trans (A.mono (r _).size));clear A x r;go_wp2;go_ret;exact⟨rfl,G⟩
def hV(n:Nat)(s:ah)(a:Bool):ah×Bool:=if n<=s.length then(s.drop n,a)else([],true)
theorem M8(n:Nat)(s:ah)(a:Bool):(hV n s a).1.length<=s.length:=by unfold hV;split<;>simp
theorem L9(b n:Nat)(s:ah)(c:Bool)(w:World)(a:cS w b s c)(i:n<=100000)(g:s.length<=140737488355328):az 148 #[aO b,ak n] w fun e d=>(∃h,e=.returned (.string h))/\cS d b (hV n s c).1 (hV n s c).2/\dz b w d/\d.heap.size=w.heap.size:=by unfold hV;split;{refine(zh b n s c w a gj g).mono ?_;rintro e d ⟨rfl,a⟩;exact⟨⟨_,rfl⟩,a⟩};{refine(zi b n s c w a ae ae).mono ?_;rintro e d ⟨rfl,a⟩;exact⟨⟨_,rfl⟩,a⟩}
section
variable {w:World} {b:Nat} {h0 h1 h2 h3 h4 h5:Int} {q n:ah} {k c:Int} {opt:Bool} {sz bV:Int}
theorem mp(h:gh w b h0 h1 h2 h3 h4 h5 q n k c opt sz bV)(a:Int):gh (w.setCell ⟨b,11,none⟩ (.int .i64 a)) b h0 h1 h2 h3 h4 h5 q n k c opt a bV:=by unfold gh at *;exact gX
theorem mr(h:gh w b h0 h1 h2 h3 h4 h5 q n k c opt sz bV)(a:Int):gh (w.setCell ⟨b,12,none⟩ (.int .i64 a)) b h0 h1 h2 h3 h4 h5 q n k c opt sz a:=by unfold gh at *;exact gX
end
theorem F2{P:Prop}(h:P:=by go_wp2_with fail;refine iI (v:=.tuple #[]) (by simp[results,results134]) rfl ?_;exact⟨rfl,mm.1,by rw[q3];exact mm.2.1,mm.2.2⟩):P:=h
theorem Ni(a g:Nat)(J:ah)(R:Bool)(l:World){h0 h1 h2 h3 h4 h5:Int}{q n:ah}{k c:Int}{opt:Bool}{sz bV:Int}(aB:gh l a h0 h1 h2 h3 h4 h5 q n k c opt sz bV) (d:cS l g J R) (j:a≠g) (bz:J.length<=140737488355328){M w bv o p aa:Nat} {ac ad K ai L aj aC aD:ah} {S T A U B V an W:Bool} (ao:bZ J R=(M,ac,S)) (ap:bS ac S=(w,ad,T)) (aq:bS ad T=(o,K,A)) (ar:bZ K A=(bv,ai,U)) (au:bZ ai U=(p,L,B))(av:hV 2 L B=(aj,V)) (aw:bS aj V=(aa,aC,an)) (aU:hV aa aC an=(aD,W)) (bA:aa<=65535):az 134 #[aO a,aO g] l fun r aE=>r=.returned (.tuple #[])/\gh aE a h0 h1 h2 h3 h4 h5 q n k c opt o p/\cS aE g aD (W || !(M==0&&w==41))/\bG (fun e=>e≠a/\e≠g) l aE:=by
 have aW:=l2 J R;have aX:=lH ac S;have aY:=lH ad T;have aZ:=l2 K A;have a0:=l2 ai U;have a1:=M8 2 L B;have aN:=lH aj V;rw[ao]at aW;rw[ap]at aX;rw[aq]at aY;rw[ar]at aZ;rw[au]at a0;rw[av]at a1;rw[aw]at aN;simp only at aW aX aY aZ a0 a1 aN;have bf:=af ao;have bt:=af ap;have bu:=af aq;have bi:=af ar;have bj:=af au;have bk:=af av;have bl:=af aw;have bp:=af aU;have a9:=af aB;have a3:=af d;have bg:=aB.lt;have aL:Hid (bG (fun e=>e≠a/\e≠g) l l):=⟨rfl,rfl,rfl,bb _,fun _ _ _=>rfl⟩;clear aB d ao ap aq ar au av aw aU;have X:=af (i6 g J R l (ag a3) ae);rw[Hid,ag bf]at X;simp only at X;go_enter func134,ntmps134;go_wp2_with fail;refine X.mono ?_;rintro r a_ ⟨rfl,d,b,i⟩;have a7:=af d;have aF:=af (aL.trans ((bG.yf b).mono fun e _ h=>h.2));have a2:=af (a9.kept (b.block a bg j));have bq:a<a_.heap.size:=ae;clear d b i X a3 aL a9;have Y:=af (gF g ac S a_ (ag a7) ae);rw[Hid,ag bt]at Y;simp only at Y;go_wp2_with fail;refine Y.mono ?_;rintro r ba ⟨rfl,d,b,i⟩;have a4:=af d;have aI:=af (aF.trans ((bG.yf b).mono fun e _ h=>h.2));have aV:=af (a2.kept (b.block a bq j));have bs:a<ba.heap.size:=ae;clear d b i Y a7 aF a2;have Z:=af (gF g ad T ba (ag a4) ae);rw[Hid,ag bu]at Z;simp only at Z;go_wp2_with fail;refine Z.mono ?_;rintro r x ⟨rfl,d,b,i⟩;have G:=af d;have I:=af (aI.trans ((bG.yf b).mono fun e _ h=>h.2));have t:=af (aV.kept (b.block a bs j));have ay:a<x.heap.size:=ae;clear d b i Z a4 aI aV;have br:=t.frozen;have ax:=t.cells;have C:Hid (gh (x.setCell ⟨a,11,none⟩ (.int .i64 o)) a h0 h1 h2 h3 h4 h5 q n k c opt o bV/\cS (x.setCell ⟨a,11,none⟩ (.int .i64 o)) g K A/\bG (fun e=>e≠a/\e≠g) l (x.setCell ⟨a,11,none⟩ (.int .i64 o))/\a<(x.setCell ⟨a,11,none⟩ (.int .i64 o)).heap.size) := ⟨mp (ag t) _,(bC _ _ _ _ (rl j)).trans G,I.trans (bG.kA _ fun e h=>h.1),by simpa [World.setCell]using ay⟩;obtain⟨_,_,_,_,_,_,_,_,_,_,_,ox,oz⟩:=ax;obtain⟨E,F,D,ay⟩:=ag C;clear t G I C;have t:=af E;have G:=af F;have I:=af D;clear E F D;have ab:=af (i6 g K A (x.setCell ⟨a,11,none⟩ (.int .i64 o)) (ag G) ae);rw[Hid,ag bi]at ab;simp only at ab;go_wp2_with fail;refine ab.mono ?_;rintro r bc ⟨rfl,d,b,i⟩;have be:=af d;have aH:=af (I.trans ((bG.yf b).mono fun e _ h=>h.2));have a8:=af (t.kept (b.block a ay j));have bm:a<bc.heap.size:=ae;clear d b i ab G I t;have ak:=af (i6 g ai U bc (ag be) ae);rw[Hid,ag bj]at ak;simp only at ak;go_wp2_with fail;refine ak.mono ?_;rintro r y ⟨rfl,d,b,i⟩;have H:=af d;have z:=af (aH.trans ((bG.yf b).mono fun e _ h=>h.2));have u:=af (a8.kept (b.block a bm j));have am:a<y.heap.size:=ae;clear d b i ak be aH a8;have br:=u.frozen;have ax:=u.cells;have C:Hid (gh (y.setCell ⟨a,12,none⟩ (.int .i64 p)) a h0 h1 h2 h3 h4 h5 q n k c opt o p/\cS (y.setCell ⟨a,12,none⟩ (.int .i64 p)) g L B/\bG (fun e=>e≠a/\e≠g) l (y.setCell ⟨a,12,none⟩ (.int .i64 p))/\a<(y.setCell ⟨a,12,none⟩ (.int .i64 p)).heap.size) := ⟨mr (ag u) _,(bC _ _ _ _ (rl j)).trans H,z.trans (bG.kA _ fun e h=>h.1),by simpa [World.setCell]using am⟩;obtain⟨_,_,_,_,_,_,_,_,_,_,_,ox,oz⟩:=ax;obtain⟨E,F,D,am⟩:=ag C;clear u H z C;have u:=af E;have H:=af F;have z:=af D;clear E F D;have al:=af (L9 g 2 L B (y.setCell ⟨a,12,none⟩ (.int .i64 p)) (ag H) ae ae);rw[Hid,ag bk]at al;simp only at al;go_wp2_with fail;refine al.mono ?_;rintro r aP ⟨⟨_,rfl⟩,d,b,i⟩;have aQ:=af d;have aR:=af (z.trans ((bG.yf b).mono fun e _ h=>h.2));have aK:=af (u.kept (b.block a am j));have bh:a<aP.heap.size:=ae;clear d b i al H z u;have N:=af (gF g aj V aP (ag aQ) ae);rw[Hid,ag bl]at N;simp only at N;go_wp2_with fail;refine N.mono ?_;rintro r bd ⟨rfl,d,b,i⟩;have aG:=af d;have aS:=af (aR.trans ((bG.yf b).mono fun e _ h=>h.2));have aM:=af (aK.kept (b.block a bh j));have bn:a<bd.heap.size:=ae;clear d b i N aQ aR aK;have O:=af (L9 g aa aC an bd (ag aG) ae ae);rw[Hid,ag bp]at O;simp only at O;go_wp2_with fail;refine O.mono ?_;rintro r Q ⟨⟨_,rfl⟩,d,b,i⟩;have P:=af d;have aJ:=af (aS.trans ((bG.yf b).mono fun e _ h=>h.2));have aT:=af (aM.kept (b.block a bn j));have bw:a<Q.heap.size:=ae;clear d b i O aG aS aM;have bx:=P.frozen;have bB:=P.cells;have mm:Hid (gh (Q.setCell ⟨g,1,none⟩ (.bool true)) a h0 h1 h2 h3 h4 h5 q n k c opt o p/\cS (Q.setCell ⟨g,1,none⟩ (.bool true)) g aD true/\bG (fun e=>e≠a/\e≠g) l (Q.setCell ⟨g,1,none⟩ (.bool true))) := ⟨aT.kept (bC _ _ _ _ j),P.set1 _,aJ.trans (bG.kA _ fun e h=>h.2)⟩;by_cases a5:M=0;{
 subst a5;by_cases a6:w=41;{subst a6;go_wp2_with fail;refine iI (v:=.tuple #[]) (by simp[results,results134]) rfl ?_;exact⟨rfl,aT,by simpa using ag P,aJ⟩};{
 have bo:((w:Int) != 41)=true:=aA;have q3:(W || !((0:Nat)==0&&w==41))=true:=by simp[a6]
 exact F2}};{
 have bo:((M:Int) != 0)=true:=aA;have q3:(W || !(M==0&&w==41))=true:=by simp[a5]
 exact F2}
theorem NS(a:World):(Op.equalIn 10000 131 (.agg #[ak 1,ak 0,ak 0,ak 1]) (.agg #[ak 1,ak 0,ak 0,ak 0])).run prog a=.ok false a:=aB
theorem NT(a:World):(Op.equalIn 10000 131 (.agg #[ak 1,ak 0,ak 0,ak 1]) (.agg #[ak 1,ak 0,ak 0,ak 1])).run prog a=.ok true a:=aB
def rZ(w:World)(b a:Int)(s:ah):World :=
 (((w.alloc (.cells #[.int .i64 b,.int .i64 a,.int .i64 1,.int .i64 0,.int .i64 0,.int .i64 1] 133)).alloc
   (.cells #[.int .i64 0,.int .i64 0,.int .i64 0,.int .i64 0,.int .i64 0,.int .i64 0,.string ⟨#[]⟩,.string ⟨#[]⟩,.int .i64 0,.int .i64 0,.bool false,.int .i64 0,.int .i64 0] 137)).alloc
   (.cells #[.int .i64 b,.int .i64 a,.int .i64 1,.int .i64 0,.int .i64 0,.int .i64 1,.string ⟨#[]⟩,.string ⟨#[]⟩,.int .i64 0,.int .i64 0,.bool true,.int .i64 0,.int .i64 0] 137)).alloc
   (.cells #[.string (ai s),.bool false] 215)
theorem NU(w:World)(b a:Int)(s:ah):gh (rZ w b a s) (w.heap.size+1+1) b a 1 0 0 1 [] [] 0 0 true 0 0/\gh (rZ w b a s) (w.heap.size+1) 0 0 0 0 0 0 [] [] 0 0 false 0 0/\cS (rZ w b a s) (w.heap.size+1+1+1) s false/\ax w (rZ w b a s):=by refine⟨?_,?_,?_,?_⟩;{refine(bx _ _ _ am).trans ?_;have:=World.alloc_heap_new ((w.alloc (.cells #[.int .i64 b,.int .i64 a,.int .i64 1,.int .i64 0,.int .i64 0,.int .i64 1] 133)).alloc (.cells #[.int .i64 0,.int .i64 0,.int .i64 0,.int .i64 0,.int .i64 0,.int .i64 0,.string ⟨#[]⟩,.string ⟨#[]⟩,.int .i64 0,.int .i64 0,.bool false,.int .i64 0,.int .i64 0] 137)) (.cells #[.int .i64 b,.int .i64 a,.int .i64 1,.int .i64 0,.int .i64 0,.int .i64 1,.string ⟨#[]⟩,.string ⟨#[]⟩,.int .i64 0,.int .i64 0,.bool true,.int .i64 0,.int .i64 0] 137);simpa [ai]using this};{refine(bx _ _ _ am).trans ((bx _ _ _ am).trans ?_);have:=World.alloc_heap_new (w.alloc (.cells #[.int .i64 b,.int .i64 a,.int .i64 1,.int .i64 0,.int .i64 0,.int .i64 1] 133)) (.cells #[.int .i64 0,.int .i64 0,.int .i64 0,.int .i64 0,.int .i64 0,.int .i64 0,.string ⟨#[]⟩,.string ⟨#[]⟩,.int .i64 0,.int .i64 0,.bool false,.int .i64 0,.int .i64 0] 137);simpa [ai]using this};{have:=World.alloc_heap_new (((w.alloc (.cells #[.int .i64 b,.int .i64 a,.int .i64 1,.int .i64 0,.int .i64 0,.int .i64 1] 133)).alloc (.cells #[.int .i64 0,.int .i64 0,.int .i64 0,.int .i64 0,.int .i64 0,.int .i64 0,.string ⟨#[]⟩,.string ⟨#[]⟩,.int .i64 0,.int .i64 0,.bool false,.int .i64 0,.int .i64 0] 137)).alloc (.cells #[.int .i64 b,.int .i64 a,.int .i64 1,.int .i64 0,.int .i64 0,.int .i64 1,.string ⟨#[]⟩,.string ⟨#[]⟩,.int .i64 0,.int .i64 0,.bool true,.int .i64 0,.int .i64 0] 137)) (.cells #[.string (ai s),.bool false] 215);simpa [cS,rZ]using this};exact D5
theorem Fu{P:Prop}(h:P:=by go_region;all_goals(go_wp2;refine cc (v:=.tuple #[cP id bits 1 0 0 1 q nm k' c' true z bg,.bool false]) (by simp[results,results72,go_sem,cP,cU,d1,d2,d3,d4,d5,d6,d7,d8,d9,d10,d11,d12]) rfl ⟨ag G4 false rfl,?_⟩;first|exact(aN _ (aN _ (aN _ (aN _ (aN _ (aN _ (aN _ (aN _ (aN _ (aN _ (aN _ (aN _ (aN _ bN _ _) _ _) _ _) _ _) _ _) _ _) _ _) _ _) _ _) _ _) _ _) _ _) _ _).drew|exact(aN _ (aN _ (aN _ (aN _ (aN _ (aN _ (aN _ (aN _ (aN _ (aN _ (aN _ (aN _ (aN _ bN.drew _ _) _ _) _ _) _ _) _ _) _ _) _ _) _ _) _ _) _ _) _ _) _ _) _ _))):P:=h
theorem F6(id bits:Int)(m:ah)(w:World)(aY:12<=m.length)(A:m.length<=140737488355328){o:List ah} {k' c':Nat} {F G a:ah} {E H r:Bool} (g:jG (m.drop 12) false=(o,F,E)) (l:bS F E=(k',G,H)) (n:bS G H=(c',a,r)){aT ay bd z bg C:Nat} {aJ aL aM aO aP aQ aR k:ah} {U V W X Y Z aa ab:Bool} (ac:bZ a r=(aT,aJ,U)) (ad:bS aJ U=(ay,aL,V)) (aj:bS aL V=(z,aM,W)) (al:bZ aM W=(bd,aO,X)) (am:bZ aO X=(bg,aP,Y))(an:hV 2 aP Y=(aQ,Z)) (aq:bS aQ Z=(C,aR,aa)) (ar:hV C aR aa=(k,ab)) (aC:C<=65535) {j:Bool} (aG:(ab || !(aT==0&&ay==41))=j):az 72 #[.agg #[ak id,ak bits,ak 1,ak 0,ak 0,ak 1],.string (ai m)] w fun y bb=>y=.returned (.tuple #[cP id bits 1 0 0 1 ((m.drop 12).take ((m.drop 12).length-a.length)) (aU o) k' c' true z bg,.bool (!j&&k.isEmpty)])/\ax w bb:=by
 have a1:=a7 m;have N:=af (qR m 12 _ rfl);have aV:=NS;have a3:=NT;have T:=af (fun(i:World) (a4:ah) (a_:ah) (aZ:gh i (w.heap.size+1+1) id bits 1 0 0 1 a_ a4 k' c' true 0 0) (a0:cS i (w.heap.size+1+1+1) a r) (A:a.length<=140737488355328)=>Ni (w.heap.size+1+1) (w.heap.size+1+1+1) a r i aZ a0 ae A ac ad aj al am an aq ar aC);have aw:a.length<=140737488355328:=by{have Q:=(He (m.drop 12) false);rw[g]at Q;have R:=lH F E;rw[l]at R;have S:=lH G H;rw[n]at S;obtain⟨a6,a8,a9⟩:=Q;simp only[c8]at a6 a8 a9 R S;omega};clear ac ad aj al am an aq ar aC;have K:=af g;have aE:=af l;have aI:=af n;clear g l n;obtain⟨L,J,aD,av⟩:=NU w id bits (m.drop 12);have M:=af (Hf (w.heap.size+1+1) (w.heap.size+1+1+1) (m.drop 12) false (rZ w id bits (m.drop 12)) L aD ae aA (ag K) (ag aE) (ag aI));have I:=af J;have x:=af av;clear L J aD av;go_enter func72,ntmps72;go_wp2_with fail;rw[ag N];refine M.mono ?_;rintro y aS ⟨rfl,e,c,d⟩;have h:=af (I.kept (d.block _ I.lt ⟨ae,ae⟩));have bN:Hid (ax w aS):=x.trans (d.below (fun a2 ao=>⟨ae,ae⟩) x.size);have B:=af e;have D:=af c;have aF:=af (T aS _ _ e c aw);obtain⟨_,_,_,_,_,_,_,_,_,_,me,_,_⟩:=e.cells;clear e c d M I x a3 aV T;go_wp2_with fail;refine aF.mono ?_;rintro y bc ⟨rfl,e,c,d⟩;rw[aG]at c;have h:=af (h.kept (d.block _ h.lt ⟨ae,ae⟩));have bN:Hid (ax w bc):=bN.trans (d.below (fun a2 ao=>⟨ae,ae⟩) bN.size);have B:=af e;have D:=af c;clear e c d aF me aw;generalize O:(m.drop 12).take ((m.drop 12).length-a.length)=q at *;generalize au:aU o=nm at *;have P:=af O;have aB:=af au;clear O au;obtain⟨bf,ap,bh,bi,aK,b9,cm,bj,hZ,bk,me,ox,oz⟩:=B.cells;obtain⟨cU,d1,d2,d3,d4,d5,d6,d7,d8,d9,d10,d11,d12⟩:=h.cells;have bl:=h.frozen;obtain⟨ba,bm⟩:=D.cells;go_wp2_with fail;clear K aE aI N aY A a1 B D h;have aH:∀b:Bool,(!j&&k.isEmpty)=b->Ending.returned (.tuple #[cP id bits 1 0 0 1 q nm k' c' true z bg,.bool b])=.returned (.tuple #[cP id bits 1 0 0 1 ((m.drop 12).take ((m.drop 12).length-a.length)) (aU o) k' c' true z bg,.bool (!j&&k.isEmpty)]):=fun b aX=>by{rw[ag P,ag aB,aX]};have G4:=af aH;clear aH P aB;have aN:=af fun(i:World) (aW:ax w i) (a5:Nat) (v:Value)=>aW.setCell (p:=⟨w.heap.size+1,a5,none⟩) c9 v;clear aG;cases j;{
 cases k with
 | nil =>{have g:ai []=⟨#[]⟩:=rfl;rw[g]at ba;go_region;all_goals(go_wp2;refine cc (v:=.tuple #[cP id bits 1 0 0 1 q nm k' c' true z bg,.bool true]) (by simp[results,results72,go_sem,cP,cU,d1,d2,d3,d4,d5,d6,d7,d8,d9,d10,d11,d12]) rfl ⟨ag G4 true rfl,?_⟩;first|exact(aN _ (aN _ (aN _ (aN _ (aN _ (aN _ (aN _ (aN _ (aN _ (aN _ (aN _ (aN _ (aN _ bN _ _) _ _) _ _) _ _) _ _) _ _) _ _) _ _) _ _) _ _) _ _) _ _) _ _).drew|exact(aN _ (aN _ (aN _ (aN _ (aN _ (aN _ (aN _ (aN _ (aN _ (aN _ (aN _ (aN _ (aN _ bN.drew _ _) _ _) _ _) _ _) _ _) _ _) _ _) _ _) _ _) _ _) _ _) _ _) _ _))}
 | cons u t =>{
 have g:((ai (u::t)).toList==(⟨#[]⟩:ByteArray).toList)=false:=by rw[qO];rfl
 have l:(ai (u::t)).toList.isEmpty=false:=by rw[c7];rfl
 have n:¬(ai (u::t)).size=0:=by rw[a7];simp
 generalize ai (u::t)=be at *;exact Fu}};{exact Fu}
theorem C1(s:ah):(bZ s true).2.2=true:=by cases s<;>rfl
theorem Pj(s:ah):(bS s true).2.2=true:=by unfold bS;show(bZ (bZ s true).2.1 (bZ s true).2.2).2.2=true;rw[C1,C1]
theorem ug{s:ah}{a:Bool}(b:(bZ s a).2.2=false):a=false/\∃c d,s=c::d:=by
 cases s with
 | nil=>cases b
 | cons c s=>exact⟨b,c,s,rfl⟩
theorem r7{s:ah}{br:Bool}(h:(bS s br).2.2=false):br=false/\∃a b j,s=a::b::j:=by have i:(bZ (bZ s br).2.1 (bZ s br).2.2).2.2=false:=h;obtain⟨h1,b,c,e⟩:=ug i;obtain⟨h3,a,k,d⟩:=ug h1;subst d;have g:k=b::c:=e;subst g;exact⟨h3,a,b,c,rfl⟩
theorem L_{n:Nat}{s:ah}{b:Bool}(a:(hV n s b).2=false):b=false/\n<=s.length:=by unfold hV at a;split at a;{exact⟨a,‹_›⟩};{cases a}
theorem C2{s t:ah}{a:Bool}{e:Nat}(b:bZ s a=(e,t,false)):a=false/\s.length=t.length+1:=by
 cases s with
 | nil=>cases b
 | cons c s =>{obtain⟨rfl,d⟩:=ev b;obtain⟨rfl,rfl⟩:=ev d;exact dX}
theorem C3{s t:ah}{br:Bool}{d:Nat}(a:bS s br=(d,t,false)):br=false/\s.length=t.length+2:=by obtain⟨h1,e,b,g,rfl⟩:=r7 (s:=s) (br:=br) (by rw[a]);obtain⟨_,c⟩:=ev a;obtain⟨rfl,_⟩:=ev c;exact⟨h1,rfl⟩
theorem C4{n:Nat}{s t:ah}{b:Bool}(a:hV n s b=(t,false)):b=false/\s.length=t.length+n:=by unfold hV at a;split at a;{obtain⟨rfl,rfl⟩:=ev a;exact⟨rfl,o2⟩};{cases(ev a).2}
theorem qd(a b:UInt8)(s:ah)(c:Bool):bS (a::b::s) c=(a.toNat*256+b.toNat,s,c):=rfl
theorem C5(a:UInt8)(s:ah)(b:Bool):bZ (a::s) b=(a.toNat,s,b):=rfl
theorem uh(a b:UInt8)(s:ah):aG (a::b::s) 0=a.toNat*256+b.toNat:=by simp[aG];omega
theorem C7:∀(f n:Nat) (s:ah) (b:Nat) (a:List ah),(gR f n s true b a).2.2=true
 | 0,n,s,b,a=>rfl
 | f+1,n,s,b,a=>by
  unfold gR;split;{rfl};{
  split;{rfl};{
  have h1:(bX s true n).2.2=true:=by unfold bX;split<;>rfl
  rw[h1,C1];exact C7 f _ _ _ _}}
theorem C8:∀ {f:Nat} {s:ah} {b d:List ah} {t:ah},gg f s b=some (d,t)->t.length+1<=s.length
 | 0,_,_,_,_,a=>by cases a
 | f+1,[],_,_,_,a=>by cases a
 | f+1,c::s,b,d,t,a=>by unfold gg at a;split at a;{have:=cZ a;have e:s=t:=(ev this).2;rw[e];simp};{split at a;{cases a};{have:=C8 a;rw[c8]at this;rw[bi];omega}}
theorem Ma:∀(h:Nat) (c:UInt8) (s:ah) (f b:Nat) (d:List ah),s.length+1<h->257<=f+b->b<=255->(∃e a,gg h (c::s) d=some (e,a)/\a.length<=s.length/\b+(s.length-a.length)<=255/\gR f c.toNat s false b d=(e,a,false)) \/
  ((∀e a,gg h (c::s) d=some (e,a)->a.length<=s.length/\255<b+(s.length-a.length))/\(gR f c.toNat s false b d).2.2=true)
 | 0,c,s,f,b,d,h0,_,_=>absurd h0 ae
 | h+1,c,s,f,b,d,h0,h1,h2=>by
  obtain⟨f,rfl⟩:∃w,f=w+1:=⟨f-1,ae⟩;by_cases n:c=0;{subst n;refine .inl ⟨d,s,?_,bb _,ae,?_⟩;{unfold gg;rw[ay rfl]};{unfold gR;rw[ay (show UInt8.toNat 0=0 from rfl)]}};{
  have B:c.toNat≠0:=fun g=>n (lX g);have z:gg (h+1) (c::s) d=if 63<c.toNat\/s.length<c.toNat then none else gg h (s.drop c.toNat) (d++[s.take c.toNat]):=by{
  conv=>lhs;unfold gg
  rw[ar n]}
  have y:gR (f+1) c.toNat s false b d=if 63<c.toNat\/255<b+1+c.toNat then([],s,true)else gR f (bZ (bX s false c.toNat).2.1 (bX s false c.toNat).2.2).1 (bZ (bX s false c.toNat).2.1 (bX s false c.toNat).2.2).2.1 (bZ (bX s false c.toNat).2.1 (bX s false c.toNat).2.2).2.2 (b+1+c.toNat) (d++[(bX s false c.toNat).1]):=by{
  conv=>lhs;unfold gR
  rw[ar B]}
  rw[z,y];by_cases p:63<c.toNat;{rw[ay (.inl p),ay (.inl p)];exact .inr ⟨fun e a g=>(by cases g),rfl⟩};by_cases r:s.length<c.toNat;{
  rw[ay (.inr r)];refine .inr ⟨fun e a g=>(by cases g),?_⟩;by_cases i:255<b+1+c.toNat;{rw[ay (.inr i)]};{
  rw[ar ae];have j:bX s false c.toNat=([],[],true):=by unfold bX;rw[ar ae]
  rw[j];exact C7 _ _ _ _ _}};rw[ar ae];have j:bX s false c.toNat=(s.take c.toNat,s.drop c.toNat,false):=by unfold bX;rw[ay ae]
  cases k:s.drop c.toNat with
  | nil =>{
  have x:gg h [] (d++[s.take c.toNat])=none:=by cases h<;>rfl
  rw[x];refine .inr ⟨fun e a g=>(by cases g),?_⟩;by_cases i:255<b+1+c.toNat;{rw[ay (.inr i)]};{rw[ar ae,j,k];exact C7 _ _ _ _ _}}
  | cons t q =>{have D:q.length+1=s.length-c.toNat:=by{have:=bP List.length k;rw[c8,bi]at this;omega};by_cases i:255<b+1+c.toNat;{rw[ay (.inr i)];refine .inr ⟨fun e a g=>?_,rfl⟩;have:=C8 g;rw[bi]at this;omega};{rw[ar ae,j,k];have A:=Ma h t q f (b+1+c.toNat) (d++[s.take c.toNat]) ae ae ae;rcases A with⟨e,a,l,o,C,u⟩|⟨l,o⟩;{exact .inl ⟨e,a,l,ae,ae,u⟩};{exact .inr ⟨fun e a g=>by have:=l e a g;omega,o⟩}}}}
theorem NV(a:ah)(d:Nat)(j:a.length<d):(∃b t,gg d a []=some (b,t)/\t.length+1<=a.length/\a.length-t.length<=255/\jG a false=(b,t,false)) \/
  ((∀b t,gg d a []=some (b,t)->255<a.length-t.length)/\(jG a false).2.2=true):=by
 cases a with
 | nil=>exact .inr ⟨fun b t g=>(by cases d<;>cases g),rfl⟩
 | cons c s =>{rw[bi]at j;rcases Ma d c s 256 1 [] ae ae ae with⟨b,t,e,h,k,i⟩|⟨e,h⟩;{exact .inl ⟨b,t,e,by rw[bi];omega,by rw[bi];omega,i⟩};{exact .inr ⟨fun b t g=>by have:=e b t g;rw[bi];omega,h⟩}}
theorem NW{t:ah}(e:4<=t.length):∃a b c d s,t=a::b::c::d::s:=by
 match t,e with
 | a::b::c::d::s,_=>exact⟨a,b,c,d,s,rfl⟩
theorem NX{t:ah}(l:11<=t.length):∃a b c d e f g h i k j s,t=a::b::c::d::e::f::g::h::i::k::j::s:=by
 match t,l with
 | a::b::c::d::e::f::g::h::i::k::j::s,_=>exact⟨a,b,c,d,e,f,g,h,i,k,j,s,rfl⟩
def qe(m:ah)(g e:Int)(a:Ending):Prop:=match cR m with
 | none=>∃d,Bb d/\a=.returned (.tuple #[d,.bool false])
 | some (q,h,i,c,b,j,v)=>a=.returned (.tuple #[cP g e 1 0 0 (if b=true then 1 else 0) q (aU h) i c b j v,.bool true])
theorem qA{m:ah}{h c:Int}{a:Value}{b:Bool}(d:cR m=none)(e:b=false)(g:Bb a:=by exact⟨_,_,_,_,_,_,_,_,_,_,_,_,_,rfl⟩):qe m h c (.returned (.tuple #[a,.bool b])):=by unfold qe;rw[d,e];exact⟨a,g,rfl⟩
theorem D_{P:Prop}(h:P:=by
 have xx:b8≠false:=fun h=>hb3 (j1 (j2 (j3 (j4 (j5 (j6 (j7 (j8 h).1).1).1).1).1).1).1).1;rcases h10 with h10|h10
 ·rw[h10];refine(DH id bits m w hm hl e1 e2 e3).mono ?_;rintro e w' ⟨rfl,hb⟩;exact⟨qA hno (by cases nQ;exact absurd rfl hb3;rfl),hb⟩
 ·rw[h10];refine(F6 id bits m w hm hl e1 e2 e3 f1 f2 f3 f4 f5 f6 f7 f8 kF rfl).mono ?_;rintro e w' ⟨rfl,hb⟩;exact⟨qA hno (by cases b8;exact absurd rfl xx;rfl),hb⟩):P:=h
theorem NY(m:ah)(id bits:Int)(w:World)(hm:12<=m.length)(hl:m.length<=140737488355328):az 72 #[.agg #[ak id,ak bits,ak (aG m 4),ak (aG m 6),ak (aG m 8),ak (aG m 10)],au m] w fun e w'=>qe m id bits e/\ax w w':=by
 by_cases aV:aG m 4=1/\aG m 6=0/\aG m 8=0/\(aG m 10=0\/aG m 10=1)
 case neg =>
  refine(Tr id bits _ _ _ _ m w ae).mono ?_;rintro e w' ⟨rfl,hb⟩;exact⟨qA (by unfold cR;rw[ay ae]) rfl,hb⟩
 obtain⟨h4,aP,aQ,h10⟩:=aV;have D:cR m=match gg (m.length+1) (m.drop 12) []with
  | none=>none
  | some (A,t) =>
   if 255<m.length-t.length-12\/t.length<4 then none
   else if aG m 10=0 then(if t.length=4 then some ((m.drop 12).take (m.length-t.length+4-12),A,aG t 0,aG t 2,false,0,0)else none)
   else if t.length<15\/t.getD 4 0≠0\/aG t 5≠41\/15+aG t 13≠t.length then none
   else some ((m.drop 12).take (m.length-t.length+4-12),A,aG t 0,aG t 2,true,aG t 7,(t.getD 10 0).toNat):=by
  unfold cR;rw[ar ae];rfl
 have L:(m.drop 12).length=m.length-12:=c8;rw[h4,aP,aQ];obtain⟨⟨A,aa,O⟩,e1⟩:∃i,jG (m.drop 12) false=i:=⟨_,rfl⟩
 obtain⟨⟨a6,P,R⟩,e2⟩:∃i,bS aa O=i:=⟨_,rfl⟩
 obtain⟨⟨a4,ab,nQ⟩,e3⟩:∃i,bS P R=i:=⟨_,rfl⟩
 obtain⟨⟨bd,ac,F⟩,f1⟩:∃i,bZ ab nQ=i:=⟨_,rfl⟩
 obtain⟨⟨a7,ad,G⟩,f2⟩:∃i,bS ac F=i:=⟨_,rfl⟩
 obtain⟨⟨bf,af,H⟩,f3⟩:∃i,bS ad G=i:=⟨_,rfl⟩
 obtain⟨⟨be,ag,I⟩,f4⟩:∃i,bZ af H=i:=⟨_,rfl⟩
 obtain⟨⟨a3,ai,J⟩,f5⟩:∃i,bZ ag I=i:=⟨_,rfl⟩
 obtain⟨⟨Q,C⟩,f6⟩:∃i,hV 2 ai J=i:=⟨_,rfl⟩
 obtain⟨⟨N,aj,K⟩,f7⟩:∃i,bS Q C=i:=⟨_,rfl⟩
 obtain⟨⟨al,b8⟩,f8⟩:∃i,hV N aj K=i:=⟨_,rfl⟩
 have kF:N<=65535:=by have:=Q2 Q C;rw[f7]at this;exact Nat.le_of_lt_succ this
 have V:R=false->O=false/\∃a b d,aa=a::b::d:=fun h=>r7 (by rw[e2];exact h);have W:nQ=false->R=false/\∃a b d,P=a::b::d:=fun h=>r7 (by rw[e3];exact h);have j1:F=false->nQ=false/\∃c d,ab=c::d:=fun h=>ug (by rw[f1];exact h);have j2:G=false->F=false/\∃a b d,ac=a::b::d:=fun h=>r7 (by rw[f2];exact h);have j3:H=false->G=false/\∃a b d,ad=a::b::d:=fun h=>r7 (by rw[f3];exact h);have j4:I=false->H=false/\∃c d,af=c::d:=fun h=>ug (by rw[f4];exact h);have j5:J=false->I=false/\∃c d,ag=c::d:=fun h=>ug (by rw[f5];exact h);have j6:C=false->J=false/\2<=ai.length:=fun h=>L_ (by rw[f6];exact h);have j7:K=false->C=false/\∃a b d,Q=a::b::d:=fun h=>r7 (by rw[f7];exact h);have j8:b8=false->K=false/\N<=aj.length:=fun h=>L_ (by rw[f8];exact h);rcases NV (m.drop 12) (m.length+1) (by rw[L];omega)with⟨Z,t,q1,q2,q3,q4⟩|⟨q1,q2⟩
 case inr =>
  have hno:cR m=none:=by
   rw[D];cases T:gg (m.length+1) (m.drop 12) []with
   | none=>rfl
   | some i =>
    obtain⟨Z,t⟩:=i;have:=q1 Z t T;have:=C8 T;show(if _ then none else _)=none;rw[ay (.inl ae)]
  rw[e1]at q2;have aU:O=true:=q2;have hb3:nQ≠false:=fun h=>by have:=(V (W h).1).1;rw[aU]at this;cases this
  exact D_
 rw[e1]at q4;obtain⟨u1,an⟩:=ev q4;obtain⟨u2,u3⟩:=ev an;have ao:=u2.symm;subst u1 ao u3;rw[q1]at D;by_cases B:t.length<4
 case pos =>
  have hno:cR m=none:=by
   rw[D];show(if _ then none else _)=none;rw[ay (.inr B)]
  have hb3:nQ≠false:=fun h=>by
   obtain⟨h2,a,b,d,e⟩:=W h;obtain⟨_,a0,a2,aZ,aC⟩:=V h2;rw[aC]at e2 B;rw[qd]at e2;have:aZ=P:=(ev (ev e2).2).1;rw[this,e]at B;simp at B;omega
  exact D_
 obtain⟨a,b,c,g,s,rfl⟩:=NW (t:=t) ae;rw[qd]at e2;obtain⟨rfl,aD⟩:=ev e2;obtain⟨rfl,rfl⟩:=ev aD;rw[qd]at e3;obtain⟨rfl,aE⟩:=ev e3;obtain⟨rfl,rfl⟩:=ev aE;have X:(a::b::c::g::s).length=s.length+4:=am;have aB:(m.drop 12).take ((m.drop 12).length-s.length)=(m.drop 12).take (m.length-(a::b::c::g::s).length+4-12):=by
  rw[L,X]at *;congr 1;omega
 have aY:¬(255<m.length-(a::b::c::g::s).length-12\/(a::b::c::g::s).length<4):=by rw[L]at q3;omega
 have j:cR m=if aG m 10=0 then(if(a::b::c::g::s).length=4 then some ((m.drop 12).take (m.length-(a::b::c::g::s).length+4-12),A,aG (a::b::c::g::s) 0,aG (a::b::c::g::s) 2,false,0,0)else none)
   else if(a::b::c::g::s).length<15\/(a::b::c::g::s).getD 4 0≠0\/aG (a::b::c::g::s) 5≠41\/15+aG (a::b::c::g::s) 13≠(a::b::c::g::s).length then none
   else some ((m.drop 12).take (m.length-(a::b::c::g::s).length+4-12),A,aG (a::b::c::g::s) 0,aG (a::b::c::g::s) 2,true,aG (a::b::c::g::s) 7,((a::b::c::g::s).getD 10 0).toNat):=by
  rw[D];show(if _ then none else _)=_;rw[ar aY]
 rw[<- aB]at j;have aS:aG (a::b::c::g::s) 0=a.toNat*256+b.toNat:=uh a b _;have aT:aG (a::b::c::g::s) 2=c.toNat*256+g.toNat:=uh c g s;rw[aS,aT]at j;rcases h10 with h10|h10
 ·rw[h10];refine(DH id bits m w hm hl e1 rfl rfl).mono ?_;rintro e w' ⟨rfl,hb⟩;refine⟨?_,hb⟩;rw[ay h10,X]at j;cases s with
  | nil =>
   rw[ay am]at j;unfold qe;rw[j];rfl
  | cons i s =>
   rw[ar am]at j;exact qA j rfl
 ·rw[h10];refine(F6 id bits m w hm hl e1 rfl rfl f1 f2 f3 f4 f5 f6 f7 f8 kF rfl).mono ?_;rintro e w' ⟨rfl,hb⟩;refine⟨?_,hb⟩;rw[ar ae]at j;by_cases a5:s.length<11
  ·rw[ay (.inl ae)]at j;refine qA j ?_;cases b8
   ·exfalso;obtain⟨rfl,Y⟩:=C4 f8;obtain⟨rfl,a1⟩:=C3 f7;obtain⟨rfl,bc⟩:=C4 f6;obtain⟨rfl,bb⟩:=C2 f5;obtain⟨rfl,ba⟩:=C2 f4;obtain⟨rfl,a_⟩:=C3 f3;obtain⟨rfl,a9⟩:=C3 f2;obtain⟨_,a8⟩:=C2 f1;omega
   ·rfl
  ·obtain⟨k,o,p,q,r,z,y,u,x,n,l,d,rfl⟩:=NX (t:=s) ae;rw[C5]at f1;obtain⟨rfl,aF⟩:=ev f1;obtain⟨rfl,rfl⟩:=ev aF;rw[qd]at f2;obtain⟨rfl,aH⟩:=ev f2;obtain⟨rfl,rfl⟩:=ev aH;rw[qd]at f3;obtain⟨rfl,aI⟩:=ev f3;obtain⟨rfl,rfl⟩:=ev aI;rw[C5]at f4;obtain⟨rfl,ap⟩:=ev f4;obtain⟨rfl,rfl⟩:=ev ap;rw[C5]at f5;obtain⟨rfl,aq⟩:=ev f5;obtain⟨rfl,rfl⟩:=ev aq;have aw:hV 2 (u::x::n::l::d) false=(n::l::d,false):=by unfold hV;rw[ay am];rfl
   rw[aw]at f6;obtain⟨rfl,rfl⟩:=ev f6;rw[qd]at f7;obtain⟨rfl,aJ⟩:=ev f7;obtain⟨rfl,rfl⟩:=ev aJ;have aM:(a::b::c::g::k::o::p::q::r::z::y::u::x::n::l::d).getD 4 0=k:=rfl;have aN:aG (a::b::c::g::k::o::p::q::r::z::y::u::x::n::l::d) 5=o.toNat*256+p.toNat:=uh o p [];have aO:aG (a::b::c::g::k::o::p::q::r::z::y::u::x::n::l::d) 7=q.toNat*256+r.toNat:=uh q r [];have aL:aG (a::b::c::g::k::o::p::q::r::z::y::u::x::n::l::d) 13=n.toNat*256+l.toNat:=uh n l [];have aK:(a::b::c::g::k::o::p::q::r::z::y::u::x::n::l::d).getD 10 0=y:=rfl;rw[aM,aN,aO,aL,aK]at j;have aW:(a::b::c::g::k::o::p::q::r::z::y::u::x::n::l::d).length=d.length+15:=am;rw[aW]at j;have aX:k=0 ↔ k.toNat=0:=⟨fun h=>ng,fun h=>lX h⟩
   generalize n.toNat*256+l.toNat=S at *;generalize o.toNat*256+p.toNat=E at *;by_cases M:k=0/\E=41/\S=d.length
   ·obtain⟨U,rfl,rfl⟩:=M;rw[ar (by rintro(h|h|h|h);omega;exact h U;omega;omega)]at j;have aA:hV d.length d false=([],false):=by unfold hV;rw[ay av,kN]
    rw[aA]at f8;obtain⟨rfl,rfl⟩:=ev f8;unfold qe;rw[j,U];rfl
   ·rw[ay (by
     by_cases h1:k=0
     ·by_cases h2:E=41
      ·exact .inr (.inr (.inr fun h=>M ⟨h1,h2,ae⟩))
      ·exact .inr (.inr (.inl h2))
     ·exact .inr (.inl h1))]at j
    refine qA j ?_;cases b8
    ·obtain⟨_,Y⟩:=C4 f8;cases al with
     | cons i al=>simp
     | nil =>
      have aR:S=d.length:=by simpa using Y.symm
      by_cases h1:k.toNat=0
      ·have h2:E≠41:=fun h=>M ⟨aX.2 h1,h,aR⟩;simp[h2]
      ·simp[h1]
    ·rfl
theorem NZ(Q i b:Nat)(e ap g h k l sz j:Int)(o:Bool)(m p n:ah)(L:ah)(F:World->Value->Value->Value->Value->Value->Prop)(w:World)(h1:(bits .and .i64 b 32768 != 0)=false)(h2:(bits .and .i64 b 30720 != 0)=false)(aa:az 70 #[au m] w (aP (.tuple #[.agg #[ak i,ak b,ak e,ak ap,ak g,ak h],.bool true]) w))(ab:∀c,az 72 #[.agg #[ak i,ak b,ak e,ak ap,ak g,ak h],au m] c (aP (.tuple #[cP i b e ap g h p n k l o sz j,.bool true]) c))(Y:∀c,ax w c->az 74 #[cP i b e ap g h p n k l o sz j,aO Q] c fun B d=>(∃r t u x y,B=.returned (.agg #[r,t,u,x,y])/\F d r t u x y)/\ax c d)(ac:∀c r t u x y,ax w c->F c r t u x y->az 73 #[cP i b e ap g h p n k l o sz j,.agg #[r,t,u,x,y]] c (aP (au L) c)):az 27 #[aO Q,au m] w (aP (au L) w):=by
 have R:=af aa;have J:=af ab;have K:=af Y;have I:=af ac;clear aa ab Y ac;unfold cP at J K I;go_enter func27,ntmps27;go_wp2_with fail;refine R.mono ?_;rintro B aN ⟨rfl,N⟩;have W:=af N;have aI:=N.size;clear N;go_wp2_with fail;refine(J _).mono ?_;rintro B a ⟨rfl,Z⟩;have M:ax w a:=(W.alloc aI _).trans (Z.mono aA);have U:=af M;have aJ:=M.size;clear Z M W J R;go_wp2_with fail;have X:gh (a.alloc (.cells #[.int .i64 i,.int .i64 b,.int .i64 e,.int .i64 ap,.int .i64 g,.int .i64 h,.string (ai p),.string (ai n),.int .i64 k,.int .i64 l,.bool o,.int .i64 sz,.int .i64 j] 137)) a.heap.size i b e ap g h p n k l o sz j:=World.alloc_heap_new a _;have S:ax w (a.alloc (.cells #[.int .i64 i,.int .i64 b,.int .i64 e,.int .i64 ap,.int .i64 g,.int .i64 h,.string (ai p),.string (ai n),.int .i64 k,.int .i64 l,.bool o,.int .i64 sz,.int .i64 j] 137)):=U.alloc aJ _;clear U;generalize (a.alloc (.cells #[.int .i64 i,.int .i64 b,.int .i64 e,.int .i64 ap,.int .i64 g,.int .i64 h,.string (ai p),.string (ai n),.int .i64 k,.int .i64 l,.bool o,.int .i64 sz,.int .i64 j] 137))=z at *;have P:∀c q:World,ax c q->(c.cell? (aq a.heap.size 0)=some (ak i)/\c.cell? (aq a.heap.size 1)=some (ak b)/\c.cell? (aq a.heap.size 2)=some (ak e)/\c.cell? (aq a.heap.size 3)=some (ak ap)/\c.cell? (aq a.heap.size 4)=some (ak g)/\c.cell? (aq a.heap.size 5)=some (ak h)/\c.cell? (aq a.heap.size 6)=some (au p)/\c.cell? (aq a.heap.size 7)=some (au n)/\c.cell? (aq a.heap.size 8)=some (ak k)/\c.cell? (aq a.heap.size 9)=some (ak l)/\c.cell? (aq a.heap.size 10)=some (.bool o)/\c.cell? (aq a.heap.size 11)=some (ak sz)/\c.cell? (aq a.heap.size 12)=some (ak j))->(q.cell? (aq a.heap.size 0)=some (ak i)/\q.cell? (aq a.heap.size 1)=some (ak b)/\q.cell? (aq a.heap.size 2)=some (ak e)/\q.cell? (aq a.heap.size 3)=some (ak ap)/\q.cell? (aq a.heap.size 4)=some (ak g)/\q.cell? (aq a.heap.size 5)=some (ak h)/\q.cell? (aq a.heap.size 6)=some (au p)/\q.cell? (aq a.heap.size 7)=some (au n)/\q.cell? (aq a.heap.size 8)=some (ak k)/\q.cell? (aq a.heap.size 9)=some (ak l)/\q.cell? (aq a.heap.size 10)=some (.bool o)/\q.cell? (aq a.heap.size 11)=some (ak sz)/\q.cell? (aq a.heap.size 12)=some (ak j)):=fun c q C H=>by
  have A:∀(G:Addr) (v:Value),c.cell? G=some v->q.cell? G=some v:=fun G v H=>(C.cell (ef c G H)).trans H;obtain⟨al,am,av,aw,ay,aB,aC,aD,aE,aF,an,ao,ar⟩:=H;exact⟨A _ _ al,A _ _ am,A _ _ av,A _ _ aw,A _ _ ay,A _ _ aB,A _ _ aC,A _ _ aD,A _ _ aE,A _ _ aF,A _ _ an,A _ _ ao,A _ _ ar⟩
 have aK:Hid (∀c,ax w c->(c.cell? (aq a.heap.size 0)=some (ak i)/\c.cell? (aq a.heap.size 1)=some (ak b)/\c.cell? (aq a.heap.size 2)=some (ak e)/\c.cell? (aq a.heap.size 3)=some (ak ap)/\c.cell? (aq a.heap.size 4)=some (ak g)/\c.cell? (aq a.heap.size 5)=some (ak h)/\c.cell? (aq a.heap.size 6)=some (au p)/\c.cell? (aq a.heap.size 7)=some (au n)/\c.cell? (aq a.heap.size 8)=some (ak k)/\c.cell? (aq a.heap.size 9)=some (ak l)/\c.cell? (aq a.heap.size 10)=some (.bool o)/\c.cell? (aq a.heap.size 11)=some (ak sz)/\c.cell? (aq a.heap.size 12)=some (ak j))->az 74 #[(.agg #[ak i,ak b,ak e,ak ap,ak g,ak h,au p,au n,ak k,ak l,.bool o,ak sz,ak j]),aO Q] c fun B d =>
   ∃r t u x y,B=.returned (.agg #[r,t,u,x,y])/\(d.cell? (aq a.heap.size 0)=some (ak i)/\d.cell? (aq a.heap.size 1)=some (ak b)/\d.cell? (aq a.heap.size 2)=some (ak e)/\d.cell? (aq a.heap.size 3)=some (ak ap)/\d.cell? (aq a.heap.size 4)=some (ak g)/\d.cell? (aq a.heap.size 5)=some (ak h)/\d.cell? (aq a.heap.size 6)=some (au p)/\d.cell? (aq a.heap.size 7)=some (au n)/\d.cell? (aq a.heap.size 8)=some (ak k)/\d.cell? (aq a.heap.size 9)=some (ak l)/\d.cell? (aq a.heap.size 10)=some (.bool o)/\d.cell? (aq a.heap.size 11)=some (ak sz)/\d.cell? (aq a.heap.size 12)=some (ak j))/\Hid (ax w d/\F d r t u x y)):=by
  intro c C D;refine(K c C).mono ?_;rintro B d ⟨⟨r,t,u,x,y,rfl,O⟩,E⟩;exact⟨r,t,u,x,y,rfl,P c d E D,C.trans (E.mono C.size),O⟩
 have aM:Hid (∀c r t u x y,Hid (ax w c/\F c r t u x y)->(c.cell? (aq a.heap.size 0)=some (ak i)/\c.cell? (aq a.heap.size 1)=some (ak b)/\c.cell? (aq a.heap.size 2)=some (ak e)/\c.cell? (aq a.heap.size 3)=some (ak ap)/\c.cell? (aq a.heap.size 4)=some (ak g)/\c.cell? (aq a.heap.size 5)=some (ak h)/\c.cell? (aq a.heap.size 6)=some (au p)/\c.cell? (aq a.heap.size 7)=some (au n)/\c.cell? (aq a.heap.size 8)=some (ak k)/\c.cell? (aq a.heap.size 9)=some (ak l)/\c.cell? (aq a.heap.size 10)=some (.bool o)/\c.cell? (aq a.heap.size 11)=some (ak sz)/\c.cell? (aq a.heap.size 12)=some (ak j))->az 73 #[(.agg #[ak i,ak b,ak e,ak ap,ak g,ak h,au p,au n,ak k,ak l,.bool o,ak sz,ak j]),.agg #[r,t,u,x,y]] c fun B d =>
   B=.returned (au (L))/\(d.cell? (aq a.heap.size 0)=some (ak i)/\d.cell? (aq a.heap.size 1)=some (ak b)/\d.cell? (aq a.heap.size 2)=some (ak e)/\d.cell? (aq a.heap.size 3)=some (ak ap)/\d.cell? (aq a.heap.size 4)=some (ak g)/\d.cell? (aq a.heap.size 5)=some (ak h)/\d.cell? (aq a.heap.size 6)=some (au p)/\d.cell? (aq a.heap.size 7)=some (au n)/\d.cell? (aq a.heap.size 8)=some (ak k)/\d.cell? (aq a.heap.size 9)=some (ak l)/\d.cell? (aq a.heap.size 10)=some (.bool o)/\d.cell? (aq a.heap.size 11)=some (ak sz)/\d.cell? (aq a.heap.size 12)=some (ak j))/\Hid (ax w d)):=by
  intro c r t u x y aG D;obtain⟨C,O⟩:=ag aG;refine(I c _ _ _ _ _ C O).mono ?_;rintro B d ⟨rfl,E⟩;exact⟨rfl,P c d E D,C.trans (E.mono C.size)⟩
 have D:z.drew.cell? (aq a.heap.size 0)=some (ak i)/\z.drew.cell? (aq a.heap.size 1)=some (ak b)/\z.drew.cell? (aq a.heap.size 2)=some (ak e)/\z.drew.cell? (aq a.heap.size 3)=some (ak ap)/\z.drew.cell? (aq a.heap.size 4)=some (ak g)/\z.drew.cell? (aq a.heap.size 5)=some (ak h)/\z.drew.cell? (aq a.heap.size 6)=some (au p)/\z.drew.cell? (aq a.heap.size 7)=some (au n)/\z.drew.cell? (aq a.heap.size 8)=some (ak k)/\z.drew.cell? (aq a.heap.size 9)=some (ak l)/\z.drew.cell? (aq a.heap.size 10)=some (.bool o)/\z.drew.cell? (aq a.heap.size 11)=some (ak sz)/\z.drew.cell? (aq a.heap.size 12)=some (ak j):=X.cells;have T:ax w z.drew:=S.drew;have ad:=af T;clear X S T K I P
 go_region_held (fun d=>d.cell? (aq a.heap.size 0)=some (ak i)/\d.cell? (aq a.heap.size 1)=some (ak b)/\d.cell? (aq a.heap.size 2)=some (ak e)/\d.cell? (aq a.heap.size 3)=some (ak ap)/\d.cell? (aq a.heap.size 4)=some (ak g)/\d.cell? (aq a.heap.size 5)=some (ak h)/\d.cell? (aq a.heap.size 6)=some (au p)/\d.cell? (aq a.heap.size 7)=some (au n)/\d.cell? (aq a.heap.size 8)=some (ak k)/\d.cell? (aq a.heap.size 9)=some (ak l)/\d.cell? (aq a.heap.size 10)=some (.bool o)/\d.cell? (aq a.heap.size 11)=some (ak sz)/\d.cell? (aq a.heap.size 12)=some (ak j)) (first|assumption|go_keep)
  (first
   | (go_at_call 74;go_loud (refine(aK _ ad ?_).mono ?_;assumption;rintro B aQ ⟨r,t,u,x,y,rfl,aj,V⟩))
   | (go_at_call 73;go_loud (refine(aM _ _ _ _ _ _ V ?_).mono ?_;assumption;rintro B aR ⟨rfl,ae,aL⟩)))
 rename_i aH;clear aH D aj ae V;go_wp2;go_ret;exact⟨rfl,aL⟩
end Go.Proofs.YtkkpahmoljiepaaGreatDoor
