import Derived.Test.YtkkpahmoljiepaaGreatDoorJ01
import Derived.Test.YtkkpahmoljiepaaGreatDoorJ02
import Derived.RangeFuncNested
import Derived.RangeFuncBound
import Derived.Shelf.RegionOpen
import Derived.OwnWalkIn
import Derived.LoopNIn
import Derived.LoopIn
set_option maxRecDepth 1000000
set_option maxHeartbeats 12800000
set_option linter.unusedSimpArgs false
set_option linter.unusedVariables false
namespace Go.Proofs.YtkkpahmoljiepaaGreatDoor
open Go.RowKit Go.Proofs.Tryz
theorem Gw(b:Nat)(a:World):dz b a a:=⟨rfl,rfl,rfl,bb _,fun _ _ _=>rfl⟩
theorem qQ{c:Nat}{d e g:World}(a:dz c d e)(b:dz c e g):dz c d g :=
 ⟨b.os.trans a.os,b.tape.trans a.tape,b.output.trans a.output,aZ a.size b.size,fun i ao h=>(b.block i (cp ao a.size) h).trans (a.block i ao h)⟩
theorem uP{a:Nat}{b c:World}(d:dz a b c)(g:Nat)(v:Value):dz a b (c.setCell ⟨a,g,none⟩ v) :=
 qQ d ⟨rfl,rfl,rfl,by simp[World.setCell],fun h _ e=>bC _ _ _ _ e⟩
def cS(w:World)(b:Nat)(s:ah)(br:Bool):Prop:=w.heap[b]? = some (.cells #[.string (ai s),.bool br] 215)
section
variable {w:World} {b:Nat} {s:ah} {br:Bool}
theorem cS.lt(h:cS w b s br):b<w.heap.size:=(bn.1 h).1
theorem cS.cells(h:cS w b s br):w.cell? (aq b 0)=some (.string (ai s))/\w.cell? (aq b 1)=some (.bool br):=by unfold cS at h;exact Cp
theorem cS.frozen(h:cS w b s br)(i:Nat):w.frozen? (aq b i)=false:=by unfold cS at h;exact jW
theorem cS.set0(h:cS w b s br)(t:ah):cS (w.setCell ⟨b,0,none⟩ (.string (ai t))) b t br:=by unfold cS at *;exact gX
theorem cS.set1(h:cS w b s br)(t:Bool):cS (w.setCell ⟨b,1,none⟩ (.bool t)) b s t:=by unfold cS at *;exact gX
theorem cS.kept{w':World}{a:Nat}(c:cS w b s br)(e:dz a w w')(d:b≠a):cS w' b s br:=(e.block b c.lt d).trans c
end
theorem pG(s:ah)(a:Nat)(b:a<=s.length):(ai s).extract 0 a=ai (s.take a):=by apply uW;simp[ai,uV]
theorem qR(s:ah)(a m:Nat)(b:m=s.length):(ai s).extract a m=ai (s.drop a):=by subst b;apply uW;simp[ai,uV];exact ie am
theorem zh(b a:Nat)(s:ah)(br:Bool)(w:World)(c:cS w b s br)(j:a<=s.length)(p:s.length<=140737488355328):az 148 #[aO b,ak a] w fun i d=>i=.returned (.string (ai (s.take a)))/\cS d b (s.drop a) br/\dz b w d/\d.heap.size=w.heap.size:=by obtain⟨l,n⟩:=c.cells;have o:=c.frozen;have g:=af c;clear c;have q:=a7 s;have h:=af (pG s a j);have e:=af (qR s a _ rfl);have k:¬s.length<a:=ae;go_enter func148,ntmps148;go_wp2;go_ret;rw[ag e];refine⟨?_,g.set0 _,uP (Gw _ _) _ _,g8⟩;show Ending.returned (.string ((ai s).extract 0 a))=_;rw[ag h]
theorem zi(b c:Nat)(s:ah)(br:Bool)(w:World)(a:cS w b s br)(l:s.length<c)(k:c<=140737488355328):az 148 #[aO b,ak c] w fun g d=>g=.returned (.string (ai []))/\cS d b [] true/\dz b w d/\d.heap.size=w.heap.size:=by obtain⟨h,i⟩:=a.cells;have j:=a.frozen;have e:=af a;clear a;have n:=a7 s;go_enter func148,ntmps148;go_wp2;go_ret;exact⟨rfl,(e.set1 _).set0 [],uP (uP (Gw _ _) _ _) _ _,g8⟩
theorem Qc(b:Nat)(a:UInt8)(s:ah)(br:Bool)(w:World)(g:cS w b (a::s) br)(o:s.length<140737488355328):az 198 #[aO b] w fun e c=>e=.returned (ak a.toNat)/\cS c b s br/\dz b w c/\c.heap.size=w.heap.size:=by have d:=af (zh b 1 (a::s) br w g am aA);clear g;go_enter func198,ntmps198;go_wp2_with fail;refine d.mono ?_;rintro e p ⟨rfl,i,h,j⟩;have l:=af (aQ i (aQ h j));clear i h j d;have n:ai (List.take 1 (a::s))=⟨#[a]⟩:=rfl;rw[n];have k:Hid (wrap64 (a.toNat:Int)=a.toNat):=by{have:=dt a;show wrap64 _=_;unfold wrap64;omega};go_wp2;go_ret;refine⟨?_,l⟩;show Ending.returned (ak (wrap64 (a.toNat:Int)))=_;rw[ag k]
theorem Qd(b:Nat)(br:Bool)(w:World)(e:cS w b [] br):az 198 #[aO b] w fun d a=>d=.returned (ak 0)/\cS a b [] true/\dz b w a/\a.heap.size=w.heap.size:=by have c:=af (zi b 1 [] br w e am ae);clear e;go_enter func198,ntmps198;go_wp2_with fail;refine c.mono ?_;rintro d l ⟨rfl,h,g,i⟩;have j:=af (aQ h (aQ g i));clear h g i c;have k:ai []=⟨#[]⟩:=rfl;rw[k];go_wp2;go_ret;exact⟨rfl,j⟩
def bZ:ah->Bool->Nat×ah×Bool
 | [],_=>(0,[],true)
 | a::s,br=>(a.toNat,s,br)
theorem qS(s:ah)(br:Bool):(bZ s br).1<256:=by cases s<;>simp[bZ];exact dt _
theorem l2(s:ah)(br:Bool):(bZ s br).2.1.length<=s.length:=by cases s<;>simp[bZ]
theorem i6(b:Nat)(s:ah)(br:Bool)(w:World)(c:cS w b s br)(g:s.length<=140737488355328):az 198 #[aO b] w fun e a=>e=.returned (ak (bZ s br).1)/\cS a b (bZ s br).2.1 (bZ s br).2.2/\dz b w a/\a.heap.size=w.heap.size:=by
 cases s with
 | nil=>exact Qd b br w c
 | cons d s=>exact Qc b d s br w c (by simp at g;omega)
theorem tv(a b:Nat)(c:a<9223372036854775808)(d:b<9223372036854775808):bits .or .i64 (a:Int) (b:Int)=((a ||| b:Nat):Int):=by
 have e:a ||| b<2 ^ 63:=tl ae ae
 show IntKind.i64.wrap ((BitVec.ofInt 64 (a:Int) ||| BitVec.ofInt 64 (b:Int)).toNat:Int)=_;rw[BitVec.toNat_or,nU a ae,nU b ae];generalize a ||| b=g at *
 exact sK
theorem Qe(a b:Nat)(d:a<256)(e:b<256):bits .or .i64 ((a:Int)*256) b=((a*256+b:Nat):Int):=by have c:((a:Int)*256)=((a*256:Nat):Int):=ae;rw[c,tv _ _ ae ae,<- Nat.shiftLeft_eq a 8,Nat.shiftLeft_add_eq_or_of_lt ae]
def bS(s:ah)(br:Bool):Nat×ah×Bool :=
 let a:=bZ s br
 let b:=bZ a.2.1 a.2.2
 (a.1*256+b.1,b.2.1,b.2.2)
theorem gF(b:Nat)(s:ah)(br:Bool)(w:World)(r:cS w b s br)(x:s.length<=140737488355328):az 129 #[aO b] w fun k p=>k=.returned (ak (bS s br).1)/\cS p b (bS s br).2.1 (bS s br).2.2/\dz b w p/\p.heap.size=w.heap.size:=by have e:=af (i6 b s br w r x);have q:=af (l2 s br);have t:=qS s br;have j:Hid (bS s br=((bZ s br).1*256+(bZ (bZ s br).2.1 (bZ s br).2.2).1,(bZ (bZ s br).2.1 (bZ s br).2.2).2.1,(bZ (bZ s br).2.1 (bZ s br).2.2).2.2)):=rfl;generalize bZ s br=A at *;obtain⟨l,o,i⟩:=A;simp only at e q t j;clear r;go_enter func129,ntmps129;go_wp2_with fail;refine e.mono ?_;rintro k z ⟨rfl,c,a,d⟩;have g:=af (i6 b o i z c (aZ (ag q) x));have h:=af (aQ a d);have u:=qS o i;generalize bZ o i=B at *;obtain⟨n,D,C⟩:=B;simp only at g u j;clear c a d e;go_wp2_with fail;refine g.mono ?_;rintro k E ⟨rfl,c,a,d⟩;have y:=af (aQ c (aQ (qQ h.1 a) (d.trans h.2)));clear c a d g h;go_wp2;go_ret;rw[ag j];refine⟨?_,y⟩;show Ending.returned (ak (bits .or .i64 ((l:Int)*256) n))=.returned (ak ((l*256+n:Nat):Int));rw[Qe l n t u]
theorem Qf(a:Nat)(b:ah):e_ a b<=a:=by
 unfold e_ jz;cases b with
 | nil=>simp
 | cons c e =>{
 simp only[];split;{simp};{
 cases d:g1 a 0 (c::e)with
 | none=>simp
 | some m=>simpa using Gt _ _ _ d (b6 _)}}
theorem Qg(c:Int)(b:Nat)(a:ByteArray)(w:World)(e:bT w)(d:jB w b 0 (Cy 32 a))(g:a.size<=3000):az 170 #[ak c,aF b 0 (Cy 32 a).length (Cy 32 a).length] w (aP (.bool (cQ c (aC 32 a.data.toList))) w):=by rw[<- kY];refine PK c b _ _ w e d (fun i h=>aZ (tn 32 a i h) g) ?_;have:=iq 32 a.data.toList;rw[<- kY,bD,gn]at this;omega
theorem Es{P:Prop}(h:P:=by exact((((aR.trans (hb1.mono ae)).setCell av _).setCell av _).setCell av _).setCell av _):P:=h
theorem D1{P:Prop}(h:P:=by simp[results,results99,go_sem,kL,aj.uR,aj.zero,aj.owner,aj.aI,aj.type,aj.data,ai, bc,r0,r1,r2,r3,hz0]):P:=h
theorem Qh(s b a d c:ByteArray)(w:World)(C:bT w)(I:s.size<=3000)(A:kt s=[b,a,d,c]):az 99 #[.string s] w fun e p=>e=.returned (kL (if jh b.data.toList&&cf 86400 a.data.toList&&cQ (d_ d.data.toList) (aC 32 c.data.toList)then some (b.data.toList,e_ 86400 a.data.toList,d_ d.data.toList,c.data.toList)else none))/\ax w p:=by
 have h:=Gv s (w.alloc (.cells #[.string ⟨#[]⟩,.int .i64 0,.int .i64 0,.string ⟨#[]⟩] 47)) (C.alloc _) I;have j:=Pk s;have g:=Pl (w.alloc (.cells #[.string ⟨#[]⟩,.int .i64 0,.int .i64 0,.string ⟨#[]⟩] 47)) (kt s) (min 4 (s.size+1));rw[A]at h j g;have l:bT ((w.alloc (.cells #[.string ⟨#[]⟩,.int .i64 0,.int .i64 0,.string ⟨#[]⟩] 47)).alloc (.cells (Lib.cellsOf [b,a,d,c] (min 4 (s.size+1))) 9)):=(C.alloc _).alloc _;have z:ax w ((w.alloc (.cells #[.string ⟨#[]⟩,.int .i64 0,.int .i64 0,.string ⟨#[]⟩] 47)).alloc (.cells (Lib.cellsOf [b,a,d,c] (min 4 (s.size+1))) 9)) := (aE.alloc av _).alloc am _;have r0:((w.alloc (.cells #[.string ⟨#[]⟩,.int .i64 0,.int .i64 0,.string ⟨#[]⟩] 47)).alloc (.cells (Lib.cellsOf [b,a,d,c] (min 4 (s.size+1))) 9)).cell? (aq w.heap.size 0)=some (.string ⟨#[]⟩):=am;have r1:((w.alloc (.cells #[.string ⟨#[]⟩,.int .i64 0,.int .i64 0,.string ⟨#[]⟩] 47)).alloc (.cells (Lib.cellsOf [b,a,d,c] (min 4 (s.size+1))) 9)).cell? (aq w.heap.size 1)=some (ak 0):=am;have r2:((w.alloc (.cells #[.string ⟨#[]⟩,.int .i64 0,.int .i64 0,.string ⟨#[]⟩] 47)).alloc (.cells (Lib.cellsOf [b,a,d,c] (min 4 (s.size+1))) 9)).cell? (aq w.heap.size 2)=some (ak 0):=am;have r3:((w.alloc (.cells #[.string ⟨#[]⟩,.int .i64 0,.int .i64 0,.string ⟨#[]⟩] 47)).alloc (.cells (Lib.cellsOf [b,a,d,c] (min 4 (s.size+1))) 9)).cell? (aq w.heap.size 3)=some (.string ⟨#[]⟩):=am;have O:∀E,((w.alloc (.cells #[.string ⟨#[]⟩,.int .i64 0,.int .i64 0,.string ⟨#[]⟩] 47)).alloc (.cells (Lib.cellsOf [b,a,d,c] (min 4 (s.size+1))) 9)).frozen? (aq w.heap.size E)=false:=by intro E;simp
 have N:w.heap.size+1<((w.alloc (.cells #[.string ⟨#[]⟩,.int .i64 0,.int .i64 0,.string ⟨#[]⟩] 47)).alloc (.cells (Lib.cellsOf [b,a,d,c] (min 4 (s.size+1))) 9)).heap.size:=am;rw[cv]at g h;generalize (w.alloc (.cells #[.string ⟨#[]⟩,.int .i64 0,.int .i64 0,.string ⟨#[]⟩] 47)).alloc (.cells (Lib.cellsOf [b,a,d,c] (min 4 (s.size+1))) 9)=i at *;have K:i.cell? (aq (w.heap.size+1) 0)=some (.string b):=g.2 0 am;have ap:i.cell? (aq (w.heap.size+1) 1)=some (.string a):=g.2 1 am;have L:i.cell? (aq (w.heap.size+1) 2)=some (.string d):=g.2 2 am;have M:i.cell? (aq (w.heap.size+1) 3)=some (.string c):=g.2 3 am;have Q:b.size<=3000:=by have:=j b am;omega
 have R:a.size<=3000:=by have:=j a am;omega
 have J:c.size<=3000:=by have:=j c am;omega
 have x:b.size<=maxLen:=gW
 have F:a.size<=maxLen:=gW
 simp only[bi,cW,cT,Nat.reduceAdd]at h;have hz0:w.heap.size<i.heap.size:=ae;have q:=af h;have aR:=af z;clear h z g j A;cases S:jh b.data.toList;{go_enter func99,ntmps99;go_wp2_with fail;refine q.mono ?_;rintro e p ⟨rfl,rfl⟩;go_wp2_with fail;refine(ts b _ l x).mono ?_;rintro e G ⟨rfl,hb1⟩;obtain⟨bc,n⟩:=vf hb1;go_wp2_with fail;refine cc (v:=kL none) (by simp[results,results99,go_sem,kL,aj.uR,aj.zero,aj.owner,aj.aI,aj.type,aj.data,ai,bc,r0,r1,r2,r3,hz0]) rfl ⟨am,?_⟩;exact Es};cases T:cf 86400 a.data.toList;{go_enter func99,ntmps99;go_wp2_with fail;refine q.mono ?_;rintro e p ⟨rfl,rfl⟩;go_wp2_with fail;refine(ts b _ l x).mono ?_;rintro e G ⟨rfl,hb1⟩;obtain⟨bc,n⟩:=vf hb1;go_wp2_with fail;refine(za a 86400 _ F ae).mono ?_;rintro e k ⟨rfl,rfl⟩;go_wp2_with fail;refine(Gr d _).mono ?_;rintro e k ⟨rfl,rfl⟩;go_wp2_with fail;refine cc (v:=kL none) D1 rfl ⟨am,?_⟩;exact Es};cases U:cQ (d_ d.data.toList) (aC 32 c.data.toList);all_goals(
 go_enter func99,ntmps99;go_wp2_with fail;refine q.mono ?_;rintro e p ⟨rfl,rfl⟩;go_wp2_with fail;refine(ts b _ l x).mono ?_;rintro e G ⟨rfl,hb1⟩;obtain⟨bc,n⟩:=vf hb1;have r:=l.below hb1;go_wp2_with fail;refine(za a 86400 _ F ae).mono ?_;rintro e k ⟨rfl,rfl⟩;go_wp2_with fail;refine(Gr d _).mono ?_;rintro e k ⟨rfl,rfl⟩;go_wp2_with fail;refine(l1 c 32 _ r ae).mono ?_;rintro e H ⟨rfl,t⟩;have o:ax k H:=by rw[t];exact aE.alloc av _
 have y:jB H k.heap.size 0 (Cy 32 c):=by rw[t];exact tp _ _
 have D:=r.below o;clear t;have P:(e_ 86400 a.data.toList:Int)<=86400:=by have:=Qf 86400 a.data.toList;omega
 go_wp2_with fail;refine(Qg _ _ c _ D y J).mono ?_;rintro e V ⟨rfl,B⟩;have u:=hb1.trans ((o.trans (B.mono o.size)).mono hb1.size);clear bc n y D o B hb1 r;obtain⟨bc,n⟩:=vf u;go_wp2_with fail)
 {refine cc (v:=kL none) D1 rfl ⟨am,?_⟩;exact((((aR.trans (u.mono ae)).setCell av _).setCell av _).setCell av _).setCell av _};{go_region;all_goals(go_wp2;refine cc (v:=kL (some (b.data.toList,e_ 86400 a.data.toList,d_ d.data.toList,c.data.toList))) (by simp[results,results99,go_sem,kL,aj.uR,aj.owner,aj.aI,aj.type,aj.data,zc,bc,r0,r1,r2,r3,hz0]) rfl ⟨am,?_⟩;exact(((((aR.trans (u.mono ae)).setCell av _).setCell av _).setCell av _).setCell av _).drew)}
theorem Gx(s:ByteArray)(w:World)(j:bT w)(k:s.size<=3000):az 99 #[.string s] w (aP (kL (ea s.data.toList)) w):=by
 by_cases b:(kt s).length=4;{
 match h:kt s,b with
 | [c,d,e,g],_ =>
 have a:ea s.data.toList=if jh c.data.toList&&cf 86400 d.data.toList&&cQ (d_ e.data.toList) (aC 32 g.data.toList)then some (c.data.toList,e_ 86400 d.data.toList,d_ e.data.toList,g.data.toList)else none:=by{unfold ea;rw[<- ze,h];rfl}
 rw[a];exact Qh s c d e g w j k h};{have a:ea s.data.toList=none:=by{unfold ea;split;{rename_i i;rw[<- ze]at i;exact absurd (by have:=bP List.length i;exact kJ) b};{rfl}};rw[a];exact Pn s w j k b}
def jI:List ah->Option (List aj)
 | []=>some []
 | a::c=>(ea a).bind fun b=>(jI c).map (b :: ·)
def fV:ah:=[111,114,105,103,105,110,32]
def l4:List ah->Option (ah×List aj)
 | []=>none
 | f::a=>if Lib.hasPrefix f fV&&dQ (Lib.trimPrefix f fV)then(jI a).map (fun rs=>(Lib.trimPrefix f fV,rs))else none
def eX(a:ah):Option (ah×List aj) :=
 if Lib.hasSuffix a [10]then l4 (aC 10 (Lib.trimSuffix a [10]))else none
def dZ(a:List aj):List Value:=a.flatMap aj.aX
theorem Qi(b:List aj)(a:aj):dZ (b++[a])=dZ b++a.aX:=by simp[dZ]
theorem tw(a:List aj):(dZ a).length=a.length*4:=by
 induction a with
 | nil=>rfl
 | cons c d b=>simp only[dZ,eT,a6]at *; rw[b];simp[aj.aX];omega
def kZ(w:World)(b:Nat)(v:Value)(a:List aj):Prop:=w.ownsRow b 47 4 v a.length (dZ a)/\(v=aJ ↔ a=[])
theorem eg{w w':World}{b c e d:Nat}{v:Value}{xs:List Value}(g:w.ownsRow b c e v d xs)(a:ax w w'):w'.ownsRow b c e v d xs :=
 g.kept (row:=none) ⟨a.os,a.tape,a.output,a.size,fun i h _=>a.block i h⟩ (Classical.em _)
theorem pH{w:World}{b c d h g:Nat}{v:Value}{i:List Value}(a:w.ownsRow b d h v g i)(t:c<=b):w.ownsRow c d h v g i:=by obtain⟨e,a|⟨l,j,k,x,u,n,o,p,q,r⟩⟩:=a;{exact⟨e,.inl a⟩};{exact⟨e,.inr ⟨l,j,k,x,aZ t u,n,o,p,q,r⟩⟩}
theorem kZ.below{w b:World}{B:Nat}{v:Value}{rs:List aj}(a:kZ w B v rs)(c:ax w b):kZ b B v rs:=⟨eg a.1 c,a.2⟩
theorem kZ.base{w:World}{a b:Nat}{v:Value}{rs:List aj}(c:kZ w a v rs)(d:b<=a):kZ w b v rs:=⟨pH c.1 d,c.2⟩
theorem Qj(s:ByteArray)(w:World)(b:bT w)(c:s.size<=3000)(a:ea s.data.toList=none):az 99 #[.string s] w (aP (.tuple #[.agg #[.string ⟨#[]⟩,ak 0,ak 0,.string ⟨#[]⟩],.bool false]) w):=by have:=Gx s w b c;rw[a]at this;exact this
theorem Qk(s:ByteArray)(a:aj)(w:World)(c:bT w)(d:s.size<=3000)(b:ea s.data.toList=some a):az 99 #[.string s] w (aP (.tuple #[.agg #[.string (ai a.owner),ak a.aI,ak a.type,.string (ai a.data)],.bool true]) w):=by have:=Gx s w c d;rw[b]at this;exact this
theorem qT:(prog.info? 47).map (fun a=>(a.zero,a.size,a.bytes))=some (some (.agg #[.string ⟨#[]⟩,ak 0,ak 0,.string ⟨#[]⟩]),4,48):=aB
theorem vi:prog.underlying 41=some (.slice 47):=aB
def tA:Value:=.tuple #[.string ⟨#[]⟩,aJ,.bool false]
def zj(a:Option (ah×List aj))(c:Nat)(b:Ending)(e:World):Prop :=
 match a with
 | none=>b=.returned tA
 | some (a,d)=>∃v,b=.returned (.tuple #[.string (ai a),v,.bool true])/\kZ e c v d
theorem zk{b:Nat}{a:Ending}{d:World}(c:a=.returned tA):zj none b a d:=c
theorem Ql(s:ByteArray)(w:World)(c:s.size<=3000)(b:Lib.hasSuffix s.data.toList [10]=false):az 56 #[.string s] w (aP tA w):=by go_enter func56,ntmps56;go_wp2_with (go_at_call 96;refine(Tryz.strings_CutSuffix s _ _ ae).mono ?_;rintro a d ⟨rfl,rfl⟩);go_ret3;exact yE
theorem Qm(a b:ah):(Lib.trimSuffix a b).length<=a.length:=by unfold Lib.trimSuffix;split;{simp};{exact bb _}
theorem Qn(a b:ah):(Lib.trimPrefix a b).length<=a.length:=by unfold Lib.trimPrefix;split;{simp};{exact bb _}
theorem Qo(s:ByteArray)(w:World)(an:bT w)(bo:s.size<=3000)(h:Lib.hasSuffix s.data.toList [10]=true):az 56 #[.string s] w fun a t=>zj (eX s.data.toList) w.heap.size a t/\ax w t:=by
 have Q:Hid (eX s.data.toList=l4 (aC 10 (Lib.trimSuffix s.data.toList [10]))):=by unfold eX;rw[Hid,ay h]
 have hcut:=Tryz.strings_CutSuffix s ⟨#[10]⟩ w ae;rw[h]at hcut;obtain⟨e,F⟩:∃e:ByteArray,⟨(Lib.trimSuffix s.data.toList [10]).toArray⟩=e:=⟨_,rfl⟩;have R:e.data.toList=Lib.trimSuffix s.data.toList [10]:=by rw[<- F]
 have ad:e.size<=3000:=by{have:=Qm s.data.toList [10];rw[<- R,gn,gn]at this;omega};have ai:az 96 #[.string s,.string ⟨#[10]⟩] w fun a t=>a=.returned (.tuple #[.string e,.bool true])/\t=w:=by rw[<- F];exact hcut
 rw[<- R,<- kY]at Q;have S:=af (tn 10 e);have aw:(Cy 10 e).length<=3001:=by{have:=iq 10 e.data.toList;rw[<- kY,bD,gn]at this;omega};have M:=tp w (Cy 10 e);have U:=l1 e 10 w an ae;have N:ax w (w.alloc (.cells ((Cy 10 e).map Value.string).toArray 9)):=aE.alloc av _;have X:1<=(Cy 10 e).length:=by have:=Gn 10 e;omega
 clear F R hcut;generalize Cy 10 e=aV at *;cases aV with
 | nil=>simp at X
 | cons f b =>
 have W:_:=M.2 0 am;have bh:=aZ (S f am) ad;have aL:∀p∈b,p.size<=3000:=fun p a1=>aZ (S p (by simp[a1])) ad;have aU:=af aL;clear aL S;generalize w.alloc (.cells ((f::b).map Value.string).toArray 9)=j at *;have bj:j.cell? (aq w.heap.size 0)=some (.string f):=W;have C:=an.below N;have bn:(b.length:Int)<=3000:=by simp at aw;omega
 rw[bi]at U;have A:=af ai;have u:=af U;have n:=af N;have aY:=af M;clear U N M ai W aw X;have aO:=Tryz.strings_CutPrefix f ⟨#[111,114,105,103,105,110,32]⟩ j;obtain⟨i,H⟩:∃i:ByteArray,⟨(Lib.trimPrefix f.data.toList fV).toArray⟩=i:=⟨_,rfl⟩;have I:i.data.toList=Lib.trimPrefix f.data.toList fV:=by rw[<- H]
 have J:i.size<=maxLen:=by{have:=Qn f.data.toList fV;rw[<- I,gn,gn]at this;unfold maxLen;omega};obtain⟨P,G⟩:=a2 (Lib.hasPrefix f.data.toList fV);have Y:az 98 #[.string f,.string ⟨#[111,114,105,103,105,110,32]⟩] j fun a t=>a=.returned (.tuple #[.string i,.bool P])/\t=j:=by rw[<- H,G];exact aO
 have y:=af Y;clear aO Y;have k:Hid (eX s.data.toList=if P&&dQ i.data.toList then(jI (b.map (·.data.toList))).map (fun g=>(i.data.toList,g))else none):=by{rw[Hid,ag Q,fl,l4,G,I]};clear Q H I G;cases P;{go_enter func56,ntmps56;go_wp2_with fail;refine A.mono ?_;rintro a w ⟨rfl,rfl⟩;go_wp2_with fail;refine u.mono ?_;rintro a j ⟨rfl,rfl⟩;go_wp2_with fail;refine y.mono ?_;rintro a j ⟨rfl,rfl⟩;go_wp2;go_ret3;rw[ag k];exact⟨zk rfl,n⟩};cases aH:dQ i.data.toList;{go_enter func56,ntmps56;go_wp2_with fail;refine A.mono ?_;rintro a w ⟨rfl,rfl⟩;go_wp2_with fail;refine u.mono ?_;rintro a j ⟨rfl,rfl⟩;go_wp2_with fail;refine y.mono ?_;rintro a j ⟨rfl,rfl⟩;go_wp2_with fail;refine(mD i _ C J).mono ?_;rintro a l ⟨rfl,o⟩;go_wp2;go_ret3;rw[ag k,aH];exact⟨zk rfl,n.trans (o.mono n.size)⟩};have Z:Hid (eX s.data.toList=(jI (b.map (·.data.toList))).map (fun g=>(i.data.toList,g))):=by{rw[Hid,ag k,aH];rfl};clear k;have k:=Z;clear Z;cases b with
 | nil =>{
 go_enter func56,ntmps56;go_wp2_with fail;refine A.mono ?_;rintro a w ⟨rfl,rfl⟩;go_wp2_with fail;refine u.mono ?_;rintro a j ⟨rfl,rfl⟩;go_wp2_with fail;refine y.mono ?_;rintro a j ⟨rfl,rfl⟩;go_wp2_with fail;refine(mD i _ C J).mono ?_;rintro a l ⟨rfl,o⟩;go_wp2_with fail;go_loop [10,41] (fun v z=>v=aJ/\z=ak 0) (fun _ _=>0);case atStart=>exact dX
 case round =>(obtain⟨rfl,rfl⟩:=hrel;go_wp2;go_ret3;rw[ag k];exact⟨⟨_,by rw[zc];rfl,e8 _ _ _ _,am⟩,n.trans (o.mono n.size)⟩)}
 | cons bb bc =>{
 generalize L:bb::bc=b at *;have bp:¬b=[]:=by rw[<- L];simp
 have br:0<b.length:=by rw[<- L];simp
 clear L;go_enter func56,ntmps56;go_wp2_with fail;refine A.mono ?_;rintro a w ⟨rfl,rfl⟩;go_wp2_with fail;refine u.mono ?_;rintro a j ⟨rfl,rfl⟩;go_wp2_with fail;refine y.mono ?_;rintro a j ⟨rfl,rfl⟩;go_wp2_with fail;refine(mD i _ C J).mono ?_;rintro a l ⟨rfl,o⟩;go_wp2_with fail;have aW:=C.below o;have E:ax w l:=n.trans (o.mono n.size);have aI:=E.size;have T:=af E;clear E;have aa:=aY.below o;have aT:=af aa;clear aa u A y;go_loopw [10,41] (fun v z wr=>∃(c:Nat) (g:List aj),c<=b.length/\z=ak c/\g.length=c/\kZ wr l.heap.size v g/\jI (b.map (·.data.toList))=(jI ((b.map (·.data.toList)).drop c)).map (g++·)/\ax l wr) (fun _ z _=>b.length-(intOf z).toNat);case atStart=>exact⟨0,[],b6 _,rfl,rfl,⟨e8 _ _ _ _,am⟩,am,bk _ _⟩
 case round =>(
 obtain⟨c,g,bm,rfl,aP,aD,ab,r⟩:=hrel;have K:=af ab;have V:=af aD;clear ab aD;have ar:=aW.below r;have bg:=r.size;by_cases O:c<b.length;{
 have bl:wr.cell? (aq w.heap.size (1+c))=some (.string b[c]):=by{have:=(aT.below r).2 (c+1) (by simpa using O);rw[show 0+(c+1)=1+c from ae]at this;simpa using this};have al:Hid ((b.map (·.data.toList)).drop c=b[c].data.toList::(b.map (·.data.toList)).drop (c+1)):=by{rw[Hid,fQ (by simpa using O),kT]};have aS:=ag aU b[c] (bM O);generalize b[c]=p at *;cases D:ea p.data.toList with
 | none =>{have x:Hid (eX s.data.toList=none):=by{rw[Hid,ag k,ag K,ag al,jI,D];rfl};go_wp2_with fail;refine(Qj p _ ar aS D).mono ?_;rintro a aQ ⟨rfl,q⟩;go_wp2;go_ret3;rw[ag x];exact⟨zk rfl,(T.trans ((r.mono aI).trans (q.mono ae))).alloc (by have:=q.size;omega) _⟩}
 | some B =>{
 obtain⟨a7,ao,a3,a4,a5⟩:=fO qT;have x:Hid (jI (b.map (·.data.toList))=(jI ((b.map (·.data.toList)).drop (c+1))).map ((g++[B])++·)):=by{rw[Hid,ag K,ag al,jI,D];simp[Option.map_map,Function.comp_def]};go_wp2_with fail;refine(Qk p B _ ar aS D).mono ?_;rintro a aQ ⟨rfl,q⟩;have aG:=V.below q;have ah:=af aG;clear aG;have bf:=q.size;go_wp2_with (at_builtin;refine vV _ rfl (.tmp 52) (.tmp 54) 41 rfl l.heap.size 47 a7 (.agg #[.string ⟨#[]⟩,ak 0,ak 0,.string ⟨#[]⟩]) 4 48 vi ao a3 a4 a5 rfl ba _ g.length (dZ g) rfl ((ah.1.alloc _).alloc _) (aq (aQ.heap.size+1) 0) 1 1 B.aX rfl rfl ?ap ?c2 ?c3 ?aK ?b9 ?_);case ap =>(
 intro a9 bd d;match a9,d with
 | 0,d=>simp[aj.aX]at d;subst d;simp[Addr.add]
 | 1,d=>simp[aj.aX]at d;subst d;simp[Addr.add]
 | 2,d=>simp[aj.aX]at d;subst d;simp[Addr.add]
 | 3,d=>simp[aj.aX]at d;subst d;simp[Addr.add]
 | bs+4,d=>simp[aj.aX]at d)
 case c2=>intro bd aM;simp[aj.aX]at aM;rcases aM with rfl|rfl|rfl|rfl<;>rfl
 case c3=>exact lC
 case aK=>omega
 case b9=>simp;omega
 intro be aR aF au aB;have ac:kZ aR l.heap.size be (g++[B]):=by{refine⟨?_,?_⟩;{rw[Qi,a6,aP];exact aF};{exact⟨fun h=>absurd h aB,fun h=>o5⟩}};have aN:ax l aR:=by{refine((((r.trans (q.mono ae)).alloc ae _).alloc aA _)).grown au aA ?_;intro a_ a8;exact(ah.1.lt a_ a8).1};have a0:=af ac;have aX:=af aN;clear ac aN aF au aB;go_wp2;go_roundw;case rel=>exact⟨c+1,g++[B],ae,bq,by simp[aP],a0,x,aX⟩
 case measure=>exact gz}};{have x:Hid (eX s.data.toList=some (i.data.toList,g)):=by{rw[Hid,ag k,ag K,jr aA];simp[jI]};go_wp2;go_ret3;rw[ag x];exact⟨⟨_,by rw[zc];rfl,V.base T.size⟩,T.trans (r.mono aI)⟩})}
theorem Qp(s:ByteArray)(w:World)(e:bT w)(c:s.size<=3000):az 56 #[.string s] w fun a d=>zj (eX s.data.toList) w.heap.size a d/\ax w d:=by
 cases b:Lib.hasSuffix s.data.toList [10];{
 have a:eX s.data.toList=none:=by unfold eX;rw[b];rfl
 rw[a];exact Ql s w c b};{exact Qo s w e c b}
def nM(w:World)(b:Nat)(v:Value)(a:List ah):Prop:=w.ownsRow b 9 1 v a.length (a.map fun c=>au c)/\(v=aJ ↔ a=[])
theorem qU:(prog.info? 9).map (fun a=>(a.zero,a.size,a.bytes))=some (some (.string ⟨#[]⟩),1,16):=aB
theorem vj:prog.underlying 49=some (.slice 9):=aB
def bX(s:ah)(br:Bool)(a:Nat):ah×ah×Bool:=if a<=s.length then(s.take a,s.drop a,br)else([],[],true)
theorem oh(s:ah)(br:Bool)(a:Nat):(bX s br a).2.1.length<=s.length:=by unfold bX;split<;>simp
theorem jF(b a:Nat)(s:ah)(br:Bool)(w:World)(e:cS w b s br)(i:a<=140737488355328)(h:s.length<=140737488355328):az 148 #[aO b,ak a] w fun g d=>g=.returned (au (bX s br a).1)/\cS d b (bX s br a).2.1 (bX s br a).2.2/\dz b w d/\d.heap.size=w.heap.size:=by by_cases c:a<=s.length;{unfold bX;rw[ay c];exact zh b a s br w e c h};{unfold bX;rw[ar c];exact zi b a s br w e ae i}
def gR:Nat->Nat->ah->Bool->Nat->List ah->List ah×ah×Bool
 | 0,_,s,br,_,b=>(b,s,br)
 | f+1,a,s,br,c,b =>
  if a=0 then(b,s,br)
  else if 63<a\/255<c+1+a then([],s,true)
  else gR f (bZ (bX s br a).2.1 (bX s br a).2.2).1 (bZ (bX s br a).2.1 (bX s br a).2.2).2.1 (bZ (bX s br a).2.1 (bX s br a).2.2).2.2 (c+1+a) (b++[(bX s br a).1])
def jG(s:ah)(br:Bool):List ah×ah×Bool:=gR 256 (bZ s br).1 (bZ s br).2.1 (bZ s br).2.2 1 []
theorem Qq{g:Nat}{w d e:World}{i:Option Nat}(a:dz g w d)(c:d.grownBy e i)(l:∀b,i=some b->w.heap.size<=b):dz g w e :=
 ⟨c.os.trans a.os,c.tape.trans a.tape,c.output.trans a.output,aZ a.size c.size,
  fun b h j=>(c.block b (cp h a.size) (fun k=>by have:=l b k.symm;omega)).trans (a.block b h j)⟩
theorem Qr{c:Nat}{w b:World}(a:dz c w b)(h:Obj):dz c w (b.alloc h) :=
 ⟨a.os,a.tape,a.output,aZ a.size am,fun g d e=>(bx _ _ _ (cp d a.size)).trans (a.block g d e)⟩
theorem Gy{w j:World}{a d:Nat}{i:TypeId}{h g:Nat}{v:Value}{k:List Value}(o:w.ownsRow a i h v g k)(r:dz d w j)(u:d<a):j.ownsRow a i h v g k:=by obtain⟨p,b⟩:=o;refine⟨p,?_⟩;rcases b with b|⟨e,l,n,rfl,q,c,t⟩;{exact .inl b};{exact .inr ⟨e,l,n,rfl,q,(r.block e (bn.1 c).1 ae).trans c,t⟩}
theorem Fy{P:Prop}(h:P:=by go_wp2;go_ret;rw[ag a_];exact⟨_,rfl,⟨e8 _ _ _ _,am⟩,AW.set1 _,uP (ag uX) _ _⟩):P:=h
theorem Qs(b:Nat)(s:ah)(br:Bool)(w:World)(h:cS w b s br)(D:s.length<=140737488355328):az 201 #[aO b] w fun k G=>∃v,k=.returned v/\nM G w.heap.size v (jG s br).1/\cS G b (jG s br).2.1 (jG s br).2.2/\dz b w G:=by
 have aa:=h.lt;have i:=af (i6 b s br w h D);have O:=af (aZ (l2 s br) D);have N:=af (qS s br);have M:Hid (jG s br=gR 256 (bZ s br).1 (bZ s br).2.1 (bZ s br).2.2 1 []):=rfl;generalize bZ s br=a1 at *;obtain⟨aR,aV,aw⟩:=a1;simp only at i O N M;clear h D;generalize jG s br=p at *;go_enter func201,ntmps201;go_wp2_with fail;refine i.mono ?_;rintro k bf ⟨rfl,V,P,be⟩;have aU:=af V;have an:=af P;clear V P i;go_wp2_with fail;go_loopw [3,4,5] (fun v E ac wr=>∃(f e a:Nat) (c:ah) (d:Bool) (g:List ah),E=ak e/\ac=ak a/\a<256/\e<=255/\256<=f+e/\0<f/\c.length<=140737488355328/\g.length<=e/\cS wr b c d/\nM wr w.heap.size v g/\dz b w wr/\p=gR f a c d e g) (fun _ E _ _=>256-(intOf E).toNat);case atStart=>exact⟨256,1,aR,aV,aw,[],rfl,rfl,N,ae,ae,ae,O,am,aU,⟨e8 _ _ _ _,am⟩,an,M⟩
 case round =>(
 obtain⟨f,e,a,c,d,g,rfl,rfl,bb,bc,a7,a8,ab,bg,t,T,F,R⟩:=hrel;have AW:=af t;have J:=af T;have uX:=af F;have j:=af R;have a9:=t.frozen;have a5:=t.cells.2;have bd:=F.size;clear t T F R;obtain⟨f,rfl⟩:∃aE,f=aE+1:=⟨f-1,ae⟩;by_cases z:a=0;{
 subst z;have a_:Hid (p=(g,c,d)):=by rw[Hid,ag j];simp[gR]
 clear j;go_wp2;go_ret;rw[ag a_];exact⟨_,rfl,J,AW,uX⟩};{
 by_cases ai:63<a\/255<e+1+a;{
 have a_:Hid (p=([],c,true)):=by rw[Hid,ag j,gR,ar z,ay ai]
 clear j;have aT:0<a:=ae;by_cases aG:63<a;{exact Fy};{have aN:255<e+1+a:=ae;exact Fy}};{
 have aT:0<a:=ae;have aG:¬63<a:=ae;have aN:¬255<e+1+a:=ae;have a_:Hid (p=gR f (bZ (bX c d a).2.1 (bX c d a).2.2).1 (bZ (bX c d a).2.1 (bX c d a).2.2).2.1 (bZ (bX c d a).2.1 (bX c d a).2.2).2.2 (e+1+a) (g++[(bX c d a).1])):=by{rw[Hid,ag j,gR,ar z,ar ai]};have y:=af (jF b a c d wr (ag AW) ae ab);have u:=af (aZ (oh c d a) ab);generalize bX c d a=a2 at *;obtain⟨r,o,n⟩:=a2;simp only at a_ y u;obtain⟨aL,ao,aI,ax,aJ⟩:=fO qU;clear j;go_wp2_with fail;refine y.mono ?_;rintro k aY ⟨rfl,W,B,Y⟩;have q:=af (Gy J.1 B aa);have x:=af W;have I:=af (qQ (ag uX) B);have aD:=af Y;clear W B Y y;go_wp2_with (at_builtin;go_loud (refine vV _ rfl (.tmp 25) (.tmp 29) 49 rfl w.heap.size 9 aL (.string ⟨#[]⟩) 1 16 vj ao aI ax aJ rfl ba _ g.length _ rfl (q.alloc _) (aq aY.heap.size 0) 1 1 [au r] rfl rfl ?ap ?c2 ?c3 ?aK ?b9 ?_));case ap =>(
 intro aP aX l;match aP,l with
 | 0,l=>simp at l;subst l;simp[Addr.add]
 | ac+1,l=>simp at l)
 case c2=>intro aX Z;simp at Z;subst Z;rfl
 case c3=>exact lC
 case aK=>omega
 case b9=>have:=ag aD;simp;omega
 intro ad H U A S;have Q:Hid (nM H w.heap.size ad (g++[r])):=by{refine⟨?_,fun h=>absurd h S,fun h=>o5⟩;rw[a6,d0];exact U};have av:=af (Qq (Qr (ag I) _) A fun aQ aM=>(q.lt aQ aM).1);have L:Hid (cS H b o n):=by{have aH:=x.lt;refine(A.block b aA ?_).trans ((bx _ _ _ aH).trans x);intro k;have:=(q.lt b k.symm).1;omega};have i:=af (i6 b o n H (ag L) (ag u));have K:=af (aZ (l2 o n) (ag u));have aj:=af (qS o n);generalize bZ o n=a3 at *;obtain⟨aS,aW,aB⟩:=a3;simp only at i K aj a_;clear U A S L x q I;go_wp2_with fail;refine i.mono ?_;rintro k a0 ⟨rfl,X,C,aF⟩;have a4:=af X;have aC:=af (qQ (ag av) C);have al:Hid (nM a0 w.heap.size ad (g++[r])):=⟨Gy Q.1 C aa,Q.2⟩;clear X C aF i;go_wp2_with fail;go_roundw;case rel=>exact⟨f,e+1+a,aS,aW,aB,g++[r],bq,rfl,aj,ae,ae,ae,K,aA,a4,al,aC,a_⟩
 case measure=>exact gz}})
def cy(w:World)(b g:Nat)(d:List aj):Prop:=b<w.heap.size/\∀a,a<d.length->∀c e,(aj.aX d[a]!)[c]? = some e->w.cell? (aq b (g+a*4+c))=some e
theorem cy.below{w h:World}{b c:Nat}{rs:List aj}(a:cy w b c rs)(d:ax w h):cy h b c rs :=
 ⟨cp a.1 d.size,fun g i e k j=>(d.cell (p:=⟨b,c+g*4+e,none⟩) a.1).trans (a.2 g i e k j)⟩
def eZ(w:World)(v:Value)(a:List aj):Prop:=(v=aJ/\a=[])\/∃b d c,v=aF b d a.length c/\a.length<=c/\cy w b d a
theorem eZ.below{w a:World}{v:Value}{rs:List aj}(h:eZ w v rs)(d:ax w a):eZ a v rs:=by rcases h with h|⟨b,j,c,i,e,g⟩;{exact iG};{exact .inr ⟨b,j,c,i,e,g.below d⟩}
theorem Gz(c:List aj)(a b:Nat)(hj:a<c.length)(ao:b<4):(dZ c)[a*4+b]? = (aj.aX c[a]!)[b]?:=by
 induction c generalizing a with
 | nil=>simp at hj
 | cons d e i =>{
 have g:dZ (d::e)=d.aX++dZ e:=by simp[dZ]
 have h:d.aX.length=4:=rfl;rw[g];cases a with
 | zero=>rw[pv ae];simp
 | succ a =>{rw[lT ae,h,show(a+1)*4+b-4=a*4+b from ae,i a uD];simp}}
theorem GA{w:World}{b i:Nat}{h:List aj}(j:b<w.heap.size)(a:∀c e,(dZ h)[c]? = some e->w.cell? (aq b (i+c))=some e):cy w b i h:=by refine⟨j,fun c k d e g=>?_⟩;have ao:d<4:=by{rcases zO d 4 with a|a;{exact a};{rw[zD (by simpa [aj.aX]using a)]at g;cases g}};have:=a (c*4+d) e (by rw[Gz h c d k ao];exact g);rwa [<- nE]at this
theorem kZ.rv{w:World}{d:Nat}{v:Value}{rs:List aj}(b:kZ w d v rs):eZ w v rs:=by obtain⟨⟨u,b|⟨h,e,g,n,t,c,i,q,r,j⟩⟩,l⟩:=b;{exact .inl ⟨b.1,l.1 b.1⟩};{refine .inr ⟨h,0,e,n,i,GA (bn.1 c).1 fun o p a=>?_⟩;have k:g[o]? = some p:=by{rw[<- j]at a;have x:=(fy.1 a).1;rw[lU]at a;split at a;{simpa using a};{cases a}};simp[World.cell?,c,k]}
theorem cy.drop{w:World}{b c:Nat}{rs:List aj}(e:cy w b c rs)(k:Nat):cy w b (c+k*4) (rs.drop k):=by refine⟨e.1,fun a i d j g=>?_⟩;rw[c8]at i;have h:(rs.drop k)[a]! = rs[k+a]!:=am;rw[h]at g;have:=e.2 (k+a) ae d j g;rwa [show c+(k+a)*4+d=c+k*4+a*4+d from ae]at this
theorem cy.take{w:World}{b e:Nat}{rs:List aj}(h:cy w b e rs)(d:Nat):cy w b e (rs.take d):=by refine⟨h.1,fun a i j k c=>?_⟩;rw[de]at i;have g:(rs.take d)[a]! = rs[a]!:=by{rw[GQ,GQ,lU,ay ae]};rw[g]at c;exact h.2 a ae j k c
theorem cy.four{w:World}{b c:Nat}{rs:List aj}(g:cy w b c rs)(a:Nat)(d:a<rs.length):w.cell? (aq b (c+a*4))=some (.string (ai rs[a].owner))/\w.cell? (aq b (c+a*4+1))=some (ak rs[a].aI)/\w.cell? (aq b (c+a*4+2))=some (ak rs[a].type)/\w.cell? (aq b (c+a*4+3))=some (.string (ai rs[a].data)):=by have e:rs[a]! = rs[a]:=qM rs a d;have:=g.2 a d;rw[e]at this;exact⟨this 0 _ rfl,this 1 _ rfl,this 2 _ rfl,this 3 _ rfl⟩
def gt(a:Int)(b:aj):Bool:=b.type==a
theorem Qt(a:aj)(d:Int)(c:Nat)(b:World)(g:b.cell? (aq c 0)=some (ak d))(e:c<b.heap.size):az 172 #[.agg #[au a.owner,ak a.aI,ak a.type,au a.data],aO c] b (aP (.bool (gt d a)) b):=by go_enter func172,ntmps172;go_wp2;go_ret;exact uB
theorem Qu(b:Int)(a:Nat)(w:World)(g:w.cell? (aq a 0)=some (ak b))(c:a<w.heap.size):PredBelow prog 172 #[aO a] (fun i=>.agg (aj.aX i).toArray) (gt b) w:=by intro d h hB;refine(Qt h b a d ((hB.cell (p:=⟨a,0,none⟩) c).trans g) (cp c hB.size)).mono ?_;exact EO
theorem Qv(d:Int)(c b e g:Nat)(a:List aj)(w:World)(k:w.cell? (aq c 0)=some (ak d))(j:c<w.heap.size)(h:cy w b e a)(n:a.length<=3001):az 171 #[aF b e a.length g,.func (.func 172) #[] #[aO c]] w fun i l=>i=.returned (.bool (a.any (gt d)))/\ax w l:=by have:=AnyQ.slices_ContainsFunc Tryz.acN 4 Tryz.isAgg47 Tryz.sizeOf47 aj.aX (fun _=>rfl) (gt d) 172 #[aO c] (enters_of func172 aB rfl) b e a.length g a w (Qu d c w k j) av ae h.1 h.2;rw[dK]at this;exact this
theorem zl(a:Int)(b d e:Nat)(c:List aj)(w:World)(h:cy w b d c)(k:c.length<=3001):az 101 #[aF b d c.length e,ak a] w (aP (.bool (c.any (gt a))) w):=by have g:ax w (w.alloc (.cells #[.int .i64 a] 3)):=aE.alloc av _;have i:=af (Qv a w.heap.size b d e c (w.alloc (.cells #[.int .i64 a] 3)) am am (h.below g) k);clear h;go_enter func101,ntmps101;go_wp2_with fail;refine i.mono ?_;rintro l n ⟨rfl,j⟩;go_wp2;go_ret;exact⟨rfl,g.trans (j.mono am)⟩
theorem Qw(f:Value)(w:World):az 230 #[aJ,f] w fun a c=>a=.returned (ak (-1))/\c=w:=by
 go_enter func230,ntmps230;go_wp2_with fail;go_loop [8] (fun b=>b=ak 0) (fun _=>0);case atStart=>rfl
 case round =>(obtain rfl:=hrel;go_wp2;go_ret;exact dX)
theorem PT(d:Int)(w:World):az 101 #[aJ,ak d] w (aP (.bool false) w):=by have c:Hid (∀f w,az 171 #[aJ,f] w fun a b=>a=.returned (.bool false)/\b=w):=by{intro f w;go_enter func171,ntmps171;go_wp2_with (go_at_call 230;refine(Qw _ _).mono ?_;rintro a b ⟨rfl,rfl⟩);go_ret;exact dX};go_enter func101,ntmps101;go_wp2_with fail;refine(c _ _).mono ?_;rintro a b ⟨rfl,rfl⟩;go_wp2;go_ret;exact⟨rfl,aE.alloc av _⟩
theorem zm(a:Int)(v:Value)(c:List aj)(w:World)(h:eZ w v c)(e:c.length<=3001):az 101 #[v,ak a] w (aP (.bool (c.any (gt a))) w):=by rcases h with⟨rfl,rfl⟩|⟨b,i,d,rfl,_,g⟩;{exact PT a w};{exact zl a b i d c w g e}
def mI(c:ah)(b:List aj):Bool :=
 match b with
 | []=>false
 | a::d=>decide (b.length<=60)&&(a.owner==c&&a.type==6 && !d.any (gt 6))
theorem DK{P:Prop}(h:P:=by rintro e w' ⟨rfl,hb'⟩;go_wp2;go_ret;exact⟨cd (by rw[ag bp,ho,ht];rfl),hb'⟩):P:=h
theorem Ei{P:Prop}(h:P:=by go_enter func58,ntmps58;go_wp2;go_ret;exact yE):P:=h
theorem zn(a:ah)(v:Value)(h:List aj)(w:World)(y:eZ w v h)(x:h.length<=3001):az 58 #[au a,v] w (aP (.bool (mI a h)) w):=by
 rcases y with⟨rfl,rfl⟩|⟨b,j,k,rfl,t,g⟩;{exact Ei};cases h with
 | nil =>{exact Ei}
 | cons c d =>{
 rw[bi]at t x ⊢;obtain⟨q,_,r,_⟩:=g.four 0 am;have i:=g.drop 1;have l:cy w b j []:=⟨g.1,fun C hj=>qk⟩;simp only[i4,dT,cw,vR,List.drop_succ_cons,kg]at q r i;have o:=af i;have p:=af l;have B:=g.1;clear i l g;by_cases A:(60:Int)<(d.length:Int)+1;{have bp:Hid (mI a (c::d)=false):=by{unfold mI;rw[Hid,bi,eD ae];rfl};go_enter func58,ntmps58;go_wp2;go_ret;exact⟨cd bp.symm,bk _ _⟩};have bp:Hid (mI a (c::d)=(c.owner==a&&c.type==6 && !d.any (gt 6))):=by{unfold mI;rw[Hid,bi,eC ae];rfl};have n:((ai c.owner).toList==(ai a).toList)=(c.owner==a):=by rw[qO];rfl
 cases ho:c.owner==a;{rw[ho]at n;go_enter func58,ntmps58;go_wp2;go_ret;exact⟨cd (by rw[ag bp,ho];rfl),bk _ _⟩};rw[ho]at n;cases ht:c.type==6;{go_enter func58,ntmps58;go_wp2;go_ret;exact⟨cd (by rw[ag bp,ho,ht];rfl),bk _ _⟩};by_cases u:k=1;{subst u;obtain rfl:d=[]:=df ae;go_enter func58,ntmps58;go_wp2_with fail;refine(zl 6 b j 0 [] w (ag p) am).mono ?_;exact DK};{have z:2<=k:=ae;go_enter func58,ntmps58;go_wp2_with fail;refine(zl 6 b (j+4) _ d w (ag o) ae).mono ?_;exact DK}}
theorem oi{a b:ah}: ((ai a).toList==(ai b).toList)=(a==b):=by rw[qO];rfl
theorem PV:EqlAt prog 47 (fun a:aj=>.agg (aj.aX a).toArray) (fun a d=>a==d):=by
 refine⟨fun a d w=>?_,GuardAt.agg _ aB⟩;have u3:=underlying3;have y:=Tryz.isAgg3;have A:=Tryz.sizeOf3;have u9:=underlying9;have z:=Tryz.isAgg9;have B:=Tryz.sizeOf9;have n:prog.underlying 47=some (.struct (prog.fieldsOf 47)):=aB;have o:prog.stoodInHeld 47=false:=aB;simp only[aj.aX];rw[run_eql_struct,show(10000:Nat)=9999+1 from rfl,run_equalIn_agg w 9999 47 _ _ n o];simp only[Program.fieldsOf,underlying47];obtain⟨p,c,q,r⟩:=a;obtain⟨t,e,u,x⟩:=d;simp only[aj.owner,aj.aI,aj.type,aj.data];have g:∀b:ah,(ai b).toList=b:=fun b=>by rw[c7];rfl
 have h:((c:Int)=(e:Int))=(c=e):=by apply propext;omega
 go_simp;by_cases i:p=t<;>by_cases j:c=e<;>by_cases k:q=u<;>by_cases l:r=x<;>simp[g,h,i,j,k,l]
theorem GB(a:aj)(b d e:Nat)(c:List aj)(w:World)(h:cy w b d c)(k:c.length<=3001):az 178 #[aF b d c.length e,.agg #[au a.owner,ak a.aI,ak a.type,au a.data]] w fun g i=>g=.returned (.bool (c.any (a == ·)))/\ax w i:=by have:=AnyQ.slices_Contains Tryz.lContains 4 Tryz.isAgg47 Tryz.sizeOf47 aj.aX (fun _=>rfl) (fun a j=>a==j) PV b d c.length e c a w av ae h.2;rw[dK]at this;exact this
theorem fm{c:Nat}{a w:World}(b:Below c a w)(d:Nat):Below c a (w.drewN d):=⟨b.os,b.tape,b.output,b.size,b.block⟩
theorem vk{a:Nat}{b w:World}(c:Below a b w):Below a b w.drew:=c.drew
def kl(c:Nat):List aj->List aj->Bool
 | _,[]=>true
 | b,a::d=>a.aI==c && !b.any (a == ·)&&kl c (b++[a]) d
def rf(a:List aj):Bool :=
 match a with
 | []=>true
 | b::_=>kl b.aI [] a
theorem PW(e:aj)(g:List aj)(b i K:Nat)(w:World)(r:cy w b i (e::g))(al:(e::g).length<=3001)(ad:(e::g).length<=K):az 108 #[aF b i (e::g).length K] w (aP (.bool (rf (e::g))) w):=by
 have x:Hid (rf (e::g)=kl e.aI [] (e::g)):=rfl;obtain⟨Y,N,Z,aa⟩:=r.four 0 am;clear Z aa;simp only[i4,dT,cw]at Y N;have an:0<(e::g).length:=am;generalize X:e.aI=o at *;generalize e::g=c at *;have P:=af r;have T:=r.1;clear r X;go_enter func108,ntmps108;go_wp2_with fail;go_loopw [7] (fun D wr=>∃a:Nat,a<=c.length/\D=ak a/\kl o (c.take a) (c.drop a)=kl o [] c/\ax w wr) (fun D _=>c.length-(intOf D).toNat);case atStart=>exact⟨0,b6 _,rfl,am,bk _ _⟩
 case round =>(
 obtain⟨a,ai,rfl,J,h⟩:=hrel;have q:=af J;clear J;have z:=P.below h;have ap:wr.cell? (aq b (i+1))=some (ak o):=(h.cell (p:=⟨b,i+1,none⟩) T).trans N;have C:=h.size;have ao:b<wr.heap.size:=ae;have ac:¬b=wr.heap.size:=ae;have ab:(0:Int)<(c.length:Int):=ae;by_cases B:a<c.length;{
 obtain⟨ar,aw,ay,aB⟩:=z.four a B;have ah:(a:Int)<(c.length:Int):=ae;have A:=af (fQ B);have W:=af (du B);have F:=z.take a;have Q:=af F;have M:(c.take a).length=a:=jX
 have L:=af M;clear F M z;generalize c[a]=d at *;have I:∀k,ax wr k->∀y,az 178 #[aF b i a y,.agg #[au d.owner,ak d.aI,ak d.type,au d.data]] k (aP (.bool ((c.take a).any (d == ·))) k):=by{intro k S y;have:=GB d b i y (c.take a) k (Q.below S) (by rw[ag L];omega);rw[ag L]at this;exact this};have G:=af I;clear I;by_cases t:d.aI=o;{
 subst t;have O:((d.aI:Int) != (d.aI:Int))=false:=am;cases H:(c.take a).any (d == ·);{
 have V:Hid (kl d.aI (c.take (a+1)) (c.drop (a+1))=kl d.aI [] c):=by{rw[Hid,<- ag q,ag A,kl,H,ag W];simp};go_wp2_with fail;go_region_with (go_at_call 178;refine((ag G) _ (by exact vk (aE.alloc av _)) _).mono ?_;rintro R E ⟨rfl,n⟩);all_goals(
 have l:ax w E:=(vk (h.alloc C _)).trans (n.mono aA);have u:=af l;clear l n;go_wp2_with fail;go_roundw;case rel=>exact⟨a+1,ae,bq,V,u⟩
 case measure=>simp[intOf];omega)};{have j:Hid (rf c=false):=by{rw[Hid,ag x,<- ag q,ag A,kl,H];simp};go_wp2_with fail;go_region_with (go_at_call 178;refine((ag G) _ (by exact vk (aE.alloc av _)) _).mono ?_;rintro R E ⟨rfl,n⟩);all_goals(have l:ax w E:=(vk (h.alloc C _)).trans (n.mono aA);have u:=af l;clear l n;go_wp2;go_ret;exact⟨cd j.symm,u⟩)}};{
 have O:((d.aI:Int) != (o:Int))=true:=o3
 have j:Hid (rf c=false):=by{have U:=eW.2 t;rw[Hid,ag x,<- ag q,ag A,kl,U];rfl};clear t;go_wp2_with fail;go_quiet (fail);go_wp2;go_ret;exact⟨cd j.symm,fm (h.alloc C _) _⟩}};{have j:Hid (rf c=true):=by{rw[Hid,ag x,<- ag q,jr ae];rfl};go_wp2;go_ret;exact⟨cd j.symm,h⟩})
def bH(a s:aj):Bool:=a.owner==s.owner&&a.type==s.type
def di(a s:aj):Bool:=a.owner==s.owner
def fd(bh:aj->aj->Bool):Nat->Nat->List aj->List (Nat×List aj)
 | 0,_,_=>[]
 | _+1,_,[]=>[]
 | f+1,c,a::b=>(c,a::b.takeWhile (bh a))::fd bh f (c+1+(b.takeWhile (bh a)).length) (b.dropWhile (bh a))
def be(bh:aj->aj->Bool)(rs:List aj):List (Nat×List aj):=fd bh rs.length 0 rs
theorem D2{P:Prop}(h:P:=by rw[ho]at mg;go_enter func177,ntmps177;go_wp2;go_ret;exact⟨cd bp.symm,0,_,by rw[Sort.alloc_eq_grow,Sort.alloc_eq_grow,Sort.grow_grow];rfl⟩):P:=h
theorem F7(a s:aj)(w:World):az 177 #[.agg #[au a.owner,ak a.aI,ak a.type,au a.data],.agg #[au s.owner,ak s.aI,ak s.type,au s.data]] w fun b e=>b=.returned (.bool (bH a s))/\∃d c,e=Sort.grow (w.drewN d) c:=by
 have mg:((ai a.owner).toList==(ai s.owner).toList)=(a.owner==s.owner):=oi;cases ho:a.owner==s.owner;{
 have bp:Hid (bH a s=false):=by unfold bH;rw[ho];rfl
 exact D2};{
 have bp:Hid (bH a s=(a.type==s.type)):=by unfold bH;rw[ho];rfl
 exact D2}
theorem F8(a s:aj)(w:World):az 180 #[.agg #[au a.owner,ak a.aI,ak a.type,au a.data],.agg #[au s.owner,ak s.aI,ak s.type,au s.data]] w fun b e=>b=.returned (.bool (di a s))/\∃d c,e=Sort.grow (w.drewN d) c:=by have g:((ai a.owner).toList==(ai s.owner).toList)=(a.owner==s.owner):=oi;go_enter func180,ntmps180;go_wp2;go_ret;exact⟨rfl,0,_,by rw[Sort.alloc_eq_grow,Sort.alloc_eq_grow,Sort.grow_grow];rfl⟩
theorem yX(bh:aj->aj->Bool):∀(f a:Nat) (l:List aj),l.length<=f->fd bh f a l=fd bh l.length a l
 | 0,a,l,c=>by obtain rfl:l=[]:=df ae;rfl
 | f+1,a,[],c=>rfl
 | f+1,a,d::b,c=>by have e:(b.dropWhile (bh d)).length<=b.length:=by{have:=bP List.length (lP (p:=bh d) (l:=b));rw[a6]at this;omega};rw[fd,bi,fd,yX bh f _ _ (by simp at c;omega),yX bh b.length _ _ e]
theorem F_(bh:aj->aj->Bool)(c:Nat)(b:aj)(a:List aj):fd bh (b::a).length c (b::a)=(c,b::a.takeWhile (bh b))::fd bh (a.dropWhile (bh b)).length (c+1+(a.takeWhile (bh b)).length) (a.dropWhile (bh b)):=by have d:(a.dropWhile (bh b)).length<=a.length:=by{have:=bP List.length (lP (p:=bh b) (l:=a));rw[a6]at this;omega};rw[bi,fd,yX bh a.length _ _ d]
theorem yY{p:aj->Bool} : ∀(l:List aj) (a:Nat) (b:a<(l.takeWhile p).length),∃d:a<l.length,p l[a]=true
 | [],a,b=>by simp at b
 | g::l,a,b=>by
  by_cases c:p g=true;{
  rw[tk c]at b;cases a with
  | zero=>exact⟨am,c⟩
  | succ a =>{obtain⟨d,e⟩:=yY l a (by simpa using b);exact⟨by simpa using d,by simpa using e⟩}};{rw[vK c]at b;simp at b}
theorem yZ{p:aj->Bool}: ∀(l:List aj) (a:(l.takeWhile p).length<l.length),p l[(l.takeWhile p).length]=false
 | [],a=>by simp at a
 | d::l,a=>by
  by_cases c:p d=true;{
  have b:((d::l).takeWhile p).length=(l.takeWhile p).length+1:=by rw[tk c];rfl
  have:=yZ l (by rw[b]at a;simpa using a);simpa [b]using this};{
  have b:((d::l).takeWhile p).length=0:=by rw[vK c];rfl
  simpa [b]using c}
theorem oj(w:World)(d:Nat)(b:Array Obj):ax w (Sort.grow (w.drewN d) b) :=
 ⟨rfl,rfl,rfl,by simp[Sort.grow,World.drewN],fun a c=>by
  show(w.heap++b)[a]? = w.heap[a]?;rw[GD c]⟩
theorem m3{w a:World}{b d:Nat}{rs:List aj}(c:cy w b d rs)(h:w.heap.size<=a.heap.size)(e:a.heap[b]? = w.heap[b]?):cy a b d rs :=
 ⟨cp c.1 h,fun k g j l i=>(b7 e).trans (c.2 k g j l i)⟩
theorem PX{w j:World}{b a h:Nat}{i:List aj}(c:cy w b a i)(d:Below h w j)(l:b<h):cy j b a i :=
 ⟨cp c.1 d.size,fun g k e o n=>(d.cell (p:=⟨b,a+g*4+e,none⟩) l).trans (c.2 g k e o n)⟩
theorem Ga(a:Option Addr)(d b c:Nat)(w:World):az 176 #[.slice a d b,.func (.func c) #[] #[]] w fun e g=>e=.returned (.func (.func 233) #[] #[aO w.heap.size,aO (w.heap.size+1)])/\g=(w.alloc (.cells #[.slice a d b] 41)).alloc (.cells #[.func (.func c) #[] #[]] 261):=by go_enter func176,ntmps176;go_wp2;go_ret;exact dX
section
attribute [local go_sem] Oper.semAt_some
theorem qV(b g t bl bs:Nat)(rs:List aj)(n:World)(ac:n.cell? (aq bl 0)=some (aF b g rs.length t)) (al:n.cell? (aq bs 0)=some (.func (.func 177) #[] #[]))(E:cy n b g rs) (Y:bl<n.heap.size) (bd:bs<n.heap.size) (bj:rs.length<=3001) (bc:rs.length<=t):jE prog 233 #[aO bl,aO bs] (fun R:Nat×List aj=>#[aF b (g+R.1*4) R.2.length R.2.length]) (be bH rs)
   (fun aC aD=>ax aC aD) (fI bl bs b) (fun _ _=>True) n:=by
 have bg:=E.1;intro l W a8 Z a5 ab h0;have ap:=af ab;have O:=af Z;clear ab Z a5;refine callsIn_of_wp func233 rfl aL ?_;simp only[ntmps233,ib,bi,cW,Nat.reduceAdd,Nat.reduceSub,h_,ik,im,il,dJ,dF];gi_wp2;gi_loopw [4] (fun s wr=>∃h k:Nat,s=ak k/\k<=rs.length/\h<=(be bH rs).length/\(be bH rs).drop h=fd bH (rs.drop k).length k (rs.drop k)/\W h wr/\fI bl bs b n wr) (fun s _=>rs.length-(intOf s).toNat);case atStart=>exact Ea
 case round =>(
 obtain⟨h,k,rfl,bh,ao,ai,az,r⟩:=hrel;have bf:=af ai;have S:=af az;clear ai az;have u:=(b7 r.2.1).trans ac;have C:=(b7 r.2.2.1).trans al;by_cases N:k<rs.length;{
 have o:=m3 E r.1 r.2.2.2;obtain⟨y,z,A,B⟩:=o.four k N;have ah:=fQ N;have av:∀m (aY:m<rs.length) (h0:k+1<=m),∃h':m-(k+1)<(rs.drop (k+1)).length,(rs.drop (k+1))[m-(k+1)]=rs[m]:=fun m aY h0=>⟨o2,by rw[o_];congr 1;omega⟩;have ar:(rs.drop (k+1)).length=rs.length-(k+1):=c8;rw[ah,F_]at bf;have aE:=af av;have a6:=af E;clear ah av o;obtain⟨j,D⟩:=a2 (((rs.drop (k+1)).takeWhile (bH rs[k])).length);have a7:j<=rs.length-(k+1):=by{rw[D,<- ar];exact(GV _).length_le};have AX:=af (yY (p:=bH rs[k]) (rs.drop (k+1)));have hend:=af (yZ (p:=bH rs[k]) (rs.drop (k+1)));rw[<- D]at AX;have dh:=af D;clear ar D y z A B;generalize am:rs[k]=d at *;have aJ:=af am;clear am;have G:Hid ((be bH rs)[h]? = some (k,d::(rs.drop (k+1)).takeWhile (bH d))):=by{have:=bP (fun l:List (Nat×List aj)=>l[0]?) (ag bf);rw[Hid];simpa using this};have V:Hid (h+1<=(be bH rs).length):=(fy.1 (ag G)).1;have GI:Hid ((rs.drop (k+1)).dropWhile (bH d)=rs.drop (k+1+j)):=by{
 have Y:rs.drop (k+1+j)=(rs.drop (k+1)).drop j:=by rw[eR]
 rw[Hid,Y,ag dh];conv=>rhs;arg 2;rw[<- lP (p:=bH d) (l:=rs.drop (k+1))]
 rw[zz]};gi_wp2_with fail;gi_loopw [5] (fun e aA=>∃m:Nat,e=ak m/\k+1<=m/\m<=k+1+j/\W h aA/\fI bl bs b n aA) (fun e _=>rs.length-(intOf e).toNat);case atStart=>exact⟨k+1,by go_num,bb _,ae,S,r⟩
 case round =>(
 clear S r u C;obtain⟨m,rfl,aG,a9,aa,i⟩:=hrel;have F:=af aa;clear aa;have u:=(b7 i.2.1).trans ac;have C:=(b7 i.2.2.1).trans al;have o:=m3 E i.1 i.2.2.2;obtain⟨y,z,A,B⟩:=o.four k N;rw[ag aJ]at y z A B;by_cases ad:m<rs.length;{
 obtain⟨aw,ay,cK,cx⟩:=o.four m ad;obtain⟨ql,hg⟩:=ag aE m ad aG;clear o;by_cases V7:m-(k+1)<j;{have a0:bH d rs[m]=true:=Em;clear hg ql;generalize rs[m]=s at *;have U:(m:Int)<(rs.length:Int):=ae;have a3:(k:Int)<(rs.length:Int):=ae;have X:=eC U;have aZ:prog.follows .mixedOrders=true:=aB;have an:=i.1;have aW:∀a c,(Sort.grow (wr.drewN a) c).cell? (aq bl 0)=some (aF b g rs.length t):=cell_grown yG u;have aX:∀a c,(Sort.grow (wr.drewN a) c).cell? (aq bs 0)=some (.func (.func 177) #[] #[]):=cell_grown yJ C;have aS:∀a c,(Sort.grow (wr.drewN a) c).cell? (aq b (g+k*4))=some (au d.owner):=cell_grown eO y;have aT:∀a c,(Sort.grow (wr.drewN a) c).cell? (aq b (g+k*4+1))=some (ak d.aI):=cell_grown eO z;have aU:∀a c,(Sort.grow (wr.drewN a) c).cell? (aq b (g+k*4+2))=some (ak d.type):=cell_grown eO A;have aV:∀a c,(Sort.grow (wr.drewN a) c).cell? (aq b (g+k*4+3))=some (au d.data):=cell_grown eO B;have I:∀a c,(Sort.grow (wr.drewN a) c).cell? (aq b (g+m*4))=some (au s.owner):=cell_grown eO aw;have aN:∀a c,(Sort.grow (wr.drewN a) c).cell? (aq b (g+m*4+1))=some (ak s.aI):=cell_grown eO ay;have aP:∀a c,(Sort.grow (wr.drewN a) c).cell? (aq b (g+m*4+2))=some (ak s.type):=cell_grown eO cK;have aQ:∀a c,(Sort.grow (wr.drewN a) c).cell? (aq b (g+m*4+3))=some (au s.data):=cell_grown eO cx;gi_wp2_with fail;refine wpIn_wide.2 ?_;go_quiet_grown ((go_at_call 177;exact Calls.grown_of (F7 d s _)));gi_wp2_with fail;exact⟨⟨m+1,by go_num,ae,ae,ag O h _ _ (ag F) (oj _ _ _),i.trans (fI.JF (oj _ _ _) ae ae ae)⟩,by exact gz⟩};{
 have w:m=k+1+j:=ae;have a0:bH d rs[m]=false:=by{
 have h':((rs.drop (k+1)).takeWhile (bH d)).length=m-(k+1):=by rw[<- ag dh];omega
 exact FT};clear hg ql;generalize rs[m]=s at *;have U:(m:Int)<(rs.length:Int):=ae;have a3:(k:Int)<(rs.length:Int):=ae;have X:=eC U;have wD:=af w;clear w;have T:Hid ((d::(rs.drop (k+1)).takeWhile (bH d)).length=m-k):=ye;have Q:Hid ((be bH rs).drop (h+1)=fd bH (rs.drop m).length m (rs.drop m)):=yP;have aZ:prog.follows .mixedOrders=true:=aB;have an:=i.1;have aW:∀a c,(Sort.grow (wr.drewN a) c).cell? (aq bl 0)=some (aF b g rs.length t):=cell_grown yG u;have aX:∀a c,(Sort.grow (wr.drewN a) c).cell? (aq bs 0)=some (.func (.func 177) #[] #[]):=cell_grown yJ C;have aS:∀a c,(Sort.grow (wr.drewN a) c).cell? (aq b (g+k*4))=some (au d.owner):=cell_grown eO y;have aT:∀a c,(Sort.grow (wr.drewN a) c).cell? (aq b (g+k*4+1))=some (ak d.aI):=cell_grown eO z;have aU:∀a c,(Sort.grow (wr.drewN a) c).cell? (aq b (g+k*4+2))=some (ak d.type):=cell_grown eO A;have aV:∀a c,(Sort.grow (wr.drewN a) c).cell? (aq b (g+k*4+3))=some (au d.data):=cell_grown eO B;have I:∀a c,(Sort.grow (wr.drewN a) c).cell? (aq b (g+m*4))=some (au s.owner):=cell_grown eO aw;have aN:∀a c,(Sort.grow (wr.drewN a) c).cell? (aq b (g+m*4+1))=some (ak s.aI):=cell_grown eO ay;have aP:∀a c,(Sort.grow (wr.drewN a) c).cell? (aq b (g+m*4+2))=some (ak s.type):=cell_grown eO cK;have aQ:∀a c,(Sort.grow (wr.drewN a) c).cell? (aq b (g+m*4+3))=some (au s.data):=cell_grown eO cx;gi_wp2_with fail;refine wpIn_wide.2 ?_;go_quiet_grown ((go_at_call 177;exact Calls.grown_of (F7 d s _)));have K:=ag O h _ _ (ag F) (oj wr nq osq);have P:=i.trans (fI.JF (oj wr nq osq) ae ae ae);have q:=ag ap h (k,d::(rs.drop (k+1)).takeWhile (bH d)) _ (ag G) K;dsimp only at q;rw[ag T]at q;obtain⟨aR,a4,aI,aK,a1,L⟩:=q;gi_wp2_with fail;refine⟨rfl,L.mono ?_⟩;rintro e aH (⟨rfl,x,M⟩|⟨rfl,su,_⟩);{have H:=af x;have J:=P.trans M;clear x;gi_wp2_with fail;exact⟨⟨h+1,m,by go_num,ae,V,Q,H,J⟩,by exact gz⟩};{gi_wp2;exact uI}}};{have w:m=k+1+j:=ae;have wD:=af w;clear w o;have X:decide ((m:Int)<(rs.length:Int))=false:=eD ae;have a_:m<=rs.length:=ae;have an:=i.1;have T:Hid ((d::(rs.drop (k+1)).takeWhile (bH d)).length=m-k):=ye;have Q:Hid ((be bH rs).drop (h+1)=fd bH (rs.drop m).length m (rs.drop m)):=yP;gi_wp2_with fail;refine wpIn_wide.2 ?_;go_quiet (fail);have K:=ag O h _ _ (ag F) (fm (bk _ wr) nq);have P:=i.trans (fI.JF (fm (bk wr.heap.size wr) nq) ae ae ae);have ba:(wr.drewN nq).cell? (aq bl 0)=some (aF b g rs.length t):=u;have q:=ag ap h (k,d::(rs.drop (k+1)).takeWhile (bH d)) _ (ag G) K;dsimp only at q;rw[ag T]at q;obtain⟨aR,a4,aI,aK,a1,L⟩:=q;gi_wp2_with fail;refine⟨rfl,L.mono ?_⟩;rintro e aH (⟨rfl,x,M⟩|⟨rfl,su,_⟩);{have H:=af x;have J:=P.trans M;clear x;gi_wp2_with fail;exact⟨⟨h+1,m,by go_num,ae,V,Q,H,J⟩,by exact gz⟩};{gi_wp2;exact uI}})};{gi_wp2;go_end0;have aM:h=(be bH rs).length:=by{have:=ag bf;rw[jr (show rs.length<=k by omega)]at this;have h':=bP List.length this;rw[c8]at h';have I:(fd bH (List.length (α:=aj) []) k []).length=0:=rfl;rw[I]at h';omega};exact⟨⟨_,rfl⟩,.inl (by rw[<- aM];exact S)⟩})
theorem PY(b n d k:Nat)(a:World)(r:a.cell? (aq d 0)=some (aJ))(j:World->World->Prop):jE prog 233 #[aO d,aO k] (fun c:Nat×List aj=>#[aF b (n+c.1*4) c.2.length c.2.length]) (be bH [])
   (fun h i=>ax h i) j (fun _ _=>True) a:=by
 intro w p q e o g l;have u:=af g;have t:=af e;clear g e o;refine callsIn_of_wp func233 rfl aL ?_;simp only[ntmps233,ib,bi,cW,Nat.reduceAdd,Nat.reduceSub,h_,ik,im,il,dJ,dF];gi_wp2;gi_loopw [4] (fun s wr=>s=ak 0/\wr=a) (fun _ _=>0);case atStart=>exact dX
 case round =>(obtain⟨rfl,rfl⟩:=hrel;gi_wp2;go_end0;exact⟨⟨_,rfl⟩,.inl l⟩)
end
end Go.Proofs.YtkkpahmoljiepaaGreatDoor
