import Derived.Test.YtkkpahmoljiepaaGreatDoorRows
import Derived.Test.YtkkpahmoljiepaaGreatDoorShelf
import Derived.RangeFuncKeeps
import Derived.Test.YtkkpahmoljiepaaGreatDoorJ00
import Derived.Test.YtkkpahmoljiepaaGreatDoorJ0a
import Derived.Test.YtkkpahmoljiepaaGreatDoorJ0t
set_option maxRecDepth 1000000
set_option maxHeartbeats 12800000
set_option linter.unusedSimpArgs false
set_option linter.unusedVariables false
namespace Go.Proofs.YtkkpahmoljiepaaGreatDoor
open Go.RowKit Go.Proofs.Tryz
abbrev ah:=List UInt8
theorem af{p:Prop}(h:p):Go.RowKit.Hid p:=h
theorem ag{p:Prop}(h:Go.RowKit.Hid p):p:=h
def vY(a:Int):Bool:=(decide (97<=a)&&decide (a<=122))||(decide (48<=a)&&decide (a<=57))||a==45||a==95
def ka(a:UInt8):Bool:=vY a.toNat
def fA(a:ah):Bool:=decide (1<=a.length)&&decide (a.length<=20)&&a.all ka
def mY(a:Int):Bool:=decide (33<=a)&&decide (a<=126)
def iL(a:ah):Bool:=a.all (fun b=>mY b.toNat)&&decide (1<=a.length)&&decide (a.length<=40)
def jp(a:Int):Bool:=decide (48<=a)&&decide (a<=57)
def g1(c:Nat):Nat->ah->Option Nat
 | a,[]=>some a
 | a,b::d=>if jp b.toNat then(if 10*a+(b.toNat-48)<=c then g1 c (10*a+(b.toNat-48)) d else none)else none
def jz(d:Nat)(c:ah):Option Nat :=
 match c with
 | []=>none
 | a::b=>if a.toNat=48/\b≠[]then none else g1 d 0 (a::b)
def d_(a:ah):Int :=
 if a=[65]then 1 else if a=[78,83]then 2 else if a=[67,78,65,77,69]then 5 else if a=[83,79,65]then 6
 else if a=[77,88]then 15 else if a=[84,88,84]then 16 else 0
theorem Gk(s:ByteArray)(a:Nat)(h:a<s.size):s.data.toList.take (a+1)=s.data.toList.take a++[s[a]]:=by rw[du kI];rfl
theorem Gl(s:ByteArray)(a:Nat)(h:a<s.size):s.data.toList.drop a=s[a]::s.data.toList.drop (a+1):=by rw[fQ kI];rfl
theorem gn(s:ByteArray):s.data.toList.length=s.size:=am
def aC(a:UInt8):ah->List ah
 | []=>[[]]
 | x::r=>if x=a then []::aC a r else match aC a r with
  | []=>[[x]]
  | b::t=>(x::b)::t
theorem io(b:UInt8)(a:ah):aC b a≠[]:=by
 cases a with
 | nil=>simp[aC]
 | cons d c =>{unfold aC;split;{simp};{split<;>simp}}
theorem m0(a:UInt8):∀(c:ah),a ∉ c->aC a c=[c]
 | [],_=>rfl
 | g::e,b=>by simp only[co,pB]at b;rw[aC,ar (fun d=>b.1 d.symm),m0 a e b.2]
theorem m1(b:UInt8):∀(c a:ah),b ∉ c->aC b (c++b::a)=c::aC b a
 | [],a,_=>by rw[dJ,aC,ay rfl]
 | h::g,a,d=>by simp only[co,pB]at d;rw[dF,aC,ar (fun e=>d.1 e.symm),m1 b g a d.2]
theorem vZ(a:UInt8):∀(c:ah),a ∉ c->Lib.indexByte c a = -1
 | [],_=>rfl
 | h::g,b=>by simp only[co,pB]at b;have e:=vZ a g b.2;unfold Lib.indexByte;rw[ar (by simpa using fun d=>b.1 d.symm),e];rfl
theorem v6(b:UInt8):∀(c a:ah),b ∉ c->Lib.indexByte (c++b::a) b=c.length
 | [],a,_=>by simp[Lib.indexByte]
 | i::h,a,d=>by simp only[co,pB]at d;have g:=v6 b h a d.2;rw[dF];unfold Lib.indexByte;rw[ar (by simpa using fun e=>d.1 e.symm),g];simp
theorem v7(b:UInt8)(c:Nat)(a:ah)(d:b ∉ a):Lib.splitK [b] 0 c a=[a]:=by
 cases c with
 | zero=>rfl
 | succ c=>rw[Lib.splitK,Lib.index_one,vZ b a d];rfl
theorem ve(a:UInt8)(d:Nat)(b c:ah)(e:a ∉ b):Lib.splitK [a] 0 (d+1) (b++a::c)=b::Lib.splitK [a] 0 d c:=by rw[Lib.splitK,Lib.index_one,v6 a b c e];rw[ar am];simp[vN]
theorem Gm(b:UInt8):∀(d:Nat) (a:ah),a.length<=d->Lib.splitK [b] 0 (a.count b) a=aC b a
 | 0,a,i=>by obtain rfl:a=[]:=df ae;rfl
 | d+1,a,i=>by
  by_cases g:b∈a;{
  obtain⟨h,c,rfl,e⟩:=sS g;have j:c.length<=d:=by simp at i;omega
  rw[List.count_append,List.count_cons_self,List.count_eq_zero.2 e,cT,ve b _ h c e,m1 b h c e,Gm b d c j]};{rw[v7 b _ a g,m0 b a g]}
def Cy(a:UInt8)(s:ByteArray):List ByteArray:=Lib.splitB ⟨#[a]⟩ 0 (Lib.countB s ⟨#[a]⟩) s
theorem kY(a:UInt8)(s:ByteArray):(Cy a s).map (·.data.toList)=aC a s.data.toList:=by unfold Cy;rw[Lib.splitB_data];have b:Lib.countB s ⟨#[a]⟩=s.data.toList.count a:=by{unfold Lib.countB;exact Lib.count_one a s.data.toList};rw[b];exact Gm a _ _ av
theorem Gn(a:UInt8)(s:ByteArray):(Cy a s).length=Lib.countB s ⟨#[a]⟩+1:=Lib.splitB_all _ av 0 _ s rfl
theorem jo(c:UInt8):∀(d:Nat) (b:ah),b.length<=d->∀e∈aC c b,e.length<=b.length
 | 0,b,h,e,a=>by obtain rfl:b=[]:=df ae;simp[aC]at a;subst a;simp
 | d+1,b,h,e,a=>by
  by_cases i:c∈b;{
  obtain⟨j,g,rfl,k⟩:=sS i;rw[m1 c j g k,co]at a;have l:g.length<=d:=by simp at h;omega
  rcases a with rfl|a;{simp};{have:=jo c d g l e a;simp;omega}};{rw[m0 c b i]at a;simp at a;subst a;exact bb _}
theorem tn(a:UInt8)(s:ByteArray)(b:ByteArray)(c:b∈Cy a s):b.size<=s.size:=by have:b.data.toList∈aC a s.data.toList:=by{rw[<- kY];exact nz c};have:=jo a _ _ av _ this;rwa [gn,gn]at this
theorem iq(a:UInt8):∀(c:ah),(aC a c).length<=c.length+1
 | []=>by simp[aC]
 | i::e=>by have b:=iq a e;unfold aC;split;{simp;omega};{split;{simp};{rename_i g h d;rw[d]at b;simp at b ⊢; omega}}
/-! ### names -/
def l0(b:Nat)(a:ah):Bool:=fA a||(b==0&&a==[42])
def jA(i:Nat):List ah->Bool
 | []=>true
 | a::b=>l0 i a&&jA (i+1) b
def jh(a:ah):Bool:=decide (a.length<=60)&&jA 0 (aC 46 a)
def i5(a:ah):Bool:=Lib.hasPrefix a [42]
def dQ(a:ah):Bool:=jh a && !i5 a
def dU(a b:ah):Bool:=a==b||Lib.hasSuffix a (46::b)
def bT(a:World):Prop:=0<a.heap.size/\∃m:Int,a.cell? (aq 0 0)=some (ak m)
theorem bT.below{w c:World}(d:bT w)(b:ax w c):bT c:=by obtain⟨a,m,e⟩:=d;exact⟨cp a b.size,m,(b.cell (p:=⟨0,0,none⟩) a).trans e⟩
theorem bT.alloc{w:World}(h:bT w)(o:Obj):bT (w.alloc o):=h.below (aE.alloc av _)
theorem vf{c e:World}(g:ax c e):(∀a b,a<c.heap.size->e.cell? (aq a b)=c.cell? (aq a b))/\(∀a b,a<c.heap.size->e.frozen? (aq a b)=c.frozen? (aq a b)) :=
 ⟨fun a b d=>g.cell (p:=⟨a,b,none⟩) d,fun a b d=>g.frozen (p:=⟨a,b,none⟩) d⟩
def jB(d:World)(b e:Nat)(c:List ByteArray):Prop:=b<d.heap.size/\∀a (g:a<c.length),d.cell? (aq b (e+a))=some (.string c[a])
theorem jB.below{w h:World}{b c:Nat}{g:List ByteArray}(a:jB w b c g)(d:ax w h):jB h b c g :=
 ⟨cp a.1 d.size,fun e i=>(d.cell (p:=⟨b,c+e,none⟩) a.1).trans (a.2 e i)⟩
theorem tp(b:World)(a:List ByteArray):jB (b.alloc (.cells (a.map Value.string).toArray 9)) b.heap.size 0 a:=by refine⟨am,fun d c=>?_⟩;rw[cT];simp[c]
theorem l1(s:ByteArray)(a:UInt8)(b:World)(e:bT b)(h:s.size<4294967281):az 97 #[.string s,.string ⟨#[a]⟩] b fun d i=>d=.returned (aF b.heap.size 0 (Cy a s).length (Cy a s).length)/\i=b.alloc (.cells ((Cy a s).map Value.string).toArray 9):=by obtain⟨_,m,g⟩:=e;have c:=Tryz.strings_Split s ⟨#[a]⟩ m b h g av;rw[<- Gn]at c;exact c
theorem cd{a b:Bool}(c:a=b):Ending.returned (.bool a)=.returned (.bool b):=by rw[c]
theorem sP{c:IntKind}{a b:Int}(d:a=b):Ending.returned (.int c a)=.returned (.int c b):=by rw[d]
theorem Gp{a b:ByteArray}(c:a.data.toList=b.data.toList):Ending.returned (.string a)=.returned (.string b):=by
 have:a=b:=by cases a;cases b;simp at c;rw[c]
 rw[this]
theorem Gq(a:UInt8)(b:World):az 240 #[.int .u8 a.toNat] b fun c d=>c=.returned (.bool (ka a))/\d=b:=by
 unfold ka;generalize (a.toNat:Int)=e;go_enter func240,ntmps240;go_wp2;all_goals(go_ret;refine⟨cd ?_,rfl⟩;unfold vY)
 all_goals (first|done|(simp[*];done)|(simp[*];omega)|(rw[i0];simp[*];omega)|trace_state)
theorem yB{P:Prop}(h:P:=by simpa using hlt):P:=h
theorem Fs{P:Prop}(h:P:=by go_enter func189,ntmps189;go_wp2;go_ret;exact⟨cd (by unfold fA;rw[gn];simp;omega),rfl⟩):P:=h
theorem vg(s:ByteArray)(b:World)(k:s.size<=maxLen):az 189 #[.string s] b fun c e=>c=.returned (.bool (fA s.data.toList))/\e=b:=by
 unfold maxLen at k;by_cases n:(s.size:Int)<1;{exact Fs};by_cases o:(20:Int)<(s.size:Int);{exact Fs};go_enter func189,ntmps189;go_wp2;go_loop [14] (fun d=>∃a:Nat,a<=s.size/\d=ak a/\(s.data.toList.take a).all ka=true) (fun d=>s.size-(intOf d).toNat);case atStart=>exact⟨0,b6 _,rfl,rfl⟩
 case round =>(
 obtain⟨a,p,rfl,h⟩:=hrel;have g:=af h;clear h;by_cases hlt:a<s.size;{
 have l:=af (Gk s a hlt);by_cases hb:ka s[a]=true;{
 go_wp2_with (go_at_call 240;refine(Gq s[a] b).mono ?_;rintro c e ⟨rfl,rfl⟩);go_round;case rel=>exact⟨a+1,ae,bq,by rw[ag l,pu,ag g];simp[hb]⟩
 case measure=>exact gz};{
 have i:ka s[a]=false:=sx
 clear hb;go_wp2_with (go_at_call 240;refine(Gq s[a] b).mono ?_;rintro c e ⟨rfl,rfl⟩);go_ret;refine⟨cd ?_,rfl⟩;have j:s[a]∈s.data.toList:=bM yB;symm;unfold fA;rw[pq];right;rw[rg];exact⟨_,j,by simp[i]⟩}};{go_wp2;go_ret;refine⟨cd ?_,rfl⟩;have:=ag g;rw[ie aA]at this;unfold fA;rw[this,gn];simp;omega})
def cf(b:Nat)(a:ah):Bool:=(jz b a).isSome
def e_(b:Nat)(a:ah):Nat:=(jz b a).getD 0
theorem Pq(s:ByteArray)(g:World)(l:s.size<=maxLen):az 229 #[.string s] g fun i n=>i=.returned (.bool (iL s.data.toList))/\n=g:=by
 unfold maxLen at l;go_enter func229,ntmps229;go_wp2
 go_loop [6] (fun d=>∃a:Nat,a<=s.size/\d=ak a/\(s.data.toList.take a).all (fun h=>mY h.toNat)=true) (fun d=>s.size-(intOf d).toNat)
 case atStart=>exact⟨0,b6 _,rfl,rfl⟩
 case round =>
  obtain⟨a,r,rfl,b⟩:=hrel;have e:=af b;clear b;by_cases hlt:a<s.size
  ·have o:=af (Gk s a hlt);by_cases j:(33:Int)<=(s[a].toNat:Int)/\(s[a].toNat:Int)<=126
   ·obtain⟨p,q⟩:=j;go_wp2
    go_round
    case rel=>exact⟨a+1,ae,bq,by rw[ag o,pu,ag e];simp[mY];omega⟩
    case measure=>exact gz
   ·have k:s[a]∈s.data.toList:=bM yB;have c:Hid (iL s.data.toList=false):=by
     unfold iL;rw[Hid,pq,pq,rg];exact .inl (.inl ⟨_,k,by simp[mY];omega⟩)
    go_wp2
    all_goals
     first
     | (exfalso;omega)
     | (go_ret
        exact⟨cd c.symm,rfl⟩)
  ·have b:=ag e;rw[ie aA]at b;have c:Hid (iL s.data.toList=(decide ((1:Int)<=s.size)&&decide ((s.size:Int)<=40))):=by
    unfold iL;rw[Hid,b,gn,nI];congr 1<;>(rw[decide_eq_decide];omega)
   clear b;go_wp2
   all_goals
    go_ret;refine⟨cd ?_,rfl⟩;rw[ag c]
    first
    | (simp[*];done)
    | (rw[i0];simp;omega)
theorem Gr(s:ByteArray)(a:World):az 169 #[.string s] a fun b c=>b=.returned (ak (d_ s.data.toList))/\c=a:=by go_enter func169,ntmps169;go_wp2;all_goals(go_ret;refine⟨sP ?_,rfl⟩;unfold d_;simp only[c7,dE,eW,ne_eq]at *;simp[*])
theorem Pr{i:Nat}{L:List ah}{k:Nat}(a:k<L.length):jA i (L.drop k)=(l0 i L[k]&&jA (i+1) (L.drop (k+1))):=by rw[fQ a];rfl
theorem ts(s:ByteArray)(b:World)(A:bT b)(B:s.size<=maxLen):az 123 #[.string s] b (aP (.bool (jh s.data.toList)) b):=by
 unfold maxLen at B;by_cases F:(60:Int)<(s.size:Int);{have c:Hid (jh s.data.toList=false):=by{unfold jh;rw[Hid,gn];simp;omega};go_enter func123,ntmps123;go_wp2;go_ret;exact⟨cd c.symm,bk _ _⟩};have p:Hid (jh s.data.toList=jA 0 (aC 46 s.data.toList)):=by{unfold jh;rw[Hid,gn];simp;omega};have o:Hid (aC 46 s.data.toList=(Cy 46 s).map (·.data.toList)):=(kY 46 s).symm;have D:=af (tn 46 s);have y:=tp b (Cy 46 s);have u:=l1 s 46 b A ae;have hb:ax b (b.alloc (.cells ((Cy 46 s).map Value.string).toArray 9)):=aE.alloc av _;have I:(Cy 46 s).length<=61:=by{have:=iq 46 s.data.toList;rw[<- kY,bD,gn]at this;omega};generalize Cy 46 s=L at *;generalize b.alloc (.cells (L.map Value.string).toArray 9)=E at *;have w:=af u;have n:=af hb;clear u hb;obtain⟨J,t⟩:=y;have x:=af t;clear t;go_enter func123,ntmps123;go_wp2_with (go_at_call 97;refine w.mono ?_;rintro g l ⟨rfl,rfl⟩);go_loop [11] (fun i=>∃k:Nat,k<=L.length/\i=ak k/\jA k ((L.map (·.data.toList)).drop k)=jA 0 (L.map (·.data.toList))) (fun i=>L.length-(intOf i).toNat);case atStart=>exact⟨0,b6 _,rfl,rfl⟩
 case round =>(
 obtain⟨k,G,rfl,q⟩:=hrel;have d:=af q;clear q;by_cases hlt:k<L.length;{
 have z:=(ag x) k hlt;rw[cT]at z;have e:=af (Pr (i:=k) (L:=L.map (·.data.toList)) (k:=k) yB);rw[kT]at e;have h:L[k].size<=maxLen:=by{have:=ag D L[k] (bM hlt);unfold maxLen;omega};generalize L[k]=a at *;by_cases hb:fA a.data.toList=true;{
 go_wp2_with (go_at_call 189;refine(vg a _ h).mono ?_;rintro g l ⟨rfl,rfl⟩);go_round;case rel=>exact⟨k+1,ae,bq,by rw[<- ag d,ag e];simp[l0,hb]⟩
 case measure=>exact gz};{
 have r:fA a.data.toList=false:=sx
 clear hb;by_cases H:(0:Int)<(k:Int);{
 have c:Hid (jh s.data.toList=false):=by{
 rw[Hid,ag p,ag o,<- ag d,ag e];have:(k==0)=false:=eP
 simp[l0,r,this]};go_wp2_with (go_at_call 189;refine(vg a _ h).mono ?_;rintro g l ⟨rfl,rfl⟩);go_ret;exact⟨cd c.symm,n⟩};{
 obtain rfl:k=0:=ae;by_cases j:a.data.toList=[42];{
 have C:(a.toList==[42])=true:=by rw[c7,j];rfl
 go_wp2_with (go_at_call 189;refine(vg a _ h).mono ?_;rintro g l ⟨rfl,rfl⟩);go_round;case rel=>exact⟨0+1,ae,bq,by rw[<- ag d,ag e];simp[l0,j]⟩
 case measure=>exact gz};{
 have C:(a.toList==[42])=false:=by rw[c7,eW];exact j
 have c:Hid (jh s.data.toList=false):=by{rw[Hid,ag p,ag o,<- ag d,ag e];simp[l0,r,j]};go_wp2_with (go_at_call 189;refine(vg a _ h).mono ?_;rintro g l ⟨rfl,rfl⟩);go_ret;exact⟨cd c.symm,n⟩}}}};{have c:Hid (jh s.data.toList=true):=by{rw[Hid,ag p,ag o,<- ag d,jr aA];rfl};go_wp2;go_ret;exact⟨cd c.symm,n⟩})
theorem Gs(s:ByteArray)(b:World):az 124 #[.string s] b fun a c=>a=.returned (.bool (i5 s.data.toList))/\c=b:=by go_enter func124,ntmps124;go_wp2_with (go_at_call 190;refine(Tryz.strings_HasPrefix s _ _).mono ?_;rintro a c ⟨rfl,rfl⟩);go_ret;exact dX
theorem mD(s:ByteArray)(c:World)(e:bT c)(g:s.size<=maxLen):az 68 #[.string s] c (aP (.bool (dQ s.data.toList)) c):=by
 cases h:jh s.data.toList
 ·have a:Hid (dQ s.data.toList=false):=by unfold dQ;rw[h];rfl
  go_enter func68,ntmps68;go_wp2_with (go_at_call 123;refine(ts s _ e g).mono ?_;rintro d i ⟨rfl,b⟩);go_ret;exact⟨cd a.symm,b⟩
 ·have a:Hid (dQ s.data.toList = !i5 s.data.toList):=by unfold dQ;rw[h];rfl
  go_enter func68,ntmps68;go_wp2_with (first
   | (go_at_call 123;refine(ts s _ e g).mono ?_;rintro d i ⟨rfl,b⟩)
   | (go_at_call 124;refine(Gs s _).mono ?_;rintro d i ⟨rfl,rfl⟩))
  go_ret;exact⟨cd a.symm,b⟩
theorem qO(s a:ByteArray):(s.toList==a.toList)=(s.data.toList==a.data.toList):=by rw[c7,c7]
theorem tt(s a:ByteArray)(e:World)(i:s.size<=1000000)(h:a.size<=1000000):az 110 #[.string s,.string a] e fun d g=>d=.returned (.bool (dU s.data.toList a.data.toList))/\g=e:=by cases b:(s.toList==a.toList);{have c:Hid (dU s.data.toList a.data.toList=Lib.hasSuffix s.data.toList (⟨#[46]⟩++a:ByteArray).data.toList):=by{rw[qO]at b;unfold dU;rw[Hid,b];simp};go_enter func110,ntmps110;go_wp2_with (go_at_call 181;refine(Tryz.strings_HasSuffix s _ _ ae).mono ?_;rintro d g ⟨rfl,rfl⟩);go_ret;exact⟨cd c.symm,rfl⟩};{have c:Hid (dU s.data.toList a.data.toList=true):=by{rw[qO]at b;unfold dU;rw[Hid,b];rfl};go_enter func110,ntmps110;go_wp2;go_ret;exact⟨cd c.symm,rfl⟩}
theorem Ps(s:ByteArray)(a:World)(d:s.size<=1000000):az 273 #[.string s] a fun b c=>b=.returned (.string ⟨(42::46::s.data.toList).toArray⟩)/\c=a:=by go_enter func273,ntmps273;go_wp2;go_ret;exact⟨Gp am,rfl⟩
theorem Gt{c:Nat}: ∀(e:ah) (b m:Nat),g1 c b e=some m->b<=c->m<=c
 | [],b,m,a,d=>by simp[g1]at a;omega
 | h::g,b,m,a,d=>by unfold g1 at a;split at a;{split at a;{exact Gt g _ m a (by assumption)};{cases a}};{cases a}
theorem uO{c:IntKind}{a b:Int}{d e:Bool}(g:a=b)(h:d=e):Ending.returned (.tuple #[.int c a,.bool d])=.returned (.tuple #[.int c b,.bool e]):=by rw[g,h]
theorem E7{P:Prop}(h:P:=by go_enter func168,ntmps168;go_wp2;go_ret2;exact⟨uO (by rw[e_,ag hn];rfl) (by rw[cf,ag hn];rfl),rfl⟩):P:=h
theorem za(s:ByteArray)(a:Nat)(q:World)(x:s.size<=maxLen)(G:a<=4294967295):az 168 #[.string s,.int .u64 a] q fun t B=>t=.returned (.tuple #[.int .u64 (e_ a s.data.toList),.bool (cf a s.data.toList)])/\B=q:=by
 unfold maxLen at x;by_cases k:s.size=0
 ·have l:s.toList=[]:=by rw[c7];exact df (by rw[gn];exact k)
  have hn:Hid (jz a s.data.toList=none):=by
   rw[<- c7,l];exact rfl
  exact E7
 have l:(s.toList==[])=false:=by
  rw[c7,eW];intro e;have:=bP List.length e;rw[gn]at this;exact k this
 have r:0<s.size:=ae;have d:=Gl s 0 r;rw[kg]at d;by_cases h:(s[0].toNat:Int)=48/\(1:Int)<s.size
 ·obtain⟨o,z⟩:=h;have hn:Hid (jz a s.data.toList=none):=by
   rw[d,jz];exact ay ⟨ae,fun e=>by have:=bP List.length e;exact nh⟩
  clear d;exact E7
 have hn:Hid (jz a s.data.toList=g1 a 0 s.data.toList):=by
  rw[d,jz];exact ar (fun e=>h ⟨ae,by
   have:s.data.toList.drop (0+1)≠[]:=e.2;rw[ne_eq,List.drop_eq_nil_iff]at this;rw[gn]at this;omega⟩)
 clear d;have y:(s[0].toNat:Int)=48/\(s.size:Int)<=1\/¬(s[0].toNat:Int)=48:=ae;clear h;rcases y with⟨o,z⟩|o
 all_goals
  go_enter func168,ntmps168;go_wp2
  go_loop [6,22] (fun A i=>∃b m:Nat,b<=s.size/\i=ak b/\A=.int .u64 m/\m<=a/\g1 a m (s.data.toList.drop b)=g1 a 0 s.data.toList) (fun _ i=>s.size-(intOf i).toNat)
  case atStart=>exact⟨0,0,b6 _,rfl,rfl,b6 _,by rw[kg]⟩
  case round =>
   obtain⟨b,m,F,rfl,rfl,I,p⟩:=hrel;have g:=af p;clear p;by_cases w:b<s.size
   ·have j:=af (Gl s b w);by_cases u:(48:Int)<=(s[b].toNat:Int)/\(s[b].toNat:Int)<=57
    ·obtain⟨C,D⟩:=u;have H:(m:Int)<=4294967295:=ae;have n:Hid (g1 a m (s.data.toList.drop b)=if 10*m+(s[b].toNat-48)<=a then g1 a (10*m+(s[b].toNat-48)) (s.data.toList.drop (b+1))else none):=by
      rw[ag j,Hid]
      conv=>lhs;rw[g1,ay (by simp[jp];omega)]
     by_cases E:10*(m:Int)+((s[b].toNat:Int)-48)<=(a:Int)
     ·go_wp2
      go_round
      case rel=>exact⟨b+1,10*m+(s[b].toNat-48),ae,bq,bq,ae,by rw[<- ag g,ag n,ay ae]⟩
      case measure=>exact gz
     ·have c:Hid (jz a s.data.toList=none):=by
       rw[ag hn,Hid,<- ag g,ag n,ar ae]
      go_wp2;go_ret2;exact⟨uO (by rw[e_,ag c];rfl) (by rw[cf,ag c];rfl),rfl⟩
    ·have c:Hid (jz a s.data.toList=none):=by
      rw[ag hn,Hid,<- ag g,ag j,g1,ar (by simp[jp];omega)]
     go_wp2
     all_goals
      first
      | (exfalso;omega)
      | (go_ret2
         exact⟨uO (by rw[e_,ag c];rfl) (by rw[cf,ag c];rfl),rfl⟩)
   ·have c:Hid (jz a s.data.toList=some m):=by
     rw[ag hn,Hid,<- ag g,jr (by rw[gn];omega)];rfl
    go_wp2;go_ret2;exact⟨uO (by rw[e_,ag c];rfl) (by rw[cf,ag c];rfl),rfl⟩
theorem qP(s:ByteArray)(a:Nat)(b:World)(g:s.size<=maxLen)(e:a<=4294967295):az 227 #[.string s,.int .u64 a] b fun c d=>c=.returned (.bool (cf a s.data.toList))/\d=b:=by go_enter func227,ntmps227;go_wp2_with (go_at_call 168;refine(za s a b g e).mono ?_;rintro c d ⟨rfl,rfl⟩);go_ret;exact dX
def m2(a:ah):Bool:=(aC 46 a).all (cf 255)&&(aC 46 a).length==4
def cQ(b:Int)(aD:List ah):Bool :=
 if b=6 then(match aD with
  | [a,c,d,e]=>dQ a&&dQ c&&cf 4294967295 d&&cf 86400 e
  | _=>false)
 else if b=2\/b=5 then(match aD with
  | [a]=>dQ a
  | _=>false)
 else if b=1 then(match aD with
  | [a]=>m2 a
  | _=>false)
 else if b=16 then(match aD with
  | [a]=>iL a
  | _=>false)
 else if b=15 then(match aD with
  | [a,c]=>cf 65535 a&&dQ c
  | _=>false)
 else false
theorem Pt(s:ByteArray)(c:World)(y:bT c)(F:s.size<=3000):az 228 #[.string s] c (aP (.bool (m2 s.data.toList)) c):=by
 have o:Hid (aC 46 s.data.toList=(Cy 46 s).map (·.data.toList)):=(kY 46 s).symm;have B:=af (tn 46 s);have w:=tp c (Cy 46 s);have r:=l1 s 46 c y ae;have d:ax c (c.alloc (.cells ((Cy 46 s).map Value.string).toArray 9)):=aE.alloc av _;have E:(Cy 46 s).length<=3001:=by{have:=iq 46 s.data.toList;rw[<- kY,bD,gn]at this;omega};generalize Cy 46 s=a at *;generalize c.alloc (.cells (a.map Value.string).toArray 9)=C at *;have t:=af r;have j:=af d;clear r d;obtain⟨G,n⟩:=w;have u:=af n;clear n;go_enter func228,ntmps228;go_wp2_with (go_at_call 97;refine t.mono ?_;rintro k q ⟨rfl,rfl⟩);go_loop [10] (fun g=>∃b:Nat,b<=a.length/\g=ak b/\((a.map (·.data.toList)).take b).all (cf 255)=true) (fun g=>a.length-(intOf g).toNat);case atStart=>exact⟨0,b6 _,rfl,rfl⟩
 case round =>(
 obtain⟨b,D,rfl,l⟩:=hrel;have i:=af l;clear l;by_cases hlt:b<a.length;{
 have x:=(ag u) b hlt;rw[cT]at x;have A:Hid ((a.map (·.data.toList)).take (b+1)=(a.map (·.data.toList)).take b++[a[b].data.toList]):=by{rw[Hid,du yB,kT]};have z:Hid (a[b].data.toList∈a.map (·.data.toList)):=nz (bM hlt);have p:a[b].size<=maxLen:=by{have:=ag B a[b] (bM hlt);unfold maxLen;omega};generalize a[b]=h at *;cases d:cf 255 h.data.toList;{have e:Hid (m2 s.data.toList=false):=by{rw[Hid,m2,ag o,pq,rg];exact .inl ⟨_,z,by simp[d]⟩};go_wp2_with (go_at_call 227;refine(qP h 255 _ p ae).mono ?_;rintro k q ⟨rfl,rfl⟩);go_ret;exact⟨cd e.symm,j⟩};{
 go_wp2_with (go_at_call 227;refine(qP h 255 _ p ae).mono ?_;rintro k q ⟨rfl,rfl⟩);go_round;case rel=>exact⟨b+1,ae,bq,by rw[ag A,pu,ag i];simp[d]⟩
 case measure=>exact gz}};{have e:Hid (m2 s.data.toList=((a.length:Int)==4)):=by{have:=ag i;rw[ie aA]at this;rw[Hid,m2,ag o,this,nI,bD,i0,dE,dE];omega};go_wp2;go_ret;exact⟨cd e.symm,j⟩})
def hY(aD:List ByteArray):List ah:=aD.map (·.data.toList)
theorem uv{P:Prop}(h:P:=by split;{exact absurd rfl h};{rfl}):P:=h
theorem Pv(aD:List ah)(h:aD.length≠4):cQ 6 aD=false:=by unfold cQ;rw[ay rfl];exact uv
theorem Gu(a:Int)(b:a=2\/a=5)(aD:List ah)(h:aD.length≠1):cQ a aD=false:=by unfold cQ;rw[ar ae,ay b];exact uv
theorem Pw(aD:List ah)(h:aD.length≠1):cQ 1 aD=false:=by unfold cQ;rw[ar ae,ar ae,ay rfl];exact uv
theorem Py(aD:List ah)(h:aD.length≠1):cQ 16 aD=false:=by unfold cQ;rw[ar ae,ar ae,ar ae,ay rfl];exact uv
theorem Pz(aD:List ah)(h:aD.length≠2):cQ 15 aD=false:=by unfold cQ;rw[ar ae,ar ae,ar ae,ar ae,ay rfl];exact uv
theorem cU(a:Int)(aD:List ah)(c:a≠6)(g:a≠2)(h:a≠5)(b:a≠1)(d:a≠16)(e:a≠15):cQ a aD=false:=by unfold cQ;rw[ar c,ar ae,ar b,ar d,ar e]
theorem sM{P:Prop}(h:P:=by simpa [hY]using h4):P:=h
theorem BE{P:Prop}(h:P:=by clear h4 hat hsz;go_enter func170,ntmps170;go_wp2;go_ret;exact⟨cd bp.symm,bk _ _⟩):P:=h
theorem sv{P:Prop}(h:P:=by have:=hsz x0 am;exact En):P:=h
theorem PD(d y:Nat)(aD:List ByteArray)(j:World)(i:bT j)(hat:jB j d 0 aD)(hsz:∀D∈aD,D.size<=3000)(z:aD.length<=3001):az 170 #[ak 6,aF d 0 aD.length y] j (aP (.bool (cQ 6 (hY aD))) j):=by
 by_cases h4:aD.length=4;{
 match aD,h4 with
 | [x0,b,e,h],_ =>
 have bp:Hid (cQ 6 (hY [x0,b,e,h])=(dQ x0.data.toList&&dQ b.data.toList&&cf 4294967295 e.data.toList&&cf 86400 h.data.toList)):=rfl;have p:x0.size<=maxLen:=sv
 have w:b.size<=maxLen:=by have:=hsz b am;exact lC
 have A:e.size<=maxLen:=by have:=hsz e am;exact lC
 have B:h.size<=maxLen:=by have:=hsz h am;exact lC
 have F:j.cell? (aq d 0)=some (.string x0):=hat.2 0 am;have u:=af hat;clear hat z hsz;cases q:dQ x0.data.toList;{go_enter func170,ntmps170;go_wp2_with (go_at_call 68;refine(mD x0 _ i p).mono ?_;rintro g l ⟨rfl,a⟩);go_ret;exact⟨cd (by rw[ag bp,q];rfl),a⟩};cases x:dQ b.data.toList;{go_enter func170,ntmps170;go_wp2_with fail;refine(mD x0 _ i p).mono ?_;rintro g l ⟨rfl,a⟩;have o:=i.below a;have c:=u.below a;have ap:l.cell? (aq d 1)=some (.string b):=c.2 1 am;have t:=af c;clear c;go_wp2_with (go_at_call 68;refine(mD b _ o w).mono ?_;rintro g r ⟨rfl,k⟩);go_ret;exact⟨cd (by rw[ag bp,q,x];rfl),a.trans (k.mono a.size)⟩};cases C:cf 4294967295 e.data.toList;all_goals(go_enter func170,ntmps170;go_wp2_with fail;refine(mD x0 _ i p).mono ?_;rintro g l ⟨rfl,a⟩;have o:=i.below a;have c:=u.below a;have ap:l.cell? (aq d 1)=some (.string b):=c.2 1 am;have t:=af c;clear c;go_wp2_with fail;refine(mD b _ o w).mono ?_;rintro g r ⟨rfl,k⟩;have n:=t.below k;have G:r.cell? (aq d 2)=some (.string e):=n.2 2 am;have H:r.cell? (aq d 3)=some (.string h):=n.2 3 am;clear n;go_wp2_with fail;refine(qP e 4294967295 _ A ae).mono ?_;rintro g I ⟨rfl,rfl⟩;go_wp2_with (go_at_call 227;refine(qP h 86400 _ B ae).mono ?_;rintro g J ⟨rfl,rfl⟩);go_ret;exact⟨cd (by rw[ag bp,q,x,C];rfl),a.trans (k.mono a.size)⟩)};{
 have bp:Hid (cQ 6 (hY aD)=false):=by{exact Pv _ sM};have E:((aD.length:Int)==4)=false:=eP
 exact BE}
theorem EH{P:Prop}(h:P:=by have s0':=hsz x0 am;have c0:w.cell? (aq b 0)=some (.string x0):=hat.2 0 am;clear hat hl hsz;go_enter func170,ntmps170;go_wp2_with (go_at_call 68;refine(mD x0 _ hg s0).mono ?_;rintro e w1 ⟨rfl,hb1⟩);go_ret;exact⟨rfl,hb1⟩):P:=h
theorem yd{P:Prop}(h:P:=by
 have Ck:((aD.length:Int)==1)=false:=eP
 exact BE):P:=h
theorem PE(b a:Nat)(aD:List ByteArray)(w:World)(hg:bT w)(hat:jB w b 0 aD)(hsz:∀c∈aD,c.size<=3000)(hl:aD.length<=3001):az 170 #[ak 2,aF b 0 aD.length a] w (aP (.bool (cQ 2 (hY aD))) w):=by
 by_cases h4:aD.length=1;{
 match aD,h4 with
 | [x0],_ =>
 have s0:x0.size<=maxLen:=sv
 exact EH};{
 have bp:Hid (cQ 2 (hY aD)=false):=Gu 2 (.inl rfl) _ sM;exact yd}
theorem PF(b a:Nat)(aD:List ByteArray)(w:World)(hg:bT w)(hat:jB w b 0 aD)(hsz:∀c∈aD,c.size<=3000)(hl:aD.length<=3001):az 170 #[ak 5,aF b 0 aD.length a] w (aP (.bool (cQ 5 (hY aD))) w):=by
 by_cases h4:aD.length=1;{
 match aD,h4 with
 | [x0],_ =>
 have s0:x0.size<=maxLen:=sv
 exact EH};{
 have bp:Hid (cQ 5 (hY aD)=false):=Gu 5 (.inr rfl) _ sM;exact yd}
theorem PG(b c:Nat)(aD:List ByteArray)(a:World)(e:bT a)(hat:jB a b 0 aD)(hsz:∀i∈aD,i.size<=3000)(g:aD.length<=3001):az 170 #[ak 1,aF b 0 aD.length c] a (aP (.bool (cQ 1 (hY aD))) a):=by
 by_cases h4:aD.length=1;{
 match aD,h4 with
 | [x0],_ =>
 have l:x0.size<=maxLen:=sv
 have h:=hsz x0 am;have j:a.cell? (aq b 0)=some (.string x0):=hat.2 0 am;clear hat g hsz;go_enter func170,ntmps170;go_wp2_with (go_at_call 228;refine(Pt x0 _ e h).mono ?_;rintro k n ⟨rfl,d⟩);go_ret;exact⟨rfl,d⟩};{
 have bp:Hid (cQ 1 (hY aD)=false):=Pw _ sM;exact yd}
theorem PH(b c:Nat)(aD:List ByteArray)(a:World)(j:bT a)(hat:jB a b 0 aD)(hsz:∀g∈aD,g.size<=3000)(d:aD.length<=3001):az 170 #[ak 16,aF b 0 aD.length c] a (aP (.bool (cQ 16 (hY aD))) a):=by
 by_cases h4:aD.length=1;{
 match aD,h4 with
 | [x0],_ =>
 have e:x0.size<=maxLen:=sv
 have k:=hsz x0 am;have h:a.cell? (aq b 0)=some (.string x0):=hat.2 0 am;clear hat d hsz;go_enter func170,ntmps170;go_wp2_with (go_at_call 229;refine(Pq x0 _ e).mono ?_;rintro i l ⟨rfl,rfl⟩);go_ret;exact yE};{
 have bp:Hid (cQ 16 (hY aD)=false):=Py _ sM;exact yd}
theorem PI(c i:Nat)(aD:List ByteArray)(a:World)(k:bT a)(hat:jB a c 0 aD)(hsz:∀o∈aD,o.size<=3000)(l:aD.length<=3001):az 170 #[ak 15,aF c 0 aD.length i] a (aP (.bool (cQ 15 (hY aD))) a):=by
 by_cases h4:aD.length=2
 ·match aD,h4 with
  | [x0,b],_ =>
  have bp:Hid (cQ 15 (hY [x0,b])=(cf 65535 x0.data.toList&&dQ b.data.toList)):=rfl;have e:x0.size<=maxLen:=sv
  have n:b.size<=maxLen:=by have:=hsz b am;exact lC
  have q:a.cell? (aq c 0)=some (.string x0):=hat.2 0 am;have ap:a.cell? (aq c 1)=some (.string b):=hat.2 1 am;clear hat l hsz;cases g:cf 65535 x0.data.toList
  ·go_enter func170,ntmps170;go_wp2_with (go_at_call 227;refine(qP x0 65535 _ e ae).mono ?_;rintro d h ⟨rfl,rfl⟩);go_ret;exact⟨cd (by rw[ag bp,g];rfl),bk _ _⟩
  ·go_enter func170,ntmps170;go_wp2_with (first
    | (go_at_call 227;refine(qP x0 65535 _ e ae).mono ?_;rintro d h ⟨rfl,rfl⟩)
    | (go_at_call 68;refine(mD b _ k n).mono ?_;rintro d h ⟨rfl,j⟩))
   go_ret;exact⟨cd (by rw[ag bp,g];rfl),j⟩
 ·have bp:Hid (cQ 15 (hY aD)=false):=Pz _ sM;have p:((aD.length:Int)==2)=false:=eP
  exact BE
theorem PJ(a:Int)(j l:Nat)(aD:List ByteArray)(i:World)(e:a≠6)(c:a≠2)(d:a≠5)(b:a≠1)(g:a≠16)(h:a≠15):az 170 #[ak a,aF j 0 aD.length l] i (aP (.bool (cQ a (hY aD))) i):=by have k:=af (cU a (hY aD) e c d b g h);have t:=eW.2 e;have q:=eW.2 c;have r:=eW.2 d;have n:=eW.2 b;have p:=eW.2 g;have o:=eW.2 h;clear e c d b g h;go_enter func170,ntmps170;go_wp2;go_ret;exact⟨cd k.symm,bk _ _⟩
theorem PK(c:Int)(b d:Nat)(aD:List ByteArray)(a:World)(g:bT a)(e:jB a b 0 aD)(i:∀q∈aD,q.size<=3000)(h:aD.length<=3001):az 170 #[ak c,aF b 0 aD.length d] a (aP (.bool (cQ c (hY aD))) a):=by by_cases n:c=6;{subst n;exact PD b d aD a g e i h};by_cases k:c=2;{subst k;exact PE b d aD a g e i h};by_cases l:c=5;{subst l;exact PF b d aD a g e i h};by_cases j:c=1;{subst j;exact PG b d aD a g e i h};by_cases o:c=16;{subst o;exact PH b d aD a g e i h};by_cases p:c=15;{subst p;exact PI b d aD a g e i h};exact PJ c b d aD a n k l j o p
def ai(a:ah):ByteArray:=⟨a.toArray⟩
abbrev au(a:List UInt8):Value:=.string (ai a)
theorem zc(s:ByteArray):ai s.data.toList=s:=by cases s;simp[ai]
theorem jC(a:ah):(ai a).data.toList=a:=rfl
theorem a7(l:ah):(ai l).size=l.length:=by simp[ai,ByteArray.size]
abbrev aj:=ah×Nat×Int×ah
def aj.owner(a:aj):ah:=a.1
def aj.aI(r:aj):Nat:=r.2.1
def aj.type(r:aj):Int:=r.2.2.1
def aj.data(r:aj):ah:=r.2.2.2
def aj.zero:aj:=([],0,0,[])
def aj.aX(a:aj):List Value:=[.string (ai a.owner),ak a.aI,ak a.type,.string (ai a.data)]
def aj.uR(a:aj):Value:=.agg #[.string (ai a.owner),ak a.aI,ak a.type,.string (ai a.data)]
def ea(e:ah):Option aj :=
 match Lib.splitN e [32] 4 with
 | [a,b,c,d]=>if jh a&&cf 86400 b&&cQ (d_ c) (aC 32 d)then some (a,e_ 86400 b,d_ c,d)else none
 | _=>none
def kL(a:Option aj):Value:=.tuple #[(a.getD aj.zero).uR,.bool a.isSome]
theorem zd(e:UInt8):∀(d:Nat) (b:ah),∀c∈Lib.splitK [e] 0 d b,c.length<=b.length
 | 0,b,c,a=>by simp[Lib.splitK]at a;subst a;exact bb _
 | d+1,b,c,a=>by unfold Lib.splitK at a;split at a;{simp at a;subst a;exact bb _};{rw[co]at a;rcases a with rfl|a;{simp;omega};{have:=zd e d _ c a;rw[c8]at this;omega}}
def kt(s:ByteArray):List ByteArray:=Lib.splitB ⟨#[32]⟩ 0 (min 4 (s.size+1)-1) s
theorem ze(s:ByteArray):(kt s).map (·.data.toList)=Lib.splitN s.data.toList [32] 4:=by unfold kt;rw[Lib.splitB_data];unfold Lib.splitN;rw[gn]
theorem PL(s:ByteArray):(kt s).length<=4:=by have:=Lib.splitB_length_le ⟨#[32]⟩ 0 (min 4 (s.size+1)-1) s;unfold kt;omega
theorem Pk(s a:ByteArray)(b:a∈kt s):a.size<=s.size:=by have:a.data.toList∈Lib.splitN s.data.toList [32] 4:=by{rw[<- ze];exact nz b};have:=zd 32 _ _ _ this;rwa [gn,gn]at this
theorem Pl(b:World)(a:List ByteArray)(c:Nat):jB (b.alloc (.cells (Lib.cellsOf a c) 9)) b.heap.size 0 a:=by refine⟨am,fun e d=>?_⟩;rw[cT];unfold Lib.cellsOf;simp[d,List.getElem?_append]
theorem Gv(s:ByteArray)(a:World)(c:bT a)(g:s.size<=3000):az 167 #[.string s,.string ⟨#[32]⟩,ak 4] a fun b e=>b=.returned (aF a.heap.size 0 (kt s).length (min 4 (s.size+1)))/\e=a.alloc (.cells (Lib.cellsOf (kt s) (min 4 (s.size+1))) 9):=by obtain⟨_,m,d⟩:=c;exact Tryz.strings_SplitN s ⟨#[32]⟩ 4 m a ae d av ae ae
theorem Pn(s:ByteArray)(a:World)(e:bT a)(g:s.size<=3000)(j:(kt s).length≠4):az 99 #[.string s] a (aP (kL none) a):=by have k:=PL s;have b:=Gv s (a.alloc (.cells #[.string ⟨#[]⟩,.int .i64 0,.int .i64 0,.string ⟨#[]⟩] 47)) (e.alloc _) g;generalize kt s=d at *;have h:(d.length:Int)<4:=ae;have c:=af b;clear b;go_enter func99,ntmps99;go_wp2_with (go_at_call 167;refine c.mono ?_;rintro i l ⟨rfl,rfl⟩);refine cc (v:=kL none) (by simp[results,results99,go_sem,kL,aj.uR,aj.zero,aj.owner,aj.aI,aj.type,aj.data,ai]) rfl ⟨rfl,?_⟩;exact BB
section
variable {P:Program} {α:Type}
def jE(P:Program)(t:Nat)(u:Array Value)(r:α->Array Value)(o:List α)(j p q:World->World->Prop)(k:World):Prop :=
 ∀(l:Nat) (b:Nat->World->Prop) (g:World->Prop),
  (∀c d e,b c d->j d e->b c e)->(∀d e,g d->j d e->g e) ->
  (∀c n h,o[c]? = some n->b c h->YieldAt Fence.wide 0 P l (r n) h fun i a =>
   (i=.returned (.bool true)/\b (c+1) a/\p h a)\/(i=.returned (.bool false)/\g a/\q h a)) ->
  b 0 k ->
  CallsIn Fence.wide 0 P t (#[.func (.yield l) #[] #[]]++u) k fun i a=>(∃v,i=.returned v)/\(b o.length a\/g a)
def fi(a:Nat)(b c:World):Prop:=b.heap.size<=c.heap.size/\c.heap[a]? = b.heap[a]?/\c.heap[a+1]? = b.heap[a+1]?
def zf(c:Nat)(h e:World->World->Prop)(g:World->Prop)(d:Code->World->Prop)(b:World):Exit->Act->World->Prop
 | .normal,_,a=>fi c b a/\h b a/\g a
 | .ret,_,a=>fi c b a/\e b a/\d .ret a
 | .exit i,_,a=>fi c b a/\e b a/\d (.exit i) a
 | .goto j,_,a=>fi c b a/\e b a/\d (.goto j) a
 | .panic _,_,_=>False
 | .outgrown,_,_=>False
theorem tu{z:Operand}{k:Array Tmp}{assign body:Code}{o:Exit->Act->World->Prop}{d:Act}{w:World}{gf:Nat} {lb:Array Value} (K:d.eval z=.func (.func gf) #[] lb) (H:∀args w,(callFunc gf args).run P w=.ok (.enter gf args) w){encs:α->Array Value} {xs:List α} {St Kp Kx:World->World->Prop} (S:∀e,(encs e).size=k.size)(O:∀a,jE P gf lb encs xs St Kp Kx ((w.alloc (.deferred (some []))).alloc (.loop a)))(b:Nat->World->Prop) (g:Code->World->Prop)(lA:∀A B,w.heap.size+2<=A.heap.size->St A B->fi w.heap.size A B)(hI:∀i A B,b i A->St A B->b i B) (om:∀c A B,g c A->St A B->g c B)(wm:∀i A a j,b i A->A.heap[w.heap.size+1]? = some (.loop a)->b i (A.putObj (w.heap.size+1) j))(tN:∀c A a j,g c A->A.heap[w.heap.size+1]? = some (.loop a)->g c (A.putObj (w.heap.size+1) j))(h0:∀a,b 0 ((w.alloc (.deferred (some []))).alloc (.loop a)))(Kb:World->World->Prop)(qY:∀W a l u h,W.heap[w.heap.size+1]? = some (.loop a)->Kb (W.putObj (w.heap.size+1) (.loop l)) h->fi w.heap.size (W.putObj (w.heap.size+1) (.loop l)) h->Kp W (h.putObj (w.heap.size+1) (.loop u)))(qX:World->World->Prop)(hKx:∀W a l u h,W.heap[w.heap.size+1]? = some (.loop a)->qX (W.putObj (w.heap.size+1) (.loop l)) h->fi w.heap.size (W.putObj (w.heap.size+1) (.loop l)) h->Kx W (h.putObj (w.heap.size+1) (.loop u)))(V:∀(D i:Nat) (e:α) (x W:World),xs[i]? = some e->b i W->w.heap.size+2<=W.heap.size ->
   assign.wpIn (Fence.wide.inRound D) 0 P (Exit.then (fun G E=>E=x/\body.wpIn (Fence.wide.inRound D) 0 P (zf w.heap.size Kb qX (b (i+1)) g W) G W) (fun _ _ _=>False)) { tmps:=(k.zip (encs e)).foldl (fun t (p,v)=>t.setIfInBounds p v) d.tmps,defers:=[] } x)(hdone:∀W,b xs.length W->W.heap[w.heap.size]? = some (.deferred (some []))->w.heap.size+2<=W.heap.size->o .normal { d with defers:={ target:=.collected w.heap.size,args:=#[] }::d.defers } W)(wo:∀c W,g c W->W.heap[w.heap.size]? = some (.deferred (some []))->w.heap.size+2<=W.heap.size->c.wpIn Fence.wide 0 P o { d with defers:={ target:=.collected w.heap.size,args:=#[] }::d.defers } W):(Code.rangeFunc z k assign body).wpIn Fence.wide 0 P o d w:=by
 refine wpIn_rangeFunc fun fn J=>?_;obtain⟨X,ad⟩:=a2 w.heap.size;obtain⟨rec,dn⟩:∃rec:LoopState->Option Code->Loop,rec=fun U T=>{ state:=U,pending:=T,fn,tmps:=d.tmps,params:=k,assign,body,defers:=w.heap.size }:=⟨_,rfl⟩
 have F:=run_enterLoop_outer (P:=P) (w:=w) fn d.tmps k assign body;refine⟨w.heap.size+1,[{ target:=.collected w.heap.size,args:=#[] }],(w.alloc (.deferred (some []))).alloc (.loop (rec .ready none)),
  { target:=.fn (.func gf) lb,args:=#[.func (.yield (w.heap.size+1)) #[] #[]] },(w.alloc (.deferred (some []))).alloc (.loop (rec .ready none)),gf,
  #[.func (.yield (w.heap.size+1)) #[] #[]]++lb,(w.alloc (.deferred (some []))).alloc (.loop (rec .ready none)),?_,?_,fun _ _=>aL,?_,fun q=>by simp[Fence.wide]at q,?_⟩
 ·rw[dn];exact F
 ·simp only[resolve,K];simp[go_sem]
 ·simp[invoke,go_sem,H]
 ·obtain⟨n,hW1⟩:∃n,(w.alloc (.deferred (some []))).alloc (.loop (rec .ready none))=n:=⟨_,rfl⟩
  have ee:n.heap[w.heap.size+1]? = some (.loop (rec .ready none)):=by
   exact DX
  have fD:n.heap[w.heap.size]? = some (.deferred (some [])):=by
   rw[<- hW1];exact yx
  have hsz:∀W:World,(∃j,W.heap[w.heap.size+1]? = some j)->w.heap.size+2<=W.heap.size:=fun W ⟨j,q⟩=>by
   have:=(bn.1 q).1;omega
  have N:=O (rec .ready none) (w.heap.size+1)
   (fun i W=>b i W/\W.heap[w.heap.size+1]? = some (.loop (rec .ready none))/\W.heap[w.heap.size]? = some (.deferred (some [])))
   (fun W=>∃c,g c W/\W.heap[w.heap.size+1]? = some (.loop (rec .done (some c)))/\W.heap[w.heap.size]? = some (.deferred (some [])))
   (fun i A B hA hst=>by
    exact E_)
   (fun A B hA hst=>by
    exact Eu)
   (fun i e W Q L=>by
    obtain⟨h1,h2,h3⟩:=L;have C:=run_yield (P:=P) (args:=encs e) h2 (by rw[dn];exact S e);rw[dn]at C;have M:=(bn.1 h2).1;have e2:(W.putObj (w.heap.size+1) (.loop { rec .ready none with state:=.busy })).heap[w.heap.size+1]? = some (.loop { rec .ready none with state:=.busy }):=World.putObj_heap_same M;have e3:(W.putObj (w.heap.size+1) (.loop { rec .ready none with state:=.busy })).heap[w.heap.size]? = some (.deferred (some [])):=(World.putObj_heap_other ae).trans h3;refine⟨fn,_,assign,body,C,roundIn_of_wpIn J (wpIn_mono (V _ i e W (W.putObj (w.heap.size+1) (.loop { rec .ready none with state:=.busy })) Q (wm i W _ _ h1 h2) BS) ?_)⟩;rintro e0 aa Y jT;have I:e0=.normal:=yh
    subst I;obtain⟨r,R⟩:=jT
    replace r:=r.symm
    subst r;refine⟨_,run_beginRound h2 (by rw[dn]),wpIn_mono R ?_⟩;have fin:∀(jump:Option Code) (W3:World),fi w.heap.size (W.putObj (w.heap.size+1) (.loop { rec .ready none with state:=.busy })) W3 ->
      (Instr.endRound (w.heap.size+1) jump).run P W3=.ok (.bool jump.isNone) (W3.putObj (w.heap.size+1) (.loop (rec (if jump.isNone then .ready else .done) jump))) /\
      W3.heap[w.heap.size+1]? = some (.loop { rec .ready none with state:=.busy }) /\
      (W3.putObj (w.heap.size+1) (.loop (rec (if jump.isNone then .ready else .done) jump))).heap[w.heap.size+1]? = some (.loop (rec (if jump.isNone then .ready else .done) jump)) /\
      (W3.putObj (w.heap.size+1) (.loop (rec (if jump.isNone then .ready else .done) jump))).heap[w.heap.size]? = some (.deferred (some [])):=fun jump W3 hL=>by
     exact FR
    rintro y ab W3 hp;cases y with
    | normal =>
     exact Ey
    | ret =>
     exact Fe
    | exit id =>
     exact DN
    | goto t =>
     exact Fv
    | panic ac=>exact ch
    | outgrown=>exact ch)
   Ek
  refine N.mono ?_;rintro y Z ⟨⟨v,rfl⟩,⟨ao,hl,hk⟩|⟨c,ao,hl,hk⟩⟩
  ·exact DL
  ·exact Fa
theorem Po{D:Operand}{w:Array Tmp}{A C:Code}{t:Exit->Act->World->Prop}{n:Act}{a:World}{gf:Nat} {lb:Array Value} (M:n.eval D=.func (.func gf) #[] lb) (G:∀args a,(callFunc gf args).run P a=.ok (.enter gf args) a){encs:α->Array Value} {xs:List α} {St Kp Kx:World->World->Prop} (R:∀g,(encs g).size=w.size)(O:∀e,jE P gf lb encs xs St Kp Kx ((a.alloc (.deferred (some []))).alloc (.loop e)))(h:Nat->World->Prop) (k:Code->World->Prop)(S:∀c i,a.heap.size+2<=c.heap.size->St c i->fi a.heap.size c i)(I:∀d c i,h d c->St c i->h d i) (T:∀j c i,k j c->St c i->k j i)(X:∀d c e u,h d c->c.heap[a.heap.size+1]? = some (.loop e)->h d (c.putObj (a.heap.size+1) u))(W:∀j c e u,k j c->c.heap[a.heap.size+1]? = some (.loop e)->k j (c.putObj (a.heap.size+1) u))(H:∀e,h 0 ((a.alloc (.deferred (some []))).alloc (.loop e)))(r:World->World->Prop)(U:∀b e q y l,b.heap[a.heap.size+1]? = some (.loop e)->r (b.putObj (a.heap.size+1) (.loop q)) l->fi a.heap.size (b.putObj (a.heap.size+1) (.loop q)) l->Kp b (l.putObj (a.heap.size+1) (.loop y)))(x:World->World->Prop)(J:∀b e q y l,b.heap[a.heap.size+1]? = some (.loop e)->x (b.putObj (a.heap.size+1) (.loop q)) l->fi a.heap.size (b.putObj (a.heap.size+1) (.loop q)) l->Kx b (l.putObj (a.heap.size+1) (.loop y)))(B:α->Act)(K:∀(o:Nat) (g:α) (b:World) (z:Act->World->Prop),z (B g) b ->
   A.wpIn (Fence.wide.inRound o) 0 P (Exit.then z (fun _ _ _=>False)) { tmps:=(w.zip (encs g)).foldl (fun V (p,v)=>V.setIfInBounds p v) n.tmps,defers:=[] } b)(E:∀(o d:Nat) (g:α) (b:World),xs[d]? = some g->h d b->a.heap.size+2<=b.heap.size->C.wpIn (Fence.wide.inRound o) 0 P (zf a.heap.size r x (h (d+1)) k b) (B g) b)(L:∀b,h xs.length b->b.heap[a.heap.size]? = some (.deferred (some []))->a.heap.size+2<=b.heap.size->t .normal { n with defers:={ target:=.collected a.heap.size,args:=#[] }::n.defers } b)(Y:∀j b,k j b->b.heap[a.heap.size]? = some (.deferred (some []))->a.heap.size+2<=b.heap.size->j.wpIn Fence.wide 0 P t { n with defers:={ target:=.collected a.heap.size,args:=#[] }::n.defers } b):(Code.rangeFunc D w A C).wpIn Fence.wide 0 P t n a :=
 tu M G R O h k S I T X W H r U x J (fun o d g F b Q ao N=>K o g F _ ⟨rfl,E o d g b Q ao N⟩) L Y
def fI(c d e:Nat)(a b:World):Prop:=a.heap.size<=b.heap.size/\b.heap[c]? = a.heap[c]?/\b.heap[d]? = a.heap[d]?/\b.heap[e]? = a.heap[e]?
theorem fI.refl(b c d:Nat)(a:World):fI b c d a a:=⟨bb _,rfl,rfl,rfl⟩
theorem fI.trans{x y a:Nat}{A B b:World}(h:fI x y a A B)(k:fI x y a B b):fI x y a A b :=
 ⟨aZ h.1 k.1,k.2.1.trans h.2.1,k.2.2.1.trans h.2.2.1,k.2.2.2.trans h.2.2.2⟩
theorem fI.JF{c d e b:Nat}{g h:World}(a:Below b g h)(i:c<b)(j:d<b)(k:e<b):fI c d e g h :=
 ⟨a.size,a.block c i,a.block d j,a.block e k⟩
def bw(d:Nat)(b c:World):Prop:=b.heap.size<=c.heap.size/\∀a,d<=a->a<b.heap.size->c.heap[a]? = b.heap[a]?
theorem bw.refl(b:Nat)(a:World):bw b a a:=⟨bb _,fun _ _ _=>rfl⟩
theorem bw.trans{a:Nat}{A B b:World}(h:bw a A B)(k:bw a B b):bw a A b :=
 ⟨aZ h.1 k.1,fun d ao c=>(k.2 d ao (cp c h.1)).trans (h.2 d ao c)⟩
theorem bw.zq{e:Nat}{a b:World}(c:ax a b):bw e a b:=⟨c.size,fun g _ d=>c.block g d⟩
end
section
variable {P:Program} {α:Type}
def zg(c:Nat)(h:List Nat)(e:World->Prop)(d:Code->World->Prop)(b:World):Exit->Act->World->Prop
 | .normal,_,a=>bw c b a/\(∀k∈h,a.heap[k]? = b.heap[k]?)/\e a
 | .ret,_,a=>bw c b a/\d .ret a
 | .exit g,_,a=>bw c b a/\d (.exit g) a
 | .goto i,_,a=>bw c b a/\d (.goto i) a
 | .panic _,_,_=>False
 | .outgrown,_,_=>False
structure dz(d:Nat)(A B:World):Prop where
 os:B.os=A.os
 tape:B.tape=A.tape
 output:B.output=A.output
 size:A.heap.size<=B.heap.size
 block:∀k,k<A.heap.size->k≠d->B.heap[k]? = A.heap[k]?
theorem dz.AR{d:Nat}{b c:World}(a:ax b c):dz d b c:=⟨a.os,a.tape,a.output,a.size,fun g e _=>a.block g e⟩
theorem dz.put{d:Nat}(a:World)(b:Nat)(o:Obj)(c:b=d:=by rfl):dz d a (a.putObj b o):=⟨rfl,rfl,rfl,by rw[World.putObj_size];exact bb _,fun g _ e=>World.putObj_heap_other ae⟩
theorem dz.below{d n:Nat}{b B:World}(a:dz d b B)(g:n<=d)(h:n<=b.heap.size):Below n b B:=⟨a.os,a.tape,a.output,a.size,fun c e=>a.block c ae ae⟩
theorem Ef{P:Prop}(h:P:=by intro W r r' r'' Wc dn hk hL;exact hKx _ _ (hab W r r' r'' Wc dn hk)):P:=h
theorem pJ{P:Prop}(h:P:=by exact⟨⟨hp.1.1,hp.1.2 _ av ae,hp.1.2 _ ae ae⟩,⟨hp.1,hp.2.1⟩,hp.2.2,aZ hsz hp.1.1⟩):P:=h
theorem Er{P:Prop}(h:P:=by intro W r r' r'' Wc dn hk hL;refine qY _ _ (fun k ia=>?_) (hab W r r' r'' Wc dn hk.1);have:=oq k ia;rw[World.putObj_heap_other ae,hk.2 k ia,World.putObj_heap_other ae]):P:=h
theorem fE{P:Prop}(h:P:=by exact⟨⟨hp.1.1,hp.1.2 _ av ae,hp.1.2 _ ae ae⟩,hp.1,hp.2,aZ hsz hp.1.1⟩):P:=h
theorem pF{D:Operand}{A:Array Tmp}{B C:Code}{x:Exit->Act->World->Prop}{i:Act}{w:World}{gf:Nat} {lb:Array Value} (O:i.eval D=.func (.func gf) #[] lb) (K:∀args w,(callFunc gf args).run P w=.ok (.enter gf args) w){encs:α->Array Value} {xs:List α} {St Kp Kx:World->World->Prop} (T:∀l,(encs l).size=A.size)(Q:∀r,jE P gf lb encs xs St Kp Kx ((w.alloc (.deferred (some []))).alloc (.loop r)))(t:List Nat) (oq:∀k∈t,k<w.heap.size)(z:∀a b,w.heap.size+2<=a.heap.size->St a b->Below (w.heap.size+2) a b)(qY:∀a b,(∀k∈t,b.heap[k]? = a.heap[k]?)->bw (w.heap.size+2) a b->Kp a b)(hKx:∀a b,bw (w.heap.size+2) a b->Kx a b)(g:Nat->World->Prop) (n:Code->World->Prop)(y:∀c a b,g c a->Below w.heap.size a b->g c b) (F:∀d a b,n d a->Below w.heap.size a b->n d b)(M:g 0 w)(X:∀(u c:Nat) (l:α) (q W:World),xs[c]? = some l->g c W->w.heap.size+2<=W.heap.size ->
   B.wpIn (Fence.wide.inRound u) 0 P (Exit.then (fun I H=>H=q/\C.wpIn (Fence.wide.inRound u) 0 P (zg w.heap.size t (g (c+1)) n W) I W) (fun _ _ _=>False)) { tmps:=(A.zip (encs l)).foldl (fun G (p,v)=>G.setIfInBounds p v) i.tmps,defers:=[] } q)(N:∀W,g xs.length W->W.heap[w.heap.size]? = some (.deferred (some []))->w.heap.size+2<=W.heap.size->x .normal { i with defers:={ target:=.collected w.heap.size,args:=#[] }::i.defers } W)(V:∀d W,n d W->W.heap[w.heap.size]? = some (.deferred (some []))->w.heap.size+2<=W.heap.size->d.wpIn Fence.wide 0 P x { i with defers:={ target:=.collected w.heap.size,args:=#[] }::i.defers } W):(Code.rangeFunc D A B C).wpIn Fence.wide 0 P x i w:=by
 have E:∀(a:World) (r:Loop) (j:Obj),a.heap[w.heap.size+1]? = some (.loop r)->Below w.heap.size a (a.putObj (w.heap.size+1) j):=fun a r j dn =>
  belowK_b (w:=w) av a _ _ j ae dn rfl rfl
 have hab:∀(W:World) (r r' r'':Loop) (Wc:World),W.heap[w.heap.size+1]? = some (.loop r)->bw w.heap.size (W.putObj (w.heap.size+1) (.loop r')) Wc->bw (w.heap.size+2) W (Wc.putObj (w.heap.size+1) (.loop r'')):=by
  intro W r r' r'' Wc dn hk;exact B_
 refine tu (Kb:=fun a b=>bw w.heap.size a b/\∀k∈t,b.heap[k]? = a.heap[k]?) (qX:=fun a b=>bw w.heap.size a b) O K T Q
  (fun c W=>g c W/\w.heap.size+2<=W.heap.size) (fun d W=>n d W/\w.heap.size+2<=W.heap.size) ?_ ?_ ?_ ?_ ?_ ?_ ?_ ?_ ?_ (fun W h=>N W h.1) (fun d W h=>V d W h.1)
 ·intro a b e o;have:=z a b e o;exact⟨this.size,this.block _ ae,this.block _ ae⟩
 ·intro c a b e o;have:=z a b e.2 o;exact⟨y c a b e.1 (this.mono ae),aZ e.2 this.size⟩
 ·intro d a b e o;have:=z a b e.2 o;exact⟨F d a b e.1 (this.mono ae),aZ e.2 this.size⟩
 ·exact fun c a r j h dn=>⟨y c a _ h.1 (E a r j dn),yc⟩
 ·exact fun d a r j h dn=>⟨F d a _ h.1 (E a r j dn),yc⟩
 ·exact fun r=>⟨y 0 w _ M ((aE.alloc av _).alloc am _),am⟩
 ·exact Er
 ·exact Ef
 ·intro u c l q W R ao hsz;refine wpIn_mono (X u c l q W R ao.1 hsz) ?_;rintro e0 aa Y jT;have L:e0=.normal:=yh
  subst L;obtain⟨U,S⟩:=jT;refine⟨U,wpIn_mono S ?_⟩;rintro J ab Z hp;cases J with
  | normal=>exact pJ
  | ret=>exact fE
  | exit ad=>exact fE
  | goto G=>exact fE
  | panic ac=>exact ch
  | outgrown=>exact ch
theorem Pp{x:Operand}{q:Array Tmp}{t u:Code}{n:Exit->Act->World->Prop}{b:Act}{w:World}{gf:Nat} {lb:Array Value} (H:b.eval x=.func (.func gf) #[] lb) (E:∀args w,(callFunc gf args).run P w=.ok (.enter gf args) w){encs:α->Array Value} {xs:List α} {St Kp Kx:World->World->Prop} (L:∀d,(encs d).size=q.size)(I:∀r,jE P gf lb encs xs St Kp Kx ((w.alloc (.deferred (some []))).alloc (.loop r)))(j:List Nat) (oq:∀k∈j,k<w.heap.size)(lA:∀A B,St A B->ax A B)(qY:∀A B,(∀k∈j,B.heap[k]? = A.heap[k]?)->bw (w.heap.size+2) A B->Kp A B)(hKx:∀A B,bw (w.heap.size+2) A B->Kx A B)(a:Nat->World->Prop) (e:Code->World->Prop)(hI:∀i A B,a i A->w.heap.size<=A.heap.size->dz (w.heap.size+1) A B->a i B) (om:∀c A B,e c A->w.heap.size+2<=A.heap.size->dz (w.heap.size+1) A B->e c B)(h0:a 0 w)(O:∀(l i:Nat) (d:α) (g W:World),xs[i]? = some d->a i W->w.heap.size+2<=W.heap.size ->
   t.wpIn (Fence.wide.inRound l) 0 P (Exit.then (fun C z=>z=g/\u.wpIn (Fence.wide.inRound l) 0 P (zg w.heap.size j (a (i+1)) e W) C W) (fun _ _ _=>False)) { tmps:=(q.zip (encs d)).foldl (fun y (p,v)=>y.setIfInBounds p v) b.tmps,defers:=[] } g)(G:∀W,a xs.length W->W.heap[w.heap.size]? = some (.deferred (some []))->w.heap.size+2<=W.heap.size->n .normal { b with defers:={ target:=.collected w.heap.size,args:=#[] }::b.defers } W)(N:∀c W,e c W->W.heap[w.heap.size]? = some (.deferred (some []))->w.heap.size+2<=W.heap.size->c.wpIn Fence.wide 0 P n { b with defers:={ target:=.collected w.heap.size,args:=#[] }::b.defers } W):(Code.rangeFunc x q t u).wpIn Fence.wide 0 P n b w:=by
 have hput:∀(A:World) (r:Loop) (o:Obj),A.heap[w.heap.size+1]? = some (.loop r)->dz (w.heap.size+1) A (A.putObj (w.heap.size+1) o):=fun A r o dn=>dz.put A _ o;have hab:∀(W:World) (r r' r'':Loop) (Wc:World),W.heap[w.heap.size+1]? = some (.loop r)->bw w.heap.size (W.putObj (w.heap.size+1) (.loop r')) Wc->bw (w.heap.size+2) W (Wc.putObj (w.heap.size+1) (.loop r'')):=by{intro W r r' r'' Wc dn hk;exact B_};refine tu (Kb:=fun A B=>bw w.heap.size A B/\∀k∈j,B.heap[k]? = A.heap[k]?) (qX:=fun A B=>bw w.heap.size A B) H E L I (fun i W=>a i W/\w.heap.size+2<=W.heap.size) (fun c W=>e c W/\w.heap.size+2<=W.heap.size) ?_ ?_ ?_ ?_ ?_ ?_ ?_ ?_ ?_ (fun W h=>G W h.1) (fun c W h=>N c W h.1);{exact BJ};{exact Cw};{exact BR};{exact Cx};{exact Ca};{exact B8};{exact Er};{exact Ef};{
 intro l i d g W J ao hsz;refine wpIn_mono (O l i d g W J ao.1 hsz) ?_;rintro e0 S Q jT;have F:e0=.normal:=yh
 subst F;obtain⟨M,K⟩:=jT;refine⟨M,wpIn_mono K ?_⟩;rintro D T R hp;cases D with
 | normal=>exact pJ
 | ret=>exact fE
 | exit V=>exact fE
 | goto y=>exact fE
 | panic U=>exact ch
 | outgrown=>exact ch}
def vh(c:Nat)(i:List Nat)(g:World->Prop)(d:Code->World->Prop)(b:World):Exit->Act->World->Prop
 | .normal,_,a=>fi c b a/\(∀e∈i,a.heap[e]? = b.heap[e]?)/\g a
 | .ret,_,a=>fi c b a/\d .ret a
 | .exit h,_,a=>fi c b a/\d (.exit h) a
 | .goto j,_,a=>fi c b a/\d (.goto j) a
 | .panic _,_,_=>False
 | .outgrown,_,_=>False
theorem PM{x:Operand}{q:Array Tmp}{t u:Code}{n:Exit->Act->World->Prop}{b:Act}{w:World}{gf:Nat} {lb:Array Value} (I:b.eval x=.func (.func gf) #[] lb) (E:∀args w,(callFunc gf args).run P w=.ok (.enter gf args) w){encs:α->Array Value} {xs:List α} {St Kp Kx:World->World->Prop} (M:∀d,(encs d).size=q.size)(J:∀r,jE P gf lb encs xs St Kp Kx ((w.alloc (.deferred (some []))).alloc (.loop r)))(j:List Nat) (oq:∀k∈j,k<w.heap.size)(lA:∀A B,St A B->ax A B)(qY:∀A B,(∀k∈j,B.heap[k]? = A.heap[k]?)->A.heap.size<=B.heap.size->Kp A B)(G:∀A B,Kx A B)(a:Nat->World->Prop) (e:Code->World->Prop)(hI:∀i A B,a i A->w.heap.size<=A.heap.size->dz (w.heap.size+1) A B->a i B) (om:∀c A B,e c A->w.heap.size+2<=A.heap.size->dz (w.heap.size+1) A B->e c B)(h0:a 0 w)(Q:∀(l i:Nat) (d:α) (g W:World),xs[i]? = some d->a i W->w.heap.size+2<=W.heap.size ->
   t.wpIn (Fence.wide.inRound l) 0 P (Exit.then (fun C z=>z=g/\u.wpIn (Fence.wide.inRound l) 0 P (vh w.heap.size j (a (i+1)) e W) C W) (fun _ _ _=>False)) { tmps:=(q.zip (encs d)).foldl (fun y (p,v)=>y.setIfInBounds p v) b.tmps,defers:=[] } g)(H:∀W,a xs.length W->W.heap[w.heap.size]? = some (.deferred (some []))->w.heap.size+2<=W.heap.size->n .normal { b with defers:={ target:=.collected w.heap.size,args:=#[] }::b.defers } W)(O:∀c W,e c W->W.heap[w.heap.size]? = some (.deferred (some []))->w.heap.size+2<=W.heap.size->c.wpIn Fence.wide 0 P n { b with defers:={ target:=.collected w.heap.size,args:=#[] }::b.defers } W):(Code.rangeFunc x q t u).wpIn Fence.wide 0 P n b w:=by
 have hput:∀(A:World) (r:Loop) (o:Obj),A.heap[w.heap.size+1]? = some (.loop r)->dz (w.heap.size+1) A (A.putObj (w.heap.size+1) o):=fun A r o dn=>dz.put A _ o;refine tu (Kb:=fun A B=>∀k∈j,B.heap[k]? = A.heap[k]?) (qX:=fun _ _=>True) I E M J (fun i W=>a i W/\w.heap.size+2<=W.heap.size) (fun c W=>e c W/\w.heap.size+2<=W.heap.size) ?_ ?_ ?_ ?_ ?_ ?_ ?_ ?_ ?_ (fun W h=>H W h.1) (fun c W h=>O c W h.1);{exact BJ};{exact Cw};{exact BR};{exact Cx};{exact Ca};{exact B8};{exact EL};{intro W r r' r'' Wc dn hk hL;exact G _ _};{
 intro l i d g W K ao hsz;refine wpIn_mono (Q l i d g W K ao.1 hsz) ?_;rintro e0 T R jT;have F:e0=.normal:=yh
 subst F;obtain⟨N,L⟩:=jT;refine⟨N,wpIn_mono L ?_⟩;rintro D U S hp;cases D with
 | normal=>exact⟨hp.1,hp.2.1,hp.2.2,aZ hsz hp.1.1⟩
 | ret=>exact sH
 | exit X=>exact sH
 | goto y=>exact sH
 | panic V=>exact ch
 | outgrown=>exact ch}
/-! ### a block of one cell -/
def aW(a:World)(k:Nat)(v:Value)(b:TypeId):Prop:=a.heap[k]? = some (.cells #[v] b)
theorem aW.cell{W:World}{k:Nat}{v:Value}{t:TypeId}(h:aW W k v t):W.cell? (aq k 0)=some v:=by unfold aW at h;simp[World.cell?,h]
theorem aW.frozen{W:World}{k:Nat}{v:Value}{t:TypeId}(h:aW W k v t):W.frozen? (aq k 0)=false:=by unfold aW at h;exact jW
theorem aW.lt{W:World}{k:Nat}{v:Value}{t:TypeId}(h:aW W k v t):k<W.heap.size:=(bn.1 h).1
theorem aW.set{W:World}{a:Nat}{v:Value}{t:TypeId}(c:aW W a v t)(b:Value):aW (W.setCell ⟨a,0,none⟩ b) a b t:=by unfold aW at *;simp only[World.setCell];rw[j0,ay rfl,c];rfl
theorem aW.below{W W':World}{k n:Nat}{v:Value}{t:TypeId}(a:aW W k v t)(b:Below n W W')(c:k<n):aW W' k v t:=(b.block k c).trans a
theorem aW.put{b:World}{a d:Nat}{v:Value}{c:TypeId}{o:Obj}(e:aW b a v c)(g:a≠d):aW (b.putObj d o) a v c:=(World.putObj_heap_other g).trans e
theorem aW.mZ(a:World)(v:Value)(b:TypeId):aW (a.alloc (.cells #[v] b)) a.heap.size v b:=World.alloc_heap_new a _
theorem aW.alloc{W:World}{k:Nat}{v:Value}{t:TypeId}(h:aW W k v t)(o:Obj):aW (W.alloc o) k v t:=(bx W o k h.lt).trans h
theorem bw.setCell{d:Nat}(W:World)(k:Nat)(v:Value)(c:k<d):bw d W (W.setCell ⟨k,0,none⟩ v) :=
 ⟨by simp[World.setCell],fun a b _=>bC _ _ _ _ (by show a≠k;omega)⟩
end
end Go.Proofs.YtkkpahmoljiepaaGreatDoor
