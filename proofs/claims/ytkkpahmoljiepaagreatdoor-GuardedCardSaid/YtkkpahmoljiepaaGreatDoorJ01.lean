import Derived.Test.YtkkpahmoljiepaaGreatDoorRows
import Derived.Test.YtkkpahmoljiepaaGreatDoorShelf
import Derived.RangeFuncOwn
import Derived.Test.YtkkpahmoljiepaaGreatDoorJ00
import Derived.Test.YtkkpahmoljiepaaGreatDoorJ0a
import Derived.Test.YtkkpahmoljiepaaGreatDoorJ0t
set_option maxRecDepth 1000000
set_option maxHeartbeats 12800000
set_option linter.unusedSimpArgs false
set_option linter.unusedVariables false
namespace Go.Proofs.YtkkpahmoljiepaaGreatDoor
open Go.RowKit Go.Proofs.Tryz
abbrev ai:=List UInt8
theorem ag{p:Prop}(h:p):Go.RowKit.Hid p:=h
theorem af{p:Prop}(h:Go.RowKit.Hid p):p:=h
def MR(n:Int):Bool:=(decide (97<=n) && decide (n<=122)) || (decide (48<=n) && decide (n<=57)) || n == 45 || n == 95
def wQ(c:UInt8):Bool:=MR c.toNat
def mi(l:ai):Bool:=decide (1<=l.length) && decide (l.length<=20) && l.all wQ
def I8(n:Int):Bool:=decide (33<=n) && decide (n<=126)
def yh(l:ai):Bool:=l.all (fun c=>I8 c.toNat) && decide (1<=l.length) && decide (l.length<=40)
def rT(n:Int):Bool:=decide (48<=n) && decide (n<=57)
def lM(most:Nat):Nat->ai->Option Nat
 | n,[]=>some n
 | n,c :: r=>if rT c.toNat then(if 10*n+(c.toNat - 48)<=most then lM most (10*n+(c.toNat - 48)) r else none)else none
def pN(most:Nat)(l:ai):Option Nat :=
 match l with
 | []=>none
 | c :: r=>if c.toNat=48/\r≠[]then none else lM most 0 (c :: r)
def u_(l:ai):Int :=
 if l = [65]then 1 else if l = [78,83]then 2 else if l = [67,78,65,77,69]then 5 else if l = [83,79,65]then 6
 else if l = [77,88]then 15 else if l = [84,88,84]then 16 else 0
def wR(c n:Int):Int:=if c<0 then(-(c+1))%n else c%n
theorem SX(s:ByteArray)(k:Nat)(h:k<s.size):s.data.toList.take (k+1)=s.data.toList.take k++[s[k]]:=by rw[kQ (by simpa using h)];rfl
theorem SY(s:ByteArray)(k:Nat)(h:k<s.size):s.data.toList.drop k=s[k] :: s.data.toList.drop (k+1):=by rw[nA (by simpa using h)];rfl
theorem jv(s:ByteArray):s.data.toList.length=s.size:=ak
def aS(c:UInt8):ai->List ai
 | []=>[[]]
 | x :: r=>if x=c then [] :: aS c r else match aS c r with
  | []=>[[x]]
  | h :: t=>(x :: h) :: t
theorem Am(c:UInt8)(l:ai):aS c l≠[]:=by
 cases l with
 | nil=>simp[aS]
 | cons x r =>{unfold aS;split;{simp};{split <;> simp}}
theorem yi(c:UInt8):∀(l:ai),c ∉ l->aS c l = [l]
 | [],_=>rfl
 | x :: r,h=>by simp only[eK,Ah]at h;rw[aS,aG (fun e=>h.1 e.symm),yi c r h.2]
theorem yj(c:UInt8):∀(a b:ai),c ∉ a->aS c (a++c :: b)=a :: aS c b
 | [],b,_=>by rw[fF,aS,aP rfl]
 | x :: r,b,h=>by simp only[eK,Ah]at h;rw[dX,aS,aG (fun e=>h.1 e.symm),yj c r b h.2]
theorem I9(c:UInt8):∀(l:ai),c ∉ l->Lib.indexByte l c = -1
 | [],_=>rfl
 | x :: r,h=>by simp only[eK,Ah]at h;have ih:=I9 c r h.2;unfold Lib.indexByte;rw[aG (by simpa using fun e=>h.1 e.symm),ih];rfl
theorem I_(c:UInt8):∀(a b:ai),c ∉ a->Lib.indexByte (a++c :: b) c=a.length
 | [],b,_=>by simp[Lib.indexByte]
 | x :: r,b,h=>by simp only[eK,Ah]at h;have ih:=I_ c r b h.2;rw[dX];unfold Lib.indexByte;rw[aG (by simpa using fun e=>h.1 e.symm),ih];simp
theorem acn(c:UInt8)(k:Nat)(l:ai)(h:c ∉ l):Lib.splitK [c] 0 k l = [l]:=by
 cases k with
 | zero=>rfl
 | succ k=>rw[Lib.splitK,Lib.index_one,I9 c l h];rfl
theorem aco(c:UInt8)(k:Nat)(a b:ai)(h:c ∉ a):Lib.splitK [c] 0 (k+1) (a++c :: b)=a :: Lib.splitK [c] 0 k b:=by rw[Lib.splitK,Lib.index_one,I_ c a b h];rw[aG ak];simp[SC]
theorem SZ(c:UInt8):∀(n:Nat) (l:ai),l.length<=n->Lib.splitK [c] 0 (l.count c) l=aS c l
 | 0,l,h=>by obtain rfl:l = []:=gS ae;rfl
 | n+1,l,h=>by
  by_cases hc:c∈l;{
  obtain⟨a,b,rfl,ha⟩:=E_ hc;have hl:b.length<=n:=by simp at h;omega
  rw[List.count_append,List.count_cons_self,List.count_eq_zero.2 ha,kR,aco c _ a b ha,yj c a b ha,SZ c n b hl]};{rw[acn c _ l hc,yi c l hc]}
def ft(c:UInt8)(s:ByteArray):List ByteArray:=Lib.splitB ⟨#[c]⟩ 0 (Lib.countB s ⟨#[c]⟩) s
theorem rU(c:UInt8)(s:ByteArray):(ft c s).map (·.data.toList)=aS c s.data.toList:=by unfold ft;rw[Lib.splitB_data];have e:Lib.countB s ⟨#[c]⟩=s.data.toList.count c:=by{unfold Lib.countB;exact Lib.count_one c s.data.toList};rw[e];exact SZ c _ _ aB
theorem S6(c:UInt8)(s:ByteArray):(ft c s).length=Lib.countB s ⟨#[c]⟩+1:=Lib.splitB_all _ aB 0 _ s rfl
theorem Fh(c:UInt8):∀(n:Nat) (l:ai),l.length<=n->∀x∈aS c l,x.length<=l.length
 | 0,l,h,x,hx=>by obtain rfl:l = []:=gS ae;simp[aS]at hx;subst hx;simp
 | n+1,l,h,x,hx=>by
  by_cases hc:c∈l;{
  obtain⟨a,b,rfl,ha⟩:=E_ hc;rw[yj c a b ha,eK]at hx;have hl:b.length<=n:=by simp at h;omega
  rcases hx with rfl|hx;{simp};{have:=Fh c n b hl x hx;simp;omega}};{rw[yi c l hc]at hx;simp at hx;subst hx;exact aL _}
theorem Fi(c:UInt8)(s:ByteArray)(x:ByteArray)(hx:x∈ft c s):x.size<=s.size:=by have:x.data.toList∈aS c s.data.toList:=by{rw[<- rU];exact MC hx};have:=Fh c _ _ aB _ this;rwa [jv,jv]at this
theorem yl(c:UInt8):∀(l:ai),(aS c l).length<=l.length+1
 | []=>by simp[aS]
 | x :: r=>by have ih:=yl c r;unfold aS;split;{simp;omega};{split;{simp};{rename_i h t e;rw[e]at ih;simp at ih ⊢; omega}}
/-! ### names -/
def wS(i:Nat)(l:ai):Bool:=mi l || (i == 0 && l == [42])
def qI(i:Nat):List ai->Bool
 | []=>true
 | h :: t=>wS i h && qI (i+1) t
def kU(l:ai):Bool:=decide (l.length<=60) && qI 0 (aS 46 l)
def wU(l:ai):Bool:=Lib.hasPrefix l [42]
def fG(l:ai):Bool:=kU l && !wU l
def dU(l o:ai):Bool:=l == o || Lib.hasSuffix l (46 :: o)
def bH(w:World):Prop:=0<w.heap.size/\∃m:Int,w.cell? (ar 0 0)=some (aq m)
theorem bH.below{w w':World}(h:bH w)(hb:aw w w'):bH w':=by obtain⟨h0,m,hm⟩:=h;exact⟨eQ h0 hb.size,m,(hb.cell (p:=⟨0,0,none⟩) h0).trans hm⟩
theorem bH.alloc{w:World}(h:bH w)(o:Obj):bH (w.alloc o):=h.below (bj.alloc aB _)
theorem Ja{W w1:World}(hb:aw W w1):(∀b o,b<W.heap.size->w1.cell? (ar b o)=W.cell? (ar b o))/\(∀b o,b<W.heap.size->w1.frozen? (ar b o)=W.frozen? (ar b o)) :=
 ⟨fun b o h=>hb.cell (p:=⟨b,o,none⟩) h,fun b o h=>hb.frozen (p:=⟨b,o,none⟩) h⟩
def pO(w:World)(b off:Nat)(ss:List ByteArray):Prop:=b<w.heap.size/\∀j (h:j<ss.length),w.cell? (ar b (off+j))=some (.string ss[j])
theorem pO.below{w w':World}{b off:Nat}{ss:List ByteArray}(h:pO w b off ss)(hb:aw w w'):pO w' b off ss :=
 ⟨eQ h.1 hb.size,fun j hj=>(hb.cell (p:=⟨b,off+j,none⟩) h.1).trans (h.2 j hj)⟩
theorem Fj(w:World)(ss:List ByteArray):pO (w.alloc (.cells (ss.map Value.string).toArray 9)) w.heap.size 0 ss:=by refine⟨ak,fun j hj=>?_⟩;rw[kR];simp[hj]
theorem ve(s:ByteArray)(c:UInt8)(w:World)(hg:bH w)(hs:s.size<4294967281) :
  aF 97 #[.string s,.string ⟨#[c]⟩] w fun e w' =>
   e=.returned (aU w.heap.size 0 (ft c s).length (ft c s).length)/\w'=w.alloc (.cells ((ft c s).map Value.string).toArray 9):=by obtain⟨_,m,hm⟩:=hg;have h:=Tryz.strings_Split s ⟨#[c]⟩ m w hs hm aB;rw[<- S6]at h;exact h
theorem fu{a b:Bool}(h:a=b):Ending.returned (.bool a)=.returned (.bool b):=by rw[h]
theorem ym{k:IntKind}{a b:Int}(h:a=b):Ending.returned (.int k a)=.returned (.int k b):=by rw[h]
theorem S7{a b:ByteArray}(h:a.data.toList=b.data.toList):Ending.returned (.string a)=.returned (.string b):=by
 have:a=b:=by cases a;cases b;simp at h;rw[h]
 rw[this]
theorem acp(c n:Int)(w:World)(h1 : -9223372036854775808<=c)(h2:c<=9223372036854775807)(hn:0<n)(wV:n<=1000000) :
  aF 20 #[aq c,aq n] w fun e w'=>e=.returned (aq (wR c n))/\w'=w:=by by_cases hc:c<0;{go_enter func20,ntmps20;go_wp2;go_ret;refine⟨ym ?_,rfl⟩;rw[wR,aP hc];rw[<- Int.neg_tmod,Sj ae]};{go_enter func20,ntmps20;go_wp2;go_ret;exact⟨ym (by rw[wR,aG ae]),rfl⟩}
theorem S8(b:UInt8)(w:World) :
  aF 240 #[.int .u8 b.toNat] w fun e w'=>e=.returned (.bool (wQ b))/\w'=w:=by
 unfold wQ;generalize (b.toNat:Int)=n;go_enter func240,ntmps240;go_wp2;all_goals(go_ret;refine⟨fu ?_,rfl⟩;unfold MR)
 all_goals (first|done|(simp[*];done)|(simp[*];omega)|(rw[tB];simp[*];omega)|trace_state)
theorem Jb(s:ByteArray)(w:World)(hs:s.size<=maxLen) :
  aF 189 #[.string s] w fun e w'=>e=.returned (.bool (mi s.data.toList))/\w'=w:=by
 unfold maxLen at hs;by_cases h1:(s.size:Int)<1;{go_enter func189,ntmps189;go_wp2;go_ret;exact⟨fu (by unfold mi;rw[jv];simp;omega),rfl⟩};by_cases h2:(20:Int)<(s.size:Int);{go_enter func189,ntmps189;go_wp2;go_ret;exact⟨fu (by unfold mi;rw[jv];simp;omega),rfl⟩};go_enter func189,ntmps189;go_wp2;go_loop [14] (fun i=>∃k:Nat,k<=s.size/\i=aq k/\(s.data.toList.take k).all wQ=true) (fun i=>s.size - (intOf i).toNat);case atStart=>exact⟨0,dY _,rfl,rfl⟩
 case round =>(
 obtain⟨k,hk,rfl,hall⟩:=hrel;have H:=ag hall;clear hall;by_cases hlt:k<s.size;{
 have Jc:=ag (SX s k hlt);by_cases hb:wQ s[k]=true;{
 go_wp2_with (go_at_call 240;refine(S8 s[k] w).mono ?_;rintro e w' ⟨rfl,rfl⟩);go_round;case rel=>exact⟨k+1,ae,dD,by rw[af Jc,IA,af H];simp[hb]⟩
 case measure=>simp[intOf];omega};{
 have hb':wQ s[k]=false:=by simpa using hb
 clear hb;go_wp2_with (go_at_call 240;refine(S8 s[k] w).mono ?_;rintro e w' ⟨rfl,rfl⟩);go_ret;refine⟨fu ?_,rfl⟩;have hmem:s[k]∈s.data.toList:=iV (by simpa using hlt);symm;unfold mi;rw[E6];right;rw[Ms];exact⟨_,hmem,by simp[hb']⟩}};{go_wp2;go_ret;refine⟨fu ?_,rfl⟩;have:=af H;rw[z8 aX]at this;unfold mi;rw[this,jv];simp;omega})
def fL(most:Nat)(l:ai):Bool:=(pN most l).isSome
def kV(most:Nat)(l:ai):Nat:=(pN most l).getD 0
theorem acq(s:ByteArray)(w:World)(hs:s.size<=maxLen) :
  aF 229 #[.string s] w fun e w'=>e=.returned (.bool (yh s.data.toList))/\w'=w:=by
 unfold maxLen at hs;go_enter func229,ntmps229;go_wp2
 go_loop [6] (fun i=>∃k:Nat,k<=s.size/\i=aq k/\(s.data.toList.take k).all (fun c=>I8 c.toNat)=true) (fun i=>s.size - (intOf i).toNat)
 case atStart=>exact⟨0,dY _,rfl,rfl⟩
 case round =>
  obtain⟨k,hk,rfl,hall⟩:=hrel;have H:=ag hall;clear hall;by_cases hlt:k<s.size
  ·have Jc:=ag (SX s k hlt);by_cases hb:(33:Int)<=(s[k].toNat:Int)/\(s[k].toNat:Int)<=126
   ·obtain⟨hb1,hb2⟩:=hb;go_wp2
    go_round
    case rel=>exact⟨k+1,ae,dD,by rw[af Jc,IA,af H];simp[I8];omega⟩
    case measure=>simp[intOf];omega
   ·have hmem:s[k]∈s.data.toList:=iV (by simpa using hlt);have aJ:Hid (yh s.data.toList=false):=by
     unfold yh;rw[Hid,E6,E6,Ms];exact .inl (.inl ⟨_,hmem,by simp[I8];omega⟩)
    go_wp2
    all_goals
     first
     | (exfalso;omega)
     | (go_ret
        exact⟨fu aJ.symm,rfl⟩)
  ·have hall:=af H;rw[z8 aX]at hall;have aJ:Hid (yh s.data.toList=(decide ((1:Int)<=s.size) && decide ((s.size:Int)<=40))):=by
    unfold yh;rw[Hid,hall,jv,E7];congr 1 <;> (rw[decide_eq_decide];omega)
   clear hall;go_wp2
   all_goals
    go_ret;refine⟨fu ?_,rfl⟩;rw[af aJ]
    first
    | (simp[*];done)
    | (rw[tB];simp;omega)
theorem S9(s:ByteArray)(w:World) :
  aF 169 #[.string s] w fun e w'=>e=.returned (aq (u_ s.data.toList))/\w'=w:=by go_enter func169,ntmps169;go_wp2;all_goals(go_ret;refine⟨ym ?_,rfl⟩;unfold u_;simp only[gO,iv,gL,ne_eq]at *;simp[*])
theorem acr{i:Nat}{L:List ai}{k:Nat}(h:k<L.length):qI i (L.drop k)=(wS i L[k] && qI (i+1) (L.drop (k+1))):=by rw[nA h];rfl
theorem Fk(s:ByteArray)(w:World)(hg:bH w)(hs:s.size<=maxLen) :
  aF 123 #[.string s] w (cS (.bool (kU s.data.toList)) w):=by
 unfold maxLen at hs;by_cases h1:(60:Int)<(s.size:Int);{have aJ:Hid (kU s.data.toList=false):=by{unfold kU;rw[Hid,jv];simp;omega};go_enter func123,ntmps123;go_wp2;go_ret;exact⟨fu aJ.symm,bW _ _⟩};have hv:Hid (kU s.data.toList=qI 0 (aS 46 s.data.toList)):=by{unfold kU;rw[Hid,jv];simp;omega};have hpl:Hid (aS 46 s.data.toList=(ft 46 s).map (·.data.toList)):=(rU 46 s).symm;have iJ:=ag (Fi 46 s);have hat:=Fj w (ft 46 s);have rV:=ve s 46 w hg ae;have hb:aw w (w.alloc (.cells ((ft 46 s).map Value.string).toArray 9)):=bj.alloc aB _;have hlen:(ft 46 s).length<=61:=by{have:=yl 46 s.data.toList;rw[<- rU,hE,jv]at this;omega};generalize ft 46 s=L at *;generalize w.alloc (.cells (L.map Value.string).toArray 9)=W at *;have HC:=ag rV;have aZ:=ag hb;clear rV hb;obtain⟨hsz,hcell⟩:=hat;have eE:=ag hcell;clear hcell;go_enter func123,ntmps123;go_wp2_with (go_at_call 97;refine HC.mono ?_;rintro e w' ⟨rfl,rfl⟩);go_loop [11] (fun i=>∃k:Nat,k<=L.length/\i=aq k/\qI k ((L.map (·.data.toList)).drop k)=qI 0 (L.map (·.data.toList))) (fun i=>L.length - (intOf i).toNat);case atStart=>exact⟨0,dY _,rfl,rfl⟩
 case round =>(
 obtain⟨k,hk,rfl,hall⟩:=hrel;have H:=ag hall;clear hall;by_cases hlt:k<L.length;{
 have hck:=(af eE) k hlt;rw[kR]at hck;have hst:=ag (acr (i:=k) (L:=L.map (·.data.toList)) (k:=k) (by simpa using hlt));rw[CM]at hst;have hsk:L[k].size<=maxLen:=by{have:=af iJ L[k] (iV hlt);unfold maxLen;omega};generalize L[k]=x at *;by_cases hb:mi x.data.toList=true;{
 go_wp2_with (go_at_call 189;refine(Jb x _ hsk).mono ?_;rintro e w' ⟨rfl,rfl⟩);go_round;case rel=>exact⟨k+1,ae,dD,by rw[<- af H,af hst];simp[wS,hb]⟩
 case measure=>simp[intOf];omega};{
 have hb':mi x.data.toList=false:=by simpa using hb
 clear hb;by_cases hk0:(0:Int)<(k:Int);{
 have aJ:Hid (kU s.data.toList=false):=by{
 rw[Hid,af hv,af hpl,<- af H,af hst];have:(k == 0)=false:=by rw[gL];omega
 simp[wS,hb',this]};go_wp2_with (go_at_call 189;refine(Jb x _ hsk).mono ?_;rintro e w' ⟨rfl,rfl⟩);go_ret;exact⟨fu aJ.symm,aZ⟩};{
 obtain rfl:k=0:=ae;by_cases hx:x.data.toList = [42];{
 have hx':(x.toList == [42])=true:=by rw[gO,hx];rfl
 go_wp2_with (go_at_call 189;refine(Jb x _ hsk).mono ?_;rintro e w' ⟨rfl,rfl⟩);go_round;case rel=>exact⟨0+1,ae,dD,by rw[<- af H,af hst];simp[wS,hx]⟩
 case measure=>simp[intOf];omega};{
 have hx':(x.toList == [42])=false:=by rw[gO,gL];exact hx
 have aJ:Hid (kU s.data.toList=false):=by{rw[Hid,af hv,af hpl,<- af H,af hst];simp[wS,hb',hx]};go_wp2_with (go_at_call 189;refine(Jb x _ hsk).mono ?_;rintro e w' ⟨rfl,rfl⟩);go_ret;exact⟨fu aJ.symm,aZ⟩}}}};{have aJ:Hid (kU s.data.toList=true):=by{rw[Hid,af hv,af hpl,<- af H,pJ aX];rfl};go_wp2;go_ret;exact⟨fu aJ.symm,aZ⟩})
theorem S_(s:ByteArray)(w:World) :
  aF 124 #[.string s] w fun e w'=>e=.returned (.bool (wU s.data.toList))/\w'=w:=by go_enter func124,ntmps124;go_wp2_with (go_at_call 190;refine(Tryz.strings_HasPrefix s _ _).mono ?_;rintro e w' ⟨rfl,rfl⟩);go_ret;exact⟨rfl,rfl⟩
theorem tK(s:ByteArray)(w:World)(hg:bH w)(hs:s.size<=maxLen) :
  aF 68 #[.string s] w (cS (.bool (fG s.data.toList)) w):=by
 cases hv:kU s.data.toList
 ·have aJ:Hid (fG s.data.toList=false):=by unfold fG;rw[hv];rfl
  go_enter func68,ntmps68;go_wp2_with (go_at_call 123;refine(Fk s _ hg hs).mono ?_;rintro e w' ⟨rfl,hb⟩);go_ret;exact⟨fu aJ.symm,hb⟩
 ·have aJ:Hid (fG s.data.toList = !wU s.data.toList):=by unfold fG;rw[hv];rfl
  go_enter func68,ntmps68;go_wp2_with (first
   | (go_at_call 123;refine(Fk s _ hg hs).mono ?_;rintro e w' ⟨rfl,hb⟩)
   | (go_at_call 124;refine(S_ s _).mono ?_;rintro e w' ⟨rfl,rfl⟩))
  go_ret;exact⟨fu aJ.symm,hb⟩
theorem CT(s o:ByteArray):(s.toList == o.toList)=(s.data.toList == o.data.toList):=by rw[gO,gO]
theorem Fl(s o:ByteArray)(w:World)(hs:s.size<=1000000)(ho:o.size<=1000000) :
  aF 110 #[.string s,.string o] w fun e w'=>e=.returned (.bool (dU s.data.toList o.data.toList))/\w'=w:=by cases hv:(s.toList == o.toList);{have aJ:Hid (dU s.data.toList o.data.toList=Lib.hasSuffix s.data.toList (⟨#[46]⟩++o:ByteArray).data.toList):=by{rw[CT]at hv;unfold dU;rw[Hid,hv];simp};go_enter func110,ntmps110;go_wp2_with (go_at_call 181;refine(Tryz.strings_HasSuffix s _ _ ae).mono ?_;rintro e w' ⟨rfl,rfl⟩);go_ret;exact⟨fu aJ.symm,rfl⟩};{have aJ:Hid (dU s.data.toList o.data.toList=true):=by{rw[CT]at hv;unfold dU;rw[Hid,hv];rfl};go_enter func110,ntmps110;go_wp2;go_ret;exact⟨fu aJ.symm,rfl⟩}
theorem acs(s:ByteArray)(w:World)(hs:s.size<=1000000) :
  aF 273 #[.string s] w fun e w'=>e=.returned (.string ⟨(42 :: 46 :: s.data.toList).toArray⟩)/\w'=w:=by go_enter func273,ntmps273;go_wp2;go_ret;exact⟨S7 ak,rfl⟩
theorem Ta{most:Nat} : ∀(l:ai) (n m:Nat),lM most n l=some m->n<=most->m<=most
 | [],n,m,h,hn=>by simp[lM]at h;omega
 | c :: r,n,m,h,hn=>by unfold lM at h;split at h;{split at h;{exact Ta r _ m h (by assumption)};{cases h}};{cases h}
theorem Fm{k:IntKind}{a b:Int}{x y:Bool}(h:a=b)(h':x=y):Ending.returned (.tuple #[.int k a,.bool x])=.returned (.tuple #[.int k b,.bool y]):=by rw[h,h']
theorem MS(s:ByteArray)(most:Nat)(w:World)(hs:s.size<=maxLen)(hm:most<=4294967295) :
  aF 168 #[.string s,.int .u64 most] w fun e w' =>
   e=.returned (.tuple #[.int .u64 (kV most s.data.toList),.bool (fL most s.data.toList)])/\w'=w:=by
 unfold maxLen at hs;by_cases h0:s.size=0
 ·have hl:s.toList = []:=by rw[gO];exact gS (by rw[jv];exact h0)
  have hn:Hid (pN most s.data.toList=none):=by
   rw[<- gO,hl];exact rfl
  go_enter func168,ntmps168;go_wp2;go_ret2;exact⟨Fm (by rw[kV,af hn];rfl) (by rw[fL,af hn];rfl),rfl⟩
 have hl:(s.toList == [])=false:=by
  rw[gO,gL];intro h;have:=ek List.length h;rw[jv]at this;exact h0 this
 have acu:0<s.size:=ae;have aD:=SY s 0 acu;rw[zW]at aD;by_cases hz:(s[0].toNat:Int)=48/\(1:Int)<s.size
 ·obtain⟨hz1,hz2⟩:=hz;have hn:Hid (pN most s.data.toList=none):=by
   rw[aD,pN];exact aP ⟨ae,fun h=>by have:=ek List.length h;simp at this;omega⟩
  clear aD;go_enter func168,ntmps168;go_wp2;go_ret2;exact⟨Fm (by rw[kV,af hn];rfl) (by rw[fL,af hn];rfl),rfl⟩
 have hn:Hid (pN most s.data.toList=lM most 0 s.data.toList):=by
  rw[aD,pN];exact aG (fun h=>hz ⟨ae,by
   have:s.data.toList.drop (0+1)≠[]:=h.2;rw[ne_eq,List.drop_eq_nil_iff]at this;rw[jv]at this;omega⟩)
 clear aD;have hz':(s[0].toNat:Int)=48/\(s.size:Int)<=1\/¬(s[0].toNat:Int)=48:=ae;clear hz;rcases hz' with⟨hz1,hz2⟩|hz1
 all_goals
  go_enter func168,ntmps168;go_wp2
  go_loop [6,22] (fun n i=>∃k m:Nat,k<=s.size/\i=aq k/\n=.int .u64 m/\m<=most/\lM most m (s.data.toList.drop k)=lM most 0 s.data.toList) (fun _ i=>s.size - (intOf i).toNat)
  case atStart=>exact⟨0,0,dY _,rfl,rfl,dY _,by rw[zW]⟩
  case round =>
   obtain⟨k,m,hk,rfl,rfl,hmm,kW⟩:=hrel;have H:=ag kW;clear kW;by_cases hlt:k<s.size
   ·have Tb:=ag (SY s k hlt);by_cases hb:(48:Int)<=(s[k].toNat:Int)/\(s[k].toNat:Int)<=57
    ·obtain⟨hb1,hb2⟩:=hb;have hm1:(m:Int)<=4294967295:=ae;have hst:Hid (lM most m (s.data.toList.drop k)=if 10*m+(s[k].toNat - 48)<=most then lM most (10*m+(s[k].toNat - 48)) (s.data.toList.drop (k+1))else none):=by
      rw[af Tb,Hid]
      conv=>lhs;rw[lM,aP (by simp[rT];omega)]
     by_cases hg:10*(m:Int)+((s[k].toNat:Int) - 48)<=(most:Int)
     ·go_wp2
      go_round
      case rel=>exact⟨k+1,10*m+(s[k].toNat - 48),ae,dD,dD,ae,by rw[<- af H,af hst,aP ae]⟩
      case measure=>simp[intOf];omega
     ·have aJ:Hid (pN most s.data.toList=none):=by
       rw[af hn,Hid,<- af H,af hst,aG ae]
      go_wp2;go_ret2;exact⟨Fm (by rw[kV,af aJ];rfl) (by rw[fL,af aJ];rfl),rfl⟩
    ·have aJ:Hid (pN most s.data.toList=none):=by
      rw[af hn,Hid,<- af H,af Tb,lM,aG (by simp[rT];omega)]
     go_wp2
     all_goals
      first
      | (exfalso;omega)
      | (go_ret2
         exact⟨Fm (by rw[kV,af aJ];rfl) (by rw[fL,af aJ];rfl),rfl⟩)
   ·have aJ:Hid (pN most s.data.toList=some m):=by
     rw[af hn,Hid,<- af H,pJ (by rw[jv];omega)];rfl
    go_wp2;go_ret2;exact⟨Fm (by rw[kV,af aJ];rfl) (by rw[fL,af aJ];rfl),rfl⟩
theorem CU(s:ByteArray)(most:Nat)(w:World)(hs:s.size<=maxLen)(hm:most<=4294967295) :
  aF 227 #[.string s,.int .u64 most] w fun e w'=>e=.returned (.bool (fL most s.data.toList))/\w'=w:=by go_enter func227,ntmps227;go_wp2_with (go_at_call 168;refine(MS s most w hs hm).mono ?_;rintro e w' ⟨rfl,rfl⟩);go_ret;exact⟨rfl,rfl⟩
def yn(l:ai):Bool:=(aS 46 l).all (fL 255) && (aS 46 l).length == 4
def eF(k:Int)(aR:List ai):Bool :=
 if k=6 then(match aR with
  | [a,b,c,d]=>fG a && fG b && fL 4294967295 c && fL 86400 d
  | _=>false)
 else if k=2\/k=5 then(match aR with
  | [a]=>fG a
  | _=>false)
 else if k=1 then(match aR with
  | [a]=>yn a
  | _=>false)
 else if k=16 then(match aR with
  | [a]=>yh a
  | _=>false)
 else if k=15 then(match aR with
  | [a,b]=>fL 65535 a && fG b
  | _=>false)
 else false
theorem acv(s:ByteArray)(w:World)(hg:bH w)(hs:s.size<=3000) :
  aF 228 #[.string s] w (cS (.bool (yn s.data.toList)) w):=by
 have hpl:Hid (aS 46 s.data.toList=(ft 46 s).map (·.data.toList)):=(rU 46 s).symm;have iJ:=ag (Fi 46 s);have hat:=Fj w (ft 46 s);have rV:=ve s 46 w hg ae;have hb:aw w (w.alloc (.cells ((ft 46 s).map Value.string).toArray 9)):=bj.alloc aB _;have hlen:(ft 46 s).length<=3001:=by{have:=yl 46 s.data.toList;rw[<- rU,hE,jv]at this;omega};generalize ft 46 s=L at *;generalize w.alloc (.cells (L.map Value.string).toArray 9)=W at *;have HC:=ag rV;have aZ:=ag hb;clear rV hb;obtain⟨hsz,hcell⟩:=hat;have eE:=ag hcell;clear hcell;go_enter func228,ntmps228;go_wp2_with (go_at_call 97;refine HC.mono ?_;rintro e w' ⟨rfl,rfl⟩);go_loop [10] (fun i=>∃k:Nat,k<=L.length/\i=aq k/\((L.map (·.data.toList)).take k).all (fL 255)=true) (fun i=>L.length - (intOf i).toNat);case atStart=>exact⟨0,dY _,rfl,rfl⟩
 case round =>(
 obtain⟨k,hk,rfl,hall⟩:=hrel;have H:=ag hall;clear hall;by_cases hlt:k<L.length;{
 have hck:=(af eE) k hlt;rw[kR]at hck;have hst:Hid ((L.map (·.data.toList)).take (k+1)=(L.map (·.data.toList)).take k++[L[k].data.toList]):=by{rw[Hid,kQ (by simpa using hlt),CM]};have hmem:Hid (L[k].data.toList∈L.map (·.data.toList)):=MC (iV hlt);have hsk:L[k].size<=maxLen:=by{have:=af iJ L[k] (iV hlt);unfold maxLen;omega};generalize L[k]=x at *;cases hb:fL 255 x.data.toList;{have aJ:Hid (yn s.data.toList=false):=by{rw[Hid,yn,af hpl,E6,Ms];exact .inl ⟨_,hmem,by simp[hb]⟩};go_wp2_with (go_at_call 227;refine(CU x 255 _ hsk ae).mono ?_;rintro e w' ⟨rfl,rfl⟩);go_ret;exact⟨fu aJ.symm,aZ⟩};{
 go_wp2_with (go_at_call 227;refine(CU x 255 _ hsk ae).mono ?_;rintro e w' ⟨rfl,rfl⟩);go_round;case rel=>exact⟨k+1,ae,dD,by rw[af hst,IA,af H];simp[hb]⟩
 case measure=>simp[intOf];omega}};{have aJ:Hid (yn s.data.toList=((L.length:Int) == 4)):=by{have:=af H;rw[z8 aX]at this;rw[Hid,yn,af hpl,this,E7,hE,tB,iv,iv];omega};go_wp2;go_ret;exact⟨fu aJ.symm,aZ⟩})
def j9(aR:List ByteArray):List ai:=aR.map (·.data.toList)
theorem acw(aR:List ai)(h:aR.length≠4):eF 6 aR=false:=by unfold eF;rw[aP rfl];split;{exact absurd rfl h};{rfl}
theorem Tc(k:Int)(hk:k=2\/k=5)(aR:List ai)(h:aR.length≠1):eF k aR=false:=by unfold eF;rw[aG ae,aP hk];split;{exact absurd rfl h};{rfl}
theorem acx(aR:List ai)(h:aR.length≠1):eF 1 aR=false:=by unfold eF;rw[aG ae,aG ae,aP rfl];split;{exact absurd rfl h};{rfl}
theorem acy(aR:List ai)(h:aR.length≠1):eF 16 aR=false:=by unfold eF;rw[aG ae,aG ae,aG ae,aP rfl];split;{exact absurd rfl h};{rfl}
theorem acz(aR:List ai)(h:aR.length≠2):eF 15 aR=false:=by unfold eF;rw[aG ae,aG ae,aG ae,aG ae,aP rfl];split;{exact absurd rfl h};{rfl}
theorem bI(k:Int)(aR:List ai)(h6:k≠6)(h2:k≠2)(h5:k≠5)(h1:k≠1)(tL:k≠16)(tM:k≠15):eF k aR=false:=by unfold eF;rw[aG h6,aG ae,aG h1,aG tL,aG tM]
theorem acA(b cap:Nat)(aR:List ByteArray)(w:World)(hg:bH w)(hat:pO w b 0 aR)(hsz:∀x∈aR,x.size<=3000)(hl:aR.length<=3001) :
  aF 170 #[aq 6,aU b 0 aR.length cap] w (cS (.bool (eF 6 (j9 aR))) w):=by
 by_cases h4:aR.length=4;{
 match aR,h4 with
 | [x0,x1,x2,x3],_ =>
 have aJ:Hid (eF 6 (j9 [x0,x1,x2,x3])=(fG x0.data.toList && fG x1.data.toList && fL 4294967295 x2.data.toList && fL 86400 x3.data.toList)):=rfl;have s0:x0.size<=maxLen:=by have:=hsz x0 ak;unfold maxLen;omega
 have s1:x1.size<=maxLen:=by have:=hsz x1 ak;unfold maxLen;omega
 have s2:x2.size<=maxLen:=by have:=hsz x2 ak;unfold maxLen;omega
 have s3:x3.size<=maxLen:=by have:=hsz x3 ak;unfold maxLen;omega
 have c0:w.cell? (ar b 0)=some (.string x0):=hat.2 0 ak;have dV:=ag hat;clear hat hl hsz;cases v0:fG x0.data.toList;{go_enter func170,ntmps170;go_wp2_with (go_at_call 68;refine(tK x0 _ hg s0).mono ?_;rintro e w1 ⟨rfl,hb1⟩);go_ret;exact⟨fu (by rw[af aJ,v0];rfl),hb1⟩};cases v1:fG x1.data.toList;{go_enter func170,ntmps170;go_wp2_with fail;refine(tK x0 _ hg s0).mono ?_;rintro e w1 ⟨rfl,hb1⟩;have g1:=hg.below hb1;have a1:=dV.below hb1;have az:w1.cell? (ar b 1)=some (.string x1):=a1.2 1 ak;have rW:=ag a1;clear a1;go_wp2_with (go_at_call 68;refine(tK x1 _ g1 s1).mono ?_;rintro e w2 ⟨rfl,hb2⟩);go_ret;exact⟨fu (by rw[af aJ,v0,v1];rfl),hb1.trans (hb2.mono hb1.size)⟩};cases v2:fL 4294967295 x2.data.toList;all_goals(go_enter func170,ntmps170;go_wp2_with fail;refine(tK x0 _ hg s0).mono ?_;rintro e w1 ⟨rfl,hb1⟩;have g1:=hg.below hb1;have a1:=dV.below hb1;have az:w1.cell? (ar b 1)=some (.string x1):=a1.2 1 ak;have rW:=ag a1;clear a1;go_wp2_with fail;refine(tK x1 _ g1 s1).mono ?_;rintro e w2 ⟨rfl,hb2⟩;have a2:=rW.below hb2;have c2:w2.cell? (ar b 2)=some (.string x2):=a2.2 2 ak;have c3:w2.cell? (ar b 3)=some (.string x3):=a2.2 3 ak;clear a2;go_wp2_with fail;refine(CU x2 4294967295 _ s2 ae).mono ?_;rintro e w3 ⟨rfl,rfl⟩;go_wp2_with (go_at_call 227;refine(CU x3 86400 _ s3 ae).mono ?_;rintro e w4 ⟨rfl,rfl⟩);go_ret;exact⟨fu (by rw[af aJ,v0,v1,v2];rfl),hb1.trans (hb2.mono hb1.size)⟩)};{
 have aJ:Hid (eF 6 (j9 aR)=false):=by{exact acw _ (by simpa [j9]using h4)};have CV:((aR.length:Int) == 4)=false:=by rw[gL];omega
 clear h4 hat hsz;go_enter func170,ntmps170;go_wp2;go_ret;exact⟨fu aJ.symm,bW _ _⟩}
theorem acB(b cap:Nat)(aR:List ByteArray)(w:World)(hg:bH w)(hat:pO w b 0 aR)(hsz:∀x∈aR,x.size<=3000)(hl:aR.length<=3001) :
  aF 170 #[aq 2,aU b 0 aR.length cap] w (cS (.bool (eF 2 (j9 aR))) w):=by
 by_cases h4:aR.length=1;{
 match aR,h4 with
 | [x0],_ =>
 have s0:x0.size<=maxLen:=by have:=hsz x0 ak;unfold maxLen;omega
 have s0':x0.size<=3000:=hsz x0 ak;have c0:w.cell? (ar b 0)=some (.string x0):=hat.2 0 ak;clear hat hl hsz;go_enter func170,ntmps170;go_wp2_with (go_at_call 68;refine(tK x0 _ hg s0).mono ?_;rintro e w1 ⟨rfl,hb1⟩);go_ret;exact⟨rfl,hb1⟩};{
 have aJ:Hid (eF 2 (j9 aR)=false):=Tc 2 (.inl rfl) _ (by simpa [j9]using h4);have CV:((aR.length:Int) == 1)=false:=by rw[gL];omega
 clear h4 hat hsz;go_enter func170,ntmps170;go_wp2;go_ret;exact⟨fu aJ.symm,bW _ _⟩}
theorem acC(b cap:Nat)(aR:List ByteArray)(w:World)(hg:bH w)(hat:pO w b 0 aR)(hsz:∀x∈aR,x.size<=3000)(hl:aR.length<=3001) :
  aF 170 #[aq 5,aU b 0 aR.length cap] w (cS (.bool (eF 5 (j9 aR))) w):=by
 by_cases h4:aR.length=1;{
 match aR,h4 with
 | [x0],_ =>
 have s0:x0.size<=maxLen:=by have:=hsz x0 ak;unfold maxLen;omega
 have s0':x0.size<=3000:=hsz x0 ak;have c0:w.cell? (ar b 0)=some (.string x0):=hat.2 0 ak;clear hat hl hsz;go_enter func170,ntmps170;go_wp2_with (go_at_call 68;refine(tK x0 _ hg s0).mono ?_;rintro e w1 ⟨rfl,hb1⟩);go_ret;exact⟨rfl,hb1⟩};{
 have aJ:Hid (eF 5 (j9 aR)=false):=Tc 5 (.inr rfl) _ (by simpa [j9]using h4);have CV:((aR.length:Int) == 1)=false:=by rw[gL];omega
 clear h4 hat hsz;go_enter func170,ntmps170;go_wp2;go_ret;exact⟨fu aJ.symm,bW _ _⟩}
theorem acD(b cap:Nat)(aR:List ByteArray)(w:World)(hg:bH w)(hat:pO w b 0 aR)(hsz:∀x∈aR,x.size<=3000)(hl:aR.length<=3001) :
  aF 170 #[aq 1,aU b 0 aR.length cap] w (cS (.bool (eF 1 (j9 aR))) w):=by
 by_cases h4:aR.length=1;{
 match aR,h4 with
 | [x0],_ =>
 have s0:x0.size<=maxLen:=by have:=hsz x0 ak;unfold maxLen;omega
 have s0':x0.size<=3000:=hsz x0 ak;have c0:w.cell? (ar b 0)=some (.string x0):=hat.2 0 ak;clear hat hl hsz;go_enter func170,ntmps170;go_wp2_with (go_at_call 228;refine(acv x0 _ hg s0').mono ?_;rintro e w1 ⟨rfl,hb1⟩);go_ret;exact⟨rfl,hb1⟩};{
 have aJ:Hid (eF 1 (j9 aR)=false):=acx _ (by simpa [j9]using h4);have CV:((aR.length:Int) == 1)=false:=by rw[gL];omega
 clear h4 hat hsz;go_enter func170,ntmps170;go_wp2;go_ret;exact⟨fu aJ.symm,bW _ _⟩}
theorem acE(b cap:Nat)(aR:List ByteArray)(w:World)(hg:bH w)(hat:pO w b 0 aR)(hsz:∀x∈aR,x.size<=3000)(hl:aR.length<=3001) :
  aF 170 #[aq 16,aU b 0 aR.length cap] w (cS (.bool (eF 16 (j9 aR))) w):=by
 by_cases h4:aR.length=1;{
 match aR,h4 with
 | [x0],_ =>
 have s0:x0.size<=maxLen:=by have:=hsz x0 ak;unfold maxLen;omega
 have s0':x0.size<=3000:=hsz x0 ak;have c0:w.cell? (ar b 0)=some (.string x0):=hat.2 0 ak;clear hat hl hsz;go_enter func170,ntmps170;go_wp2_with (go_at_call 229;refine(acq x0 _ s0).mono ?_;rintro e w1 ⟨rfl,rfl⟩);go_ret;exact⟨rfl,bW _ _⟩};{
 have aJ:Hid (eF 16 (j9 aR)=false):=acy _ (by simpa [j9]using h4);have CV:((aR.length:Int) == 1)=false:=by rw[gL];omega
 clear h4 hat hsz;go_enter func170,ntmps170;go_wp2;go_ret;exact⟨fu aJ.symm,bW _ _⟩}
theorem acF(b cap:Nat)(aR:List ByteArray)(w:World)(hg:bH w)(hat:pO w b 0 aR)(hsz:∀x∈aR,x.size<=3000)(hl:aR.length<=3001) :
  aF 170 #[aq 15,aU b 0 aR.length cap] w (cS (.bool (eF 15 (j9 aR))) w):=by
 by_cases h4:aR.length=2
 ·match aR,h4 with
  | [x0,x1],_ =>
  have aJ:Hid (eF 15 (j9 [x0,x1])=(fL 65535 x0.data.toList && fG x1.data.toList)):=rfl;have s0:x0.size<=maxLen:=by have:=hsz x0 ak;unfold maxLen;omega
  have s1:x1.size<=maxLen:=by have:=hsz x1 ak;unfold maxLen;omega
  have c0:w.cell? (ar b 0)=some (.string x0):=hat.2 0 ak;have az:w.cell? (ar b 1)=some (.string x1):=hat.2 1 ak;clear hat hl hsz;cases v0:fL 65535 x0.data.toList
  ·go_enter func170,ntmps170;go_wp2_with (go_at_call 227;refine(CU x0 65535 _ s0 ae).mono ?_;rintro e w1 ⟨rfl,rfl⟩);go_ret;exact⟨fu (by rw[af aJ,v0];rfl),bW _ _⟩
  ·go_enter func170,ntmps170;go_wp2_with (first
    | (go_at_call 227;refine(CU x0 65535 _ s0 ae).mono ?_;rintro e w1 ⟨rfl,rfl⟩)
    | (go_at_call 68;refine(tK x1 _ hg s1).mono ?_;rintro e w1 ⟨rfl,hb1⟩))
   go_ret;exact⟨fu (by rw[af aJ,v0];rfl),hb1⟩
 ·have aJ:Hid (eF 15 (j9 aR)=false):=acz _ (by simpa [j9]using h4);have CV:((aR.length:Int) == 2)=false:=by rw[gL];omega
  clear h4 hat hsz;go_enter func170,ntmps170;go_wp2;go_ret;exact⟨fu aJ.symm,bW _ _⟩
theorem acG(k:Int)(b cap:Nat)(aR:List ByteArray)(w:World)(h6:k≠6)(h2:k≠2)(h5:k≠5)(h1:k≠1)(tL:k≠16)(tM:k≠15) :
  aF 170 #[aq k,aU b 0 aR.length cap] w (cS (.bool (eF k (j9 aR))) w):=by have aJ:=ag (bI k (j9 aR) h6 h2 h5 h1 tL tM);have k6:(k == 6)=false:=gL.2 h6;have k2:(k == 2)=false:=gL.2 h2;have k5:(k == 5)=false:=gL.2 h5;have k1:(k == 1)=false:=gL.2 h1;have k16:(k == 16)=false:=gL.2 tL;have k15:(k == 15)=false:=gL.2 tM;clear h6 h2 h5 h1 tL tM;go_enter func170,ntmps170;go_wp2;go_ret;exact⟨fu aJ.symm,bW _ _⟩
theorem acH(k:Int)(b cap:Nat)(aR:List ByteArray)(w:World)(hg:bH w)(hat:pO w b 0 aR)(hsz:∀x∈aR,x.size<=3000)(hl:aR.length<=3001) :
  aF 170 #[aq k,aU b 0 aR.length cap] w (cS (.bool (eF k (j9 aR))) w):=by by_cases h6:k=6;{subst h6;exact acA b cap aR w hg hat hsz hl};by_cases h2:k=2;{subst h2;exact acB b cap aR w hg hat hsz hl};by_cases h5:k=5;{subst h5;exact acC b cap aR w hg hat hsz hl};by_cases h1:k=1;{subst h1;exact acD b cap aR w hg hat hsz hl};by_cases tL:k=16;{subst tL;exact acE b cap aR w hg hat hsz hl};by_cases tM:k=15;{subst tM;exact acF b cap aR w hg hat hsz hl};exact acG k b cap aR w h6 h2 h5 h1 tL tM
def ah(l:ai):ByteArray:=⟨l.toArray⟩
abbrev aA(x:List UInt8):Value:=.string (ah x)
theorem MT(s:ByteArray):ah s.data.toList=s:=by cases s;simp[ah]
theorem qJ(l:ai):(ah l).data.toList=l:=rfl
theorem dt(l:ai):(ah l).size=l.length:=by simp[ah,ByteArray.size]
abbrev aj:=ai×Nat×Int×ai
def aj.owner(r:aj):ai:=r.1
def aj.aV(r:aj):Nat:=r.2.1
def aj.type(r:aj):Int:=r.2.2.1
def aj.data(r:aj):ai:=r.2.2.2
def aj.zero:aj:=([],0,0,[])
def aj.aN(r:aj):List Value:=[.string (ah r.owner),aq r.aV,aq r.type,.string (ah r.data)]
def aj.pP(r:aj):Value:=.agg #[.string (ah r.owner),aq r.aV,aq r.type,.string (ah r.data)]
def oP(l:ai):Option aj :=
 match Lib.splitN l [32] 4 with
 | [a,b,c,d]=>if kU a && fL 86400 b && eF (u_ c) (aS 32 d)then some (a,kV 86400 b,u_ c,d)else none
 | _=>none
def qK(o:Option aj):Value:=.tuple #[(o.getD aj.zero).pP,.bool o.isSome]
theorem MU(c:UInt8):∀(k:Nat) (l:ai),∀x∈Lib.splitK [c] 0 k l,x.length<=l.length
 | 0,l,x,hx=>by simp[Lib.splitK]at hx;subst hx;exact aL _
 | k+1,l,x,hx=>by unfold Lib.splitK at hx;split at hx;{simp at hx;subst hx;exact aL _};{rw[eK]at hx;rcases hx with rfl|hx;{simp;omega};{have:=MU c k _ x hx;rw[iW]at this;omega}}
def qL(s:ByteArray):List ByteArray:=Lib.splitB ⟨#[32]⟩ 0 (min 4 (s.size+1) - 1) s
theorem MV(s:ByteArray):(qL s).map (·.data.toList)=Lib.splitN s.data.toList [32] 4:=by unfold qL;rw[Lib.splitB_data];unfold Lib.splitN;rw[jv]
theorem acI(s:ByteArray):(qL s).length<=4:=by have:=Lib.splitB_length_le ⟨#[32]⟩ 0 (min 4 (s.size+1) - 1) s;unfold qL;omega
theorem acJ(s x:ByteArray)(hx:x∈qL s):x.size<=s.size:=by have:x.data.toList∈Lib.splitN s.data.toList [32] 4:=by{rw[<- MV];exact MC hx};have:=MU 32 _ _ _ this;rwa [jv,jv]at this
theorem acK(w:World)(L:List ByteArray)(N:Nat):pO (w.alloc (.cells (Lib.cellsOf L N) 9)) w.heap.size 0 L:=by refine⟨ak,fun j hj=>?_⟩;rw[kR];unfold Lib.cellsOf;simp[hj,List.getElem?_append]
theorem Td(s:ByteArray)(w:World)(hg:bH w)(hs:s.size<=3000) :
  aF 167 #[.string s,.string ⟨#[32]⟩,aq 4] w fun e w' =>
   e=.returned (aU w.heap.size 0 (qL s).length (min 4 (s.size+1)))/\w'=w.alloc (.cells (Lib.cellsOf (qL s) (min 4 (s.size+1))) 9):=by obtain⟨_,m,hm⟩:=hg;exact Tryz.strings_SplitN s ⟨#[32]⟩ 4 m w ae hm aB ae ae
theorem acL(s:ByteArray)(w:World)(hg:bH w)(hs:s.size<=3000)(h4:(qL s).length≠4) :
  aF 99 #[.string s] w (cS (qK none) w):=by have hlen:=acI s;have yo:=Td s (w.alloc (.cells #[.string ⟨#[]⟩,.int .i64 0,.int .i64 0,.string ⟨#[]⟩] 47)) (hg.alloc _) hs;generalize qL s=L at *;have CV:(L.length:Int)<4:=ae;have HC:=ag yo;clear yo;go_enter func99,ntmps99;go_wp2_with (go_at_call 167;refine HC.mono ?_;rintro e w' ⟨rfl,rfl⟩);refine df (v:=qK none) (by simp[results,results99,go_sem,qK,aj.pP,aj.zero,aj.owner,aj.aV,aj.type,aj.data,ah]) rfl ⟨rfl,?_⟩;exact(bj.alloc aB _).alloc ak _
section
variable {P:Program} {α:Type}
def pQ(P:Program)(g:Nat)(lb:Array Value)(encs:α->Array Value)(xs:List α)(St Kp Kx:World->World->Prop)(W0:World):Prop :=
 ∀(l:Nat) (J:Nat->World->Prop) (Jx:World->Prop),
  (∀i A B,J i A->St A B->J i B)->(∀A B,Jx A->St A B->Jx B) ->
  (∀i x W,xs[i]? = some x->J i W->YieldAt Fence.wide 0 P l (encs x) W fun e W' =>
   (e=.returned (.bool true)/\J (i+1) W'/\Kp W W')\/(e=.returned (.bool false)/\Jx W'/\Kx W W')) ->
  J 0 W0 ->
  CallsIn Fence.wide 0 P g (#[.func (.yield l) #[] #[]]++lb) W0 fun e W'=>(∃v,e=.returned v)/\(J xs.length W'\/Jx W')
def gq(d:Nat)(A B:World):Prop:=A.heap.size<=B.heap.size/\B.heap[d]? = A.heap[d]?/\B.heap[d+1]? = A.heap[d+1]?
def MW(d:Nat)(Kb nD:World->World->Prop)(I:World->Prop)(Ix:Code->World->Prop)(W:World):Exit->Act->World->Prop
 | .normal,_,W'=>gq d W W'/\Kb W W'/\I W'
 | .ret,_,W'=>gq d W W'/\nD W W'/\Ix .ret W'
 | .exit id,_,W'=>gq d W W'/\nD W W'/\Ix (.exit id) W'
 | .goto t,_,W'=>gq d W W'/\nD W W'/\Ix (.goto t) W'
 | .panic _,_,_=>False
 | .outgrown,_,_=>False
theorem Fo{g:Operand}{ps:Array Tmp}{assign body:Code}{Q:Exit->Act->World->Prop}{a:Act}{w:World}
  {gf:Nat} {lb:Array Value} (hg:a.eval g=.func (.func gf) #[] lb) (eg:∀args w,(callFunc gf args).run P w=.ok (.enter gf args) w)
  {encs:α->Array Value} {xs:List α} {St Kp Kx:World->World->Prop} (iJ:∀x,(encs x).size=ps.size)
  (hseq:∀r,pQ P gf lb encs xs St Kp Kx ((w.alloc (.deferred (some []))).alloc (.loop r)))
  (I:Nat->World->Prop) (Ix:Code->World->Prop)
  (iX:∀A B,w.heap.size+2<=A.heap.size->St A B->gq w.heap.size A B)
  (hI:∀i A B,I i A->St A B->I i B) (kX:∀c A B,Ix c A->St A B->Ix c B)
  (oo:∀i A r o,I i A->A.heap[w.heap.size+1]? = some (.loop r)->I i (A.putObj (w.heap.size+1) o))
  (mN:∀c A r o,Ix c A->A.heap[w.heap.size+1]? = some (.loop r)->Ix c (A.putObj (w.heap.size+1) o))
  (h0:∀r,I 0 ((w.alloc (.deferred (some []))).alloc (.loop r)))
  (Kb:World->World->Prop)
  (nE:∀W r r' r'' Wc,W.heap[w.heap.size+1]? = some (.loop r)->Kb (W.putObj (w.heap.size+1) (.loop r')) Wc->gq w.heap.size (W.putObj (w.heap.size+1) (.loop r')) Wc->Kp W (Wc.putObj (w.heap.size+1) (.loop r'')))
  (nD:World->World->Prop)
  (hKx:∀W r r' r'' Wc,W.heap[w.heap.size+1]? = some (.loop r)->nD (W.putObj (w.heap.size+1) (.loop r')) Wc->gq w.heap.size (W.putObj (w.heap.size+1) (.loop r')) Wc->Kx W (Wc.putObj (w.heap.size+1) (.loop r'')))
  (qM:∀(l i:Nat) (x:α) (V W:World),xs[i]? = some x->I i W->w.heap.size+2<=W.heap.size ->
   assign.wpIn (Fence.wide.inRound l) 0 P (Exit.then (fun a₁ V'=>V'=V/\body.wpIn (Fence.wide.inRound l) 0 P (MW w.heap.size Kb nD (I (i+1)) Ix W) a₁ W) (fun _ _ _=>False)) { tmps:=(ps.zip (encs x)).foldl (fun t (p,v)=>t.setIfInBounds p v) a.tmps,defers:=[] } V)
  (hdone:∀W,I xs.length W->W.heap[w.heap.size]? = some (.deferred (some []))->w.heap.size+2<=W.heap.size->Q .normal { a with defers:={ target:=.collected w.heap.size,args:=#[] } :: a.defers } W)
  (oQ:∀c W,Ix c W->W.heap[w.heap.size]? = some (.deferred (some []))->w.heap.size+2<=W.heap.size->c.wpIn Fence.wide 0 P Q { a with defers:={ target:=.collected w.heap.size,args:=#[] } :: a.defers } W) :
  (Code.rangeFunc g ps assign body).wpIn Fence.wide 0 P Q a w:=by
 refine wpIn_rangeFunc fun fn hfn=>?_;obtain⟨D,hD⟩:=bP w.heap.size;obtain⟨rec,cA⟩:∃rec:LoopState->Option Code->Loop,rec=fun st pe=>{ state:=st,pending:=pe,fn,tmps:=a.tmps,params:=ps,assign,body,defers:=w.heap.size }:=⟨_,rfl⟩
 have Fp:=run_enterLoop_outer (P:=P) (w:=w) fn a.tmps ps assign body;refine⟨w.heap.size+1,[{ target:=.collected w.heap.size,args:=#[] }],(w.alloc (.deferred (some []))).alloc (.loop (rec .ready none)),
  { target:=.fn (.func gf) lb,args:=#[.func (.yield (w.heap.size+1)) #[] #[]] },(w.alloc (.deferred (some []))).alloc (.loop (rec .ready none)),gf,
  #[.func (.yield (w.heap.size+1)) #[] #[]]++lb,(w.alloc (.deferred (some []))).alloc (.loop (rec .ready none)),?_,?_,fun _ _=>aY,?_,fun h=>by simp[Fence.wide]at h,?_⟩
 ·rw[cA];exact Fp
 ·simp only[resolve,hg];simp[go_sem]
 ·simp[invoke,go_sem,eg]
 ·obtain⟨W1,hW1⟩:∃W1,(w.alloc (.deferred (some []))).alloc (.loop (rec .ready none))=W1:=⟨_,rfl⟩
  have dg:W1.heap[w.heap.size+1]? = some (.loop (rec .ready none)):=by
   rw[<- hW1];have:=World.alloc_heap_new (w.alloc (.deferred (some []))) (.loop (rec .ready none));rwa [dI]at this
  have fH:W1.heap[w.heap.size]? = some (.deferred (some [])):=by
   rw[<- hW1];exact(bV _ _ _ ak).trans (World.alloc_heap_new w _)
  have hsz:∀W:World,(∃o,W.heap[w.heap.size+1]? = some o)->w.heap.size+2<=W.heap.size:=fun W ⟨o,h⟩=>by
   have:=(di.1 h).1;omega
  have hs:=hseq (rec .ready none) (w.heap.size+1)
   (fun i W=>I i W/\W.heap[w.heap.size+1]? = some (.loop (rec .ready none))/\W.heap[w.heap.size]? = some (.deferred (some [])))
   (fun W=>∃c,Ix c W/\W.heap[w.heap.size+1]? = some (.loop (rec .done (some c)))/\W.heap[w.heap.size]? = some (.deferred (some [])))
   (fun i A B hA hst=>by
    obtain⟨h1,h2,h3⟩:=hA;have hL:=iX A B (hsz A ⟨_,h2⟩) hst;exact⟨hI i A B h1 hst,hL.2.2.trans h2,hL.2.1.trans h3⟩)
   (fun A B hA hst=>by
    obtain⟨c,h1,h2,h3⟩:=hA;have hL:=iX A B (hsz A ⟨_,h2⟩) hst;exact⟨c,kX c A B h1 hst,hL.2.2.trans h2,hL.2.1.trans h3⟩)
   (fun i x W hx hj=>by
    obtain⟨h1,h2,h3⟩:=hj;have hy:=run_yield (P:=P) (args:=encs x) h2 (by rw[cA];exact iJ x);rw[cA]at hy;have hlt:w.heap.size+1<W.heap.size:=(di.1 h2).1;have e2:(W.putObj (w.heap.size+1) (.loop { rec .ready none with state:=.busy })).heap[w.heap.size+1]? = some (.loop { rec .ready none with state:=.busy }):=World.putObj_heap_same hlt;have e3:(W.putObj (w.heap.size+1) (.loop { rec .ready none with state:=.busy })).heap[w.heap.size]? = some (.deferred (some [])):=(World.putObj_heap_other ae).trans h3;refine⟨fn,_,assign,body,hy,roundIn_of_wpIn hfn (wpIn_mono (qM _ i x W (W.putObj (w.heap.size+1) (.loop { rec .ready none with state:=.busy })) hx (oo i W _ _ h1 h2) (by rw[World.putObj_size];omega)) ?_)⟩;rintro e0 a0 V0 jf;have eY:e0=.normal:=by cases e0 <;> first|rfl|exact jf.elim
    subst eY;obtain⟨j_,jg⟩:=jf
    replace j_:=j_.symm
    subst j_;refine⟨_,run_beginRound h2 (by rw[cA]),wpIn_mono jg ?_⟩;have fin:∀(jump:Option Code) (W3:World),gq w.heap.size (W.putObj (w.heap.size+1) (.loop { rec .ready none with state:=.busy })) W3 ->
      (Instr.endRound (w.heap.size+1) jump).run P W3=.ok (.bool jump.isNone) (W3.putObj (w.heap.size+1) (.loop (rec (if jump.isNone then .ready else .done) jump))) /\
      W3.heap[w.heap.size+1]? = some (.loop { rec .ready none with state:=.busy }) /\
      (W3.putObj (w.heap.size+1) (.loop (rec (if jump.isNone then .ready else .done) jump))).heap[w.heap.size+1]? = some (.loop (rec (if jump.isNone then .ready else .done) jump)) /\
      (W3.putObj (w.heap.size+1) (.loop (rec (if jump.isNone then .ready else .done) jump))).heap[w.heap.size]? = some (.deferred (some [])):=fun jump W3 hL=>by
     have l3:=hL.2.2.trans e2;have hr:=run_endRound (P:=P) jump l3;refine⟨?_,l3,World.putObj_heap_same (di.1 l3).1,(World.putObj_heap_other ae).trans (hL.2.1.trans e3)⟩;rw[hr,cA]
    rintro e a3 W3 hp;cases e with
    | normal =>
     obtain⟨hL,hk,au⟩:=hp;obtain⟨f1,f2,f3,f4⟩:=fin none W3 hL;exact⟨_,_,f1,.inl ⟨rfl,⟨oo _ _ _ _ au f2,f3,f4⟩,nE W _ _ _ W3 h2 hk hL⟩⟩
    | ret =>
     obtain⟨hL,hk,au⟩:=hp;obtain⟨f1,f2,f3,f4⟩:=fin (some .ret) W3 hL;exact⟨_,_,f1,.inr ⟨rfl,⟨.ret,mN _ _ _ _ au f2,f3,f4⟩,hKx W _ _ _ W3 h2 hk hL⟩⟩
    | exit id =>
     obtain⟨hL,hk,au⟩:=hp;obtain⟨f1,f2,f3,f4⟩:=fin (some (.exit id)) W3 hL;exact⟨_,_,f1,.inr ⟨rfl,⟨.exit id,mN _ _ _ _ au f2,f3,f4⟩,hKx W _ _ _ W3 h2 hk hL⟩⟩
    | goto t =>
     obtain⟨hL,hk,au⟩:=hp;obtain⟨f1,f2,f3,f4⟩:=fin (some (.goto t)) W3 hL;exact⟨_,_,f1,.inr ⟨rfl,⟨.goto t,mN _ _ _ _ au f2,f3,f4⟩,hKx W _ _ _ W3 h2 hk hL⟩⟩
    | panic ch=>exact hp.elim
    | outgrown=>exact hp.elim)
   (by rw[hW1];exact⟨by rw[<- hW1];exact h0 _,dg,fH⟩)
  refine hs.mono ?_;rintro e W2 ⟨⟨v,rfl⟩,⟨au,hl,hk⟩|⟨c,au,hl,hk⟩⟩
  ·have:=run_endLoop (P:=P) hl (by rw[cA];simp);exact⟨none,_,by rw[this,cA],hdone _ (oo _ _ _ _ au hl) ((World.putObj_heap_other ae).trans hk) (by rw[World.putObj_size];exact hsz _ ⟨_,hl⟩)⟩
  ·have:=run_endLoop (P:=P) hl (by rw[cA];simp);exact⟨some c,_,by rw[this,cA],oQ c _ (mN _ _ _ _ au hl) ((World.putObj_heap_other ae).trans hk) (by rw[World.putObj_size];exact hsz _ ⟨_,hl⟩)⟩
theorem acM{g:Operand}{ps:Array Tmp}{assign body:Code}{Q:Exit->Act->World->Prop}{a:Act}{w:World}
  {gf:Nat} {lb:Array Value} (hg:a.eval g=.func (.func gf) #[] lb) (eg:∀args w,(callFunc gf args).run P w=.ok (.enter gf args) w)
  {encs:α->Array Value} {xs:List α} {St Kp Kx:World->World->Prop} (iJ:∀x,(encs x).size=ps.size)
  (hseq:∀r,pQ P gf lb encs xs St Kp Kx ((w.alloc (.deferred (some []))).alloc (.loop r)))
  (I:Nat->World->Prop) (Ix:Code->World->Prop)
  (iX:∀A B,w.heap.size+2<=A.heap.size->St A B->gq w.heap.size A B)
  (hI:∀i A B,I i A->St A B->I i B) (kX:∀c A B,Ix c A->St A B->Ix c B)
  (oo:∀i A r o,I i A->A.heap[w.heap.size+1]? = some (.loop r)->I i (A.putObj (w.heap.size+1) o))
  (mN:∀c A r o,Ix c A->A.heap[w.heap.size+1]? = some (.loop r)->Ix c (A.putObj (w.heap.size+1) o))
  (h0:∀r,I 0 ((w.alloc (.deferred (some []))).alloc (.loop r)))
  (Kb:World->World->Prop)
  (nE:∀W r r' r'' Wc,W.heap[w.heap.size+1]? = some (.loop r)->Kb (W.putObj (w.heap.size+1) (.loop r')) Wc->gq w.heap.size (W.putObj (w.heap.size+1) (.loop r')) Wc->Kp W (Wc.putObj (w.heap.size+1) (.loop r'')))
  (nD:World->World->Prop)
  (hKx:∀W r r' r'' Wc,W.heap[w.heap.size+1]? = some (.loop r)->nD (W.putObj (w.heap.size+1) (.loop r')) Wc->gq w.heap.size (W.putObj (w.heap.size+1) (.loop r')) Wc->Kx W (Wc.putObj (w.heap.size+1) (.loop r'')))
  (a₁:α->Act)
  (hassign:∀(l:Nat) (x:α) (W:World) (K:Act->World->Prop),K (a₁ x) W ->
   assign.wpIn (Fence.wide.inRound l) 0 P (Exit.then K (fun _ _ _=>False)) { tmps:=(ps.zip (encs x)).foldl (fun t (p,v)=>t.setIfInBounds p v) a.tmps,defers:=[] } W)
  (Fq:∀(l i:Nat) (x:α) (W:World),xs[i]? = some x->I i W->w.heap.size+2<=W.heap.size->body.wpIn (Fence.wide.inRound l) 0 P (MW w.heap.size Kb nD (I (i+1)) Ix W) (a₁ x) W)
  (hdone:∀W,I xs.length W->W.heap[w.heap.size]? = some (.deferred (some []))->w.heap.size+2<=W.heap.size->Q .normal { a with defers:={ target:=.collected w.heap.size,args:=#[] } :: a.defers } W)
  (oQ:∀c W,Ix c W->W.heap[w.heap.size]? = some (.deferred (some []))->w.heap.size+2<=W.heap.size->c.wpIn Fence.wide 0 P Q { a with defers:={ target:=.collected w.heap.size,args:=#[] } :: a.defers } W) :
  (Code.rangeFunc g ps assign body).wpIn Fence.wide 0 P Q a w :=
 Fo hg eg iJ hseq I Ix iX hI kX oo mN h0 Kb nE nD hKx (fun l i x V W hx au hs=>hassign l x V _ ⟨rfl,Fq l i x W hx au hs⟩) hdone oQ
def iK(x y z:Nat)(A B:World):Prop:=A.heap.size<=B.heap.size/\B.heap[x]? = A.heap[x]?/\B.heap[y]? = A.heap[y]?/\B.heap[z]? = A.heap[z]?
theorem iK.refl(x y z:Nat)(A:World):iK x y z A A:=⟨aL _,rfl,rfl,rfl⟩
theorem iK.trans{x y z:Nat}{A B C:World}(h:iK x y z A B)(k:iK x y z B C):iK x y z A C :=
 ⟨a_ h.1 k.1,k.2.1.trans h.2.1,k.2.2.1.trans h.2.2.1,k.2.2.2.trans h.2.2.2⟩
theorem iK.CW{x y z nb:Nat}{A B:World}(h:Below nb A B)(hx:x<nb)(hy:y<nb)(hz:z<nb):iK x y z A B :=
 ⟨h.size,h.block x hx,h.block y hy,h.block z hz⟩
def b_(hs:Nat)(A B:World):Prop:=A.heap.size<=B.heap.size/\∀k,hs<=k->k<A.heap.size->B.heap[k]? = A.heap[k]?
theorem b_.refl(hs:Nat)(A:World):b_ hs A A:=⟨aL _,fun _ _ _=>rfl⟩
theorem b_.trans{hs:Nat}{A B C:World}(h:b_ hs A B)(k:b_ hs B C):b_ hs A C :=
 ⟨a_ h.1 k.1,fun i au hl=>(k.2 i au (eQ hl h.1)).trans (h.2 i au hl)⟩
theorem b_.tN{hs:Nat}{A B:World}(h:aw A B):b_ hs A B:=⟨h.size,fun k _ hl=>h.block k hl⟩
end
end Go.Proofs.YtkkpahmoljiepaaGreatDoor
