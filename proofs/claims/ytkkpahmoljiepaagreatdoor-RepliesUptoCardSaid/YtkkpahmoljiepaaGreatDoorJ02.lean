import Derived.Test.YtkkpahmoljiepaaGreatDoorRows
import Derived.Test.YtkkpahmoljiepaaGreatDoorShelf
import Derived.Test.YtkkpahmoljiepaaGreatDoorJ01
import Derived.RangeFuncNested
import Derived.RangeFuncBound
import Derived.Shelf.RegionOpen
import Derived.OwnWalkIn
import Derived.LoopNIn
import Derived.LoopIn
import Derived.Test.YtkkpahmoljiepaaGreatDoorJ00
import Derived.Test.YtkkpahmoljiepaaGreatDoorJ0a
import Derived.Test.YtkkpahmoljiepaaGreatDoorJ0t
set_option maxRecDepth 1000000
set_option maxHeartbeats 12800000
set_option linter.unusedSimpArgs false
set_option linter.unusedVariables false
namespace Go.Proofs.YtkkpahmoljiepaaGreatDoor
open Go.RowKit Go.Proofs.Tryz
abbrev ah:=List UInt8
theorem ag{p:Prop}(h:p):Go.RowKit.Hid p:=h
theorem af{p:Prop}(h:Go.RowKit.Hid p):p:=h
def N6(n:Int):Bool:=(decide (97<=n) && decide (n<=122)) || (decide (48<=n) && decide (n<=57)) || n == 45 || n == 95
def rM(c:UInt8):Bool:=N6 c.toNat
def jx(l:ah):Bool:=decide (1<=l.length) && decide (l.length<=20) && l.all rM
def AH(n:Int):Bool:=decide (33<=n) && decide (n<=126)
def pg(l:ah):Bool:=l.all (fun c=>AH c.toNat) && decide (1<=l.length) && decide (l.length<=40)
def rN(n:Int):Bool:=decide (48<=n) && decide (n<=57)
def nS(most:Nat):Nat->ah->Option Nat
 | n,[]=>some n
 | n,c :: r=>if rN c.toNat then(if 10*n+(c.toNat - 48)<=most then nS most (10*n+(c.toNat - 48)) r else none)else none
def tq(most:Nat)(l:ah):Option Nat :=
 match l with
 | []=>none
 | c :: r=>if c.toNat=48/\r≠[]then none else nS most 0 (c :: r)
def gL(l:ah):Int :=
 if l = [65]then 1 else if l = [78,83]then 2 else if l = [67,78,65,77,69]then 5 else if l = [83,79,65]then 6
 else if l = [77,88]then 15 else if l = [84,88,84]then 16 else 0
theorem Z5(s:ByteArray)(k:Nat)(h:k<s.size):s.data.toList.take (k+1)=s.data.toList.take k++[s[k]]:=by rw[gp (by simpa using h)];rfl
theorem Z6(s:ByteArray)(k:Nat)(h:k<s.size):s.data.toList.drop k=s[k] :: s.data.toList.drop (k+1):=by rw[ko (by simpa using h)];rfl
theorem lK(s:ByteArray):s.data.toList.length=s.size:=ar
def az(c:UInt8):ah->List ah
 | []=>[[]]
 | x :: r=>if x=c then [] :: az c r else match az c r with
  | []=>[[x]]
  | h :: t=>(x :: h) :: t
theorem pP(c:UInt8)(l:ah):az c l≠[]:=by
 cases l with
 | nil=>simp[az]
 | cons x r =>{unfold az;split;{simp};{split <;> simp}}
theorem AK(c:UInt8):∀(l:ah),c ∉ l->az c l = [l]
 | [],_=>rfl
 | x :: r,h=>by simp only[ei,EU]at h;rw[az,aF (fun e=>h.1 e.symm),AK c r h.2]
theorem AL(c:UInt8):∀(a b:ah),c ∉ a->az c (a++c :: b)=a :: az c b
 | [],b,_=>by rw[gb,az,aJ rfl]
 | x :: r,b,h=>by simp only[ei,EU]at h;rw[fU,az,aF (fun e=>h.1 e.symm),AL c r b h.2]
theorem N7(c:UInt8):∀(l:ah),c ∉ l->Lib.indexByte l c = -1
 | [],_=>rfl
 | x :: r,h=>by simp only[ei,EU]at h;have ih:=N7 c r h.2;unfold Lib.indexByte;rw[aF (by simpa using fun e=>h.1 e.symm),ih];rfl
theorem N8(c:UInt8):∀(a b:ah),c ∉ a->Lib.indexByte (a++c :: b) c=a.length
 | [],b,_=>by simp[Lib.indexByte]
 | x :: r,b,h=>by simp only[ei,EU]at h;have ih:=N8 c r b h.2;rw[fU];unfold Lib.indexByte;rw[aF (by simpa using fun e=>h.1 e.symm),ih];simp
theorem N9(c:UInt8)(k:Nat)(l:ah)(h:c ∉ l):Lib.splitK [c] 0 k l = [l]:=by
 cases k with
 | zero=>rfl
 | succ k=>rw[Lib.splitK,Lib.index_one,N7 c l h];rfl
theorem N_(c:UInt8)(k:Nat)(a b:ah)(h:c ∉ a):Lib.splitK [c] 0 (k+1) (a++c :: b)=a :: Lib.splitK [c] 0 k b:=by rw[Lib.splitK,Lib.index_one,N8 c a b h];rw[aF ar];simp[SV]
theorem Z7(c:UInt8):∀(n:Nat) (l:ah),l.length<=n->Lib.splitK [c] 0 (l.count c) l=az c l
 | 0,l,h=>by obtain rfl:l = []:=fp ae;rfl
 | n+1,l,h=>by
  by_cases hc:c∈l;{
  obtain⟨a,b,rfl,ha⟩:=JW hc;have hl:b.length<=n:=by simp at h;omega
  rw[List.count_append,List.count_cons_self,List.count_eq_zero.2 ha,eY,N_ c _ a b ha,AL c a b ha,Z7 c n b hl]};{rw[N9 c _ l hc,AK c l hc]}
def gq(c:UInt8)(s:ByteArray):List ByteArray:=Lib.splitB ⟨#[c]⟩ 0 (Lib.countB s ⟨#[c]⟩) s
theorem wo(c:UInt8)(s:ByteArray):(gq c s).map (·.data.toList)=az c s.data.toList:=by unfold gq;rw[Lib.splitB_data];have e:Lib.countB s ⟨#[c]⟩=s.data.toList.count c:=by{unfold Lib.countB;exact Lib.count_one c s.data.toList};rw[e];exact Z7 c _ _ aA
theorem Z8(c:UInt8)(s:ByteArray):(gq c s).length=Lib.countB s ⟨#[c]⟩+1:=Lib.splitB_all _ aA 0 _ s rfl
theorem qK(c:UInt8):∀(n:Nat) (l:ah),l.length<=n->∀x∈az c l,x.length<=l.length
 | 0,l,h,x,hx=>by obtain rfl:l = []:=fp ae;simp[az]at hx;subst hx;simp
 | n+1,l,h,x,hx=>by
  by_cases hc:c∈l;{
  obtain⟨a,b,rfl,ha⟩:=JW hc;rw[AL c a b ha,ei]at hx;have hl:b.length<=n:=by simp at h;omega
  rcases hx with rfl|hx;{simp};{have:=qK c n b hl x hx;simp;omega}};{rw[AK c l hc]at hx;simp at hx;subst hx;exact bH _}
theorem Ke(c:UInt8)(s:ByteArray)(x:ByteArray)(hx:x∈gq c s):x.size<=s.size:=by have:x.data.toList∈az c s.data.toList:=by{rw[<- wo];exact Cz hx};have:=qK c _ _ aA _ this;rwa [lK,lK]at this
theorem pQ(c:UInt8):∀(l:ah),(az c l).length<=l.length+1
 | []=>by simp[az]
 | x :: r=>by have ih:=pQ c r;unfold az;split;{simp;omega};{split;{simp};{rename_i h t e;rw[e]at ih;simp at ih ⊢; omega}}
/-! ### names -/
def zi(i:Nat)(l:ah):Bool:=jx l || (i == 0 && l == [42])
def tu(i:Nat):List ah->Bool
 | []=>true
 | h :: t=>zi i h && tu (i+1) t
def iC(l:ah):Bool:=decide (l.length<=60) && tu 0 (az 46 l)
def rO(l:ah):Bool:=Lib.hasPrefix l [42]
def dr(l:ah):Bool:=iC l && !rO l
def dy(l o:ah):Bool:=l == o || Lib.hasSuffix l (46 :: o)
def bK(w:World):Prop:=0<w.heap.size/\∃m:Int,w.cell? (ak 0 0)=some (aj m)
theorem bK.below{w w':World}(h:bK w)(hb:au w w'):bK w':=by obtain⟨h0,m,hm⟩:=h;exact⟨dP h0 hb.size,m,(hb.cell (p:=⟨0,0,none⟩) h0).trans hm⟩
theorem bK.alloc{w:World}(h:bK w)(o:Obj):bK (w.alloc o):=h.below (aO.alloc aA _)
theorem Oa{W w1:World}(hb:au W w1):(∀b o,b<W.heap.size->w1.cell? (ak b o)=W.cell? (ak b o))/\(∀b o,b<W.heap.size->w1.frozen? (ak b o)=W.frozen? (ak b o)) :=
 ⟨fun b o h=>hb.cell (p:=⟨b,o,none⟩) h,fun b o h=>hb.frozen (p:=⟨b,o,none⟩) h⟩
def tz(w:World)(b off:Nat)(ss:List ByteArray):Prop:=b<w.heap.size/\∀j (h:j<ss.length),w.cell? (ak b (off+j))=some (.string ss[j])
theorem tz.below{w w':World}{b off:Nat}{ss:List ByteArray}(h:tz w b off ss)(hb:au w w'):tz w' b off ss :=
 ⟨dP h.1 hb.size,fun j hj=>(hb.cell (p:=⟨b,off+j,none⟩) h.1).trans (h.2 j hj)⟩
theorem Kf(w:World)(ss:List ByteArray):tz (w.alloc (.cells (ss.map Value.string).toArray 9)) w.heap.size 0 ss:=by refine⟨ar,fun j hj=>?_⟩;rw[eY];simp[hj]
theorem zj(s:ByteArray)(c:UInt8)(w:World)(hg:bK w)(hs:s.size<4294967281) :
  aB 97 #[.string s,.string ⟨#[c]⟩] w fun e w' =>
   e=.returned (aD w.heap.size 0 (gq c s).length (gq c s).length)/\w'=w.alloc (.cells ((gq c s).map Value.string).toArray 9):=by obtain⟨_,m,hm⟩:=hg;have h:=Tryz.strings_Split s ⟨#[c]⟩ m w hs hm aA;rw[<- Z8]at h;exact h
theorem cA{a b:Bool}(h:a=b):Ending.returned (.bool a)=.returned (.bool b):=by rw[h]
theorem EY{k:IntKind}{a b:Int}(h:a=b):Ending.returned (.int k a)=.returned (.int k b):=by rw[h]
theorem Z9{a b:ByteArray}(h:a.data.toList=b.data.toList):Ending.returned (.string a)=.returned (.string b):=by
 have:a=b:=by cases a;cases b;simp at h;rw[h]
 rw[this]
theorem Z_(b:UInt8)(w:World) :
  aB 240 #[.int .u8 b.toNat] w fun e w'=>e=.returned (.bool (rM b))/\w'=w:=by
 unfold rM;generalize (b.toNat:Int)=n;go_enter func240,ntmps240;go_wp2;all_goals(go_ret;refine⟨cA ?_,rfl⟩;unfold N6)
 all_goals (first|done|(simp[*];done)|(simp[*];omega)|(rw[rE];simp[*];omega)|trace_state)
theorem Ob(s:ByteArray)(w:World)(hs:s.size<=maxLen) :
  aB 189 #[.string s] w fun e w'=>e=.returned (.bool (jx s.data.toList))/\w'=w:=by
 unfold maxLen at hs;by_cases h1:(s.size:Int)<1;{go_enter func189,ntmps189;go_wp2;go_ret;exact⟨cA (by unfold jx;rw[lK];simp;omega),rfl⟩};by_cases h2:(20:Int)<(s.size:Int);{go_enter func189,ntmps189;go_wp2;go_ret;exact⟨cA (by unfold jx;rw[lK];simp;omega),rfl⟩};go_enter func189,ntmps189;go_wp2;go_loop [14] (fun i=>∃k:Nat,k<=s.size/\i=aj k/\(s.data.toList.take k).all rM=true) (fun i=>s.size - (intOf i).toNat);case atStart=>exact⟨0,cV _,rfl,rfl⟩
 case round =>(
 obtain⟨k,hk,rfl,hall⟩:=hrel;have H:=ag hall;clear hall;by_cases hlt:k<s.size;{
 have wu:=ag (Z5 s k hlt);by_cases hb:rM s[k]=true;{
 go_wp2_with (go_at_call 240;refine(Z_ s[k] w).mono ?_;rintro e w' ⟨rfl,rfl⟩);go_round;case rel=>exact⟨k+1,ae,bW,by rw[af wu,EN,af H];simp[hb]⟩
 case measure=>simp[intOf];omega};{
 have hb':rM s[k]=false:=by simpa using hb
 clear hb;go_wp2_with (go_at_call 240;refine(Z_ s[k] w).mono ?_;rintro e w' ⟨rfl,rfl⟩);go_ret;refine⟨cA ?_,rfl⟩;have hmem:s[k]∈s.data.toList:=cM (by simpa using hlt);symm;unfold jx;rw[EJ];right;rw[Hp];exact⟨_,hmem,by simp[hb']⟩}};{go_wp2;go_ret;refine⟨cA ?_,rfl⟩;have:=af H;rw[pd aP]at this;unfold jx;rw[this,lK];simp;omega})
def dz(most:Nat)(l:ah):Bool:=(tq most l).isSome
def iY(most:Nat)(l:ah):Nat:=(tq most l).getD 0
theorem ako(s:ByteArray)(w:World)(hs:s.size<=maxLen) :
  aB 229 #[.string s] w fun e w'=>e=.returned (.bool (pg s.data.toList))/\w'=w:=by
 unfold maxLen at hs;go_enter func229,ntmps229;go_wp2
 go_loop [6] (fun i=>∃k:Nat,k<=s.size/\i=aj k/\(s.data.toList.take k).all (fun c=>AH c.toNat)=true) (fun i=>s.size - (intOf i).toNat)
 case atStart=>exact⟨0,cV _,rfl,rfl⟩
 case round =>
  obtain⟨k,hk,rfl,hall⟩:=hrel;have H:=ag hall;clear hall;by_cases hlt:k<s.size
  ·have wu:=ag (Z5 s k hlt);by_cases hb:(33:Int)<=(s[k].toNat:Int)/\(s[k].toNat:Int)<=126
   ·obtain⟨hb1,hb2⟩:=hb;go_wp2
    go_round
    case rel=>exact⟨k+1,ae,bW,by rw[af wu,EN,af H];simp[AH];omega⟩
    case measure=>simp[intOf];omega
   ·have hmem:s[k]∈s.data.toList:=cM (by simpa using hlt);have aY:Hid (pg s.data.toList=false):=by
     unfold pg;rw[Hid,EJ,EJ,Hp];exact .inl (.inl ⟨_,hmem,by simp[AH];omega⟩)
    go_wp2
    all_goals
     first
     | (exfalso;omega)
     | (go_ret
        exact⟨cA aY.symm,rfl⟩)
  ·have hall:=af H;rw[pd aP]at hall;have aY:Hid (pg s.data.toList=(decide ((1:Int)<=s.size) && decide ((s.size:Int)<=40))):=by
    unfold pg;rw[Hid,hall,lK,Ho];congr 1 <;> (rw[decide_eq_decide];omega)
   clear hall;go_wp2
   all_goals
    go_ret;refine⟨cA ?_,rfl⟩;rw[af aY]
    first
    | (simp[*];done)
    | (rw[rE];simp;omega)
theorem aaa(s:ByteArray)(w:World) :
  aB 169 #[.string s] w fun e w'=>e=.returned (aj (gL s.data.toList))/\w'=w:=by go_enter func169,ntmps169;go_wp2;all_goals(go_ret;refine⟨EY ?_,rfl⟩;unfold gL;simp only[nQ,fe,d_,ne_eq]at *;simp[*])
theorem akp{i:Nat}{L:List ah}{k:Nat}(h:k<L.length):tu i (L.drop k)=(zi i L[k] && tu (i+1) (L.drop (k+1))):=by rw[ko h];rfl
theorem Kg(s:ByteArray)(w:World)(hg:bK w)(hs:s.size<=maxLen) :
  aB 123 #[.string s] w (bQ (.bool (iC s.data.toList)) w):=by
 unfold maxLen at hs;by_cases h1:(60:Int)<(s.size:Int);{have aY:Hid (iC s.data.toList=false):=by{unfold iC;rw[Hid,lK];simp;omega};go_enter func123,ntmps123;go_wp2;go_ret;exact⟨cA aY.symm,bR _ _⟩};have hv:Hid (iC s.data.toList=tu 0 (az 46 s.data.toList)):=by{unfold iC;rw[Hid,lK];simp;omega};have hpl:Hid (az 46 s.data.toList=(gq 46 s).map (·.data.toList)):=(wo 46 s).symm;have jM:=ag (Ke 46 s);have hat:=Kf w (gq 46 s);have wy:=zj s 46 w hg ae;have hb:au w (w.alloc (.cells ((gq 46 s).map Value.string).toArray 9)):=aO.alloc aA _;have hlen:(gq 46 s).length<=61:=by{have:=pQ 46 s.data.toList;rw[<- wo,bY,lK]at this;omega};generalize gq 46 s=L at *;generalize w.alloc (.cells (L.map Value.string).toArray 9)=W at *;have HC:=ag wy;have aX:=ag hb;clear wy hb;obtain⟨hsz,hcell⟩:=hat;have ej:=ag hcell;clear hcell;go_enter func123,ntmps123;go_wp2_with (go_at_call 97;refine HC.mono ?_;rintro e w' ⟨rfl,rfl⟩);go_loop [11] (fun i=>∃k:Nat,k<=L.length/\i=aj k/\tu k ((L.map (·.data.toList)).drop k)=tu 0 (L.map (·.data.toList))) (fun i=>L.length - (intOf i).toNat);case atStart=>exact⟨0,cV _,rfl,rfl⟩
 case round =>(
 obtain⟨k,hk,rfl,hall⟩:=hrel;have H:=ag hall;clear hall;by_cases hlt:k<L.length;{
 have hck:=(af ej) k hlt;rw[eY]at hck;have hst:=ag (akp (i:=k) (L:=L.map (·.data.toList)) (k:=k) (by simpa using hlt));rw[vW]at hst;have hsk:L[k].size<=maxLen:=by{have:=af jM L[k] (cM hlt);unfold maxLen;omega};generalize L[k]=x at *;by_cases hb:jx x.data.toList=true;{
 go_wp2_with (go_at_call 189;refine(Ob x _ hsk).mono ?_;rintro e w' ⟨rfl,rfl⟩);go_round;case rel=>exact⟨k+1,ae,bW,by rw[<- af H,af hst];simp[zi,hb]⟩
 case measure=>simp[intOf];omega};{
 have hb':jx x.data.toList=false:=by simpa using hb
 clear hb;by_cases hk0:(0:Int)<(k:Int);{
 have aY:Hid (iC s.data.toList=false):=by{
 rw[Hid,af hv,af hpl,<- af H,af hst];have:(k == 0)=false:=by rw[d_];omega
 simp[zi,hb',this]};go_wp2_with (go_at_call 189;refine(Ob x _ hsk).mono ?_;rintro e w' ⟨rfl,rfl⟩);go_ret;exact⟨cA aY.symm,aX⟩};{
 obtain rfl:k=0:=ae;by_cases hx:x.data.toList = [42];{
 have hx':(x.toList == [42])=true:=by rw[nQ,hx];rfl
 go_wp2_with (go_at_call 189;refine(Ob x _ hsk).mono ?_;rintro e w' ⟨rfl,rfl⟩);go_round;case rel=>exact⟨0+1,ae,bW,by rw[<- af H,af hst];simp[zi,hx]⟩
 case measure=>simp[intOf];omega};{
 have hx':(x.toList == [42])=false:=by rw[nQ,d_];exact hx
 have aY:Hid (iC s.data.toList=false):=by{rw[Hid,af hv,af hpl,<- af H,af hst];simp[zi,hb',hx]};go_wp2_with (go_at_call 189;refine(Ob x _ hsk).mono ?_;rintro e w' ⟨rfl,rfl⟩);go_ret;exact⟨cA aY.symm,aX⟩}}}};{have aY:Hid (iC s.data.toList=true):=by{rw[Hid,af hv,af hpl,<- af H,sX aP];rfl};go_wp2;go_ret;exact⟨cA aY.symm,aX⟩})
theorem aab(s:ByteArray)(w:World) :
  aB 124 #[.string s] w fun e w'=>e=.returned (.bool (rO s.data.toList))/\w'=w:=by go_enter func124,ntmps124;go_wp2_with (go_at_call 190;refine(Tryz.strings_HasPrefix s _ _).mono ?_;rintro e w' ⟨rfl,rfl⟩);go_ret;exact⟨rfl,rfl⟩
theorem xP(s:ByteArray)(w:World)(hg:bK w)(hs:s.size<=maxLen) :
  aB 68 #[.string s] w (bQ (.bool (dr s.data.toList)) w):=by
 cases hv:iC s.data.toList
 ·have aY:Hid (dr s.data.toList=false):=by unfold dr;rw[hv];rfl
  go_enter func68,ntmps68;go_wp2_with (go_at_call 123;refine(Kg s _ hg hs).mono ?_;rintro e w' ⟨rfl,hb⟩);go_ret;exact⟨cA aY.symm,hb⟩
 ·have aY:Hid (dr s.data.toList = !rO s.data.toList):=by unfold dr;rw[hv];rfl
  go_enter func68,ntmps68;go_wp2_with (first
   | (go_at_call 123;refine(Kg s _ hg hs).mono ?_;rintro e w' ⟨rfl,hb⟩)
   | (go_at_call 124;refine(aab s _).mono ?_;rintro e w' ⟨rfl,rfl⟩))
  go_ret;exact⟨cA aY.symm,hb⟩
theorem HA(s o:ByteArray):(s.toList == o.toList)=(s.data.toList == o.data.toList):=by rw[nQ,nQ]
theorem Kh(s o:ByteArray)(w:World)(hs:s.size<=1000000)(ho:o.size<=1000000) :
  aB 110 #[.string s,.string o] w fun e w'=>e=.returned (.bool (dy s.data.toList o.data.toList))/\w'=w:=by cases hv:(s.toList == o.toList);{have aY:Hid (dy s.data.toList o.data.toList=Lib.hasSuffix s.data.toList (⟨#[46]⟩++o:ByteArray).data.toList):=by{rw[HA]at hv;unfold dy;rw[Hid,hv];simp};go_enter func110,ntmps110;go_wp2_with (go_at_call 181;refine(Tryz.strings_HasSuffix s _ _ ae).mono ?_;rintro e w' ⟨rfl,rfl⟩);go_ret;exact⟨cA aY.symm,rfl⟩};{have aY:Hid (dy s.data.toList o.data.toList=true):=by{rw[HA]at hv;unfold dy;rw[Hid,hv];rfl};go_enter func110,ntmps110;go_wp2;go_ret;exact⟨cA aY.symm,rfl⟩}
theorem akq(s:ByteArray)(w:World)(hs:s.size<=1000000) :
  aB 273 #[.string s] w fun e w'=>e=.returned (.string ⟨(42 :: 46 :: s.data.toList).toArray⟩)/\w'=w:=by go_enter func273,ntmps273;go_wp2;go_ret;exact⟨Z9 ar,rfl⟩
theorem aac{most:Nat} : ∀(l:ah) (n m:Nat),nS most n l=some m->n<=most->m<=most
 | [],n,m,h,hn=>by simp[nS]at h;omega
 | c :: r,n,m,h,hn=>by unfold nS at h;split at h;{split at h;{exact aac r _ m h (by assumption)};{cases h}};{cases h}
theorem Ki{k:IntKind}{a b:Int}{x y:Bool}(h:a=b)(h':x=y):Ending.returned (.tuple #[.int k a,.bool x])=.returned (.tuple #[.int k b,.bool y]):=by rw[h,h']
theorem Te(s:ByteArray)(most:Nat)(w:World)(hs:s.size<=maxLen)(hm:most<=4294967295) :
  aB 168 #[.string s,.int .u64 most] w fun e w' =>
   e=.returned (.tuple #[.int .u64 (iY most s.data.toList),.bool (dz most s.data.toList)])/\w'=w:=by
 unfold maxLen at hs;by_cases h0:s.size=0
 ·have hl:s.toList = []:=by rw[nQ];exact fp (by rw[lK];exact h0)
  have hn:Hid (tq most s.data.toList=none):=by
   rw[<- nQ,hl];exact rfl
  go_enter func168,ntmps168;go_wp2;go_ret2;exact⟨Ki (by rw[iY,af hn];rfl) (by rw[dz,af hn];rfl),rfl⟩
 have hl:(s.toList == [])=false:=by
  rw[nQ,d_];intro h;have:=dE List.length h;rw[lK]at this;exact h0 this
 have akr:0<s.size:=ae;have hd:=Z6 s 0 akr;rw[Aw]at hd;by_cases hz:(s[0].toNat:Int)=48/\(1:Int)<s.size
 ·obtain⟨hz1,hz2⟩:=hz;have hn:Hid (tq most s.data.toList=none):=by
   rw[hd,tq];exact aJ ⟨ae,fun h=>by have:=dE List.length h;simp at this;omega⟩
  clear hd;go_enter func168,ntmps168;go_wp2;go_ret2;exact⟨Ki (by rw[iY,af hn];rfl) (by rw[dz,af hn];rfl),rfl⟩
 have hn:Hid (tq most s.data.toList=nS most 0 s.data.toList):=by
  rw[hd,tq];exact aF (fun h=>hz ⟨ae,by
   have:s.data.toList.drop (0+1)≠[]:=h.2;rw[ne_eq,List.drop_eq_nil_iff]at this;rw[lK]at this;omega⟩)
 clear hd;have hz':(s[0].toNat:Int)=48/\(s.size:Int)<=1\/¬(s[0].toNat:Int)=48:=ae;clear hz;rcases hz' with⟨hz1,hz2⟩|hz1
 all_goals
  go_enter func168,ntmps168;go_wp2
  go_loop [6,22] (fun n i=>∃k m:Nat,k<=s.size/\i=aj k/\n=.int .u64 m/\m<=most/\nS most m (s.data.toList.drop k)=nS most 0 s.data.toList) (fun _ i=>s.size - (intOf i).toNat)
  case atStart=>exact⟨0,0,cV _,rfl,rfl,cV _,by rw[Aw]⟩
  case round =>
   obtain⟨k,m,hk,rfl,rfl,hmm,mX⟩:=hrel;have H:=ag mX;clear mX;by_cases hlt:k<s.size
   ·have aad:=ag (Z6 s k hlt);by_cases hb:(48:Int)<=(s[k].toNat:Int)/\(s[k].toNat:Int)<=57
    ·obtain⟨hb1,hb2⟩:=hb;have hm1:(m:Int)<=4294967295:=ae;have hst:Hid (nS most m (s.data.toList.drop k)=if 10*m+(s[k].toNat - 48)<=most then nS most (10*m+(s[k].toNat - 48)) (s.data.toList.drop (k+1))else none):=by
      rw[af aad,Hid]
      conv=>lhs;rw[nS,aJ (by simp[rN];omega)]
     by_cases hg:10*(m:Int)+((s[k].toNat:Int) - 48)<=(most:Int)
     ·go_wp2
      go_round
      case rel=>exact⟨k+1,10*m+(s[k].toNat - 48),ae,bW,bW,ae,by rw[<- af H,af hst,aJ ae]⟩
      case measure=>simp[intOf];omega
     ·have aY:Hid (tq most s.data.toList=none):=by
       rw[af hn,Hid,<- af H,af hst,aF ae]
      go_wp2;go_ret2;exact⟨Ki (by rw[iY,af aY];rfl) (by rw[dz,af aY];rfl),rfl⟩
    ·have aY:Hid (tq most s.data.toList=none):=by
      rw[af hn,Hid,<- af H,af aad,nS,aF (by simp[rN];omega)]
     go_wp2
     all_goals
      first
      | (exfalso;omega)
      | (go_ret2
         exact⟨Ki (by rw[iY,af aY];rfl) (by rw[dz,af aY];rfl),rfl⟩)
   ·have aY:Hid (tq most s.data.toList=some m):=by
     rw[af hn,Hid,<- af H,sX (by rw[lK];omega)];rfl
    go_wp2;go_ret2;exact⟨Ki (by rw[iY,af aY];rfl) (by rw[dz,af aY];rfl),rfl⟩
theorem HB(s:ByteArray)(most:Nat)(w:World)(hs:s.size<=maxLen)(hm:most<=4294967295) :
  aB 227 #[.string s,.int .u64 most] w fun e w'=>e=.returned (.bool (dz most s.data.toList))/\w'=w:=by go_enter func227,ntmps227;go_wp2_with (go_at_call 168;refine(Te s most w hs hm).mono ?_;rintro e w' ⟨rfl,rfl⟩);go_ret;exact⟨rfl,rfl⟩
def AO(l:ah):Bool:=(az 46 l).all (dz 255) && (az 46 l).length == 4
def cE(k:Int)(ws:List ah):Bool :=
 if k=6 then(match ws with
  | [a,b,c,d]=>dr a && dr b && dz 4294967295 c && dz 86400 d
  | _=>false)
 else if k=2\/k=5 then(match ws with
  | [a]=>dr a
  | _=>false)
 else if k=1 then(match ws with
  | [a]=>AO a
  | _=>false)
 else if k=16 then(match ws with
  | [a]=>pg a
  | _=>false)
 else if k=15 then(match ws with
  | [a,b]=>dz 65535 a && dr b
  | _=>false)
 else false
theorem aks(s:ByteArray)(w:World)(hg:bK w)(hs:s.size<=3000) :
  aB 228 #[.string s] w (bQ (.bool (AO s.data.toList)) w):=by
 have hpl:Hid (az 46 s.data.toList=(gq 46 s).map (·.data.toList)):=(wo 46 s).symm;have jM:=ag (Ke 46 s);have hat:=Kf w (gq 46 s);have wy:=zj s 46 w hg ae;have hb:au w (w.alloc (.cells ((gq 46 s).map Value.string).toArray 9)):=aO.alloc aA _;have hlen:(gq 46 s).length<=3001:=by{have:=pQ 46 s.data.toList;rw[<- wo,bY,lK]at this;omega};generalize gq 46 s=L at *;generalize w.alloc (.cells (L.map Value.string).toArray 9)=W at *;have HC:=ag wy;have aX:=ag hb;clear wy hb;obtain⟨hsz,hcell⟩:=hat;have ej:=ag hcell;clear hcell;go_enter func228,ntmps228;go_wp2_with (go_at_call 97;refine HC.mono ?_;rintro e w' ⟨rfl,rfl⟩);go_loop [10] (fun i=>∃k:Nat,k<=L.length/\i=aj k/\((L.map (·.data.toList)).take k).all (dz 255)=true) (fun i=>L.length - (intOf i).toNat);case atStart=>exact⟨0,cV _,rfl,rfl⟩
 case round =>(
 obtain⟨k,hk,rfl,hall⟩:=hrel;have H:=ag hall;clear hall;by_cases hlt:k<L.length;{
 have hck:=(af ej) k hlt;rw[eY]at hck;have hst:Hid ((L.map (·.data.toList)).take (k+1)=(L.map (·.data.toList)).take k++[L[k].data.toList]):=by{rw[Hid,gp (by simpa using hlt),vW]};have hmem:Hid (L[k].data.toList∈L.map (·.data.toList)):=Cz (cM hlt);have hsk:L[k].size<=maxLen:=by{have:=af jM L[k] (cM hlt);unfold maxLen;omega};generalize L[k]=x at *;cases hb:dz 255 x.data.toList;{have aY:Hid (AO s.data.toList=false):=by{rw[Hid,AO,af hpl,EJ,Hp];exact .inl ⟨_,hmem,by simp[hb]⟩};go_wp2_with (go_at_call 227;refine(HB x 255 _ hsk ae).mono ?_;rintro e w' ⟨rfl,rfl⟩);go_ret;exact⟨cA aY.symm,aX⟩};{
 go_wp2_with (go_at_call 227;refine(HB x 255 _ hsk ae).mono ?_;rintro e w' ⟨rfl,rfl⟩);go_round;case rel=>exact⟨k+1,ae,bW,by rw[af hst,EN,af H];simp[hb]⟩
 case measure=>simp[intOf];omega}};{have aY:Hid (AO s.data.toList=((L.length:Int) == 4)):=by{have:=af H;rw[pd aP]at this;rw[Hid,AO,af hpl,this,Ho,bY,rE,fe,fe];omega};go_wp2;go_ret;exact⟨cA aY.symm,aX⟩})
def lY(ws:List ByteArray):List ah:=ws.map (·.data.toList)
theorem akt(ws:List ah)(h:ws.length≠4):cE 6 ws=false:=by unfold cE;rw[aJ rfl];split;{exact absurd rfl h};{rfl}
theorem aae(k:Int)(hk:k=2\/k=5)(ws:List ah)(h:ws.length≠1):cE k ws=false:=by unfold cE;rw[aF ae,aJ hk];split;{exact absurd rfl h};{rfl}
theorem aku(ws:List ah)(h:ws.length≠1):cE 1 ws=false:=by unfold cE;rw[aF ae,aF ae,aJ rfl];split;{exact absurd rfl h};{rfl}
theorem akv(ws:List ah)(h:ws.length≠1):cE 16 ws=false:=by unfold cE;rw[aF ae,aF ae,aF ae,aJ rfl];split;{exact absurd rfl h};{rfl}
theorem akw(ws:List ah)(h:ws.length≠2):cE 15 ws=false:=by unfold cE;rw[aF ae,aF ae,aF ae,aF ae,aJ rfl];split;{exact absurd rfl h};{rfl}
theorem gu(k:Int)(ws:List ah)(h6:k≠6)(h2:k≠2)(h5:k≠5)(h1:k≠1)(AP:k≠16)(AQ:k≠15):cE k ws=false:=by unfold cE;rw[aF h6,aF ae,aF h1,aF AP,aF AQ]
theorem akx(b cap:Nat)(ws:List ByteArray)(w:World)(hg:bK w)(hat:tz w b 0 ws)(hsz:∀x∈ws,x.size<=3000)(hl:ws.length<=3001) :
  aB 170 #[aj 6,aD b 0 ws.length cap] w (bQ (.bool (cE 6 (lY ws))) w):=by
 by_cases h4:ws.length=4;{
 match ws,h4 with
 | [x0,x1,x2,x3],_ =>
 have aY:Hid (cE 6 (lY [x0,x1,x2,x3])=(dr x0.data.toList && dr x1.data.toList && dz 4294967295 x2.data.toList && dz 86400 x3.data.toList)):=rfl;have s0:x0.size<=maxLen:=by have:=hsz x0 ar;unfold maxLen;omega
 have s1:x1.size<=maxLen:=by have:=hsz x1 ar;unfold maxLen;omega
 have s2:x2.size<=maxLen:=by have:=hsz x2 ar;unfold maxLen;omega
 have s3:x3.size<=maxLen:=by have:=hsz x3 ar;unfold maxLen;omega
 have c0:w.cell? (ak b 0)=some (.string x0):=hat.2 0 ar;have eZ:=ag hat;clear hat hl hsz;cases v0:dr x0.data.toList;{go_enter func170,ntmps170;go_wp2_with (go_at_call 68;refine(xP x0 _ hg s0).mono ?_;rintro e w1 ⟨rfl,hb1⟩);go_ret;exact⟨cA (by rw[af aY,v0];rfl),hb1⟩};cases v1:dr x1.data.toList;{go_enter func170,ntmps170;go_wp2_with fail;refine(xP x0 _ hg s0).mono ?_;rintro e w1 ⟨rfl,hb1⟩;have g1:=hg.below hb1;have a1:=eZ.below hb1;have aC:w1.cell? (ak b 1)=some (.string x1):=a1.2 1 ar;have AR:=ag a1;clear a1;go_wp2_with (go_at_call 68;refine(xP x1 _ g1 s1).mono ?_;rintro e w2 ⟨rfl,hb2⟩);go_ret;exact⟨cA (by rw[af aY,v0,v1];rfl),hb1.trans (hb2.mono hb1.size)⟩};cases v2:dz 4294967295 x2.data.toList;all_goals(go_enter func170,ntmps170;go_wp2_with fail;refine(xP x0 _ hg s0).mono ?_;rintro e w1 ⟨rfl,hb1⟩;have g1:=hg.below hb1;have a1:=eZ.below hb1;have aC:w1.cell? (ak b 1)=some (.string x1):=a1.2 1 ar;have AR:=ag a1;clear a1;go_wp2_with fail;refine(xP x1 _ g1 s1).mono ?_;rintro e w2 ⟨rfl,hb2⟩;have a2:=AR.below hb2;have c2:w2.cell? (ak b 2)=some (.string x2):=a2.2 2 ar;have c3:w2.cell? (ak b 3)=some (.string x3):=a2.2 3 ar;clear a2;go_wp2_with fail;refine(HB x2 4294967295 _ s2 ae).mono ?_;rintro e w3 ⟨rfl,rfl⟩;go_wp2_with (go_at_call 227;refine(HB x3 86400 _ s3 ae).mono ?_;rintro e w4 ⟨rfl,rfl⟩);go_ret;exact⟨cA (by rw[af aY,v0,v1,v2];rfl),hb1.trans (hb2.mono hb1.size)⟩)};{
 have aY:Hid (cE 6 (lY ws)=false):=by{exact akt _ (by simpa [lY]using h4)};have AU:((ws.length:Int) == 4)=false:=by rw[d_];omega
 clear h4 hat hsz;go_enter func170,ntmps170;go_wp2;go_ret;exact⟨cA aY.symm,bR _ _⟩}
theorem aky(b cap:Nat)(ws:List ByteArray)(w:World)(hg:bK w)(hat:tz w b 0 ws)(hsz:∀x∈ws,x.size<=3000)(hl:ws.length<=3001) :
  aB 170 #[aj 2,aD b 0 ws.length cap] w (bQ (.bool (cE 2 (lY ws))) w):=by
 by_cases h4:ws.length=1;{
 match ws,h4 with
 | [x0],_ =>
 have s0:x0.size<=maxLen:=by have:=hsz x0 ar;unfold maxLen;omega
 have s0':x0.size<=3000:=hsz x0 ar;have c0:w.cell? (ak b 0)=some (.string x0):=hat.2 0 ar;clear hat hl hsz;go_enter func170,ntmps170;go_wp2_with (go_at_call 68;refine(xP x0 _ hg s0).mono ?_;rintro e w1 ⟨rfl,hb1⟩);go_ret;exact⟨rfl,hb1⟩};{
 have aY:Hid (cE 2 (lY ws)=false):=aae 2 (.inl rfl) _ (by simpa [lY]using h4);have AU:((ws.length:Int) == 1)=false:=by rw[d_];omega
 clear h4 hat hsz;go_enter func170,ntmps170;go_wp2;go_ret;exact⟨cA aY.symm,bR _ _⟩}
theorem akz(b cap:Nat)(ws:List ByteArray)(w:World)(hg:bK w)(hat:tz w b 0 ws)(hsz:∀x∈ws,x.size<=3000)(hl:ws.length<=3001) :
  aB 170 #[aj 5,aD b 0 ws.length cap] w (bQ (.bool (cE 5 (lY ws))) w):=by
 by_cases h4:ws.length=1;{
 match ws,h4 with
 | [x0],_ =>
 have s0:x0.size<=maxLen:=by have:=hsz x0 ar;unfold maxLen;omega
 have s0':x0.size<=3000:=hsz x0 ar;have c0:w.cell? (ak b 0)=some (.string x0):=hat.2 0 ar;clear hat hl hsz;go_enter func170,ntmps170;go_wp2_with (go_at_call 68;refine(xP x0 _ hg s0).mono ?_;rintro e w1 ⟨rfl,hb1⟩);go_ret;exact⟨rfl,hb1⟩};{
 have aY:Hid (cE 5 (lY ws)=false):=aae 5 (.inr rfl) _ (by simpa [lY]using h4);have AU:((ws.length:Int) == 1)=false:=by rw[d_];omega
 clear h4 hat hsz;go_enter func170,ntmps170;go_wp2;go_ret;exact⟨cA aY.symm,bR _ _⟩}
theorem akA(b cap:Nat)(ws:List ByteArray)(w:World)(hg:bK w)(hat:tz w b 0 ws)(hsz:∀x∈ws,x.size<=3000)(hl:ws.length<=3001) :
  aB 170 #[aj 1,aD b 0 ws.length cap] w (bQ (.bool (cE 1 (lY ws))) w):=by
 by_cases h4:ws.length=1;{
 match ws,h4 with
 | [x0],_ =>
 have s0:x0.size<=maxLen:=by have:=hsz x0 ar;unfold maxLen;omega
 have s0':x0.size<=3000:=hsz x0 ar;have c0:w.cell? (ak b 0)=some (.string x0):=hat.2 0 ar;clear hat hl hsz;go_enter func170,ntmps170;go_wp2_with (go_at_call 228;refine(aks x0 _ hg s0').mono ?_;rintro e w1 ⟨rfl,hb1⟩);go_ret;exact⟨rfl,hb1⟩};{
 have aY:Hid (cE 1 (lY ws)=false):=aku _ (by simpa [lY]using h4);have AU:((ws.length:Int) == 1)=false:=by rw[d_];omega
 clear h4 hat hsz;go_enter func170,ntmps170;go_wp2;go_ret;exact⟨cA aY.symm,bR _ _⟩}
theorem akB(b cap:Nat)(ws:List ByteArray)(w:World)(hg:bK w)(hat:tz w b 0 ws)(hsz:∀x∈ws,x.size<=3000)(hl:ws.length<=3001) :
  aB 170 #[aj 16,aD b 0 ws.length cap] w (bQ (.bool (cE 16 (lY ws))) w):=by
 by_cases h4:ws.length=1;{
 match ws,h4 with
 | [x0],_ =>
 have s0:x0.size<=maxLen:=by have:=hsz x0 ar;unfold maxLen;omega
 have s0':x0.size<=3000:=hsz x0 ar;have c0:w.cell? (ak b 0)=some (.string x0):=hat.2 0 ar;clear hat hl hsz;go_enter func170,ntmps170;go_wp2_with (go_at_call 229;refine(ako x0 _ s0).mono ?_;rintro e w1 ⟨rfl,rfl⟩);go_ret;exact⟨rfl,bR _ _⟩};{
 have aY:Hid (cE 16 (lY ws)=false):=akv _ (by simpa [lY]using h4);have AU:((ws.length:Int) == 1)=false:=by rw[d_];omega
 clear h4 hat hsz;go_enter func170,ntmps170;go_wp2;go_ret;exact⟨cA aY.symm,bR _ _⟩}
theorem akC(b cap:Nat)(ws:List ByteArray)(w:World)(hg:bK w)(hat:tz w b 0 ws)(hsz:∀x∈ws,x.size<=3000)(hl:ws.length<=3001) :
  aB 170 #[aj 15,aD b 0 ws.length cap] w (bQ (.bool (cE 15 (lY ws))) w):=by
 by_cases h4:ws.length=2
 ·match ws,h4 with
  | [x0,x1],_ =>
  have aY:Hid (cE 15 (lY [x0,x1])=(dz 65535 x0.data.toList && dr x1.data.toList)):=rfl;have s0:x0.size<=maxLen:=by have:=hsz x0 ar;unfold maxLen;omega
  have s1:x1.size<=maxLen:=by have:=hsz x1 ar;unfold maxLen;omega
  have c0:w.cell? (ak b 0)=some (.string x0):=hat.2 0 ar;have aC:w.cell? (ak b 1)=some (.string x1):=hat.2 1 ar;clear hat hl hsz;cases v0:dz 65535 x0.data.toList
  ·go_enter func170,ntmps170;go_wp2_with (go_at_call 227;refine(HB x0 65535 _ s0 ae).mono ?_;rintro e w1 ⟨rfl,rfl⟩);go_ret;exact⟨cA (by rw[af aY,v0];rfl),bR _ _⟩
  ·go_enter func170,ntmps170;go_wp2_with (first
    | (go_at_call 227;refine(HB x0 65535 _ s0 ae).mono ?_;rintro e w1 ⟨rfl,rfl⟩)
    | (go_at_call 68;refine(xP x1 _ hg s1).mono ?_;rintro e w1 ⟨rfl,hb1⟩))
   go_ret;exact⟨cA (by rw[af aY,v0];rfl),hb1⟩
 ·have aY:Hid (cE 15 (lY ws)=false):=akw _ (by simpa [lY]using h4);have AU:((ws.length:Int) == 2)=false:=by rw[d_];omega
  clear h4 hat hsz;go_enter func170,ntmps170;go_wp2;go_ret;exact⟨cA aY.symm,bR _ _⟩
theorem akD(k:Int)(b cap:Nat)(ws:List ByteArray)(w:World)(h6:k≠6)(h2:k≠2)(h5:k≠5)(h1:k≠1)(AP:k≠16)(AQ:k≠15) :
  aB 170 #[aj k,aD b 0 ws.length cap] w (bQ (.bool (cE k (lY ws))) w):=by have aY:=ag (gu k (lY ws) h6 h2 h5 h1 AP AQ);have k6:(k == 6)=false:=d_.2 h6;have k2:(k == 2)=false:=d_.2 h2;have k5:(k == 5)=false:=d_.2 h5;have k1:(k == 1)=false:=d_.2 h1;have k16:(k == 16)=false:=d_.2 AP;have k15:(k == 15)=false:=d_.2 AQ;clear h6 h2 h5 h1 AP AQ;go_enter func170,ntmps170;go_wp2;go_ret;exact⟨cA aY.symm,bR _ _⟩
theorem akE(k:Int)(b cap:Nat)(ws:List ByteArray)(w:World)(hg:bK w)(hat:tz w b 0 ws)(hsz:∀x∈ws,x.size<=3000)(hl:ws.length<=3001) :
  aB 170 #[aj k,aD b 0 ws.length cap] w (bQ (.bool (cE k (lY ws))) w):=by by_cases h6:k=6;{subst h6;exact akx b cap ws w hg hat hsz hl};by_cases h2:k=2;{subst h2;exact aky b cap ws w hg hat hsz hl};by_cases h5:k=5;{subst h5;exact akz b cap ws w hg hat hsz hl};by_cases h1:k=1;{subst h1;exact akA b cap ws w hg hat hsz hl};by_cases AP:k=16;{subst AP;exact akB b cap ws w hg hat hsz hl};by_cases AQ:k=15;{subst AQ;exact akC b cap ws w hg hat hsz hl};exact akD k b cap ws w h6 h2 h5 h1 AP AQ
def aq(l:ah):ByteArray:=⟨l.toArray⟩
abbrev ay(x:List UInt8):Value:=.string (aq x)
theorem Tf(s:ByteArray):aq s.data.toList=s:=by cases s;simp[aq]
theorem tA(l:ah):(aq l).data.toList=l:=rfl
theorem bJ(l:ah):(aq l).size=l.length:=by simp[aq,ByteArray.size]
abbrev ai:=ah×Nat×Int×ah
def ai.owner(r:ai):ah:=r.1
def ai.aG(r:ai):Nat:=r.2.1
def ai.type(r:ai):Int:=r.2.2.1
def ai.data(r:ai):ah:=r.2.2.2
def ai.zero:ai:=([],0,0,[])
def ai.aS(r:ai):List Value:=[.string (aq r.owner),aj r.aG,aj r.type,.string (aq r.data)]
def ai.tB(r:ai):Value:=.agg #[.string (aq r.owner),aj r.aG,aj r.type,.string (aq r.data)]
def gQ(l:ah):Option ai :=
 match Lib.splitN l [32] 4 with
 | [a,b,c,d]=>if iC a && dz 86400 b && cE (gL c) (az 32 d)then some (a,iY 86400 b,gL c,d)else none
 | _=>none
def uz(o:Option ai):Value:=.tuple #[(o.getD ai.zero).tB,.bool o.isSome]
theorem Tg(c:UInt8):∀(k:Nat) (l:ah),∀x∈Lib.splitK [c] 0 k l,x.length<=l.length
 | 0,l,x,hx=>by simp[Lib.splitK]at hx;subst hx;exact bH _
 | k+1,l,x,hx=>by unfold Lib.splitK at hx;split at hx;{simp at hx;subst hx;exact bH _};{rw[ei]at hx;rcases hx with rfl|hx;{simp;omega};{have:=Tg c k _ x hx;rw[fM]at this;omega}}
def uA(s:ByteArray):List ByteArray:=Lib.splitB ⟨#[32]⟩ 0 (min 4 (s.size+1) - 1) s
theorem Th(s:ByteArray):(uA s).map (·.data.toList)=Lib.splitN s.data.toList [32] 4:=by unfold uA;rw[Lib.splitB_data];unfold Lib.splitN;rw[lK]
theorem akF(s:ByteArray):(uA s).length<=4:=by have:=Lib.splitB_length_le ⟨#[32]⟩ 0 (min 4 (s.size+1) - 1) s;unfold uA;omega
theorem akG(s x:ByteArray)(hx:x∈uA s):x.size<=s.size:=by have:x.data.toList∈Lib.splitN s.data.toList [32] 4:=by{rw[<- Th];exact Cz hx};have:=Tg 32 _ _ _ this;rwa [lK,lK]at this
theorem akH(w:World)(L:List ByteArray)(N:Nat):tz (w.alloc (.cells (Lib.cellsOf L N) 9)) w.heap.size 0 L:=by refine⟨ar,fun j hj=>?_⟩;rw[eY];unfold Lib.cellsOf;simp[hj,List.getElem?_append]
theorem aaf(s:ByteArray)(w:World)(hg:bK w)(hs:s.size<=3000) :
  aB 167 #[.string s,.string ⟨#[32]⟩,aj 4] w fun e w' =>
   e=.returned (aD w.heap.size 0 (uA s).length (min 4 (s.size+1)))/\w'=w.alloc (.cells (Lib.cellsOf (uA s) (min 4 (s.size+1))) 9):=by obtain⟨_,m,hm⟩:=hg;exact Tryz.strings_SplitN s ⟨#[32]⟩ 4 m w ae hm aA ae ae
theorem akI(s:ByteArray)(w:World)(hg:bK w)(hs:s.size<=3000)(h4:(uA s).length≠4) :
  aB 99 #[.string s] w (bQ (uz none) w):=by have hlen:=akF s;have CL:=aaf s (w.alloc (.cells #[.string ⟨#[]⟩,.int .i64 0,.int .i64 0,.string ⟨#[]⟩] 47)) (hg.alloc _) hs;generalize uA s=L at *;have AU:(L.length:Int)<4:=ae;have HC:=ag CL;clear CL;go_enter func99,ntmps99;go_wp2_with (go_at_call 167;refine HC.mono ?_;rintro e w' ⟨rfl,rfl⟩);refine fB (v:=uz none) (by simp[results,results99,go_sem,uz,ai.tB,ai.zero,ai.owner,ai.aG,ai.type,ai.data,aq]) rfl ⟨rfl,?_⟩;exact(aO.alloc aA _).alloc ar _
theorem akJ(most:Nat)(l:ah):iY most l<=most:=by
 unfold iY tq;cases l with
 | nil=>simp
 | cons c r =>{
 simp only[];split;{simp};{
 cases h:nS most 0 (c :: r)with
 | none=>simp
 | some m=>simpa using aac _ _ _ h (cV _)}}
theorem akK(k:Int)(b:Nat)(x:ByteArray)(w:World)(hg:bK w)(hat:tz w b 0 (gq 32 x))(hx:x.size<=3000) :
  aB 170 #[aj k,aD b 0 (gq 32 x).length (gq 32 x).length] w (bQ (.bool (cE k (az 32 x.data.toList))) w):=by rw[<- wo];refine akE k b _ _ w hg hat (fun y hy=>a_ (Ke 32 x y hy) hx) ?_;have:=pQ 32 x.data.toList;rw[<- wo,bY,lK]at this;omega
theorem akL(s x0 x1 x2 x3:ByteArray)(w:World)(hg:bK w)(hs:s.size<=3000)(h4:uA s = [x0,x1,x2,x3]) :
  aB 99 #[.string s] w fun e w' =>
   e=.returned (uz (if iC x0.data.toList && dz 86400 x1.data.toList && cE (gL x2.data.toList) (az 32 x3.data.toList)then some (x0.data.toList,iY 86400 x1.data.toList,gL x2.data.toList,x3.data.toList)else none))/\au w w':=by
 have CL:=aaf s (w.alloc (.cells #[.string ⟨#[]⟩,.int .i64 0,.int .i64 0,.string ⟨#[]⟩] 47)) (hg.alloc _) hs;have hsz:=akG s;have hat:=akH (w.alloc (.cells #[.string ⟨#[]⟩,.int .i64 0,.int .i64 0,.string ⟨#[]⟩] 47)) (uA s) (min 4 (s.size+1));rw[h4]at CL hsz hat;have AV:bK ((w.alloc (.cells #[.string ⟨#[]⟩,.int .i64 0,.int .i64 0,.string ⟨#[]⟩] 47)).alloc (.cells (Lib.cellsOf [x0,x1,x2,x3] (min 4 (s.size+1))) 9)):=(hg.alloc _).alloc _;have eJ:au w ((w.alloc (.cells #[.string ⟨#[]⟩,.int .i64 0,.int .i64 0,.string ⟨#[]⟩] 47)).alloc (.cells (Lib.cellsOf [x0,x1,x2,x3] (min 4 (s.size+1))) 9)) := (aO.alloc aA _).alloc ar _;have r0:((w.alloc (.cells #[.string ⟨#[]⟩,.int .i64 0,.int .i64 0,.string ⟨#[]⟩] 47)).alloc (.cells (Lib.cellsOf [x0,x1,x2,x3] (min 4 (s.size+1))) 9)).cell? (ak w.heap.size 0)=some (.string ⟨#[]⟩):=ar;have r1:((w.alloc (.cells #[.string ⟨#[]⟩,.int .i64 0,.int .i64 0,.string ⟨#[]⟩] 47)).alloc (.cells (Lib.cellsOf [x0,x1,x2,x3] (min 4 (s.size+1))) 9)).cell? (ak w.heap.size 1)=some (aj 0):=ar;have r2:((w.alloc (.cells #[.string ⟨#[]⟩,.int .i64 0,.int .i64 0,.string ⟨#[]⟩] 47)).alloc (.cells (Lib.cellsOf [x0,x1,x2,x3] (min 4 (s.size+1))) 9)).cell? (ak w.heap.size 2)=some (aj 0):=ar;have r3:((w.alloc (.cells #[.string ⟨#[]⟩,.int .i64 0,.int .i64 0,.string ⟨#[]⟩] 47)).alloc (.cells (Lib.cellsOf [x0,x1,x2,x3] (min 4 (s.size+1))) 9)).cell? (ak w.heap.size 3)=some (.string ⟨#[]⟩):=ar;have lg:∀i,((w.alloc (.cells #[.string ⟨#[]⟩,.int .i64 0,.int .i64 0,.string ⟨#[]⟩] 47)).alloc (.cells (Lib.cellsOf [x0,x1,x2,x3] (min 4 (s.size+1))) 9)).frozen? (ak w.heap.size i)=false:=by intro i;simp
 have hzz:w.heap.size+1<((w.alloc (.cells #[.string ⟨#[]⟩,.int .i64 0,.int .i64 0,.string ⟨#[]⟩] 47)).alloc (.cells (Lib.cellsOf [x0,x1,x2,x3] (min 4 (s.size+1))) 9)).heap.size:=ar;rw[dD]at hat CL;generalize (w.alloc (.cells #[.string ⟨#[]⟩,.int .i64 0,.int .i64 0,.string ⟨#[]⟩] 47)).alloc (.cells (Lib.cellsOf [x0,x1,x2,x3] (min 4 (s.size+1))) 9)=W at *;have c0:W.cell? (ak (w.heap.size+1) 0)=some (.string x0):=hat.2 0 ar;have aC:W.cell? (ak (w.heap.size+1) 1)=some (.string x1):=hat.2 1 ar;have c2:W.cell? (ak (w.heap.size+1) 2)=some (.string x2):=hat.2 2 ar;have c3:W.cell? (ak (w.heap.size+1) 3)=some (.string x3):=hat.2 3 ar;have t0:x0.size<=3000:=by have:=hsz x0 ar;omega
 have t1:x1.size<=3000:=by have:=hsz x1 ar;omega
 have t3:x3.size<=3000:=by have:=hsz x3 ar;omega
 have s0:x0.size<=maxLen:=by unfold maxLen;omega
 have s1:x1.size<=maxLen:=by unfold maxLen;omega
 simp only[bP,fy,eY,Nat.reduceAdd]at CL;have hz0:w.heap.size<W.heap.size:=ae;have HC:=ag CL;have aX:=ag eJ;clear CL eJ hat hsz h4;cases v0:iC x0.data.toList;{go_enter func99,ntmps99;go_wp2_with fail;refine HC.mono ?_;rintro e w' ⟨rfl,rfl⟩;go_wp2_with fail;refine(Kg x0 _ AV s0).mono ?_;rintro e w1 ⟨rfl,hb1⟩;obtain⟨bc,Oc⟩:=Oa hb1;go_wp2_with fail;refine fB (v:=uz none) (by simp[results,results99,go_sem,uz,ai.tB,ai.zero,ai.owner,ai.aG,ai.type,ai.data,aq,bc,r0,r1,r2,r3,hz0]) rfl ⟨ar,?_⟩;exact((((aX.trans (hb1.mono ae)).setCell aA _).setCell aA _).setCell aA _).setCell aA _};cases v1:dz 86400 x1.data.toList;{go_enter func99,ntmps99;go_wp2_with fail;refine HC.mono ?_;rintro e w' ⟨rfl,rfl⟩;go_wp2_with fail;refine(Kg x0 _ AV s0).mono ?_;rintro e w1 ⟨rfl,hb1⟩;obtain⟨bc,Oc⟩:=Oa hb1;go_wp2_with fail;refine(Te x1 86400 _ s1 ae).mono ?_;rintro e w2 ⟨rfl,rfl⟩;go_wp2_with fail;refine(aaa x2 _).mono ?_;rintro e w2 ⟨rfl,rfl⟩;go_wp2_with fail;refine fB (v:=uz none) (by simp[results,results99,go_sem,uz,ai.tB,ai.zero,ai.owner,ai.aG,ai.type,ai.data,aq, bc,r0,r1,r2,r3,hz0]) rfl ⟨ar,?_⟩;exact((((aX.trans (hb1.mono ae)).setCell aA _).setCell aA _).setCell aA _).setCell aA _};cases v2:cE (gL x2.data.toList) (az 32 x3.data.toList);all_goals(
 go_enter func99,ntmps99;go_wp2_with fail;refine HC.mono ?_;rintro e w' ⟨rfl,rfl⟩;go_wp2_with fail;refine(Kg x0 _ AV s0).mono ?_;rintro e w1 ⟨rfl,hb1⟩;obtain⟨bc,Oc⟩:=Oa hb1;have hg1:=AV.below hb1;go_wp2_with fail;refine(Te x1 86400 _ s1 ae).mono ?_;rintro e w2 ⟨rfl,rfl⟩;go_wp2_with fail;refine(aaa x2 _).mono ?_;rintro e w2 ⟨rfl,rfl⟩;go_wp2_with fail;refine(zj x3 32 _ hg1 ae).mono ?_;rintro e w3 ⟨rfl,hw3⟩;have hb3:au w2 w3:=by rw[hw3];exact aO.alloc aA _
 have aag:tz w3 w2.heap.size 0 (gq 32 x3):=by rw[hw3];exact Kf _ _
 have hg3:=hg1.below hb3;clear hw3;have pR:(iY 86400 x1.data.toList:Int)<=86400:=by have:=akJ 86400 x1.data.toList;omega
 go_wp2_with fail;refine(akK _ _ x3 _ hg3 aag t3).mono ?_;rintro e w4 ⟨rfl,hb4⟩;have mC:Below w'.heap.size w' w4:=hb1.trans ((hb3.trans (hb4.mono hb3.size)).mono hb1.size);clear bc Oc aag hg3 hb3 hb4 hb1 hg1;obtain⟨bc,Oc⟩:=Oa mC;go_wp2_with fail)
 {refine fB (v:=uz none) (by simp[results,results99,go_sem,uz,ai.tB,ai.zero,ai.owner,ai.aG,ai.type,ai.data,aq, bc,r0,r1,r2,r3,hz0]) rfl ⟨ar,?_⟩;exact((((aX.trans (mC.mono ae)).setCell aA _).setCell aA _).setCell aA _).setCell aA _};{go_region;all_goals(go_wp2;refine fB (v:=uz (some (x0.data.toList,iY 86400 x1.data.toList,gL x2.data.toList,x3.data.toList))) (by simp[results,results99,go_sem,uz,ai.tB,ai.owner,ai.aG,ai.type,ai.data,Tf,bc,r0,r1,r2,r3,hz0]) rfl ⟨ar,?_⟩;exact(((((aX.trans (mC.mono ae)).setCell aA _).setCell aA _).setCell aA _).setCell aA _).drew)}
theorem aah(s:ByteArray)(w:World)(hg:bK w)(hs:s.size<=3000) :
  aB 99 #[.string s] w (bQ (uz (gQ s.data.toList)) w):=by
 by_cases h4:(uA s).length=4;{
 match h:uA s,h4 with
 | [x0,x1,x2,x3],_ =>
 have e:gQ s.data.toList=if iC x0.data.toList && dz 86400 x1.data.toList && cE (gL x2.data.toList) (az 32 x3.data.toList)then some (x0.data.toList,iY 86400 x1.data.toList,gL x2.data.toList,x3.data.toList)else none:=by{unfold gQ;rw[<- Th,h];rfl}
 rw[e];exact akL s x0 x1 x2 x3 w hg hs h};{have e:gQ s.data.toList=none:=by{unfold gQ;split;{rename_i he;rw[<- Th]at he;exact absurd (by have:=dE List.length he;simpa using this) h4};{rfl}};rw[e];exact akI s w hg hs h4}
def iZ:List ah->Option (List ai)
 | []=>some []
 | l :: t=>(gQ l).bind fun r=>(iZ t).map (r :: ·)
def kK:ah:=[111,114,105,103,105,110,32]
def zk:List ah->Option (ah×List ai)
 | []=>none
 | f :: t=>if Lib.hasPrefix f kK && dr (Lib.trimPrefix f kK)then(iZ t).map (fun rs=>(Lib.trimPrefix f kK,rs))else none
def jl(l:ah):Option (ah×List ai) :=
 if Lib.hasSuffix l [10]then zk (az 10 (Lib.trimSuffix l [10]))else none
def gW(rs:List ai):List Value:=rs.flatMap ai.aS
theorem akM(rs:List ai)(r:ai):gW (rs++[r])=gW rs++r.aS:=by simp[gW]
theorem Kj(rs:List ai):(gW rs).length=rs.length*4:=by
 induction rs with
 | nil=>rfl
 | cons r t ih=>simp only[gW,iV,bj]at *; rw[ih];simp[ai.aS];omega
def wz(w:World)(base:Nat)(v:Value)(rs:List ai):Prop:=w.ownsRow base 47 4 v rs.length (gW rs)/\(v=aH ↔ rs = [])
theorem ic{w w':World}{B e size n:Nat}{v:Value}{xs:List Value}(h:w.ownsRow B e size v n xs)(hb:au w w'):w'.ownsRow B e size v n xs :=
 h.kept (row:=none) ⟨hb.os,hb.tape,hb.output,hb.size,fun k hk _=>hb.block k hk⟩ (Classical.em _)
theorem EZ{w:World}{B B' e size n:Nat}{v:Value}{xs:List Value}(h:w.ownsRow B e size v n xs)(hb:B'<=B):w.ownsRow B' e size v n xs:=by obtain⟨hl,h|⟨g,cap,cur,hv,hg,h1,h2,h3,h4,h5⟩⟩:=h;{exact⟨hl,.inl h⟩};{exact⟨hl,.inr ⟨g,cap,cur,hv,a_ hb hg,h1,h2,h3,h4,h5⟩⟩}
theorem wz.below{w w':World}{B:Nat}{v:Value}{rs:List ai}(h:wz w B v rs)(hb:au w w'):wz w' B v rs:=⟨ic h.1 hb,h.2⟩
theorem wz.base{w:World}{B B':Nat}{v:Value}{rs:List ai}(h:wz w B v rs)(hb:B'<=B):wz w B' v rs:=⟨EZ h.1 hb,h.2⟩
theorem akN(s:ByteArray)(w:World)(hg:bK w)(hs:s.size<=3000)(h:gQ s.data.toList=none) :
  aB 99 #[.string s] w (bQ (.tuple #[.agg #[.string ⟨#[]⟩,aj 0,aj 0,.string ⟨#[]⟩],.bool false]) w):=by have:=aah s w hg hs;rw[h]at this;exact this
theorem akO(s:ByteArray)(r:ai)(w:World)(hg:bK w)(hs:s.size<=3000)(h:gQ s.data.toList=some r) :
  aB 99 #[.string s] w (bQ (.tuple #[.agg #[.string (aq r.owner),aj r.aG,aj r.type,.string (aq r.data)],.bool true]) w):=by have:=aah s w hg hs;rw[h]at this;exact this
theorem HE:(prog.info? 47).map (fun i=>(i.zero,i.size,i.bytes))=some (some (.agg #[.string ⟨#[]⟩,aj 0,aj 0,.string ⟨#[]⟩]),4,48):=aI
theorem Od:prog.underlying 41=some (.slice 47):=aI
def Kk:Value:=.tuple #[.string ⟨#[]⟩,aH,.bool false]
def Ti(o:Option (ah×List ai))(base:Nat)(e:Ending)(w':World):Prop :=
 match o with
 | none=>e=.returned Kk
 | some (o,rs)=>∃v,e=.returned (.tuple #[.string (aq o),v,.bool true])/\wz w' base v rs
theorem Tj{base:Nat}{e:Ending}{w':World}(h:e=.returned Kk):Ti none base e w':=h
theorem akP(s:ByteArray)(w:World)(hs:s.size<=3000)(h:Lib.hasSuffix s.data.toList [10]=false) :
  aB 56 #[.string s] w (bQ Kk w):=by go_enter func56,ntmps56;go_wp2_with (go_at_call 96;refine(Tryz.strings_CutSuffix s _ _ ae).mono ?_;rintro e w' ⟨rfl,rfl⟩);go_ret3;exact⟨rfl,bR _ _⟩
theorem akQ(l p:ah):(Lib.trimSuffix l p).length<=l.length:=by unfold Lib.trimSuffix;split;{simp};{exact bH _}
theorem akR(l p:ah):(Lib.trimPrefix l p).length<=l.length:=by unfold Lib.trimPrefix;split;{simp};{exact bH _}
theorem akS(s:ByteArray)(w:World)(hg:bK w)(hs:s.size<=3000)(h:Lib.hasSuffix s.data.toList [10]=true) :
  aB 56 #[.string s] w fun e w' =>
   Ti (jl s.data.toList) w.heap.size e w'/\au w w':=by
 have hz:Hid (jl s.data.toList=zk (az 10 (Lib.trimSuffix s.data.toList [10]))):=by unfold jl;rw[Hid,aJ h]
 have hcut:=Tryz.strings_CutSuffix s ⟨#[10]⟩ w ae;rw[h]at hcut;obtain⟨body,Kl⟩:∃body:ByteArray,⟨(Lib.trimSuffix s.data.toList [10]).toArray⟩=body:=⟨_,rfl⟩;have ie:body.data.toList=Lib.trimSuffix s.data.toList [10]:=by rw[<- Kl]
 have bX:body.size<=3000:=by{have:=akQ s.data.toList [10];rw[<- ie,lK,lK]at this;omega};have hcut':aB 96 #[.string s,.string ⟨#[10]⟩] w fun e w'=>e=.returned (.tuple #[.string body,.bool true])/\w'=w:=by rw[<- Kl];exact hcut
 rw[<- ie,<- wo]at hz;have jM:=ag (Ke 10 body);have hlen:(gq 10 body).length<=3001:=by{have:=pQ 10 body.data.toList;rw[<- wo,bY,lK]at this;omega};have hat:=Kf w (gq 10 body);have wy:=zj body 10 w hg ae;have hb0:au w (w.alloc (.cells ((gq 10 body).map Value.string).toArray 9)):=aO.alloc aA _;have Tk:1<=(gq 10 body).length:=by have:=Z8 10 body;omega
 clear Kl ie hcut;generalize gq 10 body=L at *;cases L with
 | nil=>simp at Tk
 | cons f t =>
 have Oe:_:=hat.2 0 ar;have ay3:f.size<=3000:=a_ (jM f ar) bX;have hst:∀x∈t,x.size<=3000:=fun x hx=>a_ (jM x (by simp[hx])) bX;have HST:=ag hst;clear hst jM;generalize w.alloc (.cells ((f :: t).map Value.string).toArray 9)=W at *;have ay4:W.cell? (ak w.heap.size 0)=some (.string f):=Oe;have AV:=hg.below hb0;have hlt:(t.length:Int)<=3000:=by simp at hlen;omega
 rw[bP]at wy;have qL:=ag hcut';have HC:=ag wy;have aX:=ag hb0;have eZ:=ag hat;clear wy hb0 hat hcut' Oe hlen Tk;have qM:=Tryz.strings_CutPrefix f ⟨#[111,114,105,103,105,110,32]⟩ W;obtain⟨org,Tl⟩:∃org:ByteArray,⟨(Lib.trimPrefix f.data.toList kK).toArray⟩=org:=⟨_,rfl⟩;have Tm:org.data.toList=Lib.trimPrefix f.data.toList kK:=by rw[<- Tl]
 have Tn:org.size<=maxLen:=by{have:=akR f.data.toList kK;rw[<- Tm,lK,lK]at this;unfold maxLen;omega};obtain⟨hp,Og⟩:=bF (Lib.hasPrefix f.data.toList kK);have Tp:aB 98 #[.string f,.string ⟨#[111,114,105,103,105,110,32]⟩] W fun e w'=>e=.returned (.tuple #[.string org,.bool hp])/\w'=W:=by rw[<- Tl,Og];exact qM
 have bI:=ag Tp;clear qM Tp;have hrl:Hid (jl s.data.toList=if hp && dr org.data.toList then(iZ (t.map (·.data.toList))).map (fun rs=>(org.data.toList,rs))else none):=by{rw[Hid,af hz,jL,zk,Og,Tm]};clear hz Tl Tm Og;cases hp;{go_enter func56,ntmps56;go_wp2_with fail;refine qL.mono ?_;rintro e w ⟨rfl,rfl⟩;go_wp2_with fail;refine HC.mono ?_;rintro e W ⟨rfl,rfl⟩;go_wp2_with fail;refine bI.mono ?_;rintro e W ⟨rfl,rfl⟩;go_wp2;go_ret3;rw[af hrl];exact⟨Tj rfl,aX⟩};cases hpl:dr org.data.toList;{go_enter func56,ntmps56;go_wp2_with fail;refine qL.mono ?_;rintro e w ⟨rfl,rfl⟩;go_wp2_with fail;refine HC.mono ?_;rintro e W ⟨rfl,rfl⟩;go_wp2_with fail;refine bI.mono ?_;rintro e W ⟨rfl,rfl⟩;go_wp2_with fail;refine(xP org _ AV Tn).mono ?_;rintro e w1 ⟨rfl,hb1⟩;go_wp2;go_ret3;rw[af hrl,hpl];exact⟨Tj rfl,aX.trans (hb1.mono aX.size)⟩};have Tq:Hid (jl s.data.toList=(iZ (t.map (·.data.toList))).map (fun rs=>(org.data.toList,rs))):=by{rw[Hid,af hrl,hpl];rfl};clear hrl;have hrl:=Tq;clear Tq;cases t with
 | nil =>{
 go_enter func56,ntmps56;go_wp2_with fail;refine qL.mono ?_;rintro e w ⟨rfl,rfl⟩;go_wp2_with fail;refine HC.mono ?_;rintro e W ⟨rfl,rfl⟩;go_wp2_with fail;refine bI.mono ?_;rintro e W ⟨rfl,rfl⟩;go_wp2_with fail;refine(xP org _ AV Tn).mono ?_;rintro e w1 ⟨rfl,hb1⟩;go_wp2_with fail;go_loop [10,41] (fun v i=>v=aH/\i=aj 0) (fun _ _=>0);case atStart=>exact⟨rfl,rfl⟩
 case round =>(obtain⟨rfl,rfl⟩:=hrel;go_wp2;go_ret3;rw[af hrl];exact⟨⟨_,by rw[Tf];rfl,ia _ _ _ _,ar⟩,aX.trans (hb1.mono aX.size)⟩)}
 | cons t0 ts =>{
 generalize hT:t0 :: ts=t at *;have htn:¬t = []:=by rw[<- hT];simp
 have kL:0<t.length:=by rw[<- hT];simp
 clear hT;go_enter func56,ntmps56;go_wp2_with fail;refine qL.mono ?_;rintro e w ⟨rfl,rfl⟩;go_wp2_with fail;refine HC.mono ?_;rintro e W ⟨rfl,rfl⟩;go_wp2_with fail;refine bI.mono ?_;rintro e W ⟨rfl,rfl⟩;go_wp2_with fail;refine(xP org _ AV Tn).mono ?_;rintro e w1 ⟨rfl,hb1⟩;go_wp2_with fail;have akT:=AV.below hb1;have E0:au w w1:=aX.trans (hb1.mono aX.size);have hs1:=E0.size;have mD:=ag E0;clear E0;have aai:=eZ.below hb1;have AR:=ag aai;clear aai HC qL bI;go_loopw [10,41] (fun v i wr=>∃(k:Nat) (rs:List ai),k<=t.length/\i=aj k/\rs.length=k/\wz wr w1.heap.size v rs/\iZ (t.map (·.data.toList))=(iZ ((t.map (·.data.toList)).drop k)).map (rs++·)/\au w1 wr) (fun _ i _=>t.length - (intOf i).toNat);case atStart=>exact⟨0,[],cV _,rfl,rfl,⟨ia _ _ _ _,ar⟩,ar,bR _ _⟩
 case round =>(
 obtain⟨k,rs,hk,rfl,tC,hown,aaj,hbr⟩:=hrel;have bC:=ag aaj;have HO:=ag hown;clear aaj hown;have hgr:=akT.below hbr;have Km:=hbr.size;by_cases hlk:k<t.length;{
 have hck:wr.cell? (ak w.heap.size (1+k))=some (.string t[k]):=by{have:=(AR.below hbr).2 (k+1) (by simpa using hlk);rw[show 0+(k+1)=1+k from ae]at this;simpa using this};have hdr:Hid ((t.map (·.data.toList)).drop k=t[k].data.toList :: (t.map (·.data.toList)).drop (k+1)):=by{rw[Hid,ko (by simpa using hlk),vW]};have uB:=af HST t[k] (cM hlk);generalize t[k]=x at *;cases hr:gQ x.data.toList with
 | none =>{have aY:Hid (jl s.data.toList=none):=by{rw[Hid,af hrl,af bC,af hdr,iZ,hr];rfl};go_wp2_with fail;refine(akN x _ hgr uB hr).mono ?_;rintro e w2 ⟨rfl,hb2⟩;go_wp2;go_ret3;rw[af aY];exact⟨Tj rfl,(mD.trans ((hbr.mono hs1).trans (hb2.mono ae))).alloc (by have:=hb2.size;omega) _⟩}
 | some r =>{
 obtain⟨i0,ax,hz0,hz1,hz2⟩:=kJ HE;have aY:Hid (iZ (t.map (·.data.toList))=(iZ ((t.map (·.data.toList)).drop (k+1))).map ((rs++[r])++·)):=by{rw[Hid,af bC,af hdr,iZ,hr];simp[Option.map_map,Function.comp_def]};go_wp2_with fail;refine(akO x r _ hgr uB hr).mono ?_;rintro e w2 ⟨rfl,hb2⟩;have hown2:=HO.below hb2;have gv:=ag hown2;clear hown2;have CM:=hb2.size;go_wp2_with (at_builtin;refine N3 _ rfl (.tmp 52) (.tmp 54) 41 rfl w1.heap.size 47 i0 (.agg #[.string ⟨#[]⟩,aj 0,aj 0,.string ⟨#[]⟩]) 4 48 Od ax hz0 hz1 hz2 rfl bD _ rs.length (gW rs) rfl ((gv.1.alloc _).alloc _) (ak (w2.heap.size+1) 0) 1 1 r.aS rfl rfl ?aC ?c2 ?c3 ?aV ?gh ?_);case aC =>(
 intro j u hj;match j,hj with
 | 0,hj=>simp[ai.aS]at hj;subst hj;simp[Addr.add]
 | 1,hj=>simp[ai.aS]at hj;subst hj;simp[Addr.add]
 | 2,hj=>simp[ai.aS]at hj;subst hj;simp[Addr.add]
 | 3,hj=>simp[ai.aS]at hj;subst hj;simp[Addr.add]
 | n+4,hj=>simp[ai.aS]at hj)
 case c2=>intro u hu;simp[ai.aS]at hu;rcases hu with rfl|rfl|rfl|rfl <;> rfl
 case c3=>unfold maxLen;omega
 case aV=>omega
 case gh=>simp;omega
 intro v' w3 hown' hgrow hnil;have aak:wz w3 w1.heap.size v' (rs++[r]):=by{refine⟨?_,?_⟩;{rw[akM,bj,tC];exact hown'};{exact⟨fun h=>absurd h hnil,fun h=>by simp at h⟩}};have ig:au w1 w3:=by{refine((((hbr.trans (hb2.mono ae)).alloc ae _).alloc aP _)).grown hgrow aP ?_;intro k' gF;exact(gv.1.lt k' gF).1};have eE:=ag aak;have cK:=ag ig;clear aak ig hown' hgrow hnil;go_wp2;go_roundw;case rel=>exact⟨k+1,rs++[r],ae,bW,by simp[tC],eE,aY,cK⟩
 case measure=>simp[intOf];omega}};{have aY:Hid (jl s.data.toList=some (org.data.toList,rs)):=by{rw[Hid,af hrl,af bC,sX aP];simp[iZ]};go_wp2;go_ret3;rw[af aY];exact⟨⟨_,by rw[Tf];rfl,HO.base mD.size⟩,mD.trans (hbr.mono hs1)⟩})}
theorem akU(s:ByteArray)(w:World)(hg:bK w)(hs:s.size<=3000) :
  aB 56 #[.string s] w fun e w'=>Ti (jl s.data.toList) w.heap.size e w'/\au w w':=by
 cases h:Lib.hasSuffix s.data.toList [10];{
 have e:jl s.data.toList=none:=by unfold jl;rw[h];rfl
 rw[e];exact akP s w hs h};{exact akS s w hg hs h}
def dG(w:World)(b off:Nat)(rs:List ai):Prop:=b<w.heap.size/\∀j,j<rs.length->∀i u,(ai.aS rs[j]!)[i]? = some u->w.cell? (ak b (off+j*4+i))=some u
theorem dG.below{w w':World}{b off:Nat}{rs:List ai}(h:dG w b off rs)(hb:au w w'):dG w' b off rs :=
 ⟨dP h.1 hb.size,fun j hj i u hu=>(hb.cell (p:=⟨b,off+j*4+i,none⟩) h.1).trans (h.2 j hj i u hu)⟩
def jm(w:World)(v:Value)(rs:List ai):Prop:=(v=aH/\rs = [])\/∃b off cap,v=aD b off rs.length cap/\rs.length<=cap/\dG w b off rs
theorem jm.below{w w':World}{v:Value}{rs:List ai}(h:jm w v rs)(hb:au w w'):jm w' v rs:=by rcases h with h|⟨b,off,cap,hv,hc,hr⟩;{exact .inl h};{exact .inr ⟨b,off,cap,hv,hc,hr.below hb⟩}
theorem aal(rs:List ai)(j i:Nat)(hj:j<rs.length)(ax:i<4):(gW rs)[j*4+i]? = (ai.aS rs[j]!)[i]?:=by
 induction rs generalizing j with
 | nil=>simp at hj
 | cons r t ih =>{
 have e:gW (r :: t)=r.aS++gW t:=by simp[gW]
 have hl:r.aS.length=4:=rfl;rw[e];cases j with
 | zero=>rw[EO ae];simp
 | succ j =>{rw[y_ ae,hl,show(j+1)*4+i - 4=j*4+i from ae,ih j (by simpa using hj)];simp}}
theorem aam{w:World}{b off:Nat}{rs:List ai}(hb:b<w.heap.size)(h:∀j u,(gW rs)[j]? = some u->w.cell? (ak b (off+j))=some u):dG w b off rs:=by refine⟨hb,fun j hj i u hu=>?_⟩;have ax:i<4:=by{rcases SX i 4 with h|h;{exact h};{rw[SJ (by simpa [ai.aS]using h)]at hu;cases hu}};have:=h (j*4+i) u (by rw[aal rs j i hj ax];exact hu);rwa [<- CB]at this
theorem wz.rv{w:World}{B:Nat}{v:Value}{rs:List ai}(h:wz w B v rs):jm w v rs:=by obtain⟨⟨hl,h|⟨g,cap,cur,hv,hg,h1,h2,h3,h4,h5⟩⟩,hn⟩:=h;{exact .inl ⟨h.1,hn.1 h.1⟩};{refine .inr ⟨g,0,cap,hv,h2,aam (bV.1 h1).1 fun j u hu=>?_⟩;have hj:cur[j]? = some u:=by{rw[<- h5]at hu;have kM:j<(cur.toList.take (rs.length*4)).length:=(jX.1 hu).1;rw[za]at hu;split at hu;{simpa using hu};{cases hu}};simp[World.cell?,h1,hj]}
theorem dG.drop{w:World}{b off:Nat}{rs:List ai}(h:dG w b off rs)(k:Nat):dG w b (off+k*4) (rs.drop k):=by refine⟨h.1,fun j hj i u hu=>?_⟩;rw[fM]at hj;have e:(rs.drop k)[j]! = rs[k+j]!:=ar;rw[e]at hu;have:=h.2 (k+j) ae i u hu;rwa [show off+(k+j)*4+i=off+k*4+j*4+i from ae]at this
theorem dG.take{w:World}{b off:Nat}{rs:List ai}(h:dG w b off rs)(k:Nat):dG w b off (rs.take k):=by refine⟨h.1,fun j hj i u hu=>?_⟩;rw[gD]at hj;have e:(rs.take k)[j]! = rs[j]!:=by{rw[ZQ,ZQ,za,aJ ae]};rw[e]at hu;exact h.2 j ae i u hu
theorem dG.four{w:World}{b off:Nat}{rs:List ai}(h:dG w b off rs)(j:Nat)(hj:j<rs.length) :
  w.cell? (ak b (off+j*4))=some (.string (aq rs[j].owner))/\w.cell? (ak b (off+j*4+1))=some (aj rs[j].aG) /\
  w.cell? (ak b (off+j*4+2))=some (aj rs[j].type)/\w.cell? (ak b (off+j*4+3))=some (.string (aq rs[j].data)):=by have e:rs[j]! = rs[j]:=Hz rs j hj;have:=h.2 j hj;rw[e]at this;exact⟨this 0 _ rfl,this 1 _ rfl,this 2 _ rfl,this 3 _ rfl⟩
def lZ(k:Int)(r:ai):Bool:=r.type == k
theorem akV(r:ai)(k:Int)(bk:Nat)(W:World)(hc:W.cell? (ak bk 0)=some (aj k))(hb:bk<W.heap.size) :
  aB 172 #[.agg #[ay r.owner,aj r.aG,aj r.type,ay r.data],aM bk] W (bQ (.bool (lZ k r)) W):=by go_enter func172,ntmps172;go_wp2;go_ret;exact⟨rfl,aO.alloc aA _⟩
theorem akW(k:Int)(bk:Nat)(w:World)(hc:w.cell? (ak bk 0)=some (aj k))(hb:bk<w.heap.size) :
  PredBelow prog 172 #[aM bk] (fun x=>.agg (ai.aS x).toArray) (lZ k) w:=by intro W r hB;refine(akV r k bk W ((hB.cell (p:=⟨bk,0,none⟩) hb).trans hc) (dP hb hB.size)).mono ?_;rintro e w' ⟨rfl,hb'⟩;exact⟨rfl,hB.trans (hb'.mono hB.size)⟩
theorem akX(k:Int)(bk b off cap:Nat)(rs:List ai)(w:World)(hc:w.cell? (ak bk 0)=some (aj k))(hb:bk<w.heap.size)(hr:dG w b off rs)(hl:rs.length<=3001) :
  aB 171 #[aD b off rs.length cap,.func (.func 172) #[] #[aM bk]] w fun e w' =>
   e=.returned (.bool (rs.any (lZ k)))/\au w w':=by have:=AnyQ.slices_ContainsFunc Tryz.Z2 4 Tryz.isAgg47 Tryz.sizeOf47 ai.aS (fun _=>rfl) (lZ k) 172 #[aM bk] (enters_of func172 aI rfl) b off rs.length cap rs w (akW k bk w hc hb) aA ae hr.1 hr.2;rw[gV]at this;exact this
theorem Tr(k:Int)(b off cap:Nat)(rs:List ai)(w:World)(hr:dG w b off rs)(hl:rs.length<=3001) :
  aB 101 #[aD b off rs.length cap,aj k] w (bQ (.bool (rs.any (lZ k))) w):=by have hb0:au w (w.alloc (.cells #[.int .i64 k] 3)):=aO.alloc aA _;have HC:=ag (akX k w.heap.size b off cap rs (w.alloc (.cells #[.int .i64 k] 3)) ar ar (hr.below hb0) hl);clear hr;go_enter func101,ntmps101;go_wp2_with fail;refine HC.mono ?_;rintro e w' ⟨rfl,hb'⟩;go_wp2;go_ret;exact⟨rfl,hb0.trans (hb'.mono ar)⟩
theorem akY(f:Value)(w:World) :
  aB 230 #[aH,f] w fun e w'=>e=.returned (aj (-1))/\w'=w:=by
 go_enter func230,ntmps230;go_wp2_with fail;go_loop [8] (fun i=>i=aj 0) (fun _=>0);case atStart=>rfl
 case round =>(obtain rfl:=hrel;go_wp2;go_ret;exact⟨rfl,rfl⟩)
theorem akZ(k:Int)(w:World) :
  aB 101 #[aH,aj k] w (bQ (.bool false) w):=by have HC:Hid (∀f w,aB 171 #[aH,f] w fun e w'=>e=.returned (.bool false)/\w'=w):=by{intro f w;go_enter func171,ntmps171;go_wp2_with (go_at_call 230;refine(akY _ _).mono ?_;rintro e w' ⟨rfl,rfl⟩);go_ret;exact⟨rfl,rfl⟩};go_enter func101,ntmps101;go_wp2_with fail;refine(HC _ _).mono ?_;rintro e w' ⟨rfl,rfl⟩;go_wp2;go_ret;exact⟨rfl,aO.alloc aA _⟩
theorem Ts(k:Int)(v:Value)(rs:List ai)(w:World)(hv:jm w v rs)(hl:rs.length<=3001) :
  aB 101 #[v,aj k] w (bQ (.bool (rs.any (lZ k))) w):=by rcases hv with⟨rfl,rfl⟩|⟨b,off,cap,rfl,_,hr⟩;{exact akZ k w};{exact Tr k b off cap rs w hr hl}
def lL(o:ah)(rs:List ai):Bool :=
 match rs with
 | []=>false
 | r :: t=>decide (rs.length<=60) && (r.owner == o && r.type == 6 && !t.any (lZ 6))
theorem Tt(o:ah)(v:Value)(rs:List ai)(w:World)(hv:jm w v rs)(hl:rs.length<=3001) :
  aB 58 #[ay o,v] w (bQ (.bool (lL o rs)) w):=by
 rcases hv with⟨rfl,rfl⟩|⟨b,off,cap,rfl,dt,hr⟩;{go_enter func58,ntmps58;go_wp2;go_ret;exact⟨rfl,bR _ _⟩};cases rs with
 | nil =>{go_enter func58,ntmps58;go_wp2;go_ret;exact⟨rfl,bR _ _⟩}
 | cons r t =>{
 rw[bP]at dt hl ⊢;obtain⟨c0,_,c2,_⟩:=hr.four 0 ar;have hd:=hr.drop 1;have he:dG w b off []:=⟨hr.1,fun j hj=>by simp at hj⟩;simp only[rK,gK,lI,NY,List.drop_succ_cons,Aw]at c0 c2 hd;have HD:=ag hd;have bf:=ag he;have hb:=hr.1;clear hd he hr;by_cases Tu:(60:Int)<(t.length:Int)+1;{have aY:Hid (lL o (r :: t)=false):=by{unfold lL;rw[Hid,bP,iB ae];rfl};go_enter func58,ntmps58;go_wp2;go_ret;exact⟨cA aY.symm,bR _ _⟩};have aY:Hid (lL o (r :: t)=(r.owner == o && r.type == 6 && !t.any (lZ 6))):=by{unfold lL;rw[Hid,bP,iy ae];rfl};have lh:((aq r.owner).toList == (aq o).toList)=(r.owner == o):=by rw[HA];rfl
 cases ho:r.owner == o;{rw[ho]at lh;go_enter func58,ntmps58;go_wp2;go_ret;exact⟨cA (by rw[af aY,ho];rfl),bR _ _⟩};rw[ho]at lh;cases ht:r.type == 6;{go_enter func58,ntmps58;go_wp2;go_ret;exact⟨cA (by rw[af aY,ho,ht];rfl),bR _ _⟩};by_cases hc1:cap=1;{subst hc1;obtain rfl:t = []:=fp ae;go_enter func58,ntmps58;go_wp2_with fail;refine(Tr 6 b off 0 [] w (af bf) ar).mono ?_;rintro e w' ⟨rfl,hb'⟩;go_wp2;go_ret;exact⟨cA (by rw[af aY,ho,ht];rfl),hb'⟩};{have Oh:2<=cap:=ae;go_enter func58,ntmps58;go_wp2_with fail;refine(Tr 6 b (off+4) _ t w (af HD) ae).mono ?_;rintro e w' ⟨rfl,hb'⟩;go_wp2;go_ret;exact⟨cA (by rw[af aY,ho,ht];rfl),hb'⟩}}
theorem CN{a b:ah} : ((aq a).toList == (aq b).toList)=(a == b):=by rw[HA];rfl
theorem ak0:EqlAt prog 47 (fun x:ai=>.agg (ai.aS x).toArray) (fun x y=>x == y):=by
 refine⟨fun x y w=>?_,GuardAt.agg _ aI⟩;have u3:=underlying3;have a3:=Tryz.isAgg3;have z3:=Tryz.sizeOf3;have u9:=underlying9;have a9:=Tryz.isAgg9;have z9:=Tryz.sizeOf9;have hS:prog.underlying 47=some (.struct (prog.fieldsOf 47)):=aI;have hp:prog.stoodInHeld 47=false:=aI;simp only[ai.aS];rw[run_eql_struct,show(10000:Nat)=9999+1 from rfl,run_equalIn_agg w 9999 47 _ _ hS hp];simp only[Program.fieldsOf,underlying47];obtain⟨x0,x1,x2,x3⟩:=x;obtain⟨y0,y1,y2,y3⟩:=y;simp only[ai.owner,ai.aG,ai.type,ai.data];have e1:∀a:ah,(aq a).toList=a:=fun a=>by rw[nQ];rfl
 have e2:((x1:Int)=(y1:Int))=(x1=y1):=by apply propext;omega
 go_simp;by_cases h0:x0=y0 <;> by_cases h1:x1=y1 <;> by_cases h2:x2=y2 <;> by_cases h3:x3=y3 <;> simp[e1,e2,h0,h1,h2,h3]
theorem aan(x:ai)(b off cap:Nat)(rs:List ai)(w:World)(hr:dG w b off rs)(hl:rs.length<=3001) :
  aB 178 #[aD b off rs.length cap,.agg #[ay x.owner,aj x.aG,aj x.type,ay x.data]] w fun e w' =>
   e=.returned (.bool (rs.any (x == ·)))/\au w w':=by have:=AnyQ.slices_Contains Tryz.lContains 4 Tryz.isAgg47 Tryz.sizeOf47 ai.aS (fun _=>rfl) (fun x y=>x == y) ak0 b off rs.length cap rs x w aA ae hr.2;rw[gV]at this;exact this
theorem pj{B:Nat}{a w:World}(h:Below B a w)(n:Nat):Below B a (w.drewN n):=⟨h.os,h.tape,h.output,h.size,h.block⟩
theorem Oi{B:Nat}{a w:World}(h:Below B a w):Below B a w.drew:=h.drew
def uC(t0:Nat):List ai->List ai->Bool
 | _,[]=>true
 | pre,r :: t=>r.aG == t0 && !pre.any (r == ·) && uC t0 (pre++[r]) t
def pS(rs:List ai):Bool :=
 match rs with
 | []=>true
 | r :: _=>uC r.aG [] rs
theorem ak1(r0:ai)(t:List ai)(b off cap:Nat)(w:World)(hr:dG w b off (r0 :: t))(hl:(r0 :: t).length<=3001)(dt:(r0 :: t).length<=cap) :
  aB 108 #[aD b off (r0 :: t).length cap] w (bQ (.bool (pS (r0 :: t))) w):=by
 have aY:Hid (pS (r0 :: t)=uC r0.aG [] (r0 :: t)):=rfl;obtain⟨q0,q1,q2,q3⟩:=hr.four 0 ar;clear q2 q3;simp only[rK,gK,lI]at q0 q1;have hrl:0<(r0 :: t).length:=ar;generalize kL:r0.aG=t0 at *;generalize r0 :: t=rs at *;have eZ:=ag hr;have hb:=hr.1;clear hr kL;go_enter func108,ntmps108;go_wp2_with fail;go_loopw [7] (fun i wr=>∃k:Nat,k<=rs.length/\i=aj k/\uC t0 (rs.take k) (rs.drop k)=uC t0 [] rs/\au w wr) (fun i _=>rs.length - (intOf i).toNat);case atStart=>exact⟨0,cV _,rfl,ar,bR _ _⟩
 case round =>(
 obtain⟨k,hk,rfl,bq,hbr⟩:=hrel;have H:=ag bq;clear bq;have hA:=eZ.below hbr;have aC:wr.cell? (ak b (off+1))=some (aj t0):=(hbr.cell (p:=⟨b,off+1,none⟩) hb).trans q1;have hsz:=hbr.size;have ij:b<wr.heap.size:=ae;have ay5:¬b=wr.heap.size:=ae;have Tq:(0:Int)<(rs.length:Int):=ae;by_cases hlt:k<rs.length;{
 obtain⟨k0,k1,k2,k3⟩:=hA.four k hlt;have gy:(k:Int)<(rs.length:Int):=ae;have hdr:Hid (rs.drop k=rs[k] :: rs.drop (k+1)):=ko hlt;have ja:Hid (rs.take (k+1)=rs.take k++[rs[k]]):=gp hlt;have zl:=hA.take k;have cS:=ag zl;have hlk:(rs.take k).length=k:=by rw[gD];omega
 have ej:=ag hlk;clear zl hlk hA;generalize rs[k]=x at *;have aao:∀W,au wr W->∀c,aB 178 #[aD b off k c,.agg #[ay x.owner,aj x.aG,aj x.type,ay x.data]] W (bQ (.bool ((rs.take k).any (x == ·))) W):=by{intro W hW c;have:=aan x b off c (rs.take k) W (cS.below hW) (by rw[af ej];omega);rw[af ej]at this;exact this};have E1:=ag aao;clear aao;by_cases Tv:x.aG=t0;{
 subst Tv;have ak2:((x.aG:Int) != (x.aG:Int))=false:=ar;cases Kn:(rs.take k).any (x == ·);{
 have hstep:Hid (uC x.aG (rs.take (k+1)) (rs.drop (k+1))=uC x.aG [] rs):=by{rw[Hid,<- af H,af hdr,uC,Kn,af ja];simp};go_wp2_with fail;go_region_with (go_at_call 178;refine((af E1) _ (by exact Oi (aO.alloc aA _)) _).mono ?_;rintro e w2 ⟨rfl,hb2⟩);all_goals(
 have hB2:au w w2:=(Oi (hbr.alloc hsz _)).trans (hb2.mono aP);have bU:=ag hB2;clear hB2 hb2;go_wp2_with fail;go_roundw;case rel=>exact⟨k+1,ae,bW,hstep,bU⟩
 case measure=>simp[intOf];omega)};{have Ko:Hid (pS rs=false):=by{rw[Hid,af aY,<- af H,af hdr,uC,Kn];simp};go_wp2_with fail;go_region_with (go_at_call 178;refine((af E1) _ (by exact Oi (aO.alloc aA _)) _).mono ?_;rintro e w2 ⟨rfl,hb2⟩);all_goals(have hB2:au w w2:=(Oi (hbr.alloc hsz _)).trans (hb2.mono aP);have bU:=ag hB2;clear hB2 hb2;go_wp2;go_ret;exact⟨cA Ko.symm,bU⟩)}};{
 have ak2:((x.aG:Int) != (t0:Int))=true:=by rw[qJ];omega
 have Ko:Hid (pS rs=false):=by{have hb0:(x.aG == t0)=false:=d_.2 Tv;rw[Hid,af aY,<- af H,af hdr,uC,hb0];rfl};clear Tv;go_wp2_with fail;go_quiet (fail);go_wp2;go_ret;exact⟨cA Ko.symm,pj (hbr.alloc hsz _) _⟩}};{have Ko:Hid (pS rs=true):=by{rw[Hid,af aY,<- af H,sX ae];rfl};go_wp2;go_ret;exact⟨cA Ko.symm,hbr⟩})
section
variable {P:Program} {α:Type}
def tD(P:Program)(g:Nat)(lb:Array Value)(encs:α->Array Value)(xs:List α)(St Kp Kx:World->World->Prop)(W0:World):Prop :=
 ∀(l:Nat) (J:Nat->World->Prop) (Jx:World->Prop),
  (∀i A B,J i A->St A B->J i B)->(∀A B,Jx A->St A B->Jx B) ->
  (∀i x W,xs[i]? = some x->J i W->YieldAt Fence.wide 0 P l (encs x) W fun e W' =>
   (e=.returned (.bool true)/\J (i+1) W'/\Kp W W')\/(e=.returned (.bool false)/\Jx W'/\Kx W W')) ->
  J 0 W0 ->
  CallsIn Fence.wide 0 P g (#[.func (.yield l) #[] #[]]++lb) W0 fun e W'=>(∃v,e=.returned v)/\(J xs.length W'\/Jx W')
def jN(d:Nat)(A B:World):Prop:=A.heap.size<=B.heap.size/\B.heap[d]? = A.heap[d]?/\B.heap[d+1]? = A.heap[d+1]?
def Tw(d:Nat)(Kb pT:World->World->Prop)(I:World->Prop)(Ix:Code->World->Prop)(W:World):Exit->Act->World->Prop
 | .normal,_,W'=>jN d W W'/\Kb W W'/\I W'
 | .ret,_,W'=>jN d W W'/\pT W W'/\Ix .ret W'
 | .exit id,_,W'=>jN d W W'/\pT W W'/\Ix (.exit id) W'
 | .goto t,_,W'=>jN d W W'/\pT W W'/\Ix (.goto t) W'
 | .panic _,_,_=>False
 | .outgrown,_,_=>False
theorem Kq{g:Operand}{ps:Array Tmp}{assign body:Code}{Q:Exit->Act->World->Prop}{a:Act}{w:World}
  {gf:Nat} {lb:Array Value} (hg:a.eval g=.func (.func gf) #[] lb) (eg:∀args w,(callFunc gf args).run P w=.ok (.enter gf args) w)
  {encs:α->Array Value} {xs:List α} {St Kp Kx:World->World->Prop} (jM:∀x,(encs x).size=ps.size)
  (hseq:∀r,tD P gf lb encs xs St Kp Kx ((w.alloc (.deferred (some []))).alloc (.loop r)))
  (I:Nat->World->Prop) (Ix:Code->World->Prop)
  (ku:∀A B,w.heap.size+2<=A.heap.size->St A B->jN w.heap.size A B)
  (hI:∀i A B,I i A->St A B->I i B) (mY:∀c A B,Ix c A->St A B->Ix c B)
  (uD:∀i A r o,I i A->A.heap[w.heap.size+1]? = some (.loop r)->I i (A.putObj (w.heap.size+1) o))
  (rP:∀c A r o,Ix c A->A.heap[w.heap.size+1]? = some (.loop r)->Ix c (A.putObj (w.heap.size+1) o))
  (h0:∀r,I 0 ((w.alloc (.deferred (some []))).alloc (.loop r)))
  (Kb:World->World->Prop)
  (pU:∀W r r' r'' Wc,W.heap[w.heap.size+1]? = some (.loop r)->Kb (W.putObj (w.heap.size+1) (.loop r')) Wc->jN w.heap.size (W.putObj (w.heap.size+1) (.loop r')) Wc->Kp W (Wc.putObj (w.heap.size+1) (.loop r'')))
  (pT:World->World->Prop)
  (hKx:∀W r r' r'' Wc,W.heap[w.heap.size+1]? = some (.loop r)->pT (W.putObj (w.heap.size+1) (.loop r')) Wc->jN w.heap.size (W.putObj (w.heap.size+1) (.loop r')) Wc->Kx W (Wc.putObj (w.heap.size+1) (.loop r'')))
  (xQ:∀(l i:Nat) (x:α) (V W:World),xs[i]? = some x->I i W->w.heap.size+2<=W.heap.size ->
   assign.wpIn (Fence.wide.inRound l) 0 P (Exit.then (fun a₁ V'=>V'=V/\body.wpIn (Fence.wide.inRound l) 0 P (Tw w.heap.size Kb pT (I (i+1)) Ix W) a₁ W) (fun _ _ _=>False)) { tmps:=(ps.zip (encs x)).foldl (fun t (p,v)=>t.setIfInBounds p v) a.tmps,defers:=[] } V)
  (hdone:∀W,I xs.length W->W.heap[w.heap.size]? = some (.deferred (some []))->w.heap.size+2<=W.heap.size->Q .normal { a with defers:={ target:=.collected w.heap.size,args:=#[] } :: a.defers } W)
  (uE:∀c W,Ix c W->W.heap[w.heap.size]? = some (.deferred (some []))->w.heap.size+2<=W.heap.size->c.wpIn Fence.wide 0 P Q { a with defers:={ target:=.collected w.heap.size,args:=#[] } :: a.defers } W) :
  (Code.rangeFunc g ps assign body).wpIn Fence.wide 0 P Q a w:=by
 refine wpIn_rangeFunc fun fn hfn=>?_;obtain⟨D,hD⟩:=bF w.heap.size;obtain⟨rec,cO⟩:∃rec:LoopState->Option Code->Loop,rec=fun st pe=>{ state:=st,pending:=pe,fn,tmps:=a.tmps,params:=ps,assign,body,defers:=w.heap.size }:=⟨_,rfl⟩
 have Tx:=run_enterLoop_outer (P:=P) (w:=w) fn a.tmps ps assign body;refine⟨w.heap.size+1,[{ target:=.collected w.heap.size,args:=#[] }],(w.alloc (.deferred (some []))).alloc (.loop (rec .ready none)),
  { target:=.fn (.func gf) lb,args:=#[.func (.yield (w.heap.size+1)) #[] #[]] },(w.alloc (.deferred (some []))).alloc (.loop (rec .ready none)),gf,
  #[.func (.yield (w.heap.size+1)) #[] #[]]++lb,(w.alloc (.deferred (some []))).alloc (.loop (rec .ready none)),?_,?_,fun _ _=>aQ,?_,fun h=>by simp[Fence.wide]at h,?_⟩
 ·rw[cO];exact Tx
 ·simp only[resolve,hg];simp[go_sem]
 ·simp[invoke,go_sem,eg]
 ·obtain⟨W1,hW1⟩:∃W1,(w.alloc (.deferred (some []))).alloc (.loop (rec .ready none))=W1:=⟨_,rfl⟩
  have dH:W1.heap[w.heap.size+1]? = some (.loop (rec .ready none)):=by
   rw[<- hW1];have:=World.alloc_heap_new (w.alloc (.deferred (some []))) (.loop (rec .ready none));rwa [dD]at this
  have eP:W1.heap[w.heap.size]? = some (.deferred (some [])):=by
   rw[<- hW1];exact(cD _ _ _ ar).trans (World.alloc_heap_new w _)
  have hsz:∀W:World,(∃o,W.heap[w.heap.size+1]? = some o)->w.heap.size+2<=W.heap.size:=fun W ⟨o,h⟩=>by
   have:=(bV.1 h).1;omega
  have hs:=hseq (rec .ready none) (w.heap.size+1)
   (fun i W=>I i W/\W.heap[w.heap.size+1]? = some (.loop (rec .ready none))/\W.heap[w.heap.size]? = some (.deferred (some [])))
   (fun W=>∃c,Ix c W/\W.heap[w.heap.size+1]? = some (.loop (rec .done (some c)))/\W.heap[w.heap.size]? = some (.deferred (some [])))
   (fun i A B hA hst=>by
    obtain⟨h1,h2,h3⟩:=hA;have hL:=ku A B (hsz A ⟨_,h2⟩) hst;exact⟨hI i A B h1 hst,hL.2.2.trans h2,hL.2.1.trans h3⟩)
   (fun A B hA hst=>by
    obtain⟨c,h1,h2,h3⟩:=hA;have hL:=ku A B (hsz A ⟨_,h2⟩) hst;exact⟨c,mY c A B h1 hst,hL.2.2.trans h2,hL.2.1.trans h3⟩)
   (fun i x W hx hj=>by
    obtain⟨h1,h2,h3⟩:=hj;have hy:=run_yield (P:=P) (args:=encs x) h2 (by rw[cO];exact jM x);rw[cO]at hy;have hlt:w.heap.size+1<W.heap.size:=(bV.1 h2).1;have e2:(W.putObj (w.heap.size+1) (.loop { rec .ready none with state:=.busy })).heap[w.heap.size+1]? = some (.loop { rec .ready none with state:=.busy }):=World.putObj_heap_same hlt;have e3:(W.putObj (w.heap.size+1) (.loop { rec .ready none with state:=.busy })).heap[w.heap.size]? = some (.deferred (some [])):=(World.putObj_heap_other ae).trans h3;refine⟨fn,_,assign,body,hy,roundIn_of_wpIn hfn (wpIn_mono (xQ _ i x W (W.putObj (w.heap.size+1) (.loop { rec .ready none with state:=.busy })) hx (uD i W _ _ h1 h2) (by rw[World.putObj_size];omega)) ?_)⟩;rintro e0 a0 V0 jo;have eQ:e0=.normal:=by cases e0 <;> first|rfl|exact jo.elim
    subst eQ;obtain⟨oD,ie⟩:=jo
    replace oD:=oD.symm
    subst oD;refine⟨_,run_beginRound h2 (by rw[cO]),wpIn_mono ie ?_⟩;have fin:∀(jump:Option Code) (W3:World),jN w.heap.size (W.putObj (w.heap.size+1) (.loop { rec .ready none with state:=.busy })) W3 ->
      (Instr.endRound (w.heap.size+1) jump).run P W3=.ok (.bool jump.isNone) (W3.putObj (w.heap.size+1) (.loop (rec (if jump.isNone then .ready else .done) jump))) /\
      W3.heap[w.heap.size+1]? = some (.loop { rec .ready none with state:=.busy }) /\
      (W3.putObj (w.heap.size+1) (.loop (rec (if jump.isNone then .ready else .done) jump))).heap[w.heap.size+1]? = some (.loop (rec (if jump.isNone then .ready else .done) jump)) /\
      (W3.putObj (w.heap.size+1) (.loop (rec (if jump.isNone then .ready else .done) jump))).heap[w.heap.size]? = some (.deferred (some [])):=fun jump W3 hL=>by
     have l3:=hL.2.2.trans e2;have hr:=run_endRound (P:=P) jump l3;refine⟨?_,l3,World.putObj_heap_same (bV.1 l3).1,(World.putObj_heap_other ae).trans (hL.2.1.trans e3)⟩;rw[hr,cO]
    rintro e a3 W3 hp;cases e with
    | normal =>
     obtain⟨hL,hk,ax⟩:=hp;obtain⟨f1,f2,f3,f4⟩:=fin none W3 hL;exact⟨_,_,f1,.inl ⟨rfl,⟨uD _ _ _ _ ax f2,f3,f4⟩,pU W _ _ _ W3 h2 hk hL⟩⟩
    | ret =>
     obtain⟨hL,hk,ax⟩:=hp;obtain⟨f1,f2,f3,f4⟩:=fin (some .ret) W3 hL;exact⟨_,_,f1,.inr ⟨rfl,⟨.ret,rP _ _ _ _ ax f2,f3,f4⟩,hKx W _ _ _ W3 h2 hk hL⟩⟩
    | exit id =>
     obtain⟨hL,hk,ax⟩:=hp;obtain⟨f1,f2,f3,f4⟩:=fin (some (.exit id)) W3 hL;exact⟨_,_,f1,.inr ⟨rfl,⟨.exit id,rP _ _ _ _ ax f2,f3,f4⟩,hKx W _ _ _ W3 h2 hk hL⟩⟩
    | goto t =>
     obtain⟨hL,hk,ax⟩:=hp;obtain⟨f1,f2,f3,f4⟩:=fin (some (.goto t)) W3 hL;exact⟨_,_,f1,.inr ⟨rfl,⟨.goto t,rP _ _ _ _ ax f2,f3,f4⟩,hKx W _ _ _ W3 h2 hk hL⟩⟩
    | panic ch=>exact hp.elim
    | outgrown=>exact hp.elim)
   (by rw[hW1];exact⟨by rw[<- hW1];exact h0 _,dH,eP⟩)
  refine hs.mono ?_;rintro e W2 ⟨⟨v,rfl⟩,⟨ax,hl,hk⟩|⟨c,ax,hl,hk⟩⟩
  ·have:=run_endLoop (P:=P) hl (by rw[cO];simp);exact⟨none,_,by rw[this,cO],hdone _ (uD _ _ _ _ ax hl) ((World.putObj_heap_other ae).trans hk) (by rw[World.putObj_size];exact hsz _ ⟨_,hl⟩)⟩
  ·have:=run_endLoop (P:=P) hl (by rw[cO];simp);exact⟨some c,_,by rw[this,cO],uE c _ (rP _ _ _ _ ax hl) ((World.putObj_heap_other ae).trans hk) (by rw[World.putObj_size];exact hsz _ ⟨_,hl⟩)⟩
theorem ak3{g:Operand}{ps:Array Tmp}{assign body:Code}{Q:Exit->Act->World->Prop}{a:Act}{w:World}
  {gf:Nat} {lb:Array Value} (hg:a.eval g=.func (.func gf) #[] lb) (eg:∀args w,(callFunc gf args).run P w=.ok (.enter gf args) w)
  {encs:α->Array Value} {xs:List α} {St Kp Kx:World->World->Prop} (jM:∀x,(encs x).size=ps.size)
  (hseq:∀r,tD P gf lb encs xs St Kp Kx ((w.alloc (.deferred (some []))).alloc (.loop r)))
  (I:Nat->World->Prop) (Ix:Code->World->Prop)
  (ku:∀A B,w.heap.size+2<=A.heap.size->St A B->jN w.heap.size A B)
  (hI:∀i A B,I i A->St A B->I i B) (mY:∀c A B,Ix c A->St A B->Ix c B)
  (uD:∀i A r o,I i A->A.heap[w.heap.size+1]? = some (.loop r)->I i (A.putObj (w.heap.size+1) o))
  (rP:∀c A r o,Ix c A->A.heap[w.heap.size+1]? = some (.loop r)->Ix c (A.putObj (w.heap.size+1) o))
  (h0:∀r,I 0 ((w.alloc (.deferred (some []))).alloc (.loop r)))
  (Kb:World->World->Prop)
  (pU:∀W r r' r'' Wc,W.heap[w.heap.size+1]? = some (.loop r)->Kb (W.putObj (w.heap.size+1) (.loop r')) Wc->jN w.heap.size (W.putObj (w.heap.size+1) (.loop r')) Wc->Kp W (Wc.putObj (w.heap.size+1) (.loop r'')))
  (pT:World->World->Prop)
  (hKx:∀W r r' r'' Wc,W.heap[w.heap.size+1]? = some (.loop r)->pT (W.putObj (w.heap.size+1) (.loop r')) Wc->jN w.heap.size (W.putObj (w.heap.size+1) (.loop r')) Wc->Kx W (Wc.putObj (w.heap.size+1) (.loop r'')))
  (a₁:α->Act)
  (hassign:∀(l:Nat) (x:α) (W:World) (K:Act->World->Prop),K (a₁ x) W ->
   assign.wpIn (Fence.wide.inRound l) 0 P (Exit.then K (fun _ _ _=>False)) { tmps:=(ps.zip (encs x)).foldl (fun t (p,v)=>t.setIfInBounds p v) a.tmps,defers:=[] } W)
  (Kl:∀(l i:Nat) (x:α) (W:World),xs[i]? = some x->I i W->w.heap.size+2<=W.heap.size->body.wpIn (Fence.wide.inRound l) 0 P (Tw w.heap.size Kb pT (I (i+1)) Ix W) (a₁ x) W)
  (hdone:∀W,I xs.length W->W.heap[w.heap.size]? = some (.deferred (some []))->w.heap.size+2<=W.heap.size->Q .normal { a with defers:={ target:=.collected w.heap.size,args:=#[] } :: a.defers } W)
  (uE:∀c W,Ix c W->W.heap[w.heap.size]? = some (.deferred (some []))->w.heap.size+2<=W.heap.size->c.wpIn Fence.wide 0 P Q { a with defers:={ target:=.collected w.heap.size,args:=#[] } :: a.defers } W) :
  (Code.rangeFunc g ps assign body).wpIn Fence.wide 0 P Q a w :=
 Kq hg eg jM hseq I Ix ku hI mY uD rP h0 Kb pU pT hKx (fun l i x V W hx ax hs=>hassign l x V _ ⟨rfl,Kl l i x W hx ax hs⟩) hdone uE
def j_(x y z:Nat)(A B:World):Prop:=A.heap.size<=B.heap.size/\B.heap[x]? = A.heap[x]?/\B.heap[y]? = A.heap[y]?/\B.heap[z]? = A.heap[z]?
theorem j_.refl(x y z:Nat)(A:World):j_ x y z A A:=⟨bH _,rfl,rfl,rfl⟩
theorem j_.trans{x y z:Nat}{A B C:World}(h:j_ x y z A B)(k:j_ x y z B C):j_ x y z A C :=
 ⟨a_ h.1 k.1,k.2.1.trans h.2.1,k.2.2.1.trans h.2.2.1,k.2.2.2.trans h.2.2.2⟩
theorem j_.HF{x y z nb:Nat}{A B:World}(h:Below nb A B)(hx:x<nb)(hy:y<nb)(hz:z<nb):j_ x y z A B :=
 ⟨h.size,h.block x hx,h.block y hy,h.block z hz⟩
def cz(hs:Nat)(A B:World):Prop:=A.heap.size<=B.heap.size/\∀k,hs<=k->k<A.heap.size->B.heap[k]? = A.heap[k]?
theorem cz.refl(hs:Nat)(A:World):cz hs A A:=⟨bH _,fun _ _ _=>rfl⟩
theorem cz.trans{hs:Nat}{A B C:World}(h:cz hs A B)(k:cz hs B C):cz hs A C :=
 ⟨a_ h.1 k.1,fun i ax hl=>(k.2 i ax (dP hl h.1)).trans (h.2 i ax hl)⟩
theorem cz.xR{hs:Nat}{A B:World}(h:au A B):cz hs A B:=⟨h.size,fun k _ hl=>h.block k hl⟩
end
def bu(r s:ai):Bool:=r.owner == s.owner && r.type == s.type
def cN(r s:ai):Bool:=r.owner == s.owner
def jy(bN:ai->ai->Bool):Nat->Nat->List ai->List (Nat×List ai)
 | 0,_,_=>[]
 | _+1,_,[]=>[]
 | f+1,k,r :: t=>(k,r :: t.takeWhile (bN r)) :: jy bN f (k+1+(t.takeWhile (bN r)).length) (t.dropWhile (bN r))
def bz(bN:ai->ai->Bool)(rs:List ai):List (Nat×List ai):=jy bN rs.length 0 rs
theorem aap(r s:ai)(w:World) :
  aB 177 #[.agg #[ay r.owner,aj r.aG,aj r.type,ay r.data],.agg #[ay s.owner,aj s.aG,aj s.type,ay s.data]] w fun e w' =>
   e=.returned (.bool (bu r s))/\∃q os',w'=Sort.grow (w.drewN q) os':=by
 have lh:((aq r.owner).toList == (aq s.owner).toList)=(r.owner == s.owner):=CN;cases ho:r.owner == s.owner;{
 have aY:Hid (bu r s=false):=by unfold bu;rw[ho];rfl
 rw[ho]at lh;go_enter func177,ntmps177;go_wp2;go_ret;exact⟨cA aY.symm,0,_,by rw[Sort.alloc_eq_grow,Sort.alloc_eq_grow,Sort.grow_grow];rfl⟩};{
 have aY:Hid (bu r s=(r.type == s.type)):=by unfold bu;rw[ho];rfl
 rw[ho]at lh;go_enter func177,ntmps177;go_wp2;go_ret;exact⟨cA aY.symm,0,_,by rw[Sort.alloc_eq_grow,Sort.alloc_eq_grow,Sort.grow_grow];rfl⟩}
theorem aaq(r s:ai)(w:World) :
  aB 180 #[.agg #[ay r.owner,aj r.aG,aj r.type,ay r.data],.agg #[ay s.owner,aj s.aG,aj s.type,ay s.data]] w fun e w' =>
   e=.returned (.bool (cN r s))/\∃q os',w'=Sort.grow (w.drewN q) os':=by have lh:((aq r.owner).toList == (aq s.owner).toList)=(r.owner == s.owner):=CN;go_enter func180,ntmps180;go_wp2;go_ret;exact⟨rfl,0,_,by rw[Sort.alloc_eq_grow,Sort.alloc_eq_grow,Sort.grow_grow];rfl⟩
theorem Ty(bN:ai->ai->Bool):∀(f k:Nat) (l:List ai),l.length<=f->jy bN f k l=jy bN l.length k l
 | 0,k,l,h=>by obtain rfl:l = []:=fp ae;rfl
 | f+1,k,[],h=>rfl
 | f+1,k,r :: t,h=>by have hd:(t.dropWhile (bN r)).length<=t.length:=by{have:=dE List.length (xM (p:=bN r) (l:=t));rw[bj]at this;omega};rw[jy,bP,jy,Ty bN f _ _ (by simp at h;omega),Ty bN t.length _ _ hd]
theorem aar(bN:ai->ai->Bool)(k:Nat)(r:ai)(t:List ai) :
  jy bN (r :: t).length k (r :: t)=(k,r :: t.takeWhile (bN r)) :: jy bN (t.dropWhile (bN r)).length (k+1+(t.takeWhile (bN r)).length) (t.dropWhile (bN r)):=by have hd:(t.dropWhile (bN r)).length<=t.length:=by{have:=dE List.length (xM (p:=bN r) (l:=t));rw[bj]at this;omega};rw[bP,jy,Ty bN t.length _ _ hd]
theorem Tz{p:ai->Bool} : ∀(l:List ai) (j:Nat) (h:j<(l.takeWhile p).length),∃h':j<l.length,p l[j]=true
 | [],j,h=>by simp at h
 | x :: l,j,h=>by
  by_cases hp:p x=true;{
  rw[J9 hp]at h;cases j with
  | zero=>exact⟨ar,hp⟩
  | succ j =>{obtain⟨h',e⟩:=Tz l j (by simpa using h);exact⟨by simpa using h',by simpa using e⟩}};{rw[NW hp]at h;simp at h}
theorem TA{p:ai->Bool} : ∀(l:List ai) (h:(l.takeWhile p).length<l.length),p l[(l.takeWhile p).length]=false
 | [],h=>by simp at h
 | x :: l,h=>by
  by_cases hp:p x=true;{
  have e:((x :: l).takeWhile p).length=(l.takeWhile p).length+1:=by rw[J9 hp];rfl
  have:=TA l (by rw[e]at h;simpa using h);simpa [e]using this};{
  have e:((x :: l).takeWhile p).length=0:=by rw[NW hp];rfl
  simpa [e]using hp}
theorem CO(w:World)(n:Nat)(os:Array Obj):au w (Sort.grow (w.drewN n) os) :=
 ⟨rfl,rfl,rfl,by simp[Sort.grow,World.drewN],fun k hk=>by
  show(w.heap++os)[k]? = w.heap[k]?;rw[ZG hk]⟩
theorem AW{w w':World}{b off:Nat}{rs:List ai}(h:dG w b off rs)(hs:w.heap.size<=w'.heap.size)(hb:w'.heap[b]? = w.heap[b]?):dG w' b off rs :=
 ⟨dP h.1 hs,fun j hj i u hu=>(dh hb).trans (h.2 j hj i u hu)⟩
theorem ak4{w w':World}{b off nb:Nat}{rs:List ai}(h:dG w b off rs)(hb:Below nb w w')(hlt:b<nb):dG w' b off rs :=
 ⟨dP h.1 hb.size,fun j hj i u hu=>(hb.cell (p:=⟨b,off+j*4+i,none⟩) hlt).trans (h.2 j hj i u hu)⟩
theorem aas(a:Option Addr)(n c gs:Nat)(w:World) :
  aB 176 #[.slice a n c,.func (.func gs) #[] #[]] w fun e w'=>e=.returned (.func (.func 233) #[] #[aM w.heap.size,aM (w.heap.size+1)])/\w'=(w.alloc (.cells #[.slice a n c] 41)).alloc (.cells #[.func (.func gs) #[] #[]] 261):=by go_enter func176,ntmps176;go_wp2;go_ret;exact⟨rfl,rfl⟩
section
attribute [local go_sem] Oper.semAt_some
theorem HI(b off cap bl bs:Nat)(rs:List ai)(W0:World)
  (hl:W0.cell? (ak bl 0)=some (aD b off rs.length cap)) (hs:W0.cell? (ak bs 0)=some (.func (.func 177) #[] #[]))
  (hr:dG W0 b off rs) (h1:bl<W0.heap.size) (h2:bs<W0.heap.size) (hlen:rs.length<=3001) (dt:rs.length<=cap) :
  tD prog 233 #[aM bl,aM bs] (fun x:Nat×List ai=>#[aD b (off+x.1*4) x.2.length x.2.length]) (bz bu rs)
   (fun A B=>au A B) (j_ bl bs b) (fun _ _=>True) W0:=by
 have h3:b<W0.heap.size:=hr.1;intro l J Jx hJ uF hY h0;have ke:=ag hY;have gG:=ag hJ;clear hY hJ uF;refine callsIn_of_wp func233 rfl aQ ?_;simp only[ntmps233,pc,bP,fy,Nat.reduceAdd,Nat.reduceSub,o_,pL,pN,pM,gb,fU];gi_wp2;gi_loopw [4] (fun s wr=>∃i k:Nat,s=aj k/\k<=rs.length/\i<=(bz bu rs).length/\(bz bu rs).drop i=jy bu (rs.drop k).length k (rs.drop k)/\J i wr/\j_ bl bs b W0 wr) (fun s _=>rs.length - (intOf s).toNat);case atStart=>exact⟨0,0,rfl,cV _,cV _,by simp[bz],h0,j_.refl _ _ _ _⟩
 case round =>(
 obtain⟨i,k,rfl,hk,ax,hrun,rQ,hB⟩:=hrel;have bC:=ag hrun;have wB:=ag rQ;clear hrun rQ;have cl:wr.cell? (ak bl 0)=some (aD b off rs.length cap):=(dh hB.2.1).trans hl;have cs:wr.cell? (ak bs 0)=some (.func (.func 177) #[] #[]):=(dh hB.2.2.1).trans hs;by_cases hlt:k<rs.length;{
 have hA:dG wr b off rs:=AW hr hB.1 hB.2.2.2;obtain⟨q0,q1,q2,q3⟩:=hA.four k hlt;have hrt:rs.drop k=rs[k] :: rs.drop (k+1):=ko hlt;have mE:∀m (h:m<rs.length) (h0:k+1<=m),∃h':m - (k+1)<(rs.drop (k+1)).length,(rs.drop (k+1))[m - (k+1)]=rs[m]:=fun m h h0=>⟨by rw[fM];omega,by rw[Cw];congr 1;omega⟩;have kL:(rs.drop (k+1)).length=rs.length - (k+1):=fM;rw[hrt,aar]at bC;have HG:=ag mE;have zn:=ag hr;clear hrt mE hA;obtain⟨T,hT⟩:=bF (((rs.drop (k+1)).takeWhile (bu rs[k])).length);have AX:T<=rs.length - (k+1):=by{rw[hT,<- kL];exact(ZW _).length_le};have zl:=ag (Tz (p:=bu rs[k]) (rs.drop (k+1)));have hend:=ag (TA (p:=bu rs[k]) (rs.drop (k+1)));rw[<- hT]at zl;have cS:=ag hT;clear kL hT q0 q1 q2 q3;generalize hx:rs[k]=r at *;have cu:=ag hx;clear hx;have zo:Hid ((bz bu rs)[i]? = some (k,r :: (rs.drop (k+1)).takeWhile (bu r))):=by{have:=dE (fun l:List (Nat×List ai)=>l[0]?) (af bC);rw[Hid];simpa using this};have E2:Hid (i+1<=(bz bu rs).length):=(jX.1 (af zo)).1;have E3:Hid ((rs.drop (k+1)).dropWhile (bu r)=rs.drop (k+1+T)):=by{
 have h1:rs.drop (k+1+T)=(rs.drop (k+1)).drop T:=by rw[rF]
 rw[Hid,h1,af cS];conv=>rhs;arg 2;rw[<- xM (p:=bu r) (l:=rs.drop (k+1))]
 rw[SE]};gi_wp2_with fail;gi_loopw [5] (fun e wr2=>∃m:Nat,e=aj m/\k+1<=m/\m<=k+1+T/\J i wr2/\j_ bl bs b W0 wr2) (fun e _=>rs.length - (intOf e).toNat);case atStart=>exact⟨k+1,by go_num,bH _,ae,wB,hB⟩
 case round =>(
 clear wB hB cl cs;obtain⟨m,rfl,Kr,ak5,hJ2,hB2⟩:=hrel;have zq:=ag hJ2;clear hJ2;have cl:wr.cell? (ak bl 0)=some (aD b off rs.length cap):=(dh hB2.2.1).trans hl;have cs:wr.cell? (ak bs 0)=some (.func (.func 177) #[] #[]):=(dh hB2.2.2.1).trans hs;have hA:dG wr b off rs:=AW hr hB2.1 hB2.2.2.2;obtain⟨q0,q1,q2,q3⟩:=hA.four k hlt;rw[af cu]at q0 q1 q2 q3;by_cases hm:m<rs.length;{
 obtain⟨p0,p1,fh,eK⟩:=hA.four m hm;obtain⟨pq,hg⟩:=af HG m hm Kr;clear hA;by_cases TB:m - (k+1)<T;{have hsm:bu r rs[m]=true:=by{obtain⟨h',e⟩:=af zl (m - (k+1)) TB;rw[hg]at e;exact e};clear hg pq;generalize rs[m]=s at *;have xS:(m:Int)<(rs.length:Int):=ae;have rR:(k:Int)<(rs.length:Int):=ae;have Ks:decide ((m:Int)<(rs.length:Int))=true:=iy xS;have hmx:prog.follows .mixedOrders=true:=aI;have ij:W0.heap.size<=wr.heap.size:=hB2.1;have gl:∀n os,(Sort.grow (wr.drewN n) os).cell? (ak bl 0)=some (aD b off rs.length cap):=cell_grown (by show bl<_;omega) cl;have gs:∀n os,(Sort.grow (wr.drewN n) os).cell? (ak bs 0)=some (.func (.func 177) #[] #[]):=cell_grown (by show bs<_;omega) cs;have g0:∀n os,(Sort.grow (wr.drewN n) os).cell? (ak b (off+k*4))=some (ay r.owner):=cell_grown (by show b<_;omega) q0;have g1:∀n os,(Sort.grow (wr.drewN n) os).cell? (ak b (off+k*4+1))=some (aj r.aG):=cell_grown (by show b<_;omega) q1;have g2:∀n os,(Sort.grow (wr.drewN n) os).cell? (ak b (off+k*4+2))=some (aj r.type):=cell_grown (by show b<_;omega) q2;have g3:∀n os,(Sort.grow (wr.drewN n) os).cell? (ak b (off+k*4+3))=some (ay r.data):=cell_grown (by show b<_;omega) q3;have e0:∀n os,(Sort.grow (wr.drewN n) os).cell? (ak b (off+m*4))=some (ay s.owner):=cell_grown (by show b<_;omega) p0;have e1:∀n os,(Sort.grow (wr.drewN n) os).cell? (ak b (off+m*4+1))=some (aj s.aG):=cell_grown (by show b<_;omega) p1;have e2:∀n os,(Sort.grow (wr.drewN n) os).cell? (ak b (off+m*4+2))=some (aj s.type):=cell_grown (by show b<_;omega) fh;have e3:∀n os,(Sort.grow (wr.drewN n) os).cell? (ak b (off+m*4+3))=some (ay s.data):=cell_grown (by show b<_;omega) eK;gi_wp2_with fail;refine wpIn_wide.2 ?_;go_quiet_grown ((go_at_call 177;exact Calls.grown_of (aap r s _)));gi_wp2_with fail;exact⟨⟨m+1,by go_num,ae,ae,af gG i _ _ (af zq) (CO _ _ _),hB2.trans (j_.HF (CO _ _ _) ae ae ae)⟩,by simp[intOf];omega⟩};{
 have hmk:m=k+1+T:=ae;have hsm:bu r rs[m]=false:=by{
 have h':((rs.drop (k+1)).takeWhile (bu r)).length=m - (k+1):=by rw[<- af cS];omega
 have:=af hend (by rw[h'];exact pq);simp only[h']at this;rw[hg]at this;exact this};clear hg pq;generalize rs[m]=s at *;have xS:(m:Int)<(rs.length:Int):=ae;have rR:(k:Int)<(rs.length:Int):=ae;have Ks:decide ((m:Int)<(rs.length:Int))=true:=iy xS;have uG:=ag hmk;clear hmk;have wC:Hid ((r :: (rs.drop (k+1)).takeWhile (bu r)).length=m - k):=by{rw[Hid,bP,<- af cS,af uG];omega};have kN:Hid ((bz bu rs).drop (i+1)=jy bu (rs.drop m).length m (rs.drop m)):=by{rw[Hid,<- rF,af bC,NK,NV,af E3,<- af cS,<- af uG]};have hmx:prog.follows .mixedOrders=true:=aI;have ij:W0.heap.size<=wr.heap.size:=hB2.1;have gl:∀n os,(Sort.grow (wr.drewN n) os).cell? (ak bl 0)=some (aD b off rs.length cap):=cell_grown (by show bl<_;omega) cl;have gs:∀n os,(Sort.grow (wr.drewN n) os).cell? (ak bs 0)=some (.func (.func 177) #[] #[]):=cell_grown (by show bs<_;omega) cs;have g0:∀n os,(Sort.grow (wr.drewN n) os).cell? (ak b (off+k*4))=some (ay r.owner):=cell_grown (by show b<_;omega) q0;have g1:∀n os,(Sort.grow (wr.drewN n) os).cell? (ak b (off+k*4+1))=some (aj r.aG):=cell_grown (by show b<_;omega) q1;have g2:∀n os,(Sort.grow (wr.drewN n) os).cell? (ak b (off+k*4+2))=some (aj r.type):=cell_grown (by show b<_;omega) q2;have g3:∀n os,(Sort.grow (wr.drewN n) os).cell? (ak b (off+k*4+3))=some (ay r.data):=cell_grown (by show b<_;omega) q3;have e0:∀n os,(Sort.grow (wr.drewN n) os).cell? (ak b (off+m*4))=some (ay s.owner):=cell_grown (by show b<_;omega) p0;have e1:∀n os,(Sort.grow (wr.drewN n) os).cell? (ak b (off+m*4+1))=some (aj s.aG):=cell_grown (by show b<_;omega) p1;have e2:∀n os,(Sort.grow (wr.drewN n) os).cell? (ak b (off+m*4+2))=some (aj s.type):=cell_grown (by show b<_;omega) fh;have e3:∀n os,(Sort.grow (wr.drewN n) os).cell? (ak b (off+m*4+3))=some (ay s.data):=cell_grown (by show b<_;omega) eK;gi_wp2_with fail;refine wpIn_wide.2 ?_;go_quiet_grown ((go_at_call 177;exact Calls.grown_of (aap r s _)));have hJ3:=af gG i _ _ (af zq) (CO wr nq osq);have ig:=hB2.trans (j_.HF (CO wr nq osq) ae ae ae);have mZ:=af ke i (k,r :: (rs.drop (k+1)).takeWhile (bu r)) _ (af zo) hJ3;dsimp only at mZ;rw[af wC]at mZ;obtain⟨fn,tmps,assign,body,hy,hR⟩:=mZ;gi_wp2_with fail;refine⟨rfl,hR.mono ?_⟩;rintro e W3 (⟨rfl,nd,hk4⟩|⟨rfl,qN,_⟩);{have AY:=ag nd;have gH:=ig.trans hk4;clear nd;gi_wp2_with fail;exact⟨⟨i+1,m,by go_num,ae,E2,kN,AY,gH⟩,by simp[intOf];omega⟩};{gi_wp2;refine fB (zg rfl _ _ _) rfl ?_;exact⟨⟨_,rfl⟩,.inr qN⟩}}};{have hmk:m=k+1+T:=ae;have uG:=ag hmk;clear hmk hA;have Ks:decide ((m:Int)<(rs.length:Int))=false:=iB ae;have ak6:m<=rs.length:=ae;have ij:W0.heap.size<=wr.heap.size:=hB2.1;have wC:Hid ((r :: (rs.drop (k+1)).takeWhile (bu r)).length=m - k):=by{rw[Hid,bP,<- af cS,af uG];omega};have kN:Hid ((bz bu rs).drop (i+1)=jy bu (rs.drop m).length m (rs.drop m)):=by{rw[Hid,<- rF,af bC,NK,NV,af E3,<- af cS,<- af uG]};gi_wp2_with fail;refine wpIn_wide.2 ?_;go_quiet (fail);have hJ3:=af gG i _ _ (af zq) (pj (bR _ wr) nq);have ig:=hB2.trans (j_.HF (pj (bR wr.heap.size wr) nq) ae ae ae);have ak7:(wr.drewN nq).cell? (ak bl 0)=some (aD b off rs.length cap):=cl;have mZ:=af ke i (k,r :: (rs.drop (k+1)).takeWhile (bu r)) _ (af zo) hJ3;dsimp only at mZ;rw[af wC]at mZ;obtain⟨fn,tmps,assign,body,hy,hR⟩:=mZ;gi_wp2_with fail;refine⟨rfl,hR.mono ?_⟩;rintro e W3 (⟨rfl,nd,hk4⟩|⟨rfl,qN,_⟩);{have AY:=ag nd;have gH:=ig.trans hk4;clear nd;gi_wp2_with fail;exact⟨⟨i+1,m,by go_num,ae,E2,kN,AY,gH⟩,by simp[intOf];omega⟩};{gi_wp2;refine fB (zg rfl _ _ _) rfl ?_;exact⟨⟨_,rfl⟩,.inr qN⟩}})};{gi_wp2;go_end0;have aY:i=(bz bu rs).length:=by{have:=af bC;rw[sX (show rs.length<=k by omega)]at this;have h':=dE List.length this;rw[fM]at h';have e0:(jy bu (List.length (α:=ai) []) k []).length=0:=rfl;rw[e0]at h';omega};exact⟨⟨_,rfl⟩,.inl (by rw[<- aY];exact wB)⟩})
theorem ak8(b off bl bs:Nat)(W0:World)(hl:W0.cell? (ak bl 0)=some (aH))(Kp:World->World->Prop) :
  tD prog 233 #[aM bl,aM bs] (fun x:Nat×List ai=>#[aD b (off+x.1*4) x.2.length x.2.length]) (bz bu [])
   (fun A B=>au A B) Kp (fun _ _=>True) W0:=by
 intro l J Jx hJ uF hY h0;have ke:=ag hY;have gG:=ag hJ;clear hY hJ uF;refine callsIn_of_wp func233 rfl aQ ?_;simp only[ntmps233,pc,bP,fy,Nat.reduceAdd,Nat.reduceSub,o_,pL,pN,pM,gb,fU];gi_wp2;gi_loopw [4] (fun s wr=>s=aj 0/\wr=W0) (fun _ _=>0);case atStart=>exact⟨rfl,rfl⟩
 case round =>(obtain⟨rfl,rfl⟩:=hrel;gi_wp2;go_end0;exact⟨⟨_,rfl⟩,.inl h0⟩)
end
end Go.Proofs.YtkkpahmoljiepaaGreatDoor
