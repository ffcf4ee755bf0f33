/- Plain functions on lists of bytes: what the small functions of the program compute. Nothing of the translation is named here. -/
import Derived.WalkKit
import Derived.Lib.SplitLaws
import Derived.Lib.IndexBytes
import Derived.Test.YtkkpahmoljiepaaGreatDoorRows
import Derived.Test.YtkkpahmoljiepaaGreatDoorShelf
import Derived.WalkSpells
import Derived.WalkLawsBesides
set_option linter.unusedSimpArgs false
set_option linter.unusedVariables false
namespace Go.Proofs.YtkkpahmoljiepaaGreatDoor
namespace Pu
abbrev Str:=List UInt8
theorem aH {p:Prop} (h:p):Go.RowKit.Hid p:=h
theorem aU {p:Prop} (h:Go.RowKit.Hid p):p:=h
def signI (n:Int):Bool:=(decide (97≤n) && decide (n≤122)) || (decide (48≤n) && decide (n≤57)) || n == 45 || n == 95
def sign (c:UInt8):Bool:=signI c.toNat
def label (l:Str):Bool:=decide (1≤l.length) && decide (l.length≤20) && l.all sign
def wordI (n:Int):Bool:=decide (33≤n) && decide (n≤126)
def word (l:Str):Bool:=l.all (fun c=>wordI c.toNat) && decide (1≤l.length) && decide (l.length≤40)
def digitI (n:Int):Bool:=decide (48≤n) && decide (n≤57)
def numFrom (most:Nat):Nat→Str→Option Nat
 | n,[]=>some n
 | n,c :: r=>if digitI c.toNat then (if 10*n+(c.toNat - 48)≤most then numFrom most (10*n+(c.toNat - 48)) r else none) else none
def num (most:Nat) (l:Str):Option Nat :=
 match l with
 | []=>none
 | c :: r=>if c.toNat=48∧r≠[] then none else numFrom most 0 (c :: r)
def kindOf (l:Str):Int :=
 if l = [65] then 1 else if l = [78,83] then 2 else if l = [67,78,65,77,69] then 5 else if l = [83,79,65] then 6
 else if l = [77,88] then 15 else if l = [84,88,84] then 16 else 0
theorem take_snoc (s:ByteArray) (k:Nat) (h:k<s.size):s.data.toList.take (k+1)=s.data.toList.take k++[s[k]]:=by
 rw [List.take_succ_eq_append_getElem (by simpa using h)]; rfl
theorem drop_cons (s:ByteArray) (k:Nat) (h:k<s.size):s.data.toList.drop k=s[k] :: s.data.toList.drop (k+1):=by
 rw [List.drop_eq_getElem_cons (by simpa using h)]; rfl
theorem len_eq (s:ByteArray):s.data.toList.length=s.size:=by simp
end Pu
end Go.Proofs.YtkkpahmoljiepaaGreatDoor

namespace Go.Proofs.YtkkpahmoljiepaaGreatDoor
namespace Sp
open Pu
def spl (c:UInt8):Str→List Str
 | []=>[[]]
 | x :: r=>if x=c then [] :: spl c r else match spl c r with
  | []=>[[x]]
  | h :: t=>(x :: h) :: t
theorem spl_ne (c:UInt8) (l:Str):spl c l≠[]:=by
 cases l with
 | nil=>simp [spl]
 | cons x r =>
  unfold spl
  split
  ·simp
  ·split <;> simp
theorem spl_none (c:UInt8) : ∀ (l:Str),c ∉ l→spl c l = [l]
 | [],_=>rfl
 | x :: r,h=>by
  simp only [List.mem_cons,not_or] at h
  rw [spl,if_neg (fun e=>h.1 e.symm),spl_none c r h.2]
theorem spl_some (c:UInt8) : ∀ (a b:Str),c ∉ a→spl c (a++c :: b)=a :: spl c b
 | [],b,_=>by rw [List.nil_append,spl,if_pos rfl]
 | x :: r,b,h=>by
  simp only [List.mem_cons,not_or] at h
  rw [List.cons_append,spl,if_neg (fun e=>h.1 e.symm),spl_some c r b h.2]
theorem indexByte_none (c:UInt8) : ∀ (l:Str),c ∉ l→Lib.indexByte l c = -1
 | [],_=>rfl
 | x :: r,h=>by
  simp only [List.mem_cons,not_or] at h
  have ih:=indexByte_none c r h.2
  unfold Lib.indexByte
  rw [if_neg (by simpa using fun e=>h.1 e.symm),ih]
  rfl
theorem indexByte_some (c:UInt8) : ∀ (a b:Str),c ∉ a→Lib.indexByte (a++c :: b) c=a.length
 | [],b,_=>by simp [Lib.indexByte]
 | x :: r,b,h=>by
  simp only [List.mem_cons,not_or] at h
  have ih:=indexByte_some c r b h.2
  rw [List.cons_append]
  unfold Lib.indexByte
  rw [if_neg (by simpa using fun e=>h.1 e.symm),ih]
  simp
theorem splitK_none (c:UInt8) (k:Nat) (l:Str) (h:c ∉ l):Lib.splitK [c] 0 k l = [l]:=by
 cases k with
 | zero=>rfl
 | succ k=>rw [Lib.splitK,Lib.index_one,indexByte_none c l h]; rfl
theorem splitK_some (c:UInt8) (k:Nat) (a b:Str) (h:c ∉ a):Lib.splitK [c] 0 (k+1) (a++c :: b)=a :: Lib.splitK [c] 0 k b:=by
 rw [Lib.splitK,Lib.index_one,indexByte_some c a b h]
 rw [if_neg (by simp)]
 simp [Nat.add_sub_cancel]
theorem split_spl (c:UInt8) : ∀ (n:Nat) (l:Str),l.length≤n→Lib.splitK [c] 0 (l.count c) l=spl c l
 | 0,l,h=>by
  obtain rfl:l = []:=List.eq_nil_of_length_eq_zero (by omega)
  rfl
 | n+1,l,h=>by
  by_cases hc:c∈l
  ·obtain ⟨a,b,rfl,ha⟩:=List.eq_append_cons_of_mem hc
   have hl:b.length≤n:=by simp at h; omega
   rw [List.count_append,List.count_cons_self,List.count_eq_zero.2 ha,Nat.zero_add,splitK_some c _ a b ha,spl_some c a b ha,split_spl c n b hl]
  ·rw [splitK_none c _ l hc,spl_none c l hc]
def pieces (c:UInt8) (s:ByteArray):List ByteArray:=Lib.splitB ⟨#[c]⟩ 0 (Lib.countB s ⟨#[c]⟩) s
theorem pieces_data (c:UInt8) (s:ByteArray):(pieces c s).map (·.data.toList)=spl c s.data.toList:=by
 unfold pieces
 rw [Lib.splitB_data]
 have e:Lib.countB s ⟨#[c]⟩=s.data.toList.count c:=by
  unfold Lib.countB
  exact Lib.count_one c s.data.toList
 rw [e]
 exact split_spl c _ _ (Nat.le_refl _)
theorem pieces_len (c:UInt8) (s:ByteArray):(pieces c s).length=Lib.countB s ⟨#[c]⟩+1:=Lib.splitB_all _ (Nat.le_refl _) 0 _ s rfl
theorem spl_mem_len (c:UInt8) : ∀ (n:Nat) (l:Str),l.length≤n→∀ x∈spl c l,x.length≤l.length
 | 0,l,h,x,hx=>by
  obtain rfl:l = []:=List.eq_nil_of_length_eq_zero (by omega)
  simp [spl] at hx; subst hx; simp
 | n+1,l,h,x,hx=>by
  by_cases hc:c∈l
  ·obtain ⟨a,b,rfl,ha⟩:=List.eq_append_cons_of_mem hc
   rw [spl_some c a b ha,List.mem_cons] at hx
   have hl:b.length≤n:=by simp at h; omega
   rcases hx with rfl | hx
   ·simp
   ·have:=spl_mem_len c n b hl x hx
    simp; omega
  ·rw [spl_none c l hc] at hx
   simp at hx; subst hx; exact Nat.le_refl _
theorem piece_size (c:UInt8) (s:ByteArray) (x:ByteArray) (hx:x∈pieces c s):x.size≤s.size:=by
 have:x.data.toList∈spl c s.data.toList:=by
  rw [← pieces_data]; exact List.mem_map_of_mem hx
 have:=spl_mem_len c _ _ (Nat.le_refl _) _ this
 rwa [len_eq,len_eq] at this
theorem spl_len_le (c:UInt8) : ∀ (l:Str),(spl c l).length≤l.length+1
 | []=>by simp [spl]
 | x :: r=>by
  have ih:=spl_len_le c r
  unfold spl
  split
  ·simp; omega
  ·split
   ·simp
   ·rename_i h t e; rw [e] at ih; simp at ih ⊢; omega
/-! ### names -/
def okAt (i:Nat) (l:Str):Bool:=label l || (i == 0 && l == [42])
def okAll (i:Nat):List Str→Bool
 | []=>true
 | h :: t=>okAt i h && okAll (i+1) t
def valid (l:Str):Bool:=decide (l.length≤60) && okAll 0 (spl 46 l)
def starred (l:Str):Bool:=Lib.hasPrefix l [42]
def plain (l:Str):Bool:=valid l && !starred l
def under (l o:Str):Bool:=l == o || Lib.hasSuffix l (46 :: o)
end Sp
end Go.Proofs.YtkkpahmoljiepaaGreatDoor

namespace Go.Proofs.YtkkpahmoljiepaaGreatDoor
open Go.RowKit
def G (w:World):Prop:=0<w.heap.size∧∃ m:Int,w.cell? ⟨0,0,none⟩=some (.int .i64 m)
theorem G.below {w w':World} (h:G w) (hb:Below w.heap.size w w'):G w':=by
 obtain ⟨h0,m,hm⟩:=h
 exact ⟨Nat.lt_of_lt_of_le h0 hb.size,m,(hb.cell (p:=⟨0,0,none⟩) h0).trans hm⟩
theorem G.alloc {w:World} (h:G w) (o:Obj):G (w.alloc o):=h.below ((Below.refl _ _).alloc (Nat.le_refl _) _)
theorem bcell {W w1:World} (hb:Below W.heap.size W w1):(∀ b o,b<W.heap.size→w1.cell? ⟨b,o,none⟩=W.cell? ⟨b,o,none⟩)∧(∀ b o,b<W.heap.size→w1.frozen? ⟨b,o,none⟩=W.frozen? ⟨b,o,none⟩) :=
 ⟨fun b o h=>hb.cell (p:=⟨b,o,none⟩) h,fun b o h=>hb.frozen (p:=⟨b,o,none⟩) h⟩
def StrsAt (w:World) (b off:Nat) (ss:List ByteArray):Prop:=b<w.heap.size∧∀ j (h:j<ss.length),w.cell? ⟨b,off+j,none⟩=some (.string ss[j])
theorem StrsAt.below {w w':World} {b off:Nat} {ss:List ByteArray} (h:StrsAt w b off ss) (hb:Below w.heap.size w w'):StrsAt w' b off ss :=
 ⟨Nat.lt_of_lt_of_le h.1 hb.size,fun j hj=>(hb.cell (p:=⟨b,off+j,none⟩) h.1).trans (h.2 j hj)⟩
theorem strsAt_alloc (w:World) (ss:List ByteArray):StrsAt (w.alloc (.cells (ss.map Value.string).toArray 9)) w.heap.size 0 ss:=by
 refine ⟨by simp,fun j hj=>?_⟩
 rw [Nat.zero_add]
 simp [hj]
theorem split_any (s:ByteArray) (c:UInt8) (w:World) (hg:G w) (hs:s.size<4294967281) :
  Calls Tryz.prog 97 #[.string s,.string ⟨#[c]⟩] w fun e w' =>
   e=.returned (.slice (some ⟨w.heap.size,0,none⟩) (Sp.pieces c s).length (Sp.pieces c s).length)∧w'=w.alloc (.cells ((Sp.pieces c s).map Value.string).toArray 9):=by
 obtain ⟨_,m,hm⟩:=hg
 have h:=Tryz.strings_Split s ⟨#[c]⟩ m w hs hm (Nat.le_refl _)
 rw [← Sp.pieces_len] at h
 exact h
end Go.Proofs.YtkkpahmoljiepaaGreatDoor

set_option maxRecDepth 1000000
set_option maxHeartbeats 12800000
namespace Go.Proofs.YtkkpahmoljiepaaGreatDoor
open Go.RowKit
open Pu (aH aU)
namespace Ka
theorem ret_bool {a b:Bool} (h:a=b):Ending.returned (.bool a)=.returned (.bool b):=by rw [h]
theorem ret_int {k:IntKind} {a b:Int} (h:a=b):Ending.returned (.int k a)=.returned (.int k b):=by rw [h]
theorem isSign_any (b:UInt8) (w:World) :
  Calls Tryz.prog 240 #[.int .u8 b.toNat] w fun e w'=>e=.returned (.bool (Pu.sign b))∧w'=w:=by
 unfold Pu.sign
 generalize (b.toNat:Int)=n
 go_enter Tryz.func240,Tryz.ntmps240
 go_wp2
 all_goals
  go_ret
  refine ⟨ret_bool ?_,rfl⟩
  unfold Pu.signI
 all_goals (first | done | (simp [*]; done) | (simp [*]; omega) | (rw [Bool.eq_iff_iff]; simp [*]; omega) | trace_state)
theorem isLabel_any (s:ByteArray) (w:World) (hs:s.size≤maxLen) :
  Calls Tryz.prog 189 #[.string s] w fun e w'=>e=.returned (.bool (Pu.label s.data.toList))∧w'=w:=by
 unfold maxLen at hs
 by_cases h1:(s.size:Int)<1
 ·go_enter Tryz.func189,Tryz.ntmps189
  go_wp2
  go_ret
  exact ⟨ret_bool (by unfold Pu.label; rw [Pu.len_eq]; simp; omega),rfl⟩
 by_cases h2:(20:Int)<(s.size:Int)
 ·go_enter Tryz.func189,Tryz.ntmps189
  go_wp2
  go_ret
  exact ⟨ret_bool (by unfold Pu.label; rw [Pu.len_eq]; simp; omega),rfl⟩
 go_enter Tryz.func189,Tryz.ntmps189
 go_wp2
 go_loop [14] (fun i=>∃ k:Nat,k≤s.size∧i=.int .i64 k∧(s.data.toList.take k).all Pu.sign=true) (fun i=>s.size - (intOf i).toNat)
 case atStart=>exact ⟨0,Nat.zero_le _,rfl,rfl⟩
 case round =>
  obtain ⟨k,hk,rfl,hall⟩:=hrel
  have H:=aH hall
  clear hall
  by_cases hlt:k<s.size
  ·have hts:=aH (Pu.take_snoc s k hlt)
   by_cases hb:Pu.sign s[k]=true
   ·go_wp2_with (go_at_call 240; refine (isSign_any s[k] w).mono ?_; rintro e w' ⟨rfl,rfl⟩)
    go_round
    case rel=>exact ⟨k+1,by omega,by go_num,by rw [aU hts,List.all_append,aU H]; simp [hb]⟩
    case measure=>simp [intOf]; omega
   ·have hb':Pu.sign s[k]=false:=by simpa using hb
    clear hb
    go_wp2_with (go_at_call 240; refine (isSign_any s[k] w).mono ?_; rintro e w' ⟨rfl,rfl⟩)
    go_ret
    refine ⟨ret_bool ?_,rfl⟩
    have hmem:s[k]∈s.data.toList:=List.getElem_mem (by simpa using hlt)
    symm
    unfold Pu.label
    rw [Bool.and_eq_false_iff]
    right
    rw [List.all_eq_false]
    exact ⟨_,hmem,by simp [hb']⟩
  ·go_wp2
   go_ret
   refine ⟨ret_bool ?_,rfl⟩
   have:=aU H
   rw [List.take_of_length_le (by simp; omega)] at this
   unfold Pu.label
   rw [this,Pu.len_eq]
   simp; omega
def numB (most:Nat) (l:Pu.Str):Bool:=(Pu.num most l).isSome
def numV (most:Nat) (l:Pu.Str):Nat:=(Pu.num most l).getD 0
theorem isWord_any (s:ByteArray) (w:World) (hs:s.size≤maxLen) :
  Calls Tryz.prog 229 #[.string s] w fun e w'=>e=.returned (.bool (Pu.word s.data.toList))∧w'=w:=by
 unfold maxLen at hs
 go_enter Tryz.func229,Tryz.ntmps229
 go_wp2
 go_loop [6] (fun i=>∃ k:Nat,k≤s.size∧i=.int .i64 k∧(s.data.toList.take k).all (fun c=>Pu.wordI c.toNat)=true) (fun i=>s.size - (intOf i).toNat)
 case atStart=>exact ⟨0,Nat.zero_le _,rfl,rfl⟩
 case round =>
  obtain ⟨k,hk,rfl,hall⟩:=hrel
  have H:=aH hall
  clear hall
  by_cases hlt:k<s.size
  ·have hts:=aH (Pu.take_snoc s k hlt)
   by_cases hb:(33:Int)≤(s[k].toNat:Int)∧(s[k].toNat:Int)≤126
   ·obtain ⟨hb1,hb2⟩:=hb
    go_wp2
    go_round
    case rel=>exact ⟨k+1,by omega,by go_num,by rw [aU hts,List.all_append,aU H]; simp [Pu.wordI]; omega⟩
    case measure=>simp [intOf]; omega
   ·have hmem:s[k]∈s.data.toList:=List.getElem_mem (by simpa using hlt)
    have hfin:Hid (Pu.word s.data.toList=false):=by
     unfold Pu.word
     rw [Hid,Bool.and_eq_false_iff,Bool.and_eq_false_iff,List.all_eq_false]
     exact .inl (.inl ⟨_,hmem,by simp [Pu.wordI]; omega⟩)
    go_wp2
    all_goals
     first
     | (exfalso; omega)
     | (go_ret
        exact ⟨ret_bool (aU hfin).symm,rfl⟩)
  ·have hall:=aU H
   rw [List.take_of_length_le (by simp; omega)] at hall
   have hfin:Hid (Pu.word s.data.toList=(decide ((1:Int)≤s.size) && decide ((s.size:Int)≤40))):=by
    unfold Pu.word; rw [Hid,hall,Pu.len_eq,Bool.true_and]
    congr 1 <;> (rw [decide_eq_decide]; omega)
   clear hall
   go_wp2
   all_goals
    go_ret
    refine ⟨ret_bool ?_,rfl⟩
    rw [aU hfin]
    first
    | (simp [*]; done)
    | (rw [Bool.eq_iff_iff]; simp; omega)
theorem kindOf_any (s:ByteArray) (w:World) :
  Calls Tryz.prog 169 #[.string s] w fun e w'=>e=.returned (.int .i64 (Pu.kindOf s.data.toList))∧w'=w:=by
 go_enter Tryz.func169,Tryz.ntmps169
 go_wp2
 all_goals
  go_ret
  refine ⟨ret_int ?_,rfl⟩
  unfold Pu.kindOf
  simp only [ByteArray.toList_eq,beq_iff_eq,beq_eq_false_iff_ne,ne_eq] at *
  simp [*]
end Ka
end Go.Proofs.YtkkpahmoljiepaaGreatDoor

set_option maxRecDepth 1000000
set_option maxHeartbeats 12800000
namespace Go.Proofs.YtkkpahmoljiepaaGreatDoor
open Go.RowKit
open Pu (aH aU)
namespace Kd
open Ka
theorem okAll_at {i:Nat} {L:List Pu.Str} {k:Nat} (h:k<L.length):Sp.okAll i (L.drop k)=(Sp.okAt i L[k] && Sp.okAll (i+1) (L.drop (k+1))):=by
 rw [List.drop_eq_getElem_cons h]; rfl
theorem valid_any (s:ByteArray) (w:World) (hg:G w) (hs:s.size≤maxLen) :
  Calls Tryz.prog 123 #[.string s] w fun e w'=>e=.returned (.bool (Sp.valid s.data.toList))∧Below w.heap.size w w':=by
 unfold maxLen at hs
 by_cases h1:(60:Int)<(s.size:Int)
 ·have hfin:Hid (Sp.valid s.data.toList=false):=by
   unfold Sp.valid; rw [Hid,Pu.len_eq]; simp; omega
  go_enter Tryz.func123,Tryz.ntmps123
  go_wp2
  go_ret
  exact ⟨ret_bool (aU hfin).symm,Below.refl _ _⟩
 have hv:Hid (Sp.valid s.data.toList=Sp.okAll 0 (Sp.spl 46 s.data.toList)):=by
  unfold Sp.valid; rw [Hid,Pu.len_eq]; simp; omega
 have hpl:Hid (Sp.spl 46 s.data.toList=(Sp.pieces 46 s).map (·.data.toList)):=(Sp.pieces_data 46 s).symm
 have hps:=aH (Sp.piece_size 46 s)
 have hat:=strsAt_alloc w (Sp.pieces 46 s)
 have hcall:=split_any s 46 w hg (by omega)
 have hb:Below w.heap.size w (w.alloc (.cells ((Sp.pieces 46 s).map Value.string).toArray 9)):=(Below.refl _ _).alloc (Nat.le_refl _) _
 have hlen:(Sp.pieces 46 s).length≤61:=by
  have:=Sp.spl_len_le 46 s.data.toList
  rw [← Sp.pieces_data,List.length_map,Pu.len_eq] at this
  omega
 generalize Sp.pieces 46 s=L at *
 generalize w.alloc (.cells (L.map Value.string).toArray 9)=W at *
 have HC:=aH hcall
 have HB:=aH hb
 clear hcall hb
 obtain ⟨hsz,hcell⟩:=hat
 have HL:=aH hcell
 clear hcell
 go_enter Tryz.func123,Tryz.ntmps123
 go_wp2_with (go_at_call 97; refine (aU HC).mono ?_; rintro e w' ⟨rfl,rfl⟩)
 go_loop [11] (fun i=>∃ k:Nat,k≤L.length∧i=.int .i64 k∧Sp.okAll k ((L.map (·.data.toList)).drop k)=Sp.okAll 0 (L.map (·.data.toList))) (fun i=>L.length - (intOf i).toNat)
 case atStart=>exact ⟨0,Nat.zero_le _,rfl,rfl⟩
 case round =>
  obtain ⟨k,hk,rfl,hall⟩:=hrel
  have H:=aH hall
  clear hall
  by_cases hlt:k<L.length
  ·have hck:=(aU HL) k hlt
   rw [Nat.zero_add] at hck
   have hst:=aH (okAll_at (i:=k) (L:=L.map (·.data.toList)) (k:=k) (by simpa using hlt))
   rw [List.getElem_map] at hst
   have hsk:L[k].size≤maxLen:=by
    have:=aU hps L[k] (List.getElem_mem hlt)
    unfold maxLen; omega
   generalize L[k]=x at *
   by_cases hb:Pu.label x.data.toList=true
   ·go_wp2_with (go_at_call 189; refine (isLabel_any x _ hsk).mono ?_; rintro e w' ⟨rfl,rfl⟩)
    go_round
    case rel=>exact ⟨k+1,by omega,by go_num,by rw [← aU H,aU hst]; simp [Sp.okAt,hb]⟩
    case measure=>simp [intOf]; omega
   ·have hb':Pu.label x.data.toList=false:=by simpa using hb
    clear hb
    by_cases hk0:(0:Int)<(k:Int)
    ·have hfin:Hid (Sp.valid s.data.toList=false):=by
      rw [Hid,aU hv,aU hpl,← aU H,aU hst]
      have:(k == 0)=false:=by rw [beq_eq_false_iff_ne]; omega
      simp [Sp.okAt,hb',this]
     go_wp2_with (go_at_call 189; refine (isLabel_any x _ hsk).mono ?_; rintro e w' ⟨rfl,rfl⟩)
     go_ret
     exact ⟨ret_bool (aU hfin).symm,aU HB⟩
    ·obtain rfl:k=0:=by omega
     by_cases hx:x.data.toList = [42]
     ·have hx':(x.toList == [42])=true:=by rw [ByteArray.toList_eq,hx]; rfl
      go_wp2_with (go_at_call 189; refine (isLabel_any x _ hsk).mono ?_; rintro e w' ⟨rfl,rfl⟩)
      go_round
      case rel=>exact ⟨0+1,by omega,by go_num,by rw [← aU H,aU hst]; simp [Sp.okAt,hx]⟩
      case measure=>simp [intOf]; omega
     ·have hx':(x.toList == [42])=false:=by rw [ByteArray.toList_eq,beq_eq_false_iff_ne]; exact hx
      have hfin:Hid (Sp.valid s.data.toList=false):=by
       rw [Hid,aU hv,aU hpl,← aU H,aU hst]
       simp [Sp.okAt,hb',hx]
      go_wp2_with (go_at_call 189; refine (isLabel_any x _ hsk).mono ?_; rintro e w' ⟨rfl,rfl⟩)
      go_ret
      exact ⟨ret_bool (aU hfin).symm,aU HB⟩
  ·have hfin:Hid (Sp.valid s.data.toList=true):=by
    rw [Hid,aU hv,aU hpl,← aU H,List.drop_of_length_le (by simp; omega)]; rfl
   go_wp2
   go_ret
   exact ⟨ret_bool (aU hfin).symm,aU HB⟩
theorem starred_any (s:ByteArray) (w:World) :
  Calls Tryz.prog 124 #[.string s] w fun e w'=>e=.returned (.bool (Sp.starred s.data.toList))∧w'=w:=by
 go_enter Tryz.func124,Tryz.ntmps124
 go_wp2_with (go_at_call 190; refine (Tryz.strings_HasPrefix s _ _).mono ?_; rintro e w' ⟨rfl,rfl⟩)
 go_ret
 exact ⟨rfl,rfl⟩
theorem plain_any (s:ByteArray) (w:World) (hg:G w) (hs:s.size≤maxLen) :
  Calls Tryz.prog 68 #[.string s] w fun e w'=>e=.returned (.bool (Sp.plain s.data.toList))∧Below w.heap.size w w':=by
 cases hv:Sp.valid s.data.toList
 ·have hfin:Hid (Sp.plain s.data.toList=false):=by unfold Sp.plain; rw [hv]; rfl
  go_enter Tryz.func68,Tryz.ntmps68
  go_wp2_with (go_at_call 123; refine (valid_any s _ hg hs).mono ?_; rintro e w' ⟨rfl,hb⟩)
  go_ret
  exact ⟨ret_bool (aU hfin).symm,hb⟩
 ·have hfin:Hid (Sp.plain s.data.toList = !Sp.starred s.data.toList):=by unfold Sp.plain; rw [hv]; rfl
  go_enter Tryz.func68,Tryz.ntmps68
  go_wp2_with (first
   | (go_at_call 123; refine (valid_any s _ hg hs).mono ?_; rintro e w' ⟨rfl,hb⟩)
   | (go_at_call 124; refine (starred_any s _).mono ?_; rintro e w' ⟨rfl,rfl⟩))
  go_ret
  exact ⟨ret_bool (aU hfin).symm,hb⟩
theorem str_eq (s o:ByteArray):(s.toList == o.toList)=(s.data.toList == o.data.toList):=by rw [ByteArray.toList_eq,ByteArray.toList_eq]
theorem under_any (s o:ByteArray) (w:World) (hs:s.size≤1000000) (ho:o.size≤1000000) :
  Calls Tryz.prog 110 #[.string s,.string o] w fun e w'=>e=.returned (.bool (Sp.under s.data.toList o.data.toList))∧w'=w:=by
 cases hv:(s.toList == o.toList)
 ·have hfin:Hid (Sp.under s.data.toList o.data.toList=Lib.hasSuffix s.data.toList (⟨#[46]⟩++o:ByteArray).data.toList):=by
   rw [str_eq] at hv; unfold Sp.under; rw [Hid,hv]; simp
  go_enter Tryz.func110,Tryz.ntmps110
  go_wp2_with (go_at_call 181; refine (Tryz.strings_HasSuffix s _ _ (by omega)).mono ?_; rintro e w' ⟨rfl,rfl⟩)
  go_ret
  exact ⟨ret_bool (aU hfin).symm,rfl⟩
 ·have hfin:Hid (Sp.under s.data.toList o.data.toList=true):=by
   rw [str_eq] at hv; unfold Sp.under; rw [Hid,hv]; rfl
  go_enter Tryz.func110,Tryz.ntmps110
  go_wp2
  go_ret
  exact ⟨ret_bool (aU hfin).symm,rfl⟩
end Kd
end Go.Proofs.YtkkpahmoljiepaaGreatDoor

set_option maxRecDepth 1000000
set_option maxHeartbeats 12800000
namespace Go.Proofs.YtkkpahmoljiepaaGreatDoor
open Go.RowKit
open Pu (aH aU)
namespace Kb
open Ka
theorem numFrom_le {most:Nat} : ∀ (l:Pu.Str) (n m:Nat),Pu.numFrom most n l=some m→n≤most→m≤most
 | [],n,m,h,hn=>by simp [Pu.numFrom] at h; omega
 | c :: r,n,m,h,hn=>by
  unfold Pu.numFrom at h
  split at h
  ·split at h
   ·exact numFrom_le r _ m h (by assumption)
   ·cases h
  ·cases h
theorem ret2 {k:IntKind} {a b:Int} {x y:Bool} (h:a=b) (h':x=y):Ending.returned (.tuple #[.int k a,.bool x])=.returned (.tuple #[.int k b,.bool y]):=by rw [h,h']
theorem readNumber_any (s:ByteArray) (most:Nat) (w:World) (hs:s.size≤maxLen) (hm:most≤4294967295) :
  Calls Tryz.prog 168 #[.string s,.int .u64 most] w fun e w' =>
   e=.returned (.tuple #[.int .u64 (numV most s.data.toList),.bool (numB most s.data.toList)])∧w'=w:=by
 unfold maxLen at hs
 by_cases h0:s.size=0
 ·have hl:s.toList = []:=by rw [ByteArray.toList_eq]; exact List.eq_nil_of_length_eq_zero (by rw [Pu.len_eq]; exact h0)
  have hn:Hid (Pu.num most s.data.toList=none):=by
   rw [← ByteArray.toList_eq,hl]; exact rfl
  go_enter Tryz.func168,Tryz.ntmps168
  go_wp2
  go_ret2
  exact ⟨ret2 (by rw [numV,aU hn]; rfl) (by rw [numB,aU hn]; rfl),rfl⟩
 have hl:(s.toList == [])=false:=by
  rw [ByteArray.toList_eq,beq_eq_false_iff_ne]
  intro h
  have:=congrArg List.length h
  rw [Pu.len_eq] at this
  exact h0 this
 have h0':0<s.size:=by omega
 have hd:=Pu.drop_cons s 0 h0'
 rw [List.drop_zero] at hd
 by_cases hz:(s[0].toNat:Int)=48∧(1:Int)<s.size
 ·obtain ⟨hz1,hz2⟩:=hz
  have hn:Hid (Pu.num most s.data.toList=none):=by
   rw [hd,Pu.num]
   exact if_pos ⟨by omega,fun h=>by have:=congrArg List.length h; simp at this; omega⟩
  clear hd
  go_enter Tryz.func168,Tryz.ntmps168
  go_wp2
  go_ret2
  exact ⟨ret2 (by rw [numV,aU hn]; rfl) (by rw [numB,aU hn]; rfl),rfl⟩
 have hn:Hid (Pu.num most s.data.toList=Pu.numFrom most 0 s.data.toList):=by
  rw [hd,Pu.num]
  exact if_neg (fun h=>hz ⟨by omega,by
   have:s.data.toList.drop (0+1)≠[]:=h.2
   rw [ne_eq,List.drop_eq_nil_iff] at this
   rw [Pu.len_eq] at this
   omega⟩)
 clear hd
 have hz':(s[0].toNat:Int)=48∧(s.size:Int)≤1∨¬ (s[0].toNat:Int)=48:=by omega
 clear hz
 rcases hz' with ⟨hz1,hz2⟩ | hz1
 all_goals
  go_enter Tryz.func168,Tryz.ntmps168
  go_wp2
  go_loop [6,22] (fun n i=>∃ k m:Nat,k≤s.size∧i=.int .i64 k∧n=.int .u64 m∧m≤most∧Pu.numFrom most m (s.data.toList.drop k)=Pu.numFrom most 0 s.data.toList) (fun _ i=>s.size - (intOf i).toNat)
  case atStart=>exact ⟨0,0,Nat.zero_le _,rfl,rfl,Nat.zero_le _,by rw [List.drop_zero]⟩
  case round =>
   obtain ⟨k,m,hk,rfl,rfl,hmm,hnum⟩:=hrel
   have H:=aH hnum
   clear hnum
   by_cases hlt:k<s.size
   ·have hcons:=aH (Pu.drop_cons s k hlt)
    by_cases hb:(48:Int)≤(s[k].toNat:Int)∧(s[k].toNat:Int)≤57
    ·obtain ⟨hb1,hb2⟩:=hb
     have hm1:(m:Int)≤4294967295:=by omega
     have hst:Hid (Pu.numFrom most m (s.data.toList.drop k)=if 10*m+(s[k].toNat - 48)≤most then Pu.numFrom most (10*m+(s[k].toNat - 48)) (s.data.toList.drop (k+1)) else none):=by
      rw [aU hcons,Hid]
      conv=>lhs; rw [Pu.numFrom,if_pos (by simp [Pu.digitI]; omega)]
     by_cases hg:10*(m:Int)+((s[k].toNat:Int) - 48)≤(most:Int)
     ·go_wp2
      go_round
      case rel=>exact ⟨k+1,10*m+(s[k].toNat - 48),by omega,by go_num,by go_num,by omega,by rw [← aU H,aU hst,if_pos (by omega)]⟩
      case measure=>simp [intOf]; omega
     ·have hfin:Hid (Pu.num most s.data.toList=none):=by
       rw [aU hn,Hid,← aU H,aU hst,if_neg (by omega)]
      go_wp2
      go_ret2
      exact ⟨ret2 (by rw [numV,aU hfin]; rfl) (by rw [numB,aU hfin]; rfl),rfl⟩
    ·have hfin:Hid (Pu.num most s.data.toList=none):=by
      rw [aU hn,Hid,← aU H,aU hcons,Pu.numFrom,if_neg (by simp [Pu.digitI]; omega)]
     go_wp2
     all_goals
      first
      | (exfalso; omega)
      | (go_ret2
         exact ⟨ret2 (by rw [numV,aU hfin]; rfl) (by rw [numB,aU hfin]; rfl),rfl⟩)
   ·have hfin:Hid (Pu.num most s.data.toList=some m):=by
     rw [aU hn,Hid,← aU H,List.drop_of_length_le (by rw [Pu.len_eq]; omega)]; rfl
    go_wp2
    go_ret2
    exact ⟨ret2 (by rw [numV,aU hfin]; rfl) (by rw [numB,aU hfin]; rfl),rfl⟩
theorem isNumber_any (s:ByteArray) (most:Nat) (w:World) (hs:s.size≤maxLen) (hm:most≤4294967295) :
  Calls Tryz.prog 227 #[.string s,.int .u64 most] w fun e w'=>e=.returned (.bool (numB most s.data.toList))∧w'=w:=by
 go_enter Tryz.func227,Tryz.ntmps227
 go_wp2_with (go_at_call 168; refine (readNumber_any s most w hs hm).mono ?_; rintro e w' ⟨rfl,rfl⟩)
 go_ret
 exact ⟨rfl,rfl⟩
end Kb
end Go.Proofs.YtkkpahmoljiepaaGreatDoor

set_option maxRecDepth 1000000
set_option maxHeartbeats 12800000
namespace Go.Proofs.YtkkpahmoljiepaaGreatDoor
open Go.RowKit
open Pu (aH aU)
namespace Ke
open Ka Kb Kd
def address (l:Pu.Str):Bool:=(Sp.spl 46 l).all (numB 255) && (Sp.spl 46 l).length == 4
def isData (k:Int) (ws:List Pu.Str):Bool :=
 if k=6 then (match ws with
  | [a,b,c,d]=>Sp.plain a && Sp.plain b && numB 4294967295 c && numB 86400 d
  | _=>false)
 else if k=2∨k=5 then (match ws with
  | [a]=>Sp.plain a
  | _=>false)
 else if k=1 then (match ws with
  | [a]=>address a
  | _=>false)
 else if k=16 then (match ws with
  | [a]=>Pu.word a
  | _=>false)
 else if k=15 then (match ws with
  | [a,b]=>numB 65535 a && Sp.plain b
  | _=>false)
 else false
theorem isAddress_any (s:ByteArray) (w:World) (hg:G w) (hs:s.size≤3000) :
  Calls Tryz.prog 228 #[.string s] w fun e w'=>e=.returned (.bool (address s.data.toList))∧Below w.heap.size w w':=by
 have hpl:Hid (Sp.spl 46 s.data.toList=(Sp.pieces 46 s).map (·.data.toList)):=(Sp.pieces_data 46 s).symm
 have hps:=aH (Sp.piece_size 46 s)
 have hat:=strsAt_alloc w (Sp.pieces 46 s)
 have hcall:=split_any s 46 w hg (by omega)
 have hb:Below w.heap.size w (w.alloc (.cells ((Sp.pieces 46 s).map Value.string).toArray 9)):=(Below.refl _ _).alloc (Nat.le_refl _) _
 have hlen:(Sp.pieces 46 s).length≤3001:=by
  have:=Sp.spl_len_le 46 s.data.toList
  rw [← Sp.pieces_data,List.length_map,Pu.len_eq] at this
  omega
 generalize Sp.pieces 46 s=L at *
 generalize w.alloc (.cells (L.map Value.string).toArray 9)=W at *
 have HC:=aH hcall
 have HB:=aH hb
 clear hcall hb
 obtain ⟨hsz,hcell⟩:=hat
 have HL:=aH hcell
 clear hcell
 go_enter Tryz.func228,Tryz.ntmps228
 go_wp2_with (go_at_call 97; refine (aU HC).mono ?_; rintro e w' ⟨rfl,rfl⟩)
 go_loop [10] (fun i=>∃ k:Nat,k≤L.length∧i=.int .i64 k∧((L.map (·.data.toList)).take k).all (numB 255)=true) (fun i=>L.length - (intOf i).toNat)
 case atStart=>exact ⟨0,Nat.zero_le _,rfl,rfl⟩
 case round =>
  obtain ⟨k,hk,rfl,hall⟩:=hrel
  have H:=aH hall
  clear hall
  by_cases hlt:k<L.length
  ·have hck:=(aU HL) k hlt
   rw [Nat.zero_add] at hck
   have hst:Hid ((L.map (·.data.toList)).take (k+1)=(L.map (·.data.toList)).take k++[L[k].data.toList]):=by
    rw [Hid,List.take_succ_eq_append_getElem (by simpa using hlt),List.getElem_map]
   have hmem:Hid (L[k].data.toList∈L.map (·.data.toList)):=List.mem_map_of_mem (List.getElem_mem hlt)
   have hsk:L[k].size≤maxLen:=by
    have:=aU hps L[k] (List.getElem_mem hlt)
    unfold maxLen; omega
   generalize L[k]=x at *
   cases hb:numB 255 x.data.toList
   ·have hfin:Hid (address s.data.toList=false):=by
     rw [Hid,address,aU hpl,Bool.and_eq_false_iff,List.all_eq_false]
     exact .inl ⟨_,aU hmem,by simp [hb]⟩
    go_wp2_with (go_at_call 227; refine (isNumber_any x 255 _ hsk (by omega)).mono ?_; rintro e w' ⟨rfl,rfl⟩)
    go_ret
    exact ⟨ret_bool (aU hfin).symm,aU HB⟩
   ·go_wp2_with (go_at_call 227; refine (isNumber_any x 255 _ hsk (by omega)).mono ?_; rintro e w' ⟨rfl,rfl⟩)
    go_round
    case rel=>exact ⟨k+1,by omega,by go_num,by rw [aU hst,List.all_append,aU H]; simp [hb]⟩
    case measure=>simp [intOf]; omega
  ·have hfin:Hid (address s.data.toList=((L.length:Int) == 4)):=by
    have:=aU H
    rw [List.take_of_length_le (by simp; omega)] at this
    rw [Hid,address,aU hpl,this,Bool.true_and,List.length_map,Bool.eq_iff_iff,beq_iff_eq,beq_iff_eq]
    omega
   go_wp2
   go_ret
   exact ⟨ret_bool (aU hfin).symm,aU HB⟩
end Ke
end Go.Proofs.YtkkpahmoljiepaaGreatDoor
