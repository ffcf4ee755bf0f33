/- Plain lemmas: cutting a list of bytes at one byte; what strings.Split gives, in these words. -/
import Derived.Test.YtjkllohiodfikaaGreatDoorPu
import Derived.Lib.SplitLaws
import Derived.Lib.IndexBytes
set_option linter.unusedSimpArgs false
set_option linter.unusedVariables false
namespace Go.Proofs.YtjkllohiodfikaaGreatDoor
namespace Sp
open Pu

/-- a text cut at each byte c. -/
def spl (c : UInt8) : Str → List Str
  | [] => [[]]
  | x :: r => if x = c then [] :: spl c r else match spl c r with
    | [] => [[x]]
    | h :: t => (x :: h) :: t

theorem spl_ne (c : UInt8) (l : Str) : spl c l ≠ [] := by
  cases l with
  | nil => simp [spl]
  | cons x r => unfold spl; split
                · simp
                · split <;> simp

theorem spl_none (c : UInt8) : ∀ (l : Str), c ∉ l → spl c l = [l]
  | [], _ => rfl
  | x :: r, h => by
    simp only [List.mem_cons, not_or] at h
    rw [spl, if_neg (fun e => h.1 e.symm), spl_none c r h.2]

theorem spl_some (c : UInt8) : ∀ (a b : Str), c ∉ a → spl c (a ++ c :: b) = a :: spl c b
  | [], b, _ => by rw [List.nil_append, spl, if_pos rfl]
  | x :: r, b, h => by
    simp only [List.mem_cons, not_or] at h
    rw [List.cons_append, spl, if_neg (fun e => h.1 e.symm), spl_some c r b h.2]

theorem indexByte_none (c : UInt8) : ∀ (l : Str), c ∉ l → Lib.indexByte l c = -1
  | [], _ => rfl
  | x :: r, h => by
    simp only [List.mem_cons, not_or] at h
    have ih := indexByte_none c r h.2
    unfold Lib.indexByte
    rw [if_neg (by simpa using fun e => h.1 e.symm), ih]
    rfl

theorem indexByte_some (c : UInt8) : ∀ (a b : Str), c ∉ a → Lib.indexByte (a ++ c :: b) c = a.length
  | [], b, _ => by simp [Lib.indexByte]
  | x :: r, b, h => by
    simp only [List.mem_cons, not_or] at h
    have ih := indexByte_some c r b h.2
    rw [List.cons_append]
    unfold Lib.indexByte
    rw [if_neg (by simpa using fun e => h.1 e.symm), ih]
    simp

theorem splitK_none (c : UInt8) (k : Nat) (l : Str) (h : c ∉ l) : Lib.splitK [c] 0 k l = [l] := by
  cases k with
  | zero => rfl
  | succ k => rw [Lib.splitK, Lib.index_one, indexByte_none c l h]; rfl

theorem splitK_some (c : UInt8) (k : Nat) (a b : Str) (h : c ∉ a) : Lib.splitK [c] 0 (k + 1) (a ++ c :: b) = a :: Lib.splitK [c] 0 k b := by
  rw [Lib.splitK, Lib.index_one, indexByte_some c a b h]
  rw [if_neg (by simp)]
  simp [Nat.add_sub_cancel]

theorem split_spl (c : UInt8) : ∀ (n : Nat) (l : Str), l.length ≤ n → Lib.splitK [c] 0 (l.count c) l = spl c l
  | 0, l, h => by
    obtain rfl : l = [] := List.eq_nil_of_length_eq_zero (by omega)
    rfl
  | n + 1, l, h => by
    by_cases hc : c ∈ l
    · obtain ⟨a, b, rfl, ha⟩ := List.eq_append_cons_of_mem hc
      have hl : b.length ≤ n := by simp at h; omega
      rw [List.count_append, List.count_cons_self, List.count_eq_zero.2 ha, Nat.zero_add, splitK_some c _ a b ha, spl_some c a b ha, split_spl c n b hl]
    · rw [splitK_none c _ l hc, spl_none c l hc]

/-- what strings.Split hands back at a separator of one byte. -/
def pieces (c : UInt8) (s : ByteArray) : List ByteArray := Lib.splitB ⟨#[c]⟩ 0 (Lib.countB s ⟨#[c]⟩) s

theorem pieces_data (c : UInt8) (s : ByteArray) : (pieces c s).map (·.data.toList) = spl c s.data.toList := by
  unfold pieces
  rw [Lib.splitB_data]
  have e : Lib.countB s ⟨#[c]⟩ = s.data.toList.count c := by
    unfold Lib.countB
    exact Lib.count_one c s.data.toList
  rw [e]
  exact split_spl c _ _ (Nat.le_refl _)

theorem pieces_len (c : UInt8) (s : ByteArray) : (pieces c s).length = Lib.countB s ⟨#[c]⟩ + 1 := Lib.splitB_all _ (Nat.le_refl _) 0 _ s rfl

theorem spl_mem_len (c : UInt8) : ∀ (n : Nat) (l : Str), l.length ≤ n → ∀ x ∈ spl c l, x.length ≤ l.length
  | 0, l, h, x, hx => by
    obtain rfl : l = [] := List.eq_nil_of_length_eq_zero (by omega)
    simp [spl] at hx; subst hx; simp
  | n + 1, l, h, x, hx => by
    by_cases hc : c ∈ l
    · obtain ⟨a, b, rfl, ha⟩ := List.eq_append_cons_of_mem hc
      rw [spl_some c a b ha, List.mem_cons] at hx
      have hl : b.length ≤ n := by simp at h; omega
      rcases hx with rfl | hx
      · simp
      · have := spl_mem_len c n b hl x hx
        simp; omega
    · rw [spl_none c l hc] at hx
      simp at hx; subst hx; exact Nat.le_refl _

theorem piece_size (c : UInt8) (s : ByteArray) (x : ByteArray) (hx : x ∈ pieces c s) : x.size ≤ s.size := by
  have : x.data.toList ∈ spl c s.data.toList := by
    rw [← pieces_data]; exact List.mem_map_of_mem hx
  have := spl_mem_len c _ _ (Nat.le_refl _) _ this
  rwa [len_eq, len_eq] at this

theorem spl_len_le (c : UInt8) : ∀ (l : Str), (spl c l).length ≤ l.length + 1
  | [] => by simp [spl]
  | x :: r => by
    have ih := spl_len_le c r
    unfold spl
    split
    · simp; omega
    · split
      · simp
      · rename_i h t e; rw [e] at ih; simp at ih ⊢; omega

/-! ### names -/
def okAt (i : Nat) (l : Str) : Bool := label l || (i == 0 && l == [42])
def okAll (i : Nat) : List Str → Bool
  | [] => true
  | h :: t => okAt i h && okAll (i + 1) t
/-- a name; its first label may be a star. -/
def valid (l : Str) : Bool := decide (l.length ≤ 60) && okAll 0 (spl 46 l)
def starred (l : Str) : Bool := Lib.hasPrefix l [42]
/-- a name without a star. -/
def plain (l : Str) : Bool := valid l && !starred l
def under (l o : Str) : Bool := l == o || Lib.hasSuffix l (46 :: o)

end Sp
end Go.Proofs.YtjkllohiodfikaaGreatDoor
