/- Contracts: the two comparisons of records; records.runs and what it gives. -/
import Derived.Test.YtjkllohiodfikaaGreatDoorRg
import Derived.Test.YtjkllohiodfikaaGreatDoorIt
import Derived.RangeFuncNested
import Derived.RangeFuncBound
import Derived.RangeFuncCalls
import Derived.Shelf.RegionOpen
import Derived.OwnWalkIn
import Derived.TacticsInMore
import Derived.LoopNIn
import Derived.LoopIn
import Derived.Shelf.SlSortCmp.QuietGrown
set_option linter.unusedSimpArgs false
set_option linter.unusedVariables false
namespace Go.Proofs.YtjkllohiodfikaaGreatDoor
open Go.RowKit
open Pu (Str hide unhide)

def sameSet (r s : Rec) : Bool := r.owner == s.owner && r.type == s.type
def sameOwner (r s : Rec) : Bool := r.owner == s.owner

/-- the runs of a list, each with the place where it begins. -/
def runsP (same : Rec → Rec → Bool) : Nat → Nat → List Rec → List (Nat × List Rec)
  | 0, _, _ => []
  | _ + 1, _, [] => []
  | f + 1, k, r :: t => (k, r :: t.takeWhile (same r)) :: runsP same f (k + 1 + (t.takeWhile (same r)).length) (t.dropWhile (same r))
def runs (same : Rec → Rec → Bool) (rs : List Rec) : List (Nat × List Rec) := runsP same rs.length 0 rs

namespace Ia
open Ka Kd Rg

set_option maxHeartbeats 400000 in
theorem sameSet_any (r s : Rec) (w : World) :
    Calls Tryz.prog 137 #[.agg #[.string (B r.owner), .int .i64 r.ttl, .int .i64 r.type, .string (B r.data)], .agg #[.string (B s.owner), .int .i64 s.ttl, .int .i64 s.type, .string (B s.data)]] w fun e w' =>
      e = .returned (.bool (sameSet r s)) ∧ ∃ q os', w' = Sort.grow (w.drewN q) os' := by
  have hBB : ((B r.owner).toList == (B s.owner).toList) = (r.owner == s.owner) := B_inj
  cases ho : r.owner == s.owner
  · have hfin : Hid (sameSet r s = false) := by unfold sameSet; rw [ho]; rfl
    rw [ho] at hBB
    go_enter Tryz.func137, Tryz.ntmps137
    go_wp2
    go_ret
    exact ⟨ret_bool (unhide hfin).symm, 0, _, by rw [Sort.alloc_eq_grow, Sort.alloc_eq_grow, Sort.grow_grow]; rfl⟩
  · have hfin : Hid (sameSet r s = (r.type == s.type)) := by unfold sameSet; rw [ho]; rfl
    rw [ho] at hBB
    go_enter Tryz.func137, Tryz.ntmps137
    go_wp2
    go_ret
    exact ⟨ret_bool (unhide hfin).symm, 0, _, by rw [Sort.alloc_eq_grow, Sort.alloc_eq_grow, Sort.grow_grow]; rfl⟩

set_option maxHeartbeats 400000 in
theorem sameOwner_any (r s : Rec) (w : World) :
    Calls Tryz.prog 140 #[.agg #[.string (B r.owner), .int .i64 r.ttl, .int .i64 r.type, .string (B r.data)], .agg #[.string (B s.owner), .int .i64 s.ttl, .int .i64 s.type, .string (B s.data)]] w fun e w' =>
      e = .returned (.bool (sameOwner r s)) ∧ ∃ q os', w' = Sort.grow (w.drewN q) os' := by
  have hBB : ((B r.owner).toList == (B s.owner).toList) = (r.owner == s.owner) := B_inj
  go_enter Tryz.func140, Tryz.ntmps140
  go_wp2
  go_ret
  exact ⟨rfl, 0, _, by rw [Sort.alloc_eq_grow, Sort.alloc_eq_grow, Sort.grow_grow]; rfl⟩

theorem runsP_fuel (same : Rec → Rec → Bool) : ∀ (f k : Nat) (l : List Rec), l.length ≤ f → runsP same f k l = runsP same l.length k l
  | 0, k, l, h => by
    obtain rfl : l = [] := List.eq_nil_of_length_eq_zero (by omega)
    rfl
  | f + 1, k, [], h => rfl
  | f + 1, k, r :: t, h => by
    have hd : (t.dropWhile (same r)).length ≤ t.length := by
      have := congrArg List.length (List.takeWhile_append_dropWhile (p := same r) (l := t))
      rw [List.length_append] at this; omega
    rw [runsP, List.length_cons, runsP, runsP_fuel same f _ _ (by simp at h; omega), runsP_fuel same t.length _ _ hd]

theorem runsP_cons (same : Rec → Rec → Bool) (k : Nat) (r : Rec) (t : List Rec) :
    runsP same (r :: t).length k (r :: t) = (k, r :: t.takeWhile (same r)) :: runsP same (t.dropWhile (same r)).length (k + 1 + (t.takeWhile (same r)).length) (t.dropWhile (same r)) := by
  have hd : (t.dropWhile (same r)).length ≤ t.length := by
    have := congrArg List.length (List.takeWhile_append_dropWhile (p := same r) (l := t))
    rw [List.length_append] at this; omega
  rw [List.length_cons, runsP, runsP_fuel same t.length _ _ hd]

theorem takeWhile_get {p : Rec → Bool} : ∀ (l : List Rec) (j : Nat) (h : j < (l.takeWhile p).length), ∃ h' : j < l.length, p l[j] = true
  | [], j, h => by simp at h
  | x :: l, j, h => by
    by_cases hp : p x = true
    · rw [List.takeWhile_cons_of_pos hp] at h
      cases j with
      | zero => exact ⟨by simp, hp⟩
      | succ j =>
        obtain ⟨h', e⟩ := takeWhile_get l j (by simpa using h)
        exact ⟨by simpa using h', by simpa using e⟩
    · rw [List.takeWhile_cons_of_neg hp] at h; simp at h

theorem takeWhile_end {p : Rec → Bool} : ∀ (l : List Rec) (h : (l.takeWhile p).length < l.length), p l[(l.takeWhile p).length] = false
  | [], h => by simp at h
  | x :: l, h => by
    by_cases hp : p x = true
    · have e : ((x :: l).takeWhile p).length = (l.takeWhile p).length + 1 := by rw [List.takeWhile_cons_of_pos hp]; rfl
      have := takeWhile_end l (by rw [e] at h; simpa using h)
      simpa [e] using this
    · have e : ((x :: l).takeWhile p).length = 0 := by rw [List.takeWhile_cons_of_neg hp]; rfl
      simpa [e] using hp

theorem below_grow (w : World) (n : Nat) (os : Array Obj) : Below w.heap.size w (Sort.grow (w.drewN n) os) :=
  ⟨rfl, rfl, rfl, by simp [Sort.grow, World.drewN], fun k hk => by
    show (w.heap ++ os)[k]? = w.heap[k]?
    rw [Array.getElem?_append_left hk]⟩

theorem RecsAt.kept {w w' : World} {b off : Nat} {rs : List Rec} (h : RecsAt w b off rs) (hs : w.heap.size ≤ w'.heap.size) (hb : w'.heap[b]? = w.heap[b]?) : RecsAt w' b off rs :=
  ⟨Nat.lt_of_lt_of_le h.1 hs, fun j hj i u hu => (World.cell?_of_block hb).trans (h.2 j hj i u hu)⟩

theorem RecsAt.low {w w' : World} {b off nb : Nat} {rs : List Rec} (h : RecsAt w b off rs) (hb : Below nb w w') (hlt : b < nb) : RecsAt w' b off rs :=
  ⟨Nat.lt_of_lt_of_le h.1 hb.size, fun j hj i u hu => (hb.cell (p := ⟨b, off + j * 4 + i, none⟩) hlt).trans (h.2 j hj i u hu)⟩

set_option maxHeartbeats 400000 in
theorem runs_any (a : Option Addr) (n c gs : Nat) (w : World) :
    Calls Tryz.prog 136 #[.slice a n c, .func (.func gs) #[] #[]] w fun e w' => e = .returned (.func (.func 184) #[] #[.pointer (some ⟨w.heap.size, 0, none⟩), .pointer (some ⟨w.heap.size + 1, 0, none⟩)]) ∧ w' = (w.alloc (.cells #[.slice a n c] 41)).alloc (.cells #[.func (.func gs) #[] #[]] 195) := by
  go_enter Tryz.func136, Tryz.ntmps136
  go_wp2
  go_ret
  exact ⟨rfl, rfl⟩
end Ia
end Go.Proofs.YtjkllohiodfikaaGreatDoor
