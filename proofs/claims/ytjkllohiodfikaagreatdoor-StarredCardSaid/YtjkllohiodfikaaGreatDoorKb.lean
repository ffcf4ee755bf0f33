/- Contracts: zone.readNumber, zone.isNumber. -/
import Derived.Test.YtjkllohiodfikaaGreatDoorKa
set_option linter.unusedSimpArgs false
set_option linter.unusedVariables false
namespace Go.Proofs.YtjkllohiodfikaaGreatDoor
open Go.RowKit
open Pu (hide unhide)
namespace Kb
open Ka

theorem numFrom_le {most : Nat} : ∀ (l : Pu.Str) (n m : Nat), Pu.numFrom most n l = some m → n ≤ most → m ≤ most
  | [], n, m, h, hn => by simp [Pu.numFrom] at h; omega
  | c :: r, n, m, h, hn => by
    unfold Pu.numFrom at h
    split at h
    · split at h
      · exact numFrom_le r _ m h (by assumption)
      · cases h
    · cases h

theorem ret2 {k : IntKind} {a b : Int} {x y : Bool} (h : a = b) (h' : x = y) : Ending.returned (.tuple #[.int k a, .bool x]) = .returned (.tuple #[.int k b, .bool y]) := by rw [h, h']

set_option maxHeartbeats 800000 in
theorem readNumber_any (s : ByteArray) (most : Nat) (w : World) (hs : s.size ≤ maxLen) (hm : most ≤ 4294967295) :
    Calls Tryz.prog 128 #[.string s, .int .u64 most] w fun e w' =>
      e = .returned (.tuple #[.int .u64 (numV most s.data.toList), .bool (numB most s.data.toList)]) ∧ w' = w := by
  unfold maxLen at hs
  by_cases h0 : s.size = 0
  · have hl : s.toList = [] := by rw [ByteArray.toList_eq]; exact List.eq_nil_of_length_eq_zero (by rw [Pu.len_eq]; exact h0)
    have hn : Hid (Pu.num most s.data.toList = none) := by
      rw [← ByteArray.toList_eq, hl]; exact rfl
    go_enter Tryz.func128, Tryz.ntmps128
    go_wp2
    go_ret2
    exact ⟨ret2 (by rw [numV, unhide hn]; rfl) (by rw [numB, unhide hn]; rfl), rfl⟩
  have hl : (s.toList == []) = false := by
    rw [ByteArray.toList_eq, beq_eq_false_iff_ne]
    intro h
    have := congrArg List.length h
    rw [Pu.len_eq] at this
    exact h0 this
  have h0' : 0 < s.size := by omega
  have hd := Pu.drop_cons s 0 h0'
  rw [List.drop_zero] at hd
  by_cases hz : (s[0].toNat : Int) = 48 ∧ (1 : Int) < s.size
  · obtain ⟨hz1, hz2⟩ := hz
    have hn : Hid (Pu.num most s.data.toList = none) := by
      rw [hd, Pu.num]
      exact if_pos ⟨by omega, fun h => by have := congrArg List.length h; simp at this; omega⟩
    clear hd
    go_enter Tryz.func128, Tryz.ntmps128
    go_wp2
    go_ret2
    exact ⟨ret2 (by rw [numV, unhide hn]; rfl) (by rw [numB, unhide hn]; rfl), rfl⟩
  have hn : Hid (Pu.num most s.data.toList = Pu.numFrom most 0 s.data.toList) := by
    rw [hd, Pu.num]
    exact if_neg (fun h => hz ⟨by omega, by
      have : s.data.toList.drop (0 + 1) ≠ [] := h.2
      rw [ne_eq, List.drop_eq_nil_iff] at this
      rw [Pu.len_eq] at this
      omega⟩)
  clear hd
  have hz' : (s[0].toNat : Int) = 48 ∧ (s.size : Int) ≤ 1 ∨ ¬ (s[0].toNat : Int) = 48 := by omega
  clear hz
  rcases hz' with ⟨hz1, hz2⟩ | hz1
  all_goals
    go_enter Tryz.func128, Tryz.ntmps128
    go_wp2
    go_loop [6, 22] (fun n i => ∃ k m : Nat, k ≤ s.size ∧ i = .int .i64 k ∧ n = .int .u64 m ∧ m ≤ most ∧ Pu.numFrom most m (s.data.toList.drop k) = Pu.numFrom most 0 s.data.toList) (fun _ i => s.size - (intOf i).toNat)
    case atStart => exact ⟨0, 0, Nat.zero_le _, rfl, rfl, Nat.zero_le _, by rw [List.drop_zero]⟩
    case round =>
      obtain ⟨k, m, hk, rfl, rfl, hmm, hnum⟩ := hrel
      have H := hide hnum
      clear hnum
      by_cases hlt : k < s.size
      · have hcons := hide (Pu.drop_cons s k hlt)
        by_cases hb : (48 : Int) ≤ (s[k].toNat : Int) ∧ (s[k].toNat : Int) ≤ 57
        · obtain ⟨hb1, hb2⟩ := hb
          have hm1 : (m : Int) ≤ 4294967295 := by omega
          have hst : Hid (Pu.numFrom most m (s.data.toList.drop k) = if 10 * m + (s[k].toNat - 48) ≤ most then Pu.numFrom most (10 * m + (s[k].toNat - 48)) (s.data.toList.drop (k + 1)) else none) := by
            rw [unhide hcons, Hid]
            conv => lhs; rw [Pu.numFrom, if_pos (by simp [Pu.digitI]; omega)]
          by_cases hg : 10 * (m : Int) + ((s[k].toNat : Int) - 48) ≤ (most : Int)
          · go_wp2
            go_round
            case rel => exact ⟨k + 1, 10 * m + (s[k].toNat - 48), by omega, by go_num, by go_num, by omega, by rw [← unhide H, unhide hst, if_pos (by omega)]⟩
            case measure => simp [intOf]; omega
          · have hfin : Hid (Pu.num most s.data.toList = none) := by
              rw [unhide hn, Hid, ← unhide H, unhide hst, if_neg (by omega)]
            go_wp2
            go_ret2
            exact ⟨ret2 (by rw [numV, unhide hfin]; rfl) (by rw [numB, unhide hfin]; rfl), rfl⟩
        · have hfin : Hid (Pu.num most s.data.toList = none) := by
            rw [unhide hn, Hid, ← unhide H, unhide hcons, Pu.numFrom, if_neg (by simp [Pu.digitI]; omega)]
          go_wp2
          all_goals
            first
            | (exfalso; omega)
            | (go_ret2
               exact ⟨ret2 (by rw [numV, unhide hfin]; rfl) (by rw [numB, unhide hfin]; rfl), rfl⟩)
      · have hfin : Hid (Pu.num most s.data.toList = some m) := by
          rw [unhide hn, Hid, ← unhide H, List.drop_of_length_le (by rw [Pu.len_eq]; omega)]; rfl
        go_wp2
        go_ret2
        exact ⟨ret2 (by rw [numV, unhide hfin]; rfl) (by rw [numB, unhide hfin]; rfl), rfl⟩

set_option maxHeartbeats 400000 in
theorem isNumber_any (s : ByteArray) (most : Nat) (w : World) (hs : s.size ≤ maxLen) (hm : most ≤ 4294967295) :
    Calls Tryz.prog 178 #[.string s, .int .u64 most] w fun e w' => e = .returned (.bool (numB most s.data.toList)) ∧ w' = w := by
  go_enter Tryz.func178, Tryz.ntmps178
  go_wp2_with (go_at_call 128; refine (readNumber_any s most w hs hm).mono ?_; rintro e w' ⟨rfl, rfl⟩)
  go_ret
  exact ⟨rfl, rfl⟩

end Kb
end Go.Proofs.YtjkllohiodfikaaGreatDoor
