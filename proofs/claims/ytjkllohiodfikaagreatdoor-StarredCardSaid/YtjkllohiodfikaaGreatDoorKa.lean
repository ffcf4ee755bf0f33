/- Contracts of small functions that only compute: pick, names.isSign, names.isLabel, zone.readNumber, isNumber, isWord, kindOf. -/
import Derived.Test.YtjkllohiodfikaaGreatDoorRows
import Derived.Test.YtjkllohiodfikaaGreatDoorPu
import Derived.WalkKit
import Derived.WalkSpells
import Derived.WalkLawsBesides
set_option linter.unusedSimpArgs false
set_option linter.unusedVariables false
namespace Go.Proofs.YtjkllohiodfikaaGreatDoor
open Go.RowKit
open Pu (hide unhide)
namespace Ka

theorem ret_bool {a b : Bool} (h : a = b) : Ending.returned (.bool a) = .returned (.bool b) := by rw [h]
theorem ret_int {k : IntKind} {a b : Int} (h : a = b) : Ending.returned (.int k a) = .returned (.int k b) := by rw [h]

theorem ret_str {a b : ByteArray} (h : a.data.toList = b.data.toList) : Ending.returned (.string a) = .returned (.string b) := by
  have : a = b := by cases a; cases b; simp at h; rw [h]
  rw [this]

set_option maxHeartbeats 400000 in
theorem pick_any (c n : Int) (w : World) (h1 : -9223372036854775808 ≤ c) (h2 : c ≤ 9223372036854775807) (hn : 0 < n) (hn2 : n ≤ 1000000) :
    Calls Tryz.prog 16 #[.int .i64 c, .int .i64 n] w fun e w' => e = .returned (.int .i64 (Pu.pick c n)) ∧ w' = w := by
  by_cases hc : c < 0
  · go_enter Tryz.func16, Tryz.ntmps16
    go_wp2
    go_ret
    refine ⟨ret_int ?_, rfl⟩
    rw [Pu.pick, if_pos hc]
    rw [← Int.neg_tmod, Int.tmod_eq_emod_of_nonneg (by omega)]
  · go_enter Tryz.func16, Tryz.ntmps16
    go_wp2
    go_ret
    exact ⟨ret_int (by rw [Pu.pick, if_neg (by omega)]), rfl⟩

set_option maxHeartbeats 400000 in
theorem isSign_any (b : UInt8) (w : World) :
    Calls Tryz.prog 191 #[.int .u8 b.toNat] w fun e w' => e = .returned (.bool (Pu.sign b)) ∧ w' = w := by
  unfold Pu.sign
  generalize (b.toNat : Int) = n
  go_enter Tryz.func191, Tryz.ntmps191
  go_wp2
  all_goals
    go_ret
    refine ⟨ret_bool ?_, rfl⟩
    unfold Pu.signI
  all_goals (first | done | (simp [*]; done) | (simp [*]; omega) | (rw [Bool.eq_iff_iff]; simp [*]; omega) | trace_state)

set_option maxHeartbeats 400000 in
theorem isLabel_any (s : ByteArray) (w : World) (hs : s.size ≤ maxLen) :
    Calls Tryz.prog 149 #[.string s] w fun e w' => e = .returned (.bool (Pu.label s.data.toList)) ∧ w' = w := by
  unfold maxLen at hs
  by_cases h1 : (s.size : Int) < 1
  · go_enter Tryz.func149, Tryz.ntmps149
    go_wp2
    go_ret
    exact ⟨ret_bool (by unfold Pu.label; rw [Pu.len_eq]; simp; omega), rfl⟩
  by_cases h2 : (20 : Int) < (s.size : Int)
  · go_enter Tryz.func149, Tryz.ntmps149
    go_wp2
    go_ret
    exact ⟨ret_bool (by unfold Pu.label; rw [Pu.len_eq]; simp; omega), rfl⟩
  go_enter Tryz.func149, Tryz.ntmps149
  go_wp2
  go_loop [14] (fun i => ∃ k : Nat, k ≤ s.size ∧ i = .int .i64 k ∧ (s.data.toList.take k).all Pu.sign = true) (fun i => s.size - (intOf i).toNat)
  case atStart => exact ⟨0, Nat.zero_le _, rfl, rfl⟩
  case round =>
    obtain ⟨k, hk, rfl, hall⟩ := hrel
    have H := hide hall
    clear hall
    by_cases hlt : k < s.size
    · have hts := hide (Pu.take_snoc s k hlt)
      by_cases hb : Pu.sign s[k] = true
      · go_wp2_with (go_at_call 191; refine (isSign_any s[k] w).mono ?_; rintro e w' ⟨rfl, rfl⟩)
        go_round
        case rel => exact ⟨k + 1, by omega, by go_num, by rw [unhide hts, List.all_append, unhide H]; simp [hb]⟩
        case measure => simp [intOf]; omega
      · have hb' : Pu.sign s[k] = false := by simpa using hb
        clear hb
        go_wp2_with (go_at_call 191; refine (isSign_any s[k] w).mono ?_; rintro e w' ⟨rfl, rfl⟩)
        go_ret
        refine ⟨ret_bool ?_, rfl⟩
        have hmem : s[k] ∈ s.data.toList := List.getElem_mem (by simpa using hlt)
        symm
        unfold Pu.label
        rw [Bool.and_eq_false_iff]
        right
        rw [List.all_eq_false]
        exact ⟨_, hmem, by simp [hb']⟩
    · go_wp2
      go_ret
      refine ⟨ret_bool ?_, rfl⟩
      have := unhide H
      rw [List.take_of_length_le (by simp; omega)] at this
      unfold Pu.label
      rw [this, Pu.len_eq]
      simp; omega

/-- what readNumber hands back. -/
def numB (most : Nat) (l : Pu.Str) : Bool := (Pu.num most l).isSome
def numV (most : Nat) (l : Pu.Str) : Nat := (Pu.num most l).getD 0

set_option maxHeartbeats 400000 in
theorem isWord_any (s : ByteArray) (w : World) (hs : s.size ≤ maxLen) :
    Calls Tryz.prog 180 #[.string s] w fun e w' => e = .returned (.bool (Pu.word s.data.toList)) ∧ w' = w := by
  unfold maxLen at hs
  go_enter Tryz.func180, Tryz.ntmps180
  go_wp2
  go_loop [6] (fun i => ∃ k : Nat, k ≤ s.size ∧ i = .int .i64 k ∧ (s.data.toList.take k).all (fun c => Pu.wordI c.toNat) = true) (fun i => s.size - (intOf i).toNat)
  case atStart => exact ⟨0, Nat.zero_le _, rfl, rfl⟩
  case round =>
    obtain ⟨k, hk, rfl, hall⟩ := hrel
    have H := hide hall
    clear hall
    by_cases hlt : k < s.size
    · have hts := hide (Pu.take_snoc s k hlt)
      by_cases hb : (33 : Int) ≤ (s[k].toNat : Int) ∧ (s[k].toNat : Int) ≤ 126
      · obtain ⟨hb1, hb2⟩ := hb
        go_wp2
        go_round
        case rel => exact ⟨k + 1, by omega, by go_num, by rw [unhide hts, List.all_append, unhide H]; simp [Pu.wordI]; omega⟩
        case measure => simp [intOf]; omega
      · have hmem : s[k] ∈ s.data.toList := List.getElem_mem (by simpa using hlt)
        have hfin : Hid (Pu.word s.data.toList = false) := by
          unfold Pu.word
          rw [Hid, Bool.and_eq_false_iff, Bool.and_eq_false_iff, List.all_eq_false]
          exact .inl (.inl ⟨_, hmem, by simp [Pu.wordI]; omega⟩)
        go_wp2
        all_goals
          first
          | (exfalso; omega)
          | (go_ret
             exact ⟨ret_bool (unhide hfin).symm, rfl⟩)
    · have hall := unhide H
      rw [List.take_of_length_le (by simp; omega)] at hall
      have hfin : Hid (Pu.word s.data.toList = (decide ((1 : Int) ≤ s.size) && decide ((s.size : Int) ≤ 40))) := by
        unfold Pu.word; rw [Hid, hall, Pu.len_eq, Bool.true_and]
        congr 1 <;> (rw [decide_eq_decide]; omega)
      clear hall
      go_wp2
      all_goals
        go_ret
        refine ⟨ret_bool ?_, rfl⟩
        rw [unhide hfin]
        first
        | (simp [*]; done)
        | (rw [Bool.eq_iff_iff]; simp; omega)

set_option maxHeartbeats 800000 in
theorem kindOf_any (s : ByteArray) (w : World) :
    Calls Tryz.prog 129 #[.string s] w fun e w' => e = .returned (.int .i64 (Pu.kindOf s.data.toList)) ∧ w' = w := by
  go_enter Tryz.func129, Tryz.ntmps129
  go_wp2
  all_goals
    go_ret
    refine ⟨ret_int ?_, rfl⟩
    unfold Pu.kindOf
    simp only [ByteArray.toList_eq, beq_iff_eq, beq_eq_false_iff_ne, ne_eq] at *
    simp [*]
end Ka
end Go.Proofs.YtjkllohiodfikaaGreatDoor
