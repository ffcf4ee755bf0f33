/- Contracts: names.Valid, Starred, Plain, Under, Star. -/
import Derived.Test.YtjkllohiodfikaaGreatDoorGl
import Derived.Test.YtjkllohiodfikaaGreatDoorKa
set_option linter.unusedSimpArgs false
set_option linter.unusedVariables false
namespace Go.Proofs.YtjkllohiodfikaaGreatDoor
open Go.RowKit
open Pu (hide unhide)
namespace Kd
open Ka

theorem okAll_at {i : Nat} {L : List Pu.Str} {k : Nat} (h : k < L.length) : Sp.okAll i (L.drop k) = (Sp.okAt i L[k] && Sp.okAll (i + 1) (L.drop (k + 1))) := by
  rw [List.drop_eq_getElem_cons h]; rfl

set_option maxHeartbeats 800000 in
theorem valid_any (s : ByteArray) (w : World) (hg : G w) (hs : s.size ≤ maxLen) :
    Calls Tryz.prog 96 #[.string s] w fun e w' => e = .returned (.bool (Sp.valid s.data.toList)) ∧ Below w.heap.size w w' := by
  unfold maxLen at hs
  by_cases h1 : (60 : Int) < (s.size : Int)
  · have hfin : Hid (Sp.valid s.data.toList = false) := by
      unfold Sp.valid; rw [Hid, Pu.len_eq]; simp; omega
    go_enter Tryz.func96, Tryz.ntmps96
    go_wp2
    go_ret
    exact ⟨ret_bool (unhide hfin).symm, Below.refl _ _⟩
  have hv : Hid (Sp.valid s.data.toList = Sp.okAll 0 (Sp.spl 46 s.data.toList)) := by
    unfold Sp.valid; rw [Hid, Pu.len_eq]; simp; omega
  have hpl : Hid (Sp.spl 46 s.data.toList = (Sp.pieces 46 s).map (·.data.toList)) := (Sp.pieces_data 46 s).symm
  have hps := hide (Sp.piece_size 46 s)
  have hat := strsAt_alloc w (Sp.pieces 46 s)
  have hcall := split_any s 46 w hg (by omega)
  have hb : Below w.heap.size w (w.alloc (.cells ((Sp.pieces 46 s).map Value.string).toArray 9)) := (Below.refl _ _).alloc (Nat.le_refl _) _
  have hlen : (Sp.pieces 46 s).length ≤ 61 := by
    have := Sp.spl_len_le 46 s.data.toList
    rw [← Sp.pieces_data, List.length_map, Pu.len_eq] at this
    omega
  generalize Sp.pieces 46 s = L at *
  generalize w.alloc (.cells (L.map Value.string).toArray 9) = W at *
  have HC := hide hcall
  have HB := hide hb
  clear hcall hb
  obtain ⟨hsz, hcell⟩ := hat
  have HL := hide hcell
  clear hcell
  go_enter Tryz.func96, Tryz.ntmps96
  go_wp2_with (go_at_call 70; refine (unhide HC).mono ?_; rintro e w' ⟨rfl, rfl⟩)
  go_loop [11] (fun i => ∃ k : Nat, k ≤ L.length ∧ i = .int .i64 k ∧ Sp.okAll k ((L.map (·.data.toList)).drop k) = Sp.okAll 0 (L.map (·.data.toList))) (fun i => L.length - (intOf i).toNat)
  case atStart => exact ⟨0, Nat.zero_le _, rfl, rfl⟩
  case round =>
    obtain ⟨k, hk, rfl, hall⟩ := hrel
    have H := hide hall
    clear hall
    by_cases hlt : k < L.length
    · have hck := (unhide HL) k hlt
      rw [Nat.zero_add] at hck
      have hst := hide (okAll_at (i := k) (L := L.map (·.data.toList)) (k := k) (by simpa using hlt))
      rw [List.getElem_map] at hst
      have hsk : L[k].size ≤ maxLen := by
        have := unhide hps L[k] (List.getElem_mem hlt)
        unfold maxLen; omega
      generalize L[k] = x at *
      by_cases hb : Pu.label x.data.toList = true
      · go_wp2_with (go_at_call 149; refine (isLabel_any x _ hsk).mono ?_; rintro e w' ⟨rfl, rfl⟩)
        go_round
        case rel => exact ⟨k + 1, by omega, by go_num, by rw [← unhide H, unhide hst]; simp [Sp.okAt, hb]⟩
        case measure => simp [intOf]; omega
      · have hb' : Pu.label x.data.toList = false := by simpa using hb
        clear hb
        by_cases hk0 : (0 : Int) < (k : Int)
        · have hfin : Hid (Sp.valid s.data.toList = false) := by
            rw [Hid, unhide hv, unhide hpl, ← unhide H, unhide hst]
            have : (k == 0) = false := by rw [beq_eq_false_iff_ne]; omega
            simp [Sp.okAt, hb', this]
          go_wp2_with (go_at_call 149; refine (isLabel_any x _ hsk).mono ?_; rintro e w' ⟨rfl, rfl⟩)
          go_ret
          exact ⟨ret_bool (unhide hfin).symm, unhide HB⟩
        · obtain rfl : k = 0 := by omega
          by_cases hx : x.data.toList = [42]
          · have hx' : (x.toList == [42]) = true := by rw [ByteArray.toList_eq, hx]; rfl
            go_wp2_with (go_at_call 149; refine (isLabel_any x _ hsk).mono ?_; rintro e w' ⟨rfl, rfl⟩)
            go_round
            case rel => exact ⟨0 + 1, by omega, by go_num, by rw [← unhide H, unhide hst]; simp [Sp.okAt, hx]⟩
            case measure => simp [intOf]; omega
          · have hx' : (x.toList == [42]) = false := by rw [ByteArray.toList_eq, beq_eq_false_iff_ne]; exact hx
            have hfin : Hid (Sp.valid s.data.toList = false) := by
              rw [Hid, unhide hv, unhide hpl, ← unhide H, unhide hst]
              simp [Sp.okAt, hb', hx]
            go_wp2_with (go_at_call 149; refine (isLabel_any x _ hsk).mono ?_; rintro e w' ⟨rfl, rfl⟩)
            go_ret
            exact ⟨ret_bool (unhide hfin).symm, unhide HB⟩
    · have hfin : Hid (Sp.valid s.data.toList = true) := by
        rw [Hid, unhide hv, unhide hpl, ← unhide H, List.drop_of_length_le (by simp; omega)]; rfl
      go_wp2
      go_ret
      exact ⟨ret_bool (unhide hfin).symm, unhide HB⟩

set_option maxHeartbeats 400000 in
theorem starred_any (s : ByteArray) (w : World) :
    Calls Tryz.prog 97 #[.string s] w fun e w' => e = .returned (.bool (Sp.starred s.data.toList)) ∧ w' = w := by
  go_enter Tryz.func97, Tryz.ntmps97
  go_wp2_with (go_at_call 150; refine (Tryz.strings_HasPrefix s _ _).mono ?_; rintro e w' ⟨rfl, rfl⟩)
  go_ret
  exact ⟨rfl, rfl⟩

set_option maxHeartbeats 400000 in
theorem plain_any (s : ByteArray) (w : World) (hg : G w) (hs : s.size ≤ maxLen) :
    Calls Tryz.prog 50 #[.string s] w fun e w' => e = .returned (.bool (Sp.plain s.data.toList)) ∧ Below w.heap.size w w' := by
  cases hv : Sp.valid s.data.toList
  · have hfin : Hid (Sp.plain s.data.toList = false) := by unfold Sp.plain; rw [hv]; rfl
    go_enter Tryz.func50, Tryz.ntmps50
    go_wp2_with (go_at_call 96; refine (valid_any s _ hg hs).mono ?_; rintro e w' ⟨rfl, hb⟩)
    go_ret
    exact ⟨ret_bool (unhide hfin).symm, hb⟩
  · have hfin : Hid (Sp.plain s.data.toList = !Sp.starred s.data.toList) := by unfold Sp.plain; rw [hv]; rfl
    go_enter Tryz.func50, Tryz.ntmps50
    go_wp2_with (first
      | (go_at_call 96; refine (valid_any s _ hg hs).mono ?_; rintro e w' ⟨rfl, hb⟩)
      | (go_at_call 97; refine (starred_any s _).mono ?_; rintro e w' ⟨rfl, rfl⟩))
    go_ret
    exact ⟨ret_bool (unhide hfin).symm, hb⟩

theorem str_eq (s o : ByteArray) : (s.toList == o.toList) = (s.data.toList == o.data.toList) := by rw [ByteArray.toList_eq, ByteArray.toList_eq]

set_option maxHeartbeats 400000 in
theorem under_any (s o : ByteArray) (w : World) (hs : s.size ≤ 1000000) (ho : o.size ≤ 1000000) :
    Calls Tryz.prog 83 #[.string s, .string o] w fun e w' => e = .returned (.bool (Sp.under s.data.toList o.data.toList)) ∧ w' = w := by
  cases hv : (s.toList == o.toList)
  · have hfin : Hid (Sp.under s.data.toList o.data.toList = Lib.hasSuffix s.data.toList (⟨#[46]⟩ ++ o : ByteArray).data.toList) := by
      rw [str_eq] at hv; unfold Sp.under; rw [Hid, hv]; simp
    go_enter Tryz.func83, Tryz.ntmps83
    go_wp2_with (go_at_call 141; refine (Tryz.strings_HasSuffix s _ _ (by omega)).mono ?_; rintro e w' ⟨rfl, rfl⟩)
    go_ret
    exact ⟨ret_bool (unhide hfin).symm, rfl⟩
  · have hfin : Hid (Sp.under s.data.toList o.data.toList = true) := by
      rw [str_eq] at hv; unfold Sp.under; rw [Hid, hv]; rfl
    go_enter Tryz.func83, Tryz.ntmps83
    go_wp2
    go_ret
    exact ⟨ret_bool (unhide hfin).symm, rfl⟩

set_option maxHeartbeats 400000 in
theorem star_any (s : ByteArray) (w : World) (hs : s.size ≤ 1000000) :
    Calls Tryz.prog 220 #[.string s] w fun e w' => e = .returned (.string ⟨(42 :: 46 :: s.data.toList).toArray⟩) ∧ w' = w := by
  go_enter Tryz.func220, Tryz.ntmps220
  go_wp2
  go_ret
  exact ⟨ret_str (by simp), rfl⟩
end Kd
end Go.Proofs.YtjkllohiodfikaaGreatDoor
