/- Contract: zone.isData. -/
import Derived.Test.YtjkllohiodfikaaGreatDoorKe
set_option linter.unusedSimpArgs false
set_option linter.unusedVariables false
namespace Go.Proofs.YtjkllohiodfikaaGreatDoor
open Go.RowKit
open Pu (hide unhide)
namespace Kf
open Ka Kb Kd Ke

def dat (ws : List ByteArray) : List Pu.Str := ws.map (·.data.toList)

theorem d6_len (ws : List Pu.Str) (h : ws.length ≠ 4) : isData 6 ws = false := by
  unfold isData; rw [if_pos rfl]; split
  · exact absurd rfl h
  · rfl
theorem d2_len (k : Int) (hk : k = 2 ∨ k = 5) (ws : List Pu.Str) (h : ws.length ≠ 1) : isData k ws = false := by
  unfold isData; rw [if_neg (by omega), if_pos hk]; split
  · exact absurd rfl h
  · rfl
theorem d1_len (ws : List Pu.Str) (h : ws.length ≠ 1) : isData 1 ws = false := by
  unfold isData; rw [if_neg (by omega), if_neg (by omega), if_pos rfl]; split
  · exact absurd rfl h
  · rfl
theorem d16_len (ws : List Pu.Str) (h : ws.length ≠ 1) : isData 16 ws = false := by
  unfold isData; rw [if_neg (by omega), if_neg (by omega), if_neg (by omega), if_pos rfl]; split
  · exact absurd rfl h
  · rfl
theorem d15_len (ws : List Pu.Str) (h : ws.length ≠ 2) : isData 15 ws = false := by
  unfold isData; rw [if_neg (by omega), if_neg (by omega), if_neg (by omega), if_neg (by omega), if_pos rfl]; split
  · exact absurd rfl h
  · rfl
theorem d0 (k : Int) (ws : List Pu.Str) (h6 : k ≠ 6) (h2 : k ≠ 2) (h5 : k ≠ 5) (h1 : k ≠ 1) (h16 : k ≠ 16) (h15 : k ≠ 15) : isData k ws = false := by
  unfold isData; rw [if_neg h6, if_neg (by omega), if_neg h1, if_neg h16, if_neg h15]

set_option maxHeartbeats 1600000 in
theorem isData_soa (b cap : Nat) (ws : List ByteArray) (w : World) (hg : G w) (hat : StrsAt w b 0 ws) (hsz : ∀ x ∈ ws, x.size ≤ 3000) (hl : ws.length ≤ 3001) :
    Calls Tryz.prog 130 #[.int .i64 6, .slice (some ⟨b, 0, none⟩) ws.length cap] w fun e w' => e = .returned (.bool (isData 6 (dat ws))) ∧ Below w.heap.size w w' := by
  by_cases h4 : ws.length = 4
  · match ws, h4 with
    | [x0, x1, x2, x3], _ =>
    have hfin : Hid (isData 6 (dat [x0, x1, x2, x3]) = (Sp.plain x0.data.toList && Sp.plain x1.data.toList && numB 4294967295 x2.data.toList && numB 86400 x3.data.toList)) := rfl
    have s0 : x0.size ≤ maxLen := by have := hsz x0 (by simp); unfold maxLen; omega
    have s1 : x1.size ≤ maxLen := by have := hsz x1 (by simp); unfold maxLen; omega
    have s2 : x2.size ≤ maxLen := by have := hsz x2 (by simp); unfold maxLen; omega
    have s3 : x3.size ≤ maxLen := by have := hsz x3 (by simp); unfold maxLen; omega
    have c0 : w.cell? ⟨b, 0, none⟩ = some (.string x0) := hat.2 0 (by simp)
    have HA := hide hat
    clear hat hl hsz
    cases v0 : Sp.plain x0.data.toList
    · go_enter Tryz.func130, Tryz.ntmps130
      go_wp2_with (go_at_call 50; refine (plain_any x0 _ hg s0).mono ?_; rintro e w1 ⟨rfl, hb1⟩)
      go_ret
      exact ⟨ret_bool (by rw [unhide hfin, v0]; rfl), hb1⟩
    cases v1 : Sp.plain x1.data.toList
    · go_enter Tryz.func130, Tryz.ntmps130
      go_wp2_with fail
      refine (plain_any x0 _ hg s0).mono ?_
      rintro e w1 ⟨rfl, hb1⟩
      have g1 := hg.below hb1
      have a1 := (unhide HA).below hb1
      have c1 : w1.cell? ⟨b, 1, none⟩ = some (.string x1) := a1.2 1 (by simp)
      have HA1 := hide a1
      clear a1
      go_wp2_with (go_at_call 50; refine (plain_any x1 _ g1 s1).mono ?_; rintro e w2 ⟨rfl, hb2⟩)
      go_ret
      exact ⟨ret_bool (by rw [unhide hfin, v0, v1]; rfl), hb1.trans (hb2.mono hb1.size)⟩
    cases v2 : numB 4294967295 x2.data.toList
    all_goals
      go_enter Tryz.func130, Tryz.ntmps130
      go_wp2_with fail
      refine (plain_any x0 _ hg s0).mono ?_
      rintro e w1 ⟨rfl, hb1⟩
      have g1 := hg.below hb1
      have a1 := (unhide HA).below hb1
      have c1 : w1.cell? ⟨b, 1, none⟩ = some (.string x1) := a1.2 1 (by simp)
      have HA1 := hide a1
      clear a1
      go_wp2_with fail
      refine (plain_any x1 _ g1 s1).mono ?_
      rintro e w2 ⟨rfl, hb2⟩
      have a2 := (unhide HA1).below hb2
      have c2 : w2.cell? ⟨b, 2, none⟩ = some (.string x2) := a2.2 2 (by simp)
      have c3 : w2.cell? ⟨b, 3, none⟩ = some (.string x3) := a2.2 3 (by simp)
      clear a2
      go_wp2_with fail
      refine (isNumber_any x2 4294967295 _ s2 (by omega)).mono ?_
      rintro e w3 ⟨rfl, rfl⟩
      go_wp2_with (go_at_call 178; refine (isNumber_any x3 86400 _ s3 (by omega)).mono ?_; rintro e w4 ⟨rfl, rfl⟩)
      go_ret
      exact ⟨ret_bool (by rw [unhide hfin, v0, v1, v2]; rfl), hb1.trans (hb2.mono hb1.size)⟩
  · have hfin : Hid (isData 6 (dat ws) = false) := by
      exact d6_len _ (by simpa [dat] using h4)
    have h4' : ((ws.length : Int) == 4) = false := by rw [beq_eq_false_iff_ne]; omega
    clear h4 hat hsz
    go_enter Tryz.func130, Tryz.ntmps130
    go_wp2
    go_ret
    exact ⟨ret_bool (unhide hfin).symm, Below.refl _ _⟩

set_option maxHeartbeats 1600000 in
theorem isData_ns (b cap : Nat) (ws : List ByteArray) (w : World) (hg : G w) (hat : StrsAt w b 0 ws) (hsz : ∀ x ∈ ws, x.size ≤ 3000) (hl : ws.length ≤ 3001) :
    Calls Tryz.prog 130 #[.int .i64 2, .slice (some ⟨b, 0, none⟩) ws.length cap] w fun e w' => e = .returned (.bool (isData 2 (dat ws))) ∧ Below w.heap.size w w' := by
  by_cases h4 : ws.length = 1
  · match ws, h4 with
    | [x0], _ =>
    have s0 : x0.size ≤ maxLen := by have := hsz x0 (by simp); unfold maxLen; omega
    have s0' : x0.size ≤ 3000 := hsz x0 (by simp)
    have c0 : w.cell? ⟨b, 0, none⟩ = some (.string x0) := hat.2 0 (by simp)
    clear hat hl hsz
    go_enter Tryz.func130, Tryz.ntmps130
    go_wp2_with (go_at_call 50; refine (plain_any x0 _ hg s0).mono ?_; rintro e w1 ⟨rfl, hb1⟩)
    go_ret
    exact ⟨rfl, hb1⟩
  · have hfin : Hid (isData 2 (dat ws) = false) := d2_len 2 (.inl rfl) _ (by simpa [dat] using h4)
    have h4' : ((ws.length : Int) == 1) = false := by rw [beq_eq_false_iff_ne]; omega
    clear h4 hat hsz
    go_enter Tryz.func130, Tryz.ntmps130
    go_wp2
    go_ret
    exact ⟨ret_bool (unhide hfin).symm, Below.refl _ _⟩

set_option maxHeartbeats 1600000 in
theorem isData_cname (b cap : Nat) (ws : List ByteArray) (w : World) (hg : G w) (hat : StrsAt w b 0 ws) (hsz : ∀ x ∈ ws, x.size ≤ 3000) (hl : ws.length ≤ 3001) :
    Calls Tryz.prog 130 #[.int .i64 5, .slice (some ⟨b, 0, none⟩) ws.length cap] w fun e w' => e = .returned (.bool (isData 5 (dat ws))) ∧ Below w.heap.size w w' := by
  by_cases h4 : ws.length = 1
  · match ws, h4 with
    | [x0], _ =>
    have s0 : x0.size ≤ maxLen := by have := hsz x0 (by simp); unfold maxLen; omega
    have s0' : x0.size ≤ 3000 := hsz x0 (by simp)
    have c0 : w.cell? ⟨b, 0, none⟩ = some (.string x0) := hat.2 0 (by simp)
    clear hat hl hsz
    go_enter Tryz.func130, Tryz.ntmps130
    go_wp2_with (go_at_call 50; refine (plain_any x0 _ hg s0).mono ?_; rintro e w1 ⟨rfl, hb1⟩)
    go_ret
    exact ⟨rfl, hb1⟩
  · have hfin : Hid (isData 5 (dat ws) = false) := d2_len 5 (.inr rfl) _ (by simpa [dat] using h4)
    have h4' : ((ws.length : Int) == 1) = false := by rw [beq_eq_false_iff_ne]; omega
    clear h4 hat hsz
    go_enter Tryz.func130, Tryz.ntmps130
    go_wp2
    go_ret
    exact ⟨ret_bool (unhide hfin).symm, Below.refl _ _⟩

set_option maxHeartbeats 1600000 in
theorem isData_a (b cap : Nat) (ws : List ByteArray) (w : World) (hg : G w) (hat : StrsAt w b 0 ws) (hsz : ∀ x ∈ ws, x.size ≤ 3000) (hl : ws.length ≤ 3001) :
    Calls Tryz.prog 130 #[.int .i64 1, .slice (some ⟨b, 0, none⟩) ws.length cap] w fun e w' => e = .returned (.bool (isData 1 (dat ws))) ∧ Below w.heap.size w w' := by
  by_cases h4 : ws.length = 1
  · match ws, h4 with
    | [x0], _ =>
    have s0 : x0.size ≤ maxLen := by have := hsz x0 (by simp); unfold maxLen; omega
    have s0' : x0.size ≤ 3000 := hsz x0 (by simp)
    have c0 : w.cell? ⟨b, 0, none⟩ = some (.string x0) := hat.2 0 (by simp)
    clear hat hl hsz
    go_enter Tryz.func130, Tryz.ntmps130
    go_wp2_with (go_at_call 179; refine (isAddress_any x0 _ hg s0').mono ?_; rintro e w1 ⟨rfl, hb1⟩)
    go_ret
    exact ⟨rfl, hb1⟩
  · have hfin : Hid (isData 1 (dat ws) = false) := d1_len _ (by simpa [dat] using h4)
    have h4' : ((ws.length : Int) == 1) = false := by rw [beq_eq_false_iff_ne]; omega
    clear h4 hat hsz
    go_enter Tryz.func130, Tryz.ntmps130
    go_wp2
    go_ret
    exact ⟨ret_bool (unhide hfin).symm, Below.refl _ _⟩

set_option maxHeartbeats 1600000 in
theorem isData_txt (b cap : Nat) (ws : List ByteArray) (w : World) (hg : G w) (hat : StrsAt w b 0 ws) (hsz : ∀ x ∈ ws, x.size ≤ 3000) (hl : ws.length ≤ 3001) :
    Calls Tryz.prog 130 #[.int .i64 16, .slice (some ⟨b, 0, none⟩) ws.length cap] w fun e w' => e = .returned (.bool (isData 16 (dat ws))) ∧ Below w.heap.size w w' := by
  by_cases h4 : ws.length = 1
  · match ws, h4 with
    | [x0], _ =>
    have s0 : x0.size ≤ maxLen := by have := hsz x0 (by simp); unfold maxLen; omega
    have s0' : x0.size ≤ 3000 := hsz x0 (by simp)
    have c0 : w.cell? ⟨b, 0, none⟩ = some (.string x0) := hat.2 0 (by simp)
    clear hat hl hsz
    go_enter Tryz.func130, Tryz.ntmps130
    go_wp2_with (go_at_call 180; refine (isWord_any x0 _ s0).mono ?_; rintro e w1 ⟨rfl, rfl⟩)
    go_ret
    exact ⟨rfl, Below.refl _ _⟩
  · have hfin : Hid (isData 16 (dat ws) = false) := d16_len _ (by simpa [dat] using h4)
    have h4' : ((ws.length : Int) == 1) = false := by rw [beq_eq_false_iff_ne]; omega
    clear h4 hat hsz
    go_enter Tryz.func130, Tryz.ntmps130
    go_wp2
    go_ret
    exact ⟨ret_bool (unhide hfin).symm, Below.refl _ _⟩

set_option maxHeartbeats 1600000 in
theorem isData_mx (b cap : Nat) (ws : List ByteArray) (w : World) (hg : G w) (hat : StrsAt w b 0 ws) (hsz : ∀ x ∈ ws, x.size ≤ 3000) (hl : ws.length ≤ 3001) :
    Calls Tryz.prog 130 #[.int .i64 15, .slice (some ⟨b, 0, none⟩) ws.length cap] w fun e w' => e = .returned (.bool (isData 15 (dat ws))) ∧ Below w.heap.size w w' := by
  by_cases h4 : ws.length = 2
  · match ws, h4 with
    | [x0, x1], _ =>
    have hfin : Hid (isData 15 (dat [x0, x1]) = (numB 65535 x0.data.toList && Sp.plain x1.data.toList)) := rfl
    have s0 : x0.size ≤ maxLen := by have := hsz x0 (by simp); unfold maxLen; omega
    have s1 : x1.size ≤ maxLen := by have := hsz x1 (by simp); unfold maxLen; omega
    have c0 : w.cell? ⟨b, 0, none⟩ = some (.string x0) := hat.2 0 (by simp)
    have c1 : w.cell? ⟨b, 1, none⟩ = some (.string x1) := hat.2 1 (by simp)
    clear hat hl hsz
    cases v0 : numB 65535 x0.data.toList
    · go_enter Tryz.func130, Tryz.ntmps130
      go_wp2_with (go_at_call 178; refine (isNumber_any x0 65535 _ s0 (by omega)).mono ?_; rintro e w1 ⟨rfl, rfl⟩)
      go_ret
      exact ⟨ret_bool (by rw [unhide hfin, v0]; rfl), Below.refl _ _⟩
    · go_enter Tryz.func130, Tryz.ntmps130
      go_wp2_with (first
        | (go_at_call 178; refine (isNumber_any x0 65535 _ s0 (by omega)).mono ?_; rintro e w1 ⟨rfl, rfl⟩)
        | (go_at_call 50; refine (plain_any x1 _ hg s1).mono ?_; rintro e w1 ⟨rfl, hb1⟩))
      go_ret
      exact ⟨ret_bool (by rw [unhide hfin, v0]; rfl), hb1⟩
  · have hfin : Hid (isData 15 (dat ws) = false) := d15_len _ (by simpa [dat] using h4)
    have h4' : ((ws.length : Int) == 2) = false := by rw [beq_eq_false_iff_ne]; omega
    clear h4 hat hsz
    go_enter Tryz.func130, Tryz.ntmps130
    go_wp2
    go_ret
    exact ⟨ret_bool (unhide hfin).symm, Below.refl _ _⟩

set_option maxHeartbeats 1600000 in
theorem isData_none (k : Int) (b cap : Nat) (ws : List ByteArray) (w : World) (h6 : k ≠ 6) (h2 : k ≠ 2) (h5 : k ≠ 5) (h1 : k ≠ 1) (h16 : k ≠ 16) (h15 : k ≠ 15) :
    Calls Tryz.prog 130 #[.int .i64 k, .slice (some ⟨b, 0, none⟩) ws.length cap] w fun e w' => e = .returned (.bool (isData k (dat ws))) ∧ Below w.heap.size w w' := by
  have hfin := hide (d0 k (dat ws) h6 h2 h5 h1 h16 h15)
  have k6 : (k == 6) = false := beq_eq_false_iff_ne.2 h6
  have k2 : (k == 2) = false := beq_eq_false_iff_ne.2 h2
  have k5 : (k == 5) = false := beq_eq_false_iff_ne.2 h5
  have k1 : (k == 1) = false := beq_eq_false_iff_ne.2 h1
  have k16 : (k == 16) = false := beq_eq_false_iff_ne.2 h16
  have k15 : (k == 15) = false := beq_eq_false_iff_ne.2 h15
  clear h6 h2 h5 h1 h16 h15
  go_enter Tryz.func130, Tryz.ntmps130
  go_wp2
  go_ret
  exact ⟨ret_bool (unhide hfin).symm, Below.refl _ _⟩

theorem isData_any (k : Int) (b cap : Nat) (ws : List ByteArray) (w : World) (hg : G w) (hat : StrsAt w b 0 ws) (hsz : ∀ x ∈ ws, x.size ≤ 3000) (hl : ws.length ≤ 3001) :
    Calls Tryz.prog 130 #[.int .i64 k, .slice (some ⟨b, 0, none⟩) ws.length cap] w fun e w' => e = .returned (.bool (isData k (dat ws))) ∧ Below w.heap.size w w' := by
  by_cases h6 : k = 6
  · subst h6; exact isData_soa b cap ws w hg hat hsz hl
  by_cases h2 : k = 2
  · subst h2; exact isData_ns b cap ws w hg hat hsz hl
  by_cases h5 : k = 5
  · subst h5; exact isData_cname b cap ws w hg hat hsz hl
  by_cases h1 : k = 1
  · subst h1; exact isData_a b cap ws w hg hat hsz hl
  by_cases h16 : k = 16
  · subst h16; exact isData_txt b cap ws w hg hat hsz hl
  by_cases h15 : k = 15
  · subst h15; exact isData_mx b cap ws w hg hat hsz hl
  exact isData_none k b cap ws w h6 h2 h5 h1 h16 h15
end Kf
end Go.Proofs.YtjkllohiodfikaaGreatDoor
