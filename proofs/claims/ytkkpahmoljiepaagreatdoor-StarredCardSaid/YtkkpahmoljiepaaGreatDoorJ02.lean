/- Contract: zone.isData. -/
import Derived.Test.YtkkpahmoljiepaaGreatDoorJ01
import Derived.RegionTactic
import Derived.ChangeAlike
set_option linter.unusedSimpArgs false
set_option linter.unusedVariables false
namespace Go.Proofs.YtkkpahmoljiepaaGreatDoor
open Go.RowKit
open Pu (hide unhide)
namespace Kf
open Ka Kb Kd Ke

def dat (ws : List ByteArray) : List Pu.Str := ws.map (·.data.toList)

theorem d6_len (ws : List Pu.Str) (h : ws.length ≠ 4) : isData 6 ws = false := by
  unfold isData; rw [if_pos rfl]; split
  · exact absurd rfl h
  · rfl
theorem d2_len (k : Int) (hk : k = 2 ∨ k = 5) (ws : List Pu.Str) (h : ws.length ≠ 1) : isData k ws = false := by
  unfold isData; rw [if_neg (by omega), if_pos hk]; split
  · exact absurd rfl h
  · rfl
theorem d1_len (ws : List Pu.Str) (h : ws.length ≠ 1) : isData 1 ws = false := by
  unfold isData; rw [if_neg (by omega), if_neg (by omega), if_pos rfl]; split
  · exact absurd rfl h
  · rfl
theorem d16_len (ws : List Pu.Str) (h : ws.length ≠ 1) : isData 16 ws = false := by
  unfold isData; rw [if_neg (by omega), if_neg (by omega), if_neg (by omega), if_pos rfl]; split
  · exact absurd rfl h
  · rfl
theorem d15_len (ws : List Pu.Str) (h : ws.length ≠ 2) : isData 15 ws = false := by
  unfold isData; rw [if_neg (by omega), if_neg (by omega), if_neg (by omega), if_neg (by omega), if_pos rfl]; split
  · exact absurd rfl h
  · rfl
theorem d0 (k : Int) (ws : List Pu.Str) (h6 : k ≠ 6) (h2 : k ≠ 2) (h5 : k ≠ 5) (h1 : k ≠ 1) (h16 : k ≠ 16) (h15 : k ≠ 15) : isData k ws = false := by
  unfold isData; rw [if_neg h6, if_neg (by omega), if_neg h1, if_neg h16, if_neg h15]

set_option maxHeartbeats 1600000 in
theorem isData_soa (b cap : Nat) (ws : List ByteArray) (w : World) (hg : G w) (hat : StrsAt w b 0 ws) (hsz : ∀ x ∈ ws, x.size ≤ 3000) (hl : ws.length ≤ 3001) :
    Calls Tryz.prog 170 #[.int .i64 6, .slice (some ⟨b, 0, none⟩) ws.length cap] w fun e w' => e = .returned (.bool (isData 6 (dat ws))) ∧ Below w.heap.size w w' := by
  by_cases h4 : ws.length = 4
  · match ws, h4 with
    | [x0, x1, x2, x3], _ =>
    have hfin : Hid (isData 6 (dat [x0, x1, x2, x3]) = (Sp.plain x0.data.toList && Sp.plain x1.data.toList && numB 4294967295 x2.data.toList && numB 86400 x3.data.toList)) := rfl
    have s0 : x0.size ≤ maxLen := by have := hsz x0 (by simp); unfold maxLen; omega
    have s1 : x1.size ≤ maxLen := by have := hsz x1 (by simp); unfold maxLen; omega
    have s2 : x2.size ≤ maxLen := by have := hsz x2 (by simp); unfold maxLen; omega
    have s3 : x3.size ≤ maxLen := by have := hsz x3 (by simp); unfold maxLen; omega
    have c0 : w.cell? ⟨b, 0, none⟩ = some (.string x0) := hat.2 0 (by simp)
    have HA := hide hat
    clear hat hl hsz
    cases v0 : Sp.plain x0.data.toList
    · go_enter Tryz.func170, Tryz.ntmps170
      go_wp2_with (go_at_call 68; refine (plain_any x0 _ hg s0).mono ?_; rintro e w1 ⟨rfl, hb1⟩)
      go_ret
      exact ⟨ret_bool (by rw [unhide hfin, v0]; rfl), hb1⟩
    cases v1 : Sp.plain x1.data.toList
    · go_enter Tryz.func170, Tryz.ntmps170
      go_wp2_with fail
      refine (plain_any x0 _ hg s0).mono ?_
      rintro e w1 ⟨rfl, hb1⟩
      have g1 := hg.below hb1
      have a1 := (unhide HA).below hb1
      have c1 : w1.cell? ⟨b, 1, none⟩ = some (.string x1) := a1.2 1 (by simp)
      have HA1 := hide a1
      clear a1
      go_wp2_with (go_at_call 68; refine (plain_any x1 _ g1 s1).mono ?_; rintro e w2 ⟨rfl, hb2⟩)
      go_ret
      exact ⟨ret_bool (by rw [unhide hfin, v0, v1]; rfl), hb1.trans (hb2.mono hb1.size)⟩
    cases v2 : numB 4294967295 x2.data.toList
    all_goals
      go_enter Tryz.func170, Tryz.ntmps170
      go_wp2_with fail
      refine (plain_any x0 _ hg s0).mono ?_
      rintro e w1 ⟨rfl, hb1⟩
      have g1 := hg.below hb1
      have a1 := (unhide HA).below hb1
      have c1 : w1.cell? ⟨b, 1, none⟩ = some (.string x1) := a1.2 1 (by simp)
      have HA1 := hide a1
      clear a1
      go_wp2_with fail
      refine (plain_any x1 _ g1 s1).mono ?_
      rintro e w2 ⟨rfl, hb2⟩
      have a2 := (unhide HA1).below hb2
      have c2 : w2.cell? ⟨b, 2, none⟩ = some (.string x2) := a2.2 2 (by simp)
      have c3 : w2.cell? ⟨b, 3, none⟩ = some (.string x3) := a2.2 3 (by simp)
      clear a2
      go_wp2_with fail
      refine (isNumber_any x2 4294967295 _ s2 (by omega)).mono ?_
      rintro e w3 ⟨rfl, rfl⟩
      go_wp2_with (go_at_call 227; refine (isNumber_any x3 86400 _ s3 (by omega)).mono ?_; rintro e w4 ⟨rfl, rfl⟩)
      go_ret
      exact ⟨ret_bool (by rw [unhide hfin, v0, v1, v2]; rfl), hb1.trans (hb2.mono hb1.size)⟩
  · have hfin : Hid (isData 6 (dat ws) = false) := by
      exact d6_len _ (by simpa [dat] using h4)
    have h4' : ((ws.length : Int) == 4) = false := by rw [beq_eq_false_iff_ne]; omega
    clear h4 hat hsz
    go_enter Tryz.func170, Tryz.ntmps170
    go_wp2
    go_ret
    exact ⟨ret_bool (unhide hfin).symm, Below.refl _ _⟩

set_option maxHeartbeats 1600000 in
theorem isData_ns (b cap : Nat) (ws : List ByteArray) (w : World) (hg : G w) (hat : StrsAt w b 0 ws) (hsz : ∀ x ∈ ws, x.size ≤ 3000) (hl : ws.length ≤ 3001) :
    Calls Tryz.prog 170 #[.int .i64 2, .slice (some ⟨b, 0, none⟩) ws.length cap] w fun e w' => e = .returned (.bool (isData 2 (dat ws))) ∧ Below w.heap.size w w' := by
  by_cases h4 : ws.length = 1
  · match ws, h4 with
    | [x0], _ =>
    have s0 : x0.size ≤ maxLen := by have := hsz x0 (by simp); unfold maxLen; omega
    have s0' : x0.size ≤ 3000 := hsz x0 (by simp)
    have c0 : w.cell? ⟨b, 0, none⟩ = some (.string x0) := hat.2 0 (by simp)
    clear hat hl hsz
    go_enter Tryz.func170, Tryz.ntmps170
    go_wp2_with (go_at_call 68; refine (plain_any x0 _ hg s0).mono ?_; rintro e w1 ⟨rfl, hb1⟩)
    go_ret
    exact ⟨rfl, hb1⟩
  · have hfin : Hid (isData 2 (dat ws) = false) := d2_len 2 (.inl rfl) _ (by simpa [dat] using h4)
    have h4' : ((ws.length : Int) == 1) = false := by rw [beq_eq_false_iff_ne]; omega
    clear h4 hat hsz
    go_enter Tryz.func170, Tryz.ntmps170
    go_wp2
    go_ret
    exact ⟨ret_bool (unhide hfin).symm, Below.refl _ _⟩

set_option maxHeartbeats 1600000 in
theorem isData_cname (b cap : Nat) (ws : List ByteArray) (w : World) (hg : G w) (hat : StrsAt w b 0 ws) (hsz : ∀ x ∈ ws, x.size ≤ 3000) (hl : ws.length ≤ 3001) :
    Calls Tryz.prog 170 #[.int .i64 5, .slice (some ⟨b, 0, none⟩) ws.length cap] w fun e w' => e = .returned (.bool (isData 5 (dat ws))) ∧ Below w.heap.size w w' := by
  by_cases h4 : ws.length = 1
  · match ws, h4 with
    | [x0], _ =>
    have s0 : x0.size ≤ maxLen := by have := hsz x0 (by simp); unfold maxLen; omega
    have s0' : x0.size ≤ 3000 := hsz x0 (by simp)
    have c0 : w.cell? ⟨b, 0, none⟩ = some (.string x0) := hat.2 0 (by simp)
    clear hat hl hsz
    go_enter Tryz.func170, Tryz.ntmps170
    go_wp2_with (go_at_call 68; refine (plain_any x0 _ hg s0).mono ?_; rintro e w1 ⟨rfl, hb1⟩)
    go_ret
    exact ⟨rfl, hb1⟩
  · have hfin : Hid (isData 5 (dat ws) = false) := d2_len 5 (.inr rfl) _ (by simpa [dat] using h4)
    have h4' : ((ws.length : Int) == 1) = false := by rw [beq_eq_false_iff_ne]; omega
    clear h4 hat hsz
    go_enter Tryz.func170, Tryz.ntmps170
    go_wp2
    go_ret
    exact ⟨ret_bool (unhide hfin).symm, Below.refl _ _⟩

set_option maxHeartbeats 1600000 in
theorem isData_a (b cap : Nat) (ws : List ByteArray) (w : World) (hg : G w) (hat : StrsAt w b 0 ws) (hsz : ∀ x ∈ ws, x.size ≤ 3000) (hl : ws.length ≤ 3001) :
    Calls Tryz.prog 170 #[.int .i64 1, .slice (some ⟨b, 0, none⟩) ws.length cap] w fun e w' => e = .returned (.bool (isData 1 (dat ws))) ∧ Below w.heap.size w w' := by
  by_cases h4 : ws.length = 1
  · match ws, h4 with
    | [x0], _ =>
    have s0 : x0.size ≤ maxLen := by have := hsz x0 (by simp); unfold maxLen; omega
    have s0' : x0.size ≤ 3000 := hsz x0 (by simp)
    have c0 : w.cell? ⟨b, 0, none⟩ = some (.string x0) := hat.2 0 (by simp)
    clear hat hl hsz
    go_enter Tryz.func170, Tryz.ntmps170
    go_wp2_with (go_at_call 228; refine (isAddress_any x0 _ hg s0').mono ?_; rintro e w1 ⟨rfl, hb1⟩)
    go_ret
    exact ⟨rfl, hb1⟩
  · have hfin : Hid (isData 1 (dat ws) = false) := d1_len _ (by simpa [dat] using h4)
    have h4' : ((ws.length : Int) == 1) = false := by rw [beq_eq_false_iff_ne]; omega
    clear h4 hat hsz
    go_enter Tryz.func170, Tryz.ntmps170
    go_wp2
    go_ret
    exact ⟨ret_bool (unhide hfin).symm, Below.refl _ _⟩

set_option maxHeartbeats 1600000 in
theorem isData_txt (b cap : Nat) (ws : List ByteArray) (w : World) (hg : G w) (hat : StrsAt w b 0 ws) (hsz : ∀ x ∈ ws, x.size ≤ 3000) (hl : ws.length ≤ 3001) :
    Calls Tryz.prog 170 #[.int .i64 16, .slice (some ⟨b, 0, none⟩) ws.length cap] w fun e w' => e = .returned (.bool (isData 16 (dat ws))) ∧ Below w.heap.size w w' := by
  by_cases h4 : ws.length = 1
  · match ws, h4 with
    | [x0], _ =>
    have s0 : x0.size ≤ maxLen := by have := hsz x0 (by simp); unfold maxLen; omega
    have s0' : x0.size ≤ 3000 := hsz x0 (by simp)
    have c0 : w.cell? ⟨b, 0, none⟩ = some (.string x0) := hat.2 0 (by simp)
    clear hat hl hsz
    go_enter Tryz.func170, Tryz.ntmps170
    go_wp2_with (go_at_call 229; refine (isWord_any x0 _ s0).mono ?_; rintro e w1 ⟨rfl, rfl⟩)
    go_ret
    exact ⟨rfl, Below.refl _ _⟩
  · have hfin : Hid (isData 16 (dat ws) = false) := d16_len _ (by simpa [dat] using h4)
    have h4' : ((ws.length : Int) == 1) = false := by rw [beq_eq_false_iff_ne]; omega
    clear h4 hat hsz
    go_enter Tryz.func170, Tryz.ntmps170
    go_wp2
    go_ret
    exact ⟨ret_bool (unhide hfin).symm, Below.refl _ _⟩

set_option maxHeartbeats 1600000 in
theorem isData_mx (b cap : Nat) (ws : List ByteArray) (w : World) (hg : G w) (hat : StrsAt w b 0 ws) (hsz : ∀ x ∈ ws, x.size ≤ 3000) (hl : ws.length ≤ 3001) :
    Calls Tryz.prog 170 #[.int .i64 15, .slice (some ⟨b, 0, none⟩) ws.length cap] w fun e w' => e = .returned (.bool (isData 15 (dat ws))) ∧ Below w.heap.size w w' := by
  by_cases h4 : ws.length = 2
  · match ws, h4 with
    | [x0, x1], _ =>
    have hfin : Hid (isData 15 (dat [x0, x1]) = (numB 65535 x0.data.toList && Sp.plain x1.data.toList)) := rfl
    have s0 : x0.size ≤ maxLen := by have := hsz x0 (by simp); unfold maxLen; omega
    have s1 : x1.size ≤ maxLen := by have := hsz x1 (by simp); unfold maxLen; omega
    have c0 : w.cell? ⟨b, 0, none⟩ = some (.string x0) := hat.2 0 (by simp)
    have c1 : w.cell? ⟨b, 1, none⟩ = some (.string x1) := hat.2 1 (by simp)
    clear hat hl hsz
    cases v0 : numB 65535 x0.data.toList
    · go_enter Tryz.func170, Tryz.ntmps170
      go_wp2_with (go_at_call 227; refine (isNumber_any x0 65535 _ s0 (by omega)).mono ?_; rintro e w1 ⟨rfl, rfl⟩)
      go_ret
      exact ⟨ret_bool (by rw [unhide hfin, v0]; rfl), Below.refl _ _⟩
    · go_enter Tryz.func170, Tryz.ntmps170
      go_wp2_with (first
        | (go_at_call 227; refine (isNumber_any x0 65535 _ s0 (by omega)).mono ?_; rintro e w1 ⟨rfl, rfl⟩)
        | (go_at_call 68; refine (plain_any x1 _ hg s1).mono ?_; rintro e w1 ⟨rfl, hb1⟩))
      go_ret
      exact ⟨ret_bool (by rw [unhide hfin, v0]; rfl), hb1⟩
  · have hfin : Hid (isData 15 (dat ws) = false) := d15_len _ (by simpa [dat] using h4)
    have h4' : ((ws.length : Int) == 2) = false := by rw [beq_eq_false_iff_ne]; omega
    clear h4 hat hsz
    go_enter Tryz.func170, Tryz.ntmps170
    go_wp2
    go_ret
    exact ⟨ret_bool (unhide hfin).symm, Below.refl _ _⟩

set_option maxHeartbeats 1600000 in
theorem isData_none (k : Int) (b cap : Nat) (ws : List ByteArray) (w : World) (h6 : k ≠ 6) (h2 : k ≠ 2) (h5 : k ≠ 5) (h1 : k ≠ 1) (h16 : k ≠ 16) (h15 : k ≠ 15) :
    Calls Tryz.prog 170 #[.int .i64 k, .slice (some ⟨b, 0, none⟩) ws.length cap] w fun e w' => e = .returned (.bool (isData k (dat ws))) ∧ Below w.heap.size w w' := by
  have hfin := hide (d0 k (dat ws) h6 h2 h5 h1 h16 h15)
  have k6 : (k == 6) = false := beq_eq_false_iff_ne.2 h6
  have k2 : (k == 2) = false := beq_eq_false_iff_ne.2 h2
  have k5 : (k == 5) = false := beq_eq_false_iff_ne.2 h5
  have k1 : (k == 1) = false := beq_eq_false_iff_ne.2 h1
  have k16 : (k == 16) = false := beq_eq_false_iff_ne.2 h16
  have k15 : (k == 15) = false := beq_eq_false_iff_ne.2 h15
  clear h6 h2 h5 h1 h16 h15
  go_enter Tryz.func170, Tryz.ntmps170
  go_wp2
  go_ret
  exact ⟨ret_bool (unhide hfin).symm, Below.refl _ _⟩

theorem isData_any (k : Int) (b cap : Nat) (ws : List ByteArray) (w : World) (hg : G w) (hat : StrsAt w b 0 ws) (hsz : ∀ x ∈ ws, x.size ≤ 3000) (hl : ws.length ≤ 3001) :
    Calls Tryz.prog 170 #[.int .i64 k, .slice (some ⟨b, 0, none⟩) ws.length cap] w fun e w' => e = .returned (.bool (isData k (dat ws))) ∧ Below w.heap.size w w' := by
  by_cases h6 : k = 6
  · subst h6; exact isData_soa b cap ws w hg hat hsz hl
  by_cases h2 : k = 2
  · subst h2; exact isData_ns b cap ws w hg hat hsz hl
  by_cases h5 : k = 5
  · subst h5; exact isData_cname b cap ws w hg hat hsz hl
  by_cases h1 : k = 1
  · subst h1; exact isData_a b cap ws w hg hat hsz hl
  by_cases h16 : k = 16
  · subst h16; exact isData_txt b cap ws w hg hat hsz hl
  by_cases h15 : k = 15
  · subst h15; exact isData_mx b cap ws w hg hat hsz hl
  exact isData_none k b cap ws w h6 h2 h5 h1 h16 h15
end Kf
end Go.Proofs.YtkkpahmoljiepaaGreatDoor

/- Plain: records, and the line of a record. -/
namespace Go.Proofs.YtkkpahmoljiepaaGreatDoor
open Go.RowKit
open Pu (Str hide unhide)

/-- a list of bytes as Go's string. -/
def B (l : Str) : ByteArray := ⟨l.toArray⟩
theorem B_data (s : ByteArray) : B s.data.toList = s := by cases s; simp [B]
theorem data_B (l : Str) : (B l).data.toList = l := rfl
theorem size_B (l : Str) : (B l).size = l.length := by simp [B, ByteArray.size]

/-- a record: its owner, TTL, type, data. -/
abbrev Rec := Str × Nat × Int × Str
def Rec.owner (r : Rec) : Str := r.1
def Rec.ttl (r : Rec) : Nat := r.2.1
def Rec.type (r : Rec) : Int := r.2.2.1
def Rec.data (r : Rec) : Str := r.2.2.2

def Rec.zero : Rec := ([], 0, 0, [])
def Rec.enc (r : Rec) : List Value := [.string (B r.owner), .int .i64 r.ttl, .int .i64 r.type, .string (B r.data)]
def Rec.val (r : Rec) : Value := .agg #[.string (B r.owner), .int .i64 r.ttl, .int .i64 r.type, .string (B r.data)]

def readRec (l : Str) : Option Rec :=
  match Lib.splitN l [32] 4 with
  | [a, b, c, d] => if Sp.valid a && Ka.numB 86400 b && Ke.isData (Pu.kindOf c) (Sp.spl 32 d) then some (a, Ka.numV 86400 b, Pu.kindOf c, d) else none
  | _ => none

/-- what readRecord hands back. -/
def recR (o : Option Rec) : Value := .tuple #[(o.getD Rec.zero).val, .bool o.isSome]

namespace Rc
theorem splitK_mem_len (c : UInt8) : ∀ (k : Nat) (l : Str), ∀ x ∈ Lib.splitK [c] 0 k l, x.length ≤ l.length
  | 0, l, x, hx => by simp [Lib.splitK] at hx; subst hx; exact Nat.le_refl _
  | k + 1, l, x, hx => by
    unfold Lib.splitK at hx
    split at hx
    · simp at hx; subst hx; exact Nat.le_refl _
    · rw [List.mem_cons] at hx
      rcases hx with rfl | hx
      · simp; omega
      · have := splitK_mem_len c k _ x hx
        rw [List.length_drop] at this
        omega

/-- what strings.SplitN(s, " ", 4) hands back. -/
def four (s : ByteArray) : List ByteArray := Lib.splitB ⟨#[32]⟩ 0 (min 4 (s.size + 1) - 1) s
theorem four_data (s : ByteArray) : (four s).map (·.data.toList) = Lib.splitN s.data.toList [32] 4 := by
  unfold four
  rw [Lib.splitB_data]
  unfold Lib.splitN
  rw [Pu.len_eq]
theorem four_len (s : ByteArray) : (four s).length ≤ 4 := by
  have := Lib.splitB_length_le ⟨#[32]⟩ 0 (min 4 (s.size + 1) - 1) s
  unfold four; omega
theorem four_len2 (s : ByteArray) : (four s).length ≤ min 4 (s.size + 1) := by
  have := Lib.splitB_length_le ⟨#[32]⟩ 0 (min 4 (s.size + 1) - 1) s
  unfold four; omega
theorem four_size (s x : ByteArray) (hx : x ∈ four s) : x.size ≤ s.size := by
  have : x.data.toList ∈ Lib.splitN s.data.toList [32] 4 := by
    rw [← four_data]; exact List.mem_map_of_mem hx
  have := splitK_mem_len 32 _ _ _ this
  rwa [Pu.len_eq, Pu.len_eq] at this

theorem strsAt_cellsOf (w : World) (L : List ByteArray) (N : Nat) : StrsAt (w.alloc (.cells (Lib.cellsOf L N) 9)) w.heap.size 0 L := by
  refine ⟨by simp, fun j hj => ?_⟩
  rw [Nat.zero_add]
  unfold Lib.cellsOf
  simp [hj, List.getElem?_append]

theorem splitN_any (s : ByteArray) (w : World) (hg : G w) (hs : s.size ≤ 3000) :
    Calls Tryz.prog 167 #[.string s, .string ⟨#[32]⟩, .int .i64 4] w fun e w' =>
      e = .returned (.slice (some ⟨w.heap.size, 0, none⟩) (four s).length (min 4 (s.size + 1))) ∧ w' = w.alloc (.cells (Lib.cellsOf (four s) (min 4 (s.size + 1))) 9) := by
  obtain ⟨_, m, hm⟩ := hg
  exact Tryz.strings_SplitN s ⟨#[32]⟩ 4 m w (by omega) hm (Nat.le_refl _) (by omega) (by omega)

set_option maxHeartbeats 1600000 in
theorem readRecord_short (s : ByteArray) (w : World) (hg : G w) (hs : s.size ≤ 3000) (h4 : (four s).length ≠ 4) :
    Calls Tryz.prog 99 #[.string s] w fun e w' => e = .returned (recR none) ∧ Below w.heap.size w w' := by
  have hlen := four_len s
  have hcall2 := splitN_any s (w.alloc (.cells #[.string ⟨#[]⟩, .int .i64 0, .int .i64 0, .string ⟨#[]⟩] 47)) (hg.alloc _) hs
  generalize four s = L at *
  have h4' : (L.length : Int) < 4 := by omega
  have HC := hide hcall2
  clear hcall2
  go_enter Tryz.func99, Tryz.ntmps99
  go_wp2_with (go_at_call 167; refine (unhide HC).mono ?_; rintro e w' ⟨rfl, rfl⟩)
  refine bodyPost_ret (v := recR none) (by simp [results, Tryz.results99, go_sem, recR, Rec.val, Rec.zero, Rec.owner, Rec.ttl, Rec.type, Rec.data, B]) rfl ⟨rfl, ?_⟩
  exact ((Below.refl _ _).alloc (Nat.le_refl _) _).alloc (by simp) _
end Rc
end Go.Proofs.YtkkpahmoljiepaaGreatDoor

/- Contract: zone.readRecord. -/
namespace Go.Proofs.YtkkpahmoljiepaaGreatDoor
open Go.RowKit
open Pu (Str hide unhide)
namespace Rd
open Ka Kb Kd Ke Kf Rc

theorem numV_le (most : Nat) (l : Str) : numV most l ≤ most := by
  unfold numV Pu.num
  cases l with
  | nil => simp
  | cons c r =>
    simp only []
    split
    · simp
    · cases h : Pu.numFrom most 0 (c :: r) with
      | none => simp
      | some m => simpa using numFrom_le _ _ _ h (Nat.zero_le _)

theorem isData_pieces (k : Int) (b : Nat) (x : ByteArray) (w : World) (hg : G w) (hat : StrsAt w b 0 (Sp.pieces 32 x)) (hx : x.size ≤ 3000) :
    Calls Tryz.prog 170 #[.int .i64 k, .slice (some ⟨b, 0, none⟩) (Sp.pieces 32 x).length (Sp.pieces 32 x).length] w fun e w' => e = .returned (.bool (isData k (Sp.spl 32 x.data.toList))) ∧ Below w.heap.size w w' := by
  rw [← Sp.pieces_data]
  refine isData_any k b _ _ w hg hat (fun y hy => Nat.le_trans (Sp.piece_size 32 x y hy) hx) ?_
  have := Sp.spl_len_le 32 x.data.toList
  rw [← Sp.pieces_data, List.length_map, Pu.len_eq] at this
  omega

set_option maxHeartbeats 1600000 in
theorem readRecord_four (s x0 x1 x2 x3 : ByteArray) (w : World) (hg : G w) (hs : s.size ≤ 3000) (h4 : four s = [x0, x1, x2, x3]) :
    Calls Tryz.prog 99 #[.string s] w fun e w' =>
      e = .returned (recR (if Sp.valid x0.data.toList && numB 86400 x1.data.toList && isData (Pu.kindOf x2.data.toList) (Sp.spl 32 x3.data.toList) then some (x0.data.toList, numV 86400 x1.data.toList, Pu.kindOf x2.data.toList, x3.data.toList) else none)) ∧ Below w.heap.size w w' := by
  have hcall2 := splitN_any s (w.alloc (.cells #[.string ⟨#[]⟩, .int .i64 0, .int .i64 0, .string ⟨#[]⟩] 47)) (hg.alloc _) hs
  have hsz := four_size s
  have hat := strsAt_cellsOf (w.alloc (.cells #[.string ⟨#[]⟩, .int .i64 0, .int .i64 0, .string ⟨#[]⟩] 47)) (four s) (min 4 (s.size + 1))
  rw [h4] at hcall2 hsz hat
  have hgW : G ((w.alloc (.cells #[.string ⟨#[]⟩, .int .i64 0, .int .i64 0, .string ⟨#[]⟩] 47)).alloc (.cells (Lib.cellsOf [x0, x1, x2, x3] (min 4 (s.size + 1))) 9)) := (hg.alloc _).alloc _
  have hbW : Below w.heap.size w ((w.alloc (.cells #[.string ⟨#[]⟩, .int .i64 0, .int .i64 0, .string ⟨#[]⟩] 47)).alloc (.cells (Lib.cellsOf [x0, x1, x2, x3] (min 4 (s.size + 1))) 9)) :=
    ((Below.refl _ _).alloc (Nat.le_refl _) _).alloc (by simp) _
  have r0 : ((w.alloc (.cells #[.string ⟨#[]⟩, .int .i64 0, .int .i64 0, .string ⟨#[]⟩] 47)).alloc (.cells (Lib.cellsOf [x0, x1, x2, x3] (min 4 (s.size + 1))) 9)).cell? ⟨w.heap.size, 0, none⟩ = some (.string ⟨#[]⟩) := by simp
  have r1 : ((w.alloc (.cells #[.string ⟨#[]⟩, .int .i64 0, .int .i64 0, .string ⟨#[]⟩] 47)).alloc (.cells (Lib.cellsOf [x0, x1, x2, x3] (min 4 (s.size + 1))) 9)).cell? ⟨w.heap.size, 1, none⟩ = some (.int .i64 0) := by simp
  have r2 : ((w.alloc (.cells #[.string ⟨#[]⟩, .int .i64 0, .int .i64 0, .string ⟨#[]⟩] 47)).alloc (.cells (Lib.cellsOf [x0, x1, x2, x3] (min 4 (s.size + 1))) 9)).cell? ⟨w.heap.size, 2, none⟩ = some (.int .i64 0) := by simp
  have r3 : ((w.alloc (.cells #[.string ⟨#[]⟩, .int .i64 0, .int .i64 0, .string ⟨#[]⟩] 47)).alloc (.cells (Lib.cellsOf [x0, x1, x2, x3] (min 4 (s.size + 1))) 9)).cell? ⟨w.heap.size, 3, none⟩ = some (.string ⟨#[]⟩) := by simp
  have rf : ∀ i, ((w.alloc (.cells #[.string ⟨#[]⟩, .int .i64 0, .int .i64 0, .string ⟨#[]⟩] 47)).alloc (.cells (Lib.cellsOf [x0, x1, x2, x3] (min 4 (s.size + 1))) 9)).frozen? ⟨w.heap.size, i, none⟩ = false := by intro i; simp
  have hzz : w.heap.size + 1 < ((w.alloc (.cells #[.string ⟨#[]⟩, .int .i64 0, .int .i64 0, .string ⟨#[]⟩] 47)).alloc (.cells (Lib.cellsOf [x0, x1, x2, x3] (min 4 (s.size + 1))) 9)).heap.size := by simp
  rw [World.size_alloc] at hat hcall2
  generalize (w.alloc (.cells #[.string ⟨#[]⟩, .int .i64 0, .int .i64 0, .string ⟨#[]⟩] 47)).alloc (.cells (Lib.cellsOf [x0, x1, x2, x3] (min 4 (s.size + 1))) 9) = W at *
  have c0 : W.cell? ⟨w.heap.size + 1, 0, none⟩ = some (.string x0) := hat.2 0 (by simp)
  have c1 : W.cell? ⟨w.heap.size + 1, 1, none⟩ = some (.string x1) := hat.2 1 (by simp)
  have c2 : W.cell? ⟨w.heap.size + 1, 2, none⟩ = some (.string x2) := hat.2 2 (by simp)
  have c3 : W.cell? ⟨w.heap.size + 1, 3, none⟩ = some (.string x3) := hat.2 3 (by simp)
  have t0 : x0.size ≤ 3000 := by have := hsz x0 (by simp); omega
  have t1 : x1.size ≤ 3000 := by have := hsz x1 (by simp); omega
  have t3 : x3.size ≤ 3000 := by have := hsz x3 (by simp); omega
  have s0 : x0.size ≤ maxLen := by unfold maxLen; omega
  have s1 : x1.size ≤ maxLen := by unfold maxLen; omega
  simp only [List.length_cons, List.length_nil, Nat.zero_add, Nat.reduceAdd] at hcall2
  have hz0 : w.heap.size < W.heap.size := by omega
  have HC := hide hcall2
  have HB := hide hbW
  clear hcall2 hbW hat hsz h4
  cases v0 : Sp.valid x0.data.toList
  · go_enter Tryz.func99, Tryz.ntmps99
    go_wp2_with fail
    refine (unhide HC).mono ?_
    rintro e w' ⟨rfl, rfl⟩
    go_wp2_with fail
    refine (valid_any x0 _ hgW s0).mono ?_
    rintro e w1 ⟨rfl, hb1⟩
    obtain ⟨bc, bf⟩ := bcell hb1
    go_wp2_with fail
    refine bodyPost_ret (v := recR none) (by simp [results, Tryz.results99, go_sem, recR, Rec.val, Rec.zero, Rec.owner, Rec.ttl, Rec.type, Rec.data, B, bc, r0, r1, r2, r3, hz0]) rfl ⟨by simp, ?_⟩
    exact (((((unhide HB).trans (hb1.mono (by omega))).setCell (Nat.le_refl _) _).setCell (Nat.le_refl _) _).setCell (Nat.le_refl _) _).setCell (Nat.le_refl _) _
  cases v1 : numB 86400 x1.data.toList
  · go_enter Tryz.func99, Tryz.ntmps99
    go_wp2_with fail
    refine (unhide HC).mono ?_
    rintro e w' ⟨rfl, rfl⟩
    go_wp2_with fail
    refine (valid_any x0 _ hgW s0).mono ?_
    rintro e w1 ⟨rfl, hb1⟩
    obtain ⟨bc, bf⟩ := bcell hb1
    go_wp2_with fail
    refine (readNumber_any x1 86400 _ s1 (by omega)).mono ?_
    rintro e w2 ⟨rfl, rfl⟩
    go_wp2_with fail
    refine (kindOf_any x2 _).mono ?_
    rintro e w2 ⟨rfl, rfl⟩
    go_wp2_with fail
    refine bodyPost_ret (v := recR none) (by simp [results, Tryz.results99, go_sem, recR, Rec.val, Rec.zero, Rec.owner, Rec.ttl, Rec.type, Rec.data, B,  bc, r0, r1, r2, r3, hz0]) rfl ⟨by simp, ?_⟩
    exact (((((unhide HB).trans (hb1.mono (by omega))).setCell (Nat.le_refl _) _).setCell (Nat.le_refl _) _).setCell (Nat.le_refl _) _).setCell (Nat.le_refl _) _
  cases v2 : isData (Pu.kindOf x2.data.toList) (Sp.spl 32 x3.data.toList)
  all_goals
    go_enter Tryz.func99, Tryz.ntmps99
    go_wp2_with fail
    refine (unhide HC).mono ?_
    rintro e w' ⟨rfl, rfl⟩
    go_wp2_with fail
    refine (valid_any x0 _ hgW s0).mono ?_
    rintro e w1 ⟨rfl, hb1⟩
    obtain ⟨bc, bf⟩ := bcell hb1
    have hg1 := hgW.below hb1
    go_wp2_with fail
    refine (readNumber_any x1 86400 _ s1 (by omega)).mono ?_
    rintro e w2 ⟨rfl, rfl⟩
    go_wp2_with fail
    refine (kindOf_any x2 _).mono ?_
    rintro e w2 ⟨rfl, rfl⟩
    go_wp2_with fail
    refine (split_any x3 32 _ hg1 (by omega)).mono ?_
    rintro e w3 ⟨rfl, hw3⟩
    have hb3 : Below w2.heap.size w2 w3 := by rw [hw3]; exact (Below.refl _ _).alloc (Nat.le_refl _) _
    have hat3 : StrsAt w3 w2.heap.size 0 (Sp.pieces 32 x3) := by rw [hw3]; exact strsAt_alloc _ _
    have hg3 := hg1.below hb3
    clear hw3
    have hnv : (numV 86400 x1.data.toList : Int) ≤ 86400 := by have := numV_le 86400 x1.data.toList; omega
    go_wp2_with fail
    refine (isData_pieces _ _ x3 _ hg3 hat3 t3).mono ?_
    rintro e w4 ⟨rfl, hb4⟩
    have hb14 : Below w'.heap.size w' w4 := hb1.trans ((hb3.trans (hb4.mono hb3.size)).mono hb1.size)
    clear bc bf hat3 hg3 hb3 hb4 hb1 hg1
    obtain ⟨bc, bf⟩ := bcell hb14
    go_wp2_with fail
  · refine bodyPost_ret (v := recR none) (by simp [results, Tryz.results99, go_sem, recR, Rec.val, Rec.zero, Rec.owner, Rec.ttl, Rec.type, Rec.data, B,  bc, r0, r1, r2, r3, hz0]) rfl ⟨by simp, ?_⟩
    exact (((((unhide HB).trans (hb14.mono (by omega))).setCell (Nat.le_refl _) _).setCell (Nat.le_refl _) _).setCell (Nat.le_refl _) _).setCell (Nat.le_refl _) _
  · go_region
    all_goals
      go_wp2
      refine bodyPost_ret (v := recR (some (x0.data.toList, numV 86400 x1.data.toList, Pu.kindOf x2.data.toList, x3.data.toList))) (by simp [results, Tryz.results99, go_sem, recR, Rec.val, Rec.owner, Rec.ttl, Rec.type, Rec.data, B_data, bc, r0, r1, r2, r3, hz0]) rfl ⟨by simp, ?_⟩
      exact ((((((unhide HB).trans (hb14.mono (by omega))).setCell (Nat.le_refl _) _).setCell (Nat.le_refl _) _).setCell (Nat.le_refl _) _).setCell (Nat.le_refl _) _).drew

theorem readRecord_any (s : ByteArray) (w : World) (hg : G w) (hs : s.size ≤ 3000) :
    Calls Tryz.prog 99 #[.string s] w fun e w' => e = .returned (recR (readRec s.data.toList)) ∧ Below w.heap.size w w' := by
  by_cases h4 : (four s).length = 4
  · match h : four s, h4 with
    | [x0, x1, x2, x3], _ =>
    have e : readRec s.data.toList = if Sp.valid x0.data.toList && numB 86400 x1.data.toList && isData (Pu.kindOf x2.data.toList) (Sp.spl 32 x3.data.toList) then some (x0.data.toList, numV 86400 x1.data.toList, Pu.kindOf x2.data.toList, x3.data.toList) else none := by
      unfold readRec
      rw [← four_data, h]
      rfl
    rw [e]
    exact readRecord_four s x0 x1 x2 x3 w hg hs h
  · have e : readRec s.data.toList = none := by
      unfold readRec
      split
      · rename_i he
        rw [← four_data] at he
        exact absurd (by have := congrArg List.length he; simpa using this) h4
      · rfl
    rw [e]
    exact readRecord_short s w hg hs h4
end Rd
end Go.Proofs.YtkkpahmoljiepaaGreatDoor
