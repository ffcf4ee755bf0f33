/- Contracts: cmp.Compare at string, cmp.Or at int, the comparison of records.Sort. -/
import Derived.Test.YtjkllohiodfikaaGreatDoorIa
import Derived.Deep.RegionHeld
set_option linter.unusedSimpArgs false
set_option linter.unusedVariables false
namespace Go.Proofs.YtjkllohiodfikaaGreatDoor
open Go.RowKit
open Pu (Str hide unhide)

namespace Sa
open Ka Kd

set_option maxHeartbeats 400000 in
theorem isNaN_str (s : ByteArray) (w : World) : Calls Tryz.prog 134 #[.string s] w fun e w' => e = .returned (.bool false) ∧ w' = w := by
  go_enter Tryz.func134, Tryz.ntmps134
  go_wp2
  go_ret
  exact ⟨by simp, rfl⟩

def cmpS (a b : Str) : Int := if Op.bytesLess a b then -1 else if a == b then 0 else 1
set_option maxHeartbeats 400000 in
theorem compare_str (s t : ByteArray) (w : World) : Calls Tryz.prog 78 #[.string s, .string t] w fun e w' => e = .returned (.int .i64 (cmpS s.data.toList t.data.toList)) ∧ w' = w := by
  go_enter Tryz.func78, Tryz.ntmps78
  go_wp2_with (go_at_call 134; refine (isNaN_str _ _).mono ?_; rintro e w ⟨rfl, rfl⟩)
  all_goals
    go_ret
    refine ⟨ret_int ?_, rfl⟩
    unfold cmpS
    simp only [ByteArray.toList_eq] at *
    simp_all

def orV (x y : Int) : Int := if x = 0 then y else x

set_option maxHeartbeats 400000 in
theorem or2 (x y : Int) (b c : Nat) (w : World) (h0 : w.cell? ⟨b, 0, none⟩ = some (.int .i64 x)) (h1 : w.cell? ⟨b, 1, none⟩ = some (.int .i64 y)) :
    Calls Tryz.prog 77 #[.slice (some ⟨b, 0, none⟩) 2 c] w fun e w' => e = .returned (.int .i64 (orV x y)) ∧ w' = w := by
  by_cases hx : x = 0
  · have hfin : Hid (orV x y = y) := if_pos hx
    subst hx
    by_cases hy : y = 0
    · subst hy
      go_enter Tryz.func77, Tryz.ntmps77
      go_wp2
      go_loop [8] (fun i => ∃ k : Nat, k ≤ 2 ∧ i = .int .i64 k) (fun i => 2 - (intOf i).toNat)
      case atStart => exact ⟨0, by omega, rfl⟩
      case round =>
        obtain ⟨k, hk, rfl⟩ := hrel
        match k, hk with
        | 0, _ =>
          go_wp2
          go_round
          case rel => exact ⟨1, by omega, by go_num⟩
          case measure => simp [intOf]
        | 1, _ =>
          go_wp2
          go_round
          case rel => exact ⟨2, by omega, by go_num⟩
          case measure => simp [intOf]
        | 2, _ =>
          go_wp2
          go_ret
          exact ⟨ret_int (unhide hfin).symm, rfl⟩
    · have hyb : (y != 0) = true := by rw [bne_iff_ne]; exact hy
      go_enter Tryz.func77, Tryz.ntmps77
      go_wp2
      go_loop [8] (fun i => ∃ k : Nat, k ≤ 1 ∧ i = .int .i64 k) (fun i => 2 - (intOf i).toNat)
      case atStart => exact ⟨0, by omega, rfl⟩
      case round =>
        obtain ⟨k, hk, rfl⟩ := hrel
        match k, hk with
        | 0, _ =>
          go_wp2
          go_round
          case rel => exact ⟨1, by omega, by go_num⟩
          case measure => simp [intOf]
        | 1, _ =>
          go_wp2
          go_ret
          exact ⟨ret_int (unhide hfin).symm, rfl⟩
  · have hxb : (x != 0) = true := by rw [bne_iff_ne]; exact hx
    have hfin : Hid (orV x y = x) := if_neg hx
    go_enter Tryz.func77, Tryz.ntmps77
    go_wp2
    go_loop [8] (fun i => i = .int .i64 0) (fun i => 2 - (intOf i).toNat)
    case atStart => rfl
    case round =>
      obtain rfl := hrel
      go_wp2
      go_ret
      exact ⟨ret_int (unhide hfin).symm, rfl⟩

/-- the order of records: by owners, then by types. -/
def cmpR (r s : Rec) : Int := orV (cmpS r.owner s.owner) (Lib.compareInt r.type s.type)

set_option maxHeartbeats 1600000 in
theorem sorted1 (r s : Rec) (w : World) :
    Calls Tryz.prog 76 #[.agg #[.string (B r.owner), .int .i64 r.ttl, .int .i64 r.type, .string (B r.data)], .agg #[.string (B s.owner), .int .i64 s.ttl, .int .i64 s.type, .string (B s.data)]] w fun e w' =>
      e = .returned (.int .i64 (cmpR r s)) ∧ ∃ q os', w' = Sort.grow (w.drewN q) os' := by
  have hc1 : ∀ W, Calls Tryz.prog 78 #[.string (B r.owner), .string (B s.owner)] W fun e w' => e = .returned (.int .i64 (cmpS r.owner s.owner)) ∧ w' = W := fun W => compare_str _ _ W
  have hc2 : ∀ W, Calls Tryz.prog 79 #[.int .i64 r.type, .int .i64 s.type] W fun e w' => e = .returned (.int .i64 (Lib.compareInt r.type s.type)) ∧ w' = W := fun W => Tryz.cmp_Compare_int _ _ W
  have HC1 := hide hc1
  have HC2 := hide hc2
  have hfin : Hid (cmpR r s = orV (cmpS r.owner s.owner) (Lib.compareInt r.type s.type)) := rfl
  generalize cmpS r.owner s.owner = x at *
  generalize Lib.compareInt r.type s.type = y at *
  clear hc1 hc2
  go_enter Tryz.func76, Tryz.ntmps76
  go_wp2_with fail
  go_region_held (fun w' => w'.cell? ⟨w.heap.size, 0, none⟩ = some (.string (B r.owner)) ∧ w'.cell? ⟨w.heap.size, 2, none⟩ = some (.int .i64 r.type) ∧ w'.cell? ⟨w.heap.size + 1, 0, none⟩ = some (.string (B s.owner)) ∧ w'.cell? ⟨w.heap.size + 1, 2, none⟩ = some (.int .i64 s.type)) (go_keep)
    (first
      | (go_at_call 78; refine (unhide HC1 _).mono ?_; rintro e w' ⟨rfl, rfl⟩)
      | (go_at_call 79; refine (unhide HC2 _).mono ?_; rintro e w' ⟨rfl, rfl⟩)
      | (go_at_call 77; refine (or2 x y _ _ _ (by go_simp) (by go_simp)).mono ?_; rintro e w' ⟨rfl, rfl⟩))
  all_goals
    go_wp2_with fail
    go_ret
    refine ⟨ret_int (unhide hfin).symm, 1, #[.cells #[.string (B r.owner), .int .i64 r.ttl, .int .i64 r.type, .string (B r.data)] 47, .cells #[.string (B s.owner), .int .i64 s.ttl, .int .i64 s.type, .string (B s.data)] 47, .cells #[.int .i64 x, .int .i64 y] 3], ?_⟩
    rw [Sort.alloc_eq_grow, Sort.alloc_eq_grow, Sort.alloc_eq_grow, Sort.grow_grow, Sort.grow_grow]
    rfl
end Sa
end Go.Proofs.YtjkllohiodfikaaGreatDoor
