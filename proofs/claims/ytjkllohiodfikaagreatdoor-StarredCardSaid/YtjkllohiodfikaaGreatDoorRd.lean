/- Contract: zone.readRecord. -/
import Derived.Test.YtjkllohiodfikaaGreatDoorRc
import Derived.RegionTactic
import Derived.ChangeAlike
set_option linter.unusedSimpArgs false
set_option linter.unusedVariables false
namespace Go.Proofs.YtjkllohiodfikaaGreatDoor
open Go.RowKit
open Pu (Str hide unhide)
namespace Rd
open Ka Kb Kd Ke Kf Rc

theorem numV_le (most : Nat) (l : Str) : numV most l ≤ most := by
  unfold numV Pu.num
  cases l with
  | nil => simp
  | cons c r =>
    simp only []
    split
    · simp
    · cases h : Pu.numFrom most 0 (c :: r) with
      | none => simp
      | some m => simpa using numFrom_le _ _ _ h (Nat.zero_le _)

theorem isData_pieces (k : Int) (b : Nat) (x : ByteArray) (w : World) (hg : G w) (hat : StrsAt w b 0 (Sp.pieces 32 x)) (hx : x.size ≤ 3000) :
    Calls Tryz.prog 130 #[.int .i64 k, .slice (some ⟨b, 0, none⟩) (Sp.pieces 32 x).length (Sp.pieces 32 x).length] w fun e w' => e = .returned (.bool (isData k (Sp.spl 32 x.data.toList))) ∧ Below w.heap.size w w' := by
  rw [← Sp.pieces_data]
  refine isData_any k b _ _ w hg hat (fun y hy => Nat.le_trans (Sp.piece_size 32 x y hy) hx) ?_
  have := Sp.spl_len_le 32 x.data.toList
  rw [← Sp.pieces_data, List.length_map, Pu.len_eq] at this
  omega

set_option maxHeartbeats 1600000 in
theorem readRecord_four (s x0 x1 x2 x3 : ByteArray) (w : World) (hg : G w) (hs : s.size ≤ 3000) (h4 : four s = [x0, x1, x2, x3]) :
    Calls Tryz.prog 72 #[.string s] w fun e w' =>
      e = .returned (recR (if Sp.valid x0.data.toList && numB 86400 x1.data.toList && isData (Pu.kindOf x2.data.toList) (Sp.spl 32 x3.data.toList) then some (x0.data.toList, numV 86400 x1.data.toList, Pu.kindOf x2.data.toList, x3.data.toList) else none)) ∧ Below w.heap.size w w' := by
  have hcall2 := splitN_any s (w.alloc (.cells #[.string ⟨#[]⟩, .int .i64 0, .int .i64 0, .string ⟨#[]⟩] 47)) (hg.alloc _) hs
  have hsz := four_size s
  have hat := strsAt_cellsOf (w.alloc (.cells #[.string ⟨#[]⟩, .int .i64 0, .int .i64 0, .string ⟨#[]⟩] 47)) (four s) (min 4 (s.size + 1))
  rw [h4] at hcall2 hsz hat
  have hgW : G ((w.alloc (.cells #[.string ⟨#[]⟩, .int .i64 0, .int .i64 0, .string ⟨#[]⟩] 47)).alloc (.cells (Lib.cellsOf [x0, x1, x2, x3] (min 4 (s.size + 1))) 9)) := (hg.alloc _).alloc _
  have hbW : Below w.heap.size w ((w.alloc (.cells #[.string ⟨#[]⟩, .int .i64 0, .int .i64 0, .string ⟨#[]⟩] 47)).alloc (.cells (Lib.cellsOf [x0, x1, x2, x3] (min 4 (s.size + 1))) 9)) :=
    ((Below.refl _ _).alloc (Nat.le_refl _) _).alloc (by simp) _
  have r0 : ((w.alloc (.cells #[.string ⟨#[]⟩, .int .i64 0, .int .i64 0, .string ⟨#[]⟩] 47)).alloc (.cells (Lib.cellsOf [x0, x1, x2, x3] (min 4 (s.size + 1))) 9)).cell? ⟨w.heap.size, 0, none⟩ = some (.string ⟨#[]⟩) := by simp
  have r1 : ((w.alloc (.cells #[.string ⟨#[]⟩, .int .i64 0, .int .i64 0, .string ⟨#[]⟩] 47)).alloc (.cells (Lib.cellsOf [x0, x1, x2, x3] (min 4 (s.size + 1))) 9)).cell? ⟨w.heap.size, 1, none⟩ = some (.int .i64 0) := by simp
  have r2 : ((w.alloc (.cells #[.string ⟨#[]⟩, .int .i64 0, .int .i64 0, .string ⟨#[]⟩] 47)).alloc (.cells (Lib.cellsOf [x0, x1, x2, x3] (min 4 (s.size + 1))) 9)).cell? ⟨w.heap.size, 2, none⟩ = some (.int .i64 0) := by simp
  have r3 : ((w.alloc (.cells #[.string ⟨#[]⟩, .int .i64 0, .int .i64 0, .string ⟨#[]⟩] 47)).alloc (.cells (Lib.cellsOf [x0, x1, x2, x3] (min 4 (s.size + 1))) 9)).cell? ⟨w.heap.size, 3, none⟩ = some (.string ⟨#[]⟩) := by simp
  have rf : ∀ i, ((w.alloc (.cells #[.string ⟨#[]⟩, .int .i64 0, .int .i64 0, .string ⟨#[]⟩] 47)).alloc (.cells (Lib.cellsOf [x0, x1, x2, x3] (min 4 (s.size + 1))) 9)).frozen? ⟨w.heap.size, i, none⟩ = false := by intro i; simp
  have hzz : w.heap.size + 1 < ((w.alloc (.cells #[.string ⟨#[]⟩, .int .i64 0, .int .i64 0, .string ⟨#[]⟩] 47)).alloc (.cells (Lib.cellsOf [x0, x1, x2, x3] (min 4 (s.size + 1))) 9)).heap.size := by simp
  rw [World.size_alloc] at hat hcall2
  generalize (w.alloc (.cells #[.string ⟨#[]⟩, .int .i64 0, .int .i64 0, .string ⟨#[]⟩] 47)).alloc (.cells (Lib.cellsOf [x0, x1, x2, x3] (min 4 (s.size + 1))) 9) = W at *
  have c0 : W.cell? ⟨w.heap.size + 1, 0, none⟩ = some (.string x0) := hat.2 0 (by simp)
  have c1 : W.cell? ⟨w.heap.size + 1, 1, none⟩ = some (.string x1) := hat.2 1 (by simp)
  have c2 : W.cell? ⟨w.heap.size + 1, 2, none⟩ = some (.string x2) := hat.2 2 (by simp)
  have c3 : W.cell? ⟨w.heap.size + 1, 3, none⟩ = some (.string x3) := hat.2 3 (by simp)
  have t0 : x0.size ≤ 3000 := by have := hsz x0 (by simp); omega
  have t1 : x1.size ≤ 3000 := by have := hsz x1 (by simp); omega
  have t3 : x3.size ≤ 3000 := by have := hsz x3 (by simp); omega
  have s0 : x0.size ≤ maxLen := by unfold maxLen; omega
  have s1 : x1.size ≤ maxLen := by unfold maxLen; omega
  simp only [List.length_cons, List.length_nil, Nat.zero_add, Nat.reduceAdd] at hcall2
  have hz0 : w.heap.size < W.heap.size := by omega
  have HC := hide hcall2
  have HB := hide hbW
  clear hcall2 hbW hat hsz h4
  cases v0 : Sp.valid x0.data.toList
  · go_enter Tryz.func72, Tryz.ntmps72
    go_wp2_with fail
    refine (unhide HC).mono ?_
    rintro e w' ⟨rfl, rfl⟩
    go_wp2_with fail
    refine (valid_any x0 _ hgW s0).mono ?_
    rintro e w1 ⟨rfl, hb1⟩
    obtain ⟨bc, bf⟩ := bcell hb1
    go_wp2_with fail
    refine bodyPost_ret (v := recR none) (by simp [results, Tryz.results72, go_sem, recR, Rec.val, Rec.zero, Rec.owner, Rec.ttl, Rec.type, Rec.data, B, bc, r0, r1, r2, r3, hz0]) rfl ⟨by simp, ?_⟩
    exact (((((unhide HB).trans (hb1.mono (by omega))).setCell (Nat.le_refl _) _).setCell (Nat.le_refl _) _).setCell (Nat.le_refl _) _).setCell (Nat.le_refl _) _
  cases v1 : numB 86400 x1.data.toList
  · go_enter Tryz.func72, Tryz.ntmps72
    go_wp2_with fail
    refine (unhide HC).mono ?_
    rintro e w' ⟨rfl, rfl⟩
    go_wp2_with fail
    refine (valid_any x0 _ hgW s0).mono ?_
    rintro e w1 ⟨rfl, hb1⟩
    obtain ⟨bc, bf⟩ := bcell hb1
    go_wp2_with fail
    refine (readNumber_any x1 86400 _ s1 (by omega)).mono ?_
    rintro e w2 ⟨rfl, rfl⟩
    go_wp2_with fail
    refine (kindOf_any x2 _).mono ?_
    rintro e w2 ⟨rfl, rfl⟩
    go_wp2_with fail
    refine bodyPost_ret (v := recR none) (by simp [results, Tryz.results72, go_sem, recR, Rec.val, Rec.zero, Rec.owner, Rec.ttl, Rec.type, Rec.data, B,  bc, r0, r1, r2, r3, hz0]) rfl ⟨by simp, ?_⟩
    exact (((((unhide HB).trans (hb1.mono (by omega))).setCell (Nat.le_refl _) _).setCell (Nat.le_refl _) _).setCell (Nat.le_refl _) _).setCell (Nat.le_refl _) _
  cases v2 : isData (Pu.kindOf x2.data.toList) (Sp.spl 32 x3.data.toList)
  all_goals
    go_enter Tryz.func72, Tryz.ntmps72
    go_wp2_with fail
    refine (unhide HC).mono ?_
    rintro e w' ⟨rfl, rfl⟩
    go_wp2_with fail
    refine (valid_any x0 _ hgW s0).mono ?_
    rintro e w1 ⟨rfl, hb1⟩
    obtain ⟨bc, bf⟩ := bcell hb1
    have hg1 := hgW.below hb1
    go_wp2_with fail
    refine (readNumber_any x1 86400 _ s1 (by omega)).mono ?_
    rintro e w2 ⟨rfl, rfl⟩
    go_wp2_with fail
    refine (kindOf_any x2 _).mono ?_
    rintro e w2 ⟨rfl, rfl⟩
    go_wp2_with fail
    refine (split_any x3 32 _ hg1 (by omega)).mono ?_
    rintro e w3 ⟨rfl, hw3⟩
    have hb3 : Below w2.heap.size w2 w3 := by rw [hw3]; exact (Below.refl _ _).alloc (Nat.le_refl _) _
    have hat3 : StrsAt w3 w2.heap.size 0 (Sp.pieces 32 x3) := by rw [hw3]; exact strsAt_alloc _ _
    have hg3 := hg1.below hb3
    clear hw3
    have hnv : (numV 86400 x1.data.toList : Int) ≤ 86400 := by have := numV_le 86400 x1.data.toList; omega
    go_wp2_with fail
    refine (isData_pieces _ _ x3 _ hg3 hat3 t3).mono ?_
    rintro e w4 ⟨rfl, hb4⟩
    have hb14 : Below w'.heap.size w' w4 := hb1.trans ((hb3.trans (hb4.mono hb3.size)).mono hb1.size)
    clear bc bf hat3 hg3 hb3 hb4 hb1 hg1
    obtain ⟨bc, bf⟩ := bcell hb14
    go_wp2_with fail
  · refine bodyPost_ret (v := recR none) (by simp [results, Tryz.results72, go_sem, recR, Rec.val, Rec.zero, Rec.owner, Rec.ttl, Rec.type, Rec.data, B,  bc, r0, r1, r2, r3, hz0]) rfl ⟨by simp, ?_⟩
    exact (((((unhide HB).trans (hb14.mono (by omega))).setCell (Nat.le_refl _) _).setCell (Nat.le_refl _) _).setCell (Nat.le_refl _) _).setCell (Nat.le_refl _) _
  · go_region
    all_goals
      go_wp2
      refine bodyPost_ret (v := recR (some (x0.data.toList, numV 86400 x1.data.toList, Pu.kindOf x2.data.toList, x3.data.toList))) (by simp [results, Tryz.results72, go_sem, recR, Rec.val, Rec.owner, Rec.ttl, Rec.type, Rec.data, B_data, bc, r0, r1, r2, r3, hz0]) rfl ⟨by simp, ?_⟩
      exact ((((((unhide HB).trans (hb14.mono (by omega))).setCell (Nat.le_refl _) _).setCell (Nat.le_refl _) _).setCell (Nat.le_refl _) _).setCell (Nat.le_refl _) _).drew

theorem readRecord_any (s : ByteArray) (w : World) (hg : G w) (hs : s.size ≤ 3000) :
    Calls Tryz.prog 72 #[.string s] w fun e w' => e = .returned (recR (readRec s.data.toList)) ∧ Below w.heap.size w w' := by
  by_cases h4 : (four s).length = 4
  · match h : four s, h4 with
    | [x0, x1, x2, x3], _ =>
    have e : readRec s.data.toList = if Sp.valid x0.data.toList && numB 86400 x1.data.toList && isData (Pu.kindOf x2.data.toList) (Sp.spl 32 x3.data.toList) then some (x0.data.toList, numV 86400 x1.data.toList, Pu.kindOf x2.data.toList, x3.data.toList) else none := by
      unfold readRec
      rw [← four_data, h]
      rfl
    rw [e]
    exact readRecord_four s x0 x1 x2 x3 w hg hs h
  · have e : readRec s.data.toList = none := by
      unfold readRec
      split
      · rename_i he
        rw [← four_data] at he
        exact absurd (by have := congrArg List.length he; simpa using this) h4
      · rfl
    rw [e]
    exact readRecord_short s w hg hs h4
end Rd
end Go.Proofs.YtjkllohiodfikaaGreatDoor
