/- Contract: (*zone.Zone).Lookup of a plain search. -/
import Derived.Test.YtjkllohiodfikaaGreatDoorLj
set_option linter.unusedSimpArgs false
set_option linter.unusedVariables false
namespace Go.Proofs.YtjkllohiodfikaaGreatDoor
open Go.RowKit
open Pu (Str hide unhide)

namespace Lk
open Ka Kd Rf Rg Ia Iow Ie Zb Zc Za La Lb Re Lc Le Lf Lg Lh Li Ld Lj

set_option maxRecDepth 100000 in
set_option maxHeartbeats 1600000 in
theorem lookup_plain (zb b off cap : Nat) (k : Int) (o n : Str) (rs : List Rec) (w : World) (hz : TableAt w zb o b off cap rs) (hg : G w) (hp : Plain o n rs k) (hpl : Sp.plain n = true) (hk1 : 1 ≤ k) (hk2 : k ≤ 65535) :
    Calls Tryz.prog 20 #[.pointer (some ⟨zb, 0, none⟩), .string (B n), .int .i64 k] w fun e w' =>
      (∃ va vb, e = .returned (.tuple #[.agg #[.int .i64 (stepRc o rs n), .bool (decide ((cutP o rs n).length = 0)), va, vb, .slice none 0 0], .int .i64 0]) ∧ OwnR w' w.heap.size va (stepAns o rs k n) ∧ OwnR w' w.heap.size vb (stepAuth o rs k n)) ∧ Below w.heap.size w w' := by
  have hnl := hp.len
  have hbx : Below w.heap.size w (w.alloc (.cells #[.int .i64 0, .bool false, .slice none 0 0, .slice none 0 0, .slice none 0 0] 43)) := (Below.refl _ _).alloc (Nat.le_refl _) _
  have HPL : Hid (Calls Tryz.prog 50 #[.string (B n)] (w.alloc (.cells #[.int .i64 0, .bool false, .slice none 0 0, .slice none 0 0, .slice none 0 0] 43)) fun e w' => e = .returned (.bool true) ∧ Below (w.alloc (.cells #[.int .i64 0, .bool false, .slice none 0 0, .slice none 0 0, .slice none 0 0] 43)).heap.size (w.alloc (.cells #[.int .i64 0, .bool false, .slice none 0 0, .slice none 0 0, .slice none 0 0] 43)) w') := by
    have := plain_any (B n) (w.alloc (.cells #[.int .i64 0, .bool false, .slice none 0 0, .slice none 0 0, .slice none 0 0] 43)) (hg.below hbx) (by rw [size_B]; simp [maxLen]; omega)
    rw [data_B, hpl] at this
    exact this
  have HA := hide (fun W (hb : Below w.heap.size w W) => answer_plain zb b off cap k o n rs W (hz.below hb) (hg.below hb) hp)
  clear hz hg hp hpl
  go_enter Tryz.func20, Tryz.ntmps20
  go_wp2_with fail
  refine (unhide HPL).mono ?_
  rintro e w1 ⟨rfl, hb1⟩
  have hB1 : Below w.heap.size w w1 := hbx.trans (hb1.mono (by simp <;> omega))
  have r1 : AnsAt w1 w.heap.size (.int .i64 0) (.bool false) (.slice none 0 0) (.slice none 0 0) (.slice none 0 0) := (hb1.block w.heap.size (by simp)).trans (heap_alloc_new w _)
  have rl := (Array.getElem?_eq_some_iff.1 r1).1
  clear hbx hb1 HPL
  go_wp2_with fail
  refine (Pa.clone_any (B n) w1 (by rw [size_B]; omega)).mono ?_
  rintro e w2 ⟨rfl, hb2⟩
  have hB2 := hB1.trans (hb2.mono hB1.size)
  have r2 : AnsAt w2 w.heap.size (.int .i64 0) (.bool false) (.slice none 0 0) (.slice none 0 0) (.slice none 0 0) := (hb2.block w.heap.size rl).trans r1
  have rl2 := Nat.lt_of_lt_of_le rl hb2.size
  clear r1
  go_wp2_with fail
  refine (unhide HA w2 hB2).mono ?_
  rintro e w7 ⟨⟨va, vb, rfl, hva, hvb⟩, hb7⟩
  have r7 : AnsAt w7 w.heap.size (.int .i64 0) (.bool false) (.slice none 0 0) (.slice none 0 0) (.slice none 0 0) := (hb7.block w.heap.size rl2).trans r2
  obtain ⟨aa, ca, rfl⟩ := hva.slice
  obtain ⟨ab, cb', rfl⟩ := hvb.slice
  obtain ⟨k0, k1, k2, k3, k4⟩ := AnsAt.cells r7
  have kf0 := AnsAt.frozen r7 0
  have kf1 := AnsAt.frozen r7 1
  have kf2 := AnsAt.frozen r7 2
  have kf3 := AnsAt.frozen r7 3
  have kf4 := AnsAt.frozen r7 4
  have hRV := hide (And.intro hva hvb)
  have R7 := hide r7
  clear hva hvb r2 r7
  obtain ⟨au, hau⟩ : ∃ au : Bool, au = decide ((cutP o rs n).length = 0) := ⟨_, rfl⟩
  rw [← hau]
  have HAU := hide hau
  clear hau
  go_wp2_with fail
  have A9 := (((((unhide R7).set0 (.int .i64 (stepRc o rs n))).set1 (.bool au)).set2 (.slice aa (stepAns o rs k n).length ca)).set3 (.slice ab (stepAuth o rs k n).length cb')).set4 (.slice none 0 0)
  obtain ⟨n0, n1, n2, n3, n4⟩ := A9.cells
  have hB7 := hB2.trans (hb7.mono hB2.size)
  have hs2 := hB2.size
  have hrvs := unhide hRV
  refine bodyPost_ret (v := .tuple #[.agg #[.int .i64 (stepRc o rs n), .bool au, .slice aa (stepAns o rs k n).length ca, .slice ab (stepAuth o rs k n).length cb', .slice none 0 0], .int .i64 0]) ?_ rfl ?_
  · simp [results, Tryz.results20, go_sem, n0, n1, n2, n3, n4]
  · refine ⟨⟨_, _, by rw [unhide HAU], ?_, ?_⟩, ?_⟩
    · exact (((((hrvs.1.set_low (k := w.heap.size) (i := 0) (by omega) _).set_low (k := w.heap.size) (i := 1) (by omega) _).set_low (k := w.heap.size) (i := 2) (by omega) _).set_low (k := w.heap.size) (i := 3) (by omega) _).set_low (k := w.heap.size) (i := 4) (by omega) _).base (by omega)
    · exact (((((hrvs.2.set_low (k := w.heap.size) (i := 0) (by omega) _).set_low (k := w.heap.size) (i := 1) (by omega) _).set_low (k := w.heap.size) (i := 2) (by omega) _).set_low (k := w.heap.size) (i := 3) (by omega) _).set_low (k := w.heap.size) (i := 4) (by omega) _).base (by omega)
    · exact ((((hB7.setCell (p := ⟨w.heap.size, 0, none⟩) (Nat.le_refl _) _).setCell (p := ⟨w.heap.size, 1, none⟩) (Nat.le_refl _) _).setCell (p := ⟨w.heap.size, 2, none⟩) (Nat.le_refl _) _).setCell (p := ⟨w.heap.size, 3, none⟩) (Nat.le_refl _) _).setCell (p := ⟨w.heap.size, 4, none⟩) (Nat.le_refl _) _
end Lk
end Go.Proofs.YtjkllohiodfikaaGreatDoor
