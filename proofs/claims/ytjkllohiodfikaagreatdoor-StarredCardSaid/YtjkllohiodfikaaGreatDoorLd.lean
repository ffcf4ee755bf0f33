/- Contracts: lookup's cancel: newCancel, asked, call. -/
import Derived.Test.YtjkllohiodfikaaGreatDoorLb
import Derived.Conc.LoneSelect
import Derived.Conc.EventLaws
import Derived.KernelRfl
import Derived.Laws.Rows
set_option linter.unusedSimpArgs false
set_option linter.unusedVariables false
namespace Go.Proofs.YtjkllohiodfikaaGreatDoor
open Go.RowKit Go.Conc
open Pu (Str hide unhide)

/-- a cancel in memory: its channel, closed or not. -/
def CancelAt (w : World) (cb c : Nat) (shut : Bool) : Prop :=
  cb < w.heap.size ∧ w.cell? ⟨cb, 0, none⟩ = some (.chan (some c)) ∧ ∃ s r tm, w.heap[c]? = some (.chan 0 #[] shut s r tm)
theorem CancelAt.below {w w' : World} {cb c n : Nat} {shut : Bool} (h : CancelAt w cb c shut) (hb : Below n w w') (h1 : cb < n) (h2 : c < n) : CancelAt w' cb c shut := by
  obtain ⟨a, b, s, r, tm, d⟩ := h
  exact ⟨Nat.lt_of_lt_of_le a hb.size, (hb.cell (p := ⟨cb, 0, none⟩) h1).trans b, s, r, tm, (hb.block c h2).trans d⟩
theorem CancelAt.lt {w : World} {cb c : Nat} {shut : Bool} (h : CancelAt w cb c shut) : c < w.heap.size := by
  obtain ⟨_, _, _, _, _, h⟩ := h
  exact (Array.getElem?_eq_some_iff.1 h).1

namespace Ld
open Ka

theorem bytesE : ∃ i, Tryz.prog.info? 259 = some i ∧ i.bytes = 0 := by
  have h : (Tryz.prog.info? 259).map (·.bytes) = some 0 := by kernel_rfl
  obtain ⟨i, hi, hb⟩ := Option.map_eq_some_iff.1 h
  exact ⟨i, hi, hb⟩
theorem mk0 (w : World) : (Instr.makeChan 204 (.int .i64 0)).run Tryz.prog w = .ok (.chan (some w.heap.size)) (w.alloc (.chan 0 #[] false 0 0 false)) := by
  obtain ⟨i, hi, hb⟩ := bytesE
  simpa using run_makeChan (P := Tryz.prog) (w := w) Tryz.underlying204 hi .i64 0 (by omega) (by rw [hb]; omega)

set_option maxHeartbeats 400000 in
theorem newCancel_any (w : World) :
    Calls Tryz.prog 98 #[] w fun e w' => ∃ cb c, e = .returned (.pointer (some ⟨cb, 0, none⟩)) ∧ CancelAt w' cb c false ∧ w.heap.size ≤ cb ∧ w.heap.size ≤ c ∧ cb ≠ c ∧ Below w.heap.size w w' := by
  have hmc := mk0
  go_enter Tryz.func98, Tryz.ntmps98
  go_wp2
  go_ret
  refine ⟨_, w.heap.size, rfl, ⟨by simp, by go_simp, 0, 0, false, ?_⟩, by omega, Nat.le_refl _, by omega, ((Below.refl _ _).alloc (Nat.le_refl _) _).alloc (by simp) _⟩
  exact (Below.heap_alloc _ _ _ (by simp)).trans (World.alloc_heap_new w _)

set_option maxRecDepth 100000 in
set_option maxHeartbeats 400000 in
theorem asked_open (cb c : Nat) (w : World) (h : CancelAt w cb c false) :
    Calls Tryz.prog 153 #[.pointer (some ⟨cb, 0, none⟩)] w fun e w' => e = .returned (.bool false) ∧ w' = w := by
  obtain ⟨hlt, hc, s, r, tm, hch⟩ := h
  refine calls_of_loneTo fun cs => ?_
  have e : Frame.enter Tryz.prog 153 #[.pointer (some ⟨cb, 0, none⟩)] .normal = (base 153).at ⟨#[.pointer (some ⟨cb, 0, none⟩), undef, undef, undef, undef, undef, undef, undef, undef, undef], []⟩ [.code (Tryz.f153.body.getD .skip)] := by
    simp [Frame.enter, Frame.at, Tryz.func153, base, Tryz.f153]
  rw [e]
  refine LoneTo.goes (n := 13) ?_
  simp only [Tryz.f153, Option.getD_some]
  s_c stepG_seq
  s_reg
  s_op
  s_c stepG_region_end
  s_c stepG_seq
  s_reg
  s_op
  s_op
  s_op
  s_op
  s_c stepG_region_end
  s_c stepG_seq
  s_reg
  s_stop
  refine LoneTo.step (step_lone_select_default (c := c) (z := .agg #[]) (stepG_comm (cases := #[rcase c (.agg #[])]) (blocking := false) (shape := .select) (w' := w) rfl rfl (by decide) (by simp [go_sem, execOp, rcase, Act.eval])) hch) ?_
  rw [Frame.finish_at]
  walk_nrm
  refine LoneTo.goes (n := 10) ?_
  s_op
  s_op
  s_c stepG_region_end
  s_c stepG_block
  s_cond false
  s_c stepG_seq
  s_reg
  s_op
  s_c stepG_region_end
  s_c stepG_ret'
  s_stop
  refine LoneTo.done ⟨.returned (.bool false), _, rfl, ⟨rfl, rfl⟩, rfl, rfl, rfl, rfl, _, Tryz.func153, by simp [results, Tryz.f153, Frame.at]⟩
set_option maxRecDepth 100000 in
set_option maxHeartbeats 400000 in
theorem asked_shut (cb c : Nat) (w : World) (h : CancelAt w cb c true) :
    Calls Tryz.prog 153 #[.pointer (some ⟨cb, 0, none⟩)] w fun e w' => e = .returned (.bool true) ∧ w' = w := by
  obtain ⟨hlt, hc, s, r, tm, hch⟩ := h
  refine calls_of_loneTo fun cs => ?_
  have e : Frame.enter Tryz.prog 153 #[.pointer (some ⟨cb, 0, none⟩)] .normal = (base 153).at ⟨#[.pointer (some ⟨cb, 0, none⟩), undef, undef, undef, undef, undef, undef, undef, undef, undef], []⟩ [.code (Tryz.f153.body.getD .skip)] := by
    simp [Frame.enter, Frame.at, Tryz.func153, base, Tryz.f153]
  rw [e]
  refine LoneTo.goes (n := 13) ?_
  simp only [Tryz.f153, Option.getD_some]
  s_c stepG_seq
  s_reg
  s_op
  s_c stepG_region_end
  s_c stepG_seq
  s_reg
  s_op
  s_op
  s_op
  s_op
  s_c stepG_region_end
  s_c stepG_seq
  s_reg
  s_stop
  refine LoneTo.step (step_lone_select_recv_shut (c := c) (z := .agg #[]) (stepG_comm (cases := #[rcase c (.agg #[])]) (blocking := false) (shape := .select) (w' := w) rfl rfl (by decide) (by simp [go_sem, execOp, rcase, Act.eval])) hch) ?_
  rw [Frame.finish_at]
  walk_nrm
  refine LoneTo.goes (n := 10) ?_
  s_op
  s_op
  s_c stepG_region_end
  s_c stepG_block
  s_cond true
  s_c stepG_seq
  s_reg
  s_op
  s_c stepG_region_end
  s_c stepG_ret'
  s_stop
  refine LoneTo.done ⟨.returned (.bool true), _, rfl, ⟨rfl, rfl⟩, rfl, rfl, rfl, rfl, _, Tryz.func153, by simp [results, Tryz.f153, Frame.at]⟩
theorem asked_any (cb c : Nat) (shut : Bool) (w : World) (h : CancelAt w cb c shut) :
    Calls Tryz.prog 153 #[.pointer (some ⟨cb, 0, none⟩)] w fun e w' => e = .returned (.bool shut) ∧ w' = w := by
  cases shut
  · exact asked_open cb c w h
  · exact asked_shut cb c w h

set_option maxHeartbeats 400000 in
theorem call_any (cb c : Nat) (w : World) (h : CancelAt w cb c false) (hne : cb ≠ c) :
    Calls Tryz.prog 222 #[.pointer (some ⟨cb, 0, none⟩)] w fun e w' => (∃ v, e = .returned v) ∧ CancelAt w' cb c true ∧ (∀ k, k ≠ c → w'.heap[k]? = w.heap[k]?) ∧ w'.heap.size = w.heap.size ∧ ∀ B, B ≤ c → Below B w w' := by
  have HA := hide (asked_any cb c false w h)
  have hc := h.2.1
  have hcb := h.1
  obtain ⟨s, r, tm, hch⟩ := h.2.2
  clear h
  have hcl := fun ats ty => run_close_open (P := Tryz.prog) (w := w) ats ty hch
  go_enter Tryz.func222, Tryz.ntmps222
  go_wp2_with fail
  refine (unhide HA).mono ?_
  rintro e w ⟨rfl, rfl⟩
  go_wp2_with fail
  go_end0
  have hoth : ∀ k, k ≠ c → (w.heap.setIfInBounds c (.chan 0 #[] true s r tm))[k]? = w.heap[k]? := fun k hk => Array.getElem?_setIfInBounds_ne (by omega)
  have hclt : c < w.heap.size := (Array.getElem?_eq_some_iff.1 hch).1
  refine ⟨⟨_, rfl⟩, ⟨by simpa using hcb, (World.cell?_of_block (hoth cb hne)).trans hc, s, r, tm, ?_⟩, hoth, by simp, fun B hB => ⟨rfl, rfl, rfl, by simp, fun k hk => hoth k (by omega)⟩⟩
  show (w.heap.setIfInBounds c (.chan 0 #[] true s r tm))[c]? = _
  rw [Array.getElem?_setIfInBounds_self_of_lt hclt]
end Ld
end Go.Proofs.YtjkllohiodfikaaGreatDoor
