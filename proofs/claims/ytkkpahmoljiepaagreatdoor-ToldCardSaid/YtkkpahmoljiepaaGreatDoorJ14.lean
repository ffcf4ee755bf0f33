/- Contracts: slices.Grow at nil, slices.Concat of two lists; (*Table).additional where no record names another. -/
import Derived.Test.YtkkpahmoljiepaaGreatDoorJ13
import Derived.Test.YtkkpahmoljiepaaGreatDoorJ09
import Derived.Conc.LoneSelect
import Derived.Conc.EventLaws
import Derived.KernelRfl
import Derived.Laws.Rows
import Derived.Test.YtkkpahmoljiepaaGreatDoorJ08
set_option linter.unusedSimpArgs false
set_option linter.unusedVariables false
namespace Go.Proofs.YtkkpahmoljiepaaGreatDoor
open Go.RowKit
open Pu (Str hide unhide)

namespace Li
open Ka Kd Rf Rg Ia Iow Ie Zb Zc Za La Lb Re Lc Le Lf Lg Lh

theorem grow_nil (n : Nat) (w : World) (hn : n ≤ 10000) :
    Calls Tryz.prog 249 #[.slice none 0 0, .int .i64 n] w fun e w' => ∃ v, e = .returned v ∧ OwnR w' w.heap.size v [] ∧ Below w.heap.size w w' := by
  obtain ⟨i0, hi, hz0, hz1, hz2⟩ := info_parts infoR
  by_cases h0 : n = 0
  · subst h0
    refine (Any8.slices_Grow_room Tryz.lGrow none 0 0 0 w (Nat.le_refl _) (by omega) (by omega) (by omega)).mono ?_
    rintro e w' ⟨rfl, rfl⟩
    exact ⟨_, rfl, World.ownsRow_nil _ _ _ _, Below.refl _ _⟩
  · refine (Any8.slices_Grow_grow Tryz.lGrow i0 _ hi hz0 (by rw [hz1]; omega) none 0 0 n [] w (Nat.le_refl _) (by omega) (by rw [hz2]; omega) (by omega) (by simp) (fun _ => rfl) (fun a h => by cases h)).mono ?_
    rintro e w' ⟨rfl, rfl⟩
    have hge := grownCap_ge w (0 + n) 0 (Tryz.lGrow_ren.t 25)
    have hle := grownCap_le_maxLen w (0 + n) 0 (Tryz.lGrow_ren.t 25) (by simp [maxLen]; omega)
    refine ⟨_, rfl, ⟨rfl, .inr ⟨w.heap.size, _, _, rfl, Nat.le_refl _, heap_alloc_new w.drew _, Nat.zero_le _, hle, ?_, rfl⟩⟩, ((Below.refl _ _).drew).alloc (Nat.le_refl _) _⟩
    have e1 : (Value.cells (.agg #[.string ⟨#[]⟩, .int .i64 0, .int .i64 0, .string ⟨#[]⟩])).size = 4 := rfl
    rw [Array.size_append, Array.size_append, size_zeroCells, size_zeroCells, e1]
    have e2 : (List.toArray ([] : List Value)).size = 0 := rfl
    rw [e2]
    generalize grownCap w (0 + n) 0 (Tryz.lGrow_ren.t 25) = G at *
    omega

/-- append of a list of records, nil or not. -/
theorem append_rv (base : Nat) (va xv : Value) (ans xs : List Rec) (w : World) (ho : OwnR w base va ans) (hx : RV w xv xs) (hb : base ≤ w.heap.size) (hl : ans.length + xs.length ≤ 100000) :
    ∃ v' w', (Builtin.append_ #[41, 41] 41 #[va, xv]).run Tryz.prog w = .ok v' w' ∧ OwnR w' base v' (ans ++ xs) ∧ Below base w w' := by
  rcases hx with ⟨rfl, rfl⟩ | ⟨b, off, cap, rfl, hc, hr⟩
  · obtain ⟨i0, hi, hz0, hz1, hz2⟩ := info_parts infoR
    exact ⟨va, w, run_append_owned_none (P := Tryz.prog) (w := w) base 41 41 47 i0 4 underR hi va _ _ ho, by rw [List.append_nil]; exact ho, Below.refl _ _⟩
  · obtain ⟨v', w', h1, h2, h3, _⟩ := append_run base va ans xs b off cap w ho hr hb hl
    exact ⟨v', w', h1, h2, (Below.refl _ w).grown h3 hb (fun k hk => (ho.own_lt0 k hk).1)⟩

theorem wpL_append {P : Program} {ops : Array Oper} {rest : List Oper} {o : Oper} {a : Act} {w : World} {Q : Exit → Act → World → Prop} (hgd : o.guard = none) (s x : Operand) (t : TypeId) (ho : o.op = .call { callee := .builtin .append, args := #[s, x], argTypes := #[t, t] }) (v xv v' : Value) (w' : World) (hs : a.eval s = v) (hx : a.eval x = xv)
    (hr : (Builtin.append_ #[t, t] o.type #[v, xv]).run P w = .ok v' w') (h : wpList P ops Q rest (a.put o.dst v') w') : wpList P ops Q (o :: rest) a w := by
  refine wpList_plain hgd fun K hK => ?_
  unfold Oper.wp execOp
  simp only [ho, resolve, invoke, builtin, Sem.run_bind, Sem.run_pure, Result.andThen_ok, List.map_toArray, List.map_cons, List.map_nil, hs, hx, hr]
  exact hK _ _ h

set_option maxRecDepth 100000 in
set_option maxHeartbeats 1600000 in
theorem concat_any (q : Nat) (va vb : Value) (ans auth : List Rec) (w : World) (hq : q < w.heap.size) (h0 : w.cell? ⟨q, 0, none⟩ = some va) (h1 : w.cell? ⟨q, 1, none⟩ = some vb) (ha : RV w va ans) (hb : RV w vb auth) (hla : ans.length ≤ 4000) (hlb : auth.length ≤ 4000) :
    Calls Tryz.prog 195 #[.slice (some ⟨q, 0, none⟩) 2 2] w fun e w' => ∃ v, e = .returned v ∧ OwnR w' w.heap.size v (ans ++ auth) ∧ Below w.heap.size w w' := by
  have HA := hide ha
  have HB := hide hb
  obtain ⟨aa, ca, rfl⟩ := rv_slice ha
  obtain ⟨ab, cb, rfl⟩ := rv_slice hb
  clear ha hb
  have HGR := hide (grow_nil (ans.length + auth.length) w (by omega))
  go_enter Tryz.func195, Tryz.ntmps195
  go_wp2_with fail
  go_loop [3, 11] (fun sz i => (sz = .int .i64 0 ∧ i = .int .i64 0) ∨ (sz = .int .i64 ans.length ∧ i = .int .i64 1) ∨ (sz = .int .i64 ((ans.length + auth.length : Nat) : Int) ∧ i = .int .i64 2)) (fun _ i => 2 - (intOf i).toNat)
  case atStart => exact .inl ⟨rfl, rfl⟩
  case round =>
    rcases hrel with ⟨rfl, rfl⟩ | ⟨rfl, rfl⟩ | ⟨rfl, rfl⟩
    · go_wp2_with fail
      go_round
      case rel => exact .inr (.inl ⟨by go_num, by go_num⟩)
      case measure => simp [intOf]
    · go_wp2_with fail
      go_round
      case rel => exact .inr (.inr ⟨by go_num, by go_num⟩)
      case measure => simp [intOf]
    · go_wp2_with fail
      refine (unhide HGR).mono ?_
      rintro e w1 ⟨v1, rfl, ho1, hb1⟩
      have HO1 := hide ho1
      clear ho1
      go_wp2_with fail
      go_loopw [6, 27] (fun v i wr => (i = .int .i64 0 ∧ OwnR wr w.heap.size v [] ∧ Below w.heap.size w wr) ∨ (i = .int .i64 1 ∧ OwnR wr w.heap.size v ans ∧ Below w.heap.size w wr) ∨ (i = .int .i64 2 ∧ OwnR wr w.heap.size v (ans ++ auth) ∧ Below w.heap.size w wr)) (fun _ i _ => 2 - (intOf i).toNat)
      case atStart => exact .inl ⟨rfl, unhide HO1, hb1⟩
      case round =>
        clear HO1 hb1 HGR
        rcases hrel with ⟨rfl, hov, hbr⟩ | ⟨rfl, hov, hbr⟩ | ⟨rfl, hov, hbr⟩
        · obtain ⟨v', w', hrun, ho', hb'⟩ := append_rv w.heap.size _ _ [] ans wr hov ((unhide HA).below hbr) hbr.size (by simp; omega)
          obtain ⟨av, cv, rfl⟩ := hov.slice
          have q0 := (hbr.cell (p := ⟨q, 0, none⟩) hq).trans h0
          have HE : Hid (OwnR w' w.heap.size v' ans ∧ Below w.heap.size w w') := ⟨ho', hbr.trans hb'⟩
          clear hov ho' hb'
          go_wp2_with (at_builtin; refine wpL_append rfl _ _ 41 rfl _ _ v' w' rfl rfl hrun ?_)
          go_roundw
          case rel => exact .inr (.inl ⟨by go_num, unhide HE⟩)
          case measure => simp [intOf]
        · obtain ⟨v', w', hrun, ho', hb'⟩ := append_rv w.heap.size _ _ ans auth wr hov ((unhide HB).below hbr) hbr.size (by omega)
          obtain ⟨av, cv, rfl⟩ := hov.slice
          have q1 := (hbr.cell (p := ⟨q, 1, none⟩) hq).trans h1
          have HE : Hid (OwnR w' w.heap.size v' (ans ++ auth) ∧ Below w.heap.size w w') := ⟨ho', hbr.trans hb'⟩
          clear hov ho' hb'
          go_wp2_with (at_builtin; refine wpL_append rfl _ _ 41 rfl _ _ v' w' rfl rfl hrun ?_)
          go_roundw
          case rel => exact .inr (.inr ⟨by go_num, unhide HE⟩)
          case measure => simp [intOf]
        · have HE := hide hov
          clear hov
          go_wp2_with fail
          go_ret
          exact ⟨_, rfl, unhide HE, hbr⟩
set_option maxRecDepth 100000 in
set_option maxHeartbeats 1600000 in
theorem additional_plain (zb : Nat) (rc : Int) (au : Bool) (va vb vc : Value) (ans auth : List Rec) (w : World) (ha : RV w va ans) (hb : RV w vb auth) (hla : ans.length ≤ 4000) (hlb : auth.length ≤ 4000)
    (hno : ∀ r ∈ ans ++ auth, (r.type != 2) = true ∧ (r.type != 15) = true ∧ r.data.length ≤ 3000) :
    Calls Tryz.prog 128 #[.pointer (some ⟨zb, 0, none⟩), .agg #[.int .i64 rc, .bool au, va, vb, vc]] w fun e w' => e = .returned (.slice none 0 0) ∧ Below w.heap.size w w' := by
  obtain ⟨aa, ca, rfl⟩ := rv_slice ha
  obtain ⟨ab, cb, rfl⟩ := rv_slice hb
  have HA := hide ha
  have HB := hide hb
  have HNO := hide hno
  clear ha hb hno
  go_enter Tryz.func128, Tryz.ntmps128
  go_wp2_with fail
  have hbx : Below w.heap.size w ((w.alloc (.cells #[.int .i64 rc, .bool au, .slice aa ans.length ca, .slice ab auth.length cb, vc] 43)).alloc (.cells #[.slice aa ans.length ca, .slice ab auth.length cb] 41)) := ((Below.refl _ _).alloc (Nat.le_refl _) _).alloc (by simp) _
  refine (concat_any (w.heap.size + 1) _ _ ans auth _ (by simp) (by go_simp) (by go_simp) ((unhide HA).below hbx) ((unhide HB).below hbx) hla hlb).mono ?_
  rintro e w1 ⟨v1, rfl, ho1, hb1⟩
  have hB1 : Below w.heap.size w w1 := hbx.trans (hb1.mono (by simp <;> omega))
  obtain ⟨a1, c1, rfl⟩ := ho1.slice
  have HO1 := hide ho1.rv
  have hll : (ans ++ auth).length ≤ 8000 := by rw [List.length_append]; omega
  clear ho1 hbx hb1 HA HB
  generalize ans ++ auth = L at *
  go_wp2_with fail
  go_loopw [5, 19] (fun ls i wr => ∃ k : Nat, ls = .slice none 0 0 ∧ i = .int .i64 k ∧ k ≤ L.length ∧ Below w1.heap.size w1 wr) (fun _ i _ => L.length - (intOf i).toNat)
  case atStart => exact ⟨0, rfl, rfl, Nat.zero_le _, Below.refl _ _⟩
  case round =>
    obtain ⟨k, rfl, rfl, hk, hbr⟩ := hrel
    by_cases hlt : k < L.length
    · have hrv := (unhide HO1).below hbr
      rcases hrv with ⟨e1, e2⟩ | ⟨b', off', cap', e1, hc', hr'⟩
      · rw [e2] at hlt; simp at hlt
      · cases e1
        obtain ⟨q0, q1, q2, q3⟩ := hr'.four k hlt
        obtain ⟨t2, t15, hdl⟩ := unhide HNO L[k] (List.getElem_mem hlt)
        have HLW := hide (fun W => lastWord_any L[k].data W hdl)
        clear hr'
        generalize L[k] = r at *
        go_wp2_with fail
        refine (unhide HLW _).mono ?_
        rintro e w4 ⟨rfl, hw4⟩
        have hb4 : Below wr.heap.size wr w4 := by rw [hw4]; exact (Below.refl _ _).alloc (Nat.le_refl _) _
        have d2 : w4.cell? ⟨wr.heap.size, 2, none⟩ = some (.int .i64 r.type) := by rw [hw4]; go_simp
        clear hw4 HLW
        go_wp2_with fail
        go_roundw
        case rel => exact ⟨k + 1, rfl, by go_num, by omega, hbr.trans (hb4.mono hbr.size)⟩
        case measure => simp [intOf]; omega
    · go_wp2_with fail
      go_ret
      exact ⟨rfl, hB1.trans (hbr.mono hB1.size)⟩
end Li
end Go.Proofs.YtkkpahmoljiepaaGreatDoor

/- Contracts: lookup's cancel: newCancel, asked, call. -/
namespace Go.Proofs.YtkkpahmoljiepaaGreatDoor
open Go.RowKit Go.Conc
open Pu (Str hide unhide)

/-- a cancel in memory: its channel, closed or not. -/
def CancelAt (w : World) (cb c : Nat) (shut : Bool) : Prop :=
  cb < w.heap.size ∧ w.cell? ⟨cb, 0, none⟩ = some (.chan (some c)) ∧ ∃ s r tm, w.heap[c]? = some (.chan 0 #[] shut s r tm)
theorem CancelAt.below {w w' : World} {cb c n : Nat} {shut : Bool} (h : CancelAt w cb c shut) (hb : Below n w w') (h1 : cb < n) (h2 : c < n) : CancelAt w' cb c shut := by
  obtain ⟨a, b, s, r, tm, d⟩ := h
  exact ⟨Nat.lt_of_lt_of_le a hb.size, (hb.cell (p := ⟨cb, 0, none⟩) h1).trans b, s, r, tm, (hb.block c h2).trans d⟩
theorem CancelAt.lt {w : World} {cb c : Nat} {shut : Bool} (h : CancelAt w cb c shut) : c < w.heap.size := by
  obtain ⟨_, _, _, _, _, h⟩ := h
  exact (Array.getElem?_eq_some_iff.1 h).1

namespace Ld
open Ka

theorem bytesE : ∃ i, Tryz.prog.info? 332 = some i ∧ i.bytes = 0 := by
  have h : (Tryz.prog.info? 332).map (·.bytes) = some 0 := by kernel_rfl
  obtain ⟨i, hi, hb⟩ := Option.map_eq_some_iff.1 h
  exact ⟨i, hi, hb⟩
theorem mk0 (w : World) : (Instr.makeChan 270 (.int .i64 0)).run Tryz.prog w = .ok (.chan (some w.heap.size)) (w.alloc (.chan 0 #[] false 0 0 false)) := by
  obtain ⟨i, hi, hb⟩ := bytesE
  simpa using run_makeChan (P := Tryz.prog) (w := w) Tryz.underlying270 hi .i64 0 (by omega) (by rw [hb]; omega)

set_option maxHeartbeats 400000 in
theorem newCancel_any (w : World) :
    Calls Tryz.prog 125 #[] w fun e w' => ∃ cb c, e = .returned (.pointer (some ⟨cb, 0, none⟩)) ∧ CancelAt w' cb c false ∧ w.heap.size ≤ cb ∧ w.heap.size ≤ c ∧ cb ≠ c ∧ Below w.heap.size w w' := by
  have hmc := mk0
  go_enter Tryz.func125, Tryz.ntmps125
  go_wp2
  go_ret
  refine ⟨_, w.heap.size, rfl, ⟨by simp, by go_simp, 0, 0, false, ?_⟩, by omega, Nat.le_refl _, by omega, ((Below.refl _ _).alloc (Nat.le_refl _) _).alloc (by simp) _⟩
  exact (Below.heap_alloc _ _ _ (by simp)).trans (World.alloc_heap_new w _)

set_option maxRecDepth 100000 in
set_option maxHeartbeats 400000 in
theorem asked_open (cb c : Nat) (w : World) (h : CancelAt w cb c false) :
    Calls Tryz.prog 193 #[.pointer (some ⟨cb, 0, none⟩)] w fun e w' => e = .returned (.bool false) ∧ w' = w := by
  obtain ⟨hlt, hc, s, r, tm, hch⟩ := h
  refine calls_of_loneTo fun cs => ?_
  have e : Frame.enter Tryz.prog 193 #[.pointer (some ⟨cb, 0, none⟩)] .normal = (base 193).at ⟨#[.pointer (some ⟨cb, 0, none⟩), undef, undef, undef, undef, undef, undef, undef, undef, undef], []⟩ [.code (Tryz.f193.body.getD .skip)] := by
    simp [Frame.enter, Frame.at, Tryz.func193, base, Tryz.f193]
  rw [e]
  refine LoneTo.goes (n := 13) ?_
  simp only [Tryz.f193, Option.getD_some]
  s_c stepG_seq
  s_reg
  s_op
  s_c stepG_region_end
  s_c stepG_seq
  s_reg
  s_op
  s_op
  s_op
  s_op
  s_c stepG_region_end
  s_c stepG_seq
  s_reg
  s_stop
  refine LoneTo.step (step_lone_select_default (c := c) (z := .agg #[]) (stepG_comm (cases := #[rcase c (.agg #[])]) (blocking := false) (shape := .select) (w' := w) rfl rfl (by decide) (by simp [go_sem, execOp, rcase, Act.eval])) hch) ?_
  rw [Frame.finish_at]
  walk_nrm
  refine LoneTo.goes (n := 10) ?_
  s_op
  s_op
  s_c stepG_region_end
  s_c stepG_block
  s_cond false
  s_c stepG_seq
  s_reg
  s_op
  s_c stepG_region_end
  s_c stepG_ret'
  s_stop
  refine LoneTo.done ⟨.returned (.bool false), _, rfl, ⟨rfl, rfl⟩, rfl, rfl, rfl, rfl, _, Tryz.func193, by simp [results, Tryz.f193, Frame.at]⟩
set_option maxRecDepth 100000 in
set_option maxHeartbeats 400000 in
theorem asked_shut (cb c : Nat) (w : World) (h : CancelAt w cb c true) :
    Calls Tryz.prog 193 #[.pointer (some ⟨cb, 0, none⟩)] w fun e w' => e = .returned (.bool true) ∧ w' = w := by
  obtain ⟨hlt, hc, s, r, tm, hch⟩ := h
  refine calls_of_loneTo fun cs => ?_
  have e : Frame.enter Tryz.prog 193 #[.pointer (some ⟨cb, 0, none⟩)] .normal = (base 193).at ⟨#[.pointer (some ⟨cb, 0, none⟩), undef, undef, undef, undef, undef, undef, undef, undef, undef], []⟩ [.code (Tryz.f193.body.getD .skip)] := by
    simp [Frame.enter, Frame.at, Tryz.func193, base, Tryz.f193]
  rw [e]
  refine LoneTo.goes (n := 13) ?_
  simp only [Tryz.f193, Option.getD_some]
  s_c stepG_seq
  s_reg
  s_op
  s_c stepG_region_end
  s_c stepG_seq
  s_reg
  s_op
  s_op
  s_op
  s_op
  s_c stepG_region_end
  s_c stepG_seq
  s_reg
  s_stop
  refine LoneTo.step (step_lone_select_recv_shut (c := c) (z := .agg #[]) (stepG_comm (cases := #[rcase c (.agg #[])]) (blocking := false) (shape := .select) (w' := w) rfl rfl (by decide) (by simp [go_sem, execOp, rcase, Act.eval])) hch) ?_
  rw [Frame.finish_at]
  walk_nrm
  refine LoneTo.goes (n := 10) ?_
  s_op
  s_op
  s_c stepG_region_end
  s_c stepG_block
  s_cond true
  s_c stepG_seq
  s_reg
  s_op
  s_c stepG_region_end
  s_c stepG_ret'
  s_stop
  refine LoneTo.done ⟨.returned (.bool true), _, rfl, ⟨rfl, rfl⟩, rfl, rfl, rfl, rfl, _, Tryz.func193, by simp [results, Tryz.f193, Frame.at]⟩
theorem asked_any (cb c : Nat) (shut : Bool) (w : World) (h : CancelAt w cb c shut) :
    Calls Tryz.prog 193 #[.pointer (some ⟨cb, 0, none⟩)] w fun e w' => e = .returned (.bool shut) ∧ w' = w := by
  cases shut
  · exact asked_open cb c w h
  · exact asked_shut cb c w h

set_option maxHeartbeats 400000 in
theorem call_any (cb c : Nat) (w : World) (h : CancelAt w cb c false) (hne : cb ≠ c) :
    Calls Tryz.prog 275 #[.pointer (some ⟨cb, 0, none⟩)] w fun e w' => (∃ v, e = .returned v) ∧ CancelAt w' cb c true ∧ (∀ k, k ≠ c → w'.heap[k]? = w.heap[k]?) ∧ w'.heap.size = w.heap.size ∧ ∀ B, B ≤ c → Below B w w' := by
  have HA := hide (asked_any cb c false w h)
  have hc := h.2.1
  have hcb := h.1
  obtain ⟨s, r, tm, hch⟩ := h.2.2
  clear h
  have hcl := fun ats ty => run_close_open (P := Tryz.prog) (w := w) ats ty hch
  go_enter Tryz.func275, Tryz.ntmps275
  go_wp2_with fail
  refine (unhide HA).mono ?_
  rintro e w ⟨rfl, rfl⟩
  go_wp2_with fail
  go_end0
  have hoth : ∀ k, k ≠ c → (w.heap.setIfInBounds c (.chan 0 #[] true s r tm))[k]? = w.heap[k]? := fun k hk => Array.getElem?_setIfInBounds_ne (by omega)
  have hclt : c < w.heap.size := (Array.getElem?_eq_some_iff.1 hch).1
  refine ⟨⟨_, rfl⟩, ⟨by simpa using hcb, (World.cell?_of_block (hoth cb hne)).trans hc, s, r, tm, ?_⟩, hoth, by simp, fun B hB => ⟨rfl, rfl, rfl, by simp, fun k hk => hoth k (by omega)⟩⟩
  show (w.heap.setIfInBounds c (.chan 0 #[] true s r tm))[c]? = _
  rw [Array.getElem?_setIfInBounds_self_of_lt hclt]
end Ld
end Go.Proofs.YtkkpahmoljiepaaGreatDoor

/- Contracts: zone.isRightCut. -/
namespace Go.Proofs.YtkkpahmoljiepaaGreatDoor
open Go.RowKit
open Pu (Str hide unhide)
attribute [local go_sem] Oper.semAt_some

def notP (k : Int) (r : Rec) : Bool := r.type != k
def cutOk (n : Str) (x : Nat × List Rec) : Bool := !Sp.starred (ownerOf x) && !x.2.any (notP (if ownerOf x == n then 2 else 1))
/-- a cut has but NS, what is under it but A, and none of them a star. -/
def rightCut (rs : List Rec) (n : Str) : Bool := (underRuns n rs).all (cutOk n)

namespace Ze
open Ka Kd Rf Rg Ia Iow Ie Zb Zc Za

theorem all_step {p : Nat × List Rec → Bool} {l : List (Nat × List Rec)} {i : Nat} {x : Nat × List Rec} (h : l[i]? = some x) : (l.drop i).all p = (p x && (l.drop (i + 1)).all p) := by
  obtain ⟨hi, rfl⟩ := List.getElem?_eq_some_iff.1 h
  rw [List.drop_eq_getElem_cons hi, List.all_cons]

set_option maxHeartbeats 400000 in
theorem other_any (r : Rec) (k : Int) (bk : Nat) (W : World) (hc : W.cell? ⟨bk, 0, none⟩ = some (.int .i64 k)) (hb : bk < W.heap.size) :
    Calls Tryz.prog 183 #[.agg #[.string (B r.owner), .int .i64 r.ttl, .int .i64 r.type, .string (B r.data)], .pointer (some ⟨bk, 0, none⟩)] W fun e w' => e = .returned (.bool (notP k r)) ∧ Below W.heap.size W w' := by
  go_enter Tryz.func183, Tryz.ntmps183
  go_wp2
  go_ret
  exact ⟨rfl, (Below.refl _ _).alloc (Nat.le_refl _) _⟩

theorem otherPred (k : Int) (bk : Nat) (w : World) (hc : w.cell? ⟨bk, 0, none⟩ = some (.int .i64 k)) (hb : bk < w.heap.size) :
    PredBelow Tryz.prog 183 #[.pointer (some ⟨bk, 0, none⟩)] (fun x => .agg (Rec.enc x).toArray) (notP k) w := by
  intro W r hB
  refine (other_any r k bk W ((hB.cell (p := ⟨bk, 0, none⟩) hb).trans hc) (Nat.lt_of_lt_of_le hb hB.size)).mono ?_
  rintro e w' ⟨rfl, hb'⟩
  exact ⟨rfl, hB.trans (hb'.mono hB.size)⟩

theorem containsOther (k : Int) (bk b off cap : Nat) (rs : List Rec) (w : World) (hc : w.cell? ⟨bk, 0, none⟩ = some (.int .i64 k)) (hb : bk < w.heap.size) (hr : RecsAt w b off rs) (hl : rs.length ≤ 3001) :
    Calls Tryz.prog 171 #[.slice (some ⟨b, off, none⟩) rs.length cap, .func (.func 183) #[] #[.pointer (some ⟨bk, 0, none⟩)]] w fun e w' =>
      e = .returned (.bool (rs.any (notP k))) ∧ Below w.heap.size w w' := by
  have := AnyQ.slices_ContainsFunc Tryz.lContainsFunc 4 Tryz.isAgg47 Tryz.sizeOf47 Rec.enc (fun _ => rfl) (notP k) 183 #[.pointer (some ⟨bk, 0, none⟩)] (enters_of Tryz.func183 (by kernel_rfl) rfl) b off rs.length cap rs w (otherPred k bk w hc hb) (Nat.le_refl _) (by omega) hr.1 hr.2
  rw [List.take_length] at this
  exact this

theorem cut_step {n : Str} {rs : List Rec} {i : Nat} {x : Nat × List Rec} (kk : Int) (h : Hid (rightCut rs n = (cutOk n x && ((underRuns n rs).drop (i + 1)).all (cutOk n)))) (hs : Sp.starred (ownerOf x) = false) (ho : (if ownerOf x == n then (2 : Int) else 1) = kk) :
    (x.2.any (notP kk) = false → ((underRuns n rs).drop (i + 1)).all (cutOk n) = rightCut rs n) ∧ (x.2.any (notP kk) = true → rightCut rs n = false) := by
  have h' := unhide h
  have hc : cutOk n x = !x.2.any (notP kk) := by
    unfold cutOk
    rw [hs, ho]; rfl
  rw [hc] at h'
  refine ⟨fun e => ?_, fun e => ?_⟩
  · rw [h', e]; rfl
  · rw [h', e]; rfl

set_option maxHeartbeats 1600000 in
theorem isRightCut_any (b off cap : Nat) (n : Str) (rs : List Rec) (w : World) (hr : RecsAt w b off rs) (hcap : rs.length ≤ cap) (hlen : rs.length ≤ 3001) (hn : n.length ≤ 3000) (ho : ∀ r ∈ rs, r.owner.length ≤ 3000) :
    Calls Tryz.prog 111 #[.string (B n), .slice (some ⟨b, off, none⟩) rs.length cap] w fun e w' => e = .returned (.bool (rightCut rs n)) ∧ Below w.heap.size w w' := by
  refine (callsIn_wide (n := 0)).1 ?_
  refine callsIn_of_wp_marks Tryz.func111 rfl trivial ?_
  simp only [Tryz.ntmps111, List.size_toArray, List.length_cons, List.length_nil, Nat.reduceAdd, Nat.reduceSub, Array.replicate_succ, Array.replicate_zero, List.push_toArray, List.append_toArray, List.nil_append, List.cons_append]
  have HR := hide hr
  have HO := hide ho
  have hb := hr.1
  clear hr ho
  gi_wp2_with fail
  refine ⟨trivial, rfl, ?_⟩
  refine (callsIn_wide.2 (under_o _ _ _ _ _)).mono ?_
  rintro e W2 ⟨rfl, e4, hb2, e2, e3⟩
  have e0 : It.Box W2 w.heap.size (.string (B n)) 9 := ((It.Box.new _ _ _).alloc _).below hb2 (by simp <;> omega)
  have e1 : It.Box W2 (w.heap.size + 1) (.bool false) 4 := by
    have := (It.Box.new (w.alloc (.cells #[.string (B n)] 9)) (.bool false) 4).below hb2 (by simp <;> omega)
    rwa [World.size_alloc] at this
  have e5 : Below w.heap.size w W2 := (((Below.refl _ _).alloc (Nat.le_refl _) _).alloc (by simp) _).trans (hb2.mono (by simp <;> omega))
  simp only [World.size_alloc] at e4 e2 e3
  gi_wp2_with fail
  have hr2 := hide ((unhide HR).below e5)
  have hgrow : ∀ r, Below W2.heap.size W2 ((W2.alloc (.deferred (some []))).alloc (.loop r)) := fun r => ((Below.refl _ _).alloc (Nat.le_refl _) _).alloc (by simp) _
  have hgsz : ∀ r, ((W2.alloc (.deferred (some []))).alloc (.loop r)).heap.size = W2.heap.size + 2 := fun r => by simp
  refine It.rangeB (xs := underRuns n rs) (encs := fun x : Nat × List Rec => #[.string (B (ownerOf x)), .slice (some ⟨b, off + x.1 * 4, none⟩) x.2.length x.2.length]) (St := fun A B => Below (W2.heap.size + 2) A B) (Kp := fun A B => (B.heap[b]? = A.heap[b]? ∧ B.heap[w.heap.size + 1 + 1 + 1]? = A.heap[w.heap.size + 1 + 1 + 1]?) ∧ It.Above (W2.heap.size + 2) A B) (Kx := fun A B => It.Above (W2.heap.size + 2) A B)
    (gf := 235) (lb := #[.pointer (some ⟨w.heap.size + 1 + 1, 0, none⟩), .pointer (some ⟨w.heap.size + 1 + 1 + 1, 0, none⟩)]) rfl (enters_of Tryz.func235 (by kernel_rfl) rfl) (fun _ => rfl) ?seq
    [b, w.heap.size + 1 + 1 + 1] (by simp; omega) (fun _ _ _ h => h) (fun A B h h' => ⟨⟨h _ (by simp), h _ (by simp)⟩, h'⟩) (fun _ _ h => h)
    (fun i W => ((underRuns n rs).drop i).all (cutOk n) = rightCut rs n ∧ Below w.heap.size w W ∧ It.Box W w.heap.size (.string (B n)) 9 ∧ It.Box W (w.heap.size + 1) (.bool false) 4)
    (fun c W => c = .ret ∧ rightCut rs n = false ∧ Below w.heap.size w W ∧ It.Box W (w.heap.size + 1) (.bool false) 4)
    (fun i A B h hb => ⟨h.1, h.2.1.trans (hb.mono (by omega)), h.2.2.1.below hb (by omega), h.2.2.2.below hb (by omega)⟩)
    (fun c A B h hb => ⟨h.1, h.2.1, h.2.2.1.trans (hb.mono (by omega)), h.2.2.2.below hb (by omega)⟩)
    ⟨rfl, e5, e0, e1⟩
    ?round ?done ?stop
  case seq =>
    intro r
    have hg := hgrow r
    have := under_seq b off cap (w.heap.size + 1 + 1) (w.heap.size + 1 + 1 + 1) n rs ((W2.alloc (.deferred (some []))).alloc (.loop r)) ((unhide hr2).below hg) hcap ((hg.cell (p := ⟨w.heap.size + 1 + 1, 0, none⟩) (by show w.heap.size + 1 + 1 < W2.heap.size; omega)).trans e2) ((hg.cell (p := ⟨w.heap.size + 1 + 1 + 1, 0, none⟩) (by show w.heap.size + 1 + 1 + 1 < W2.heap.size; omega)).trans e3) (by have := hg.size; omega) (by have := hg.size; omega) hlen hn (unhide HO)
    rw [hgsz r] at this
    exact this
  case round =>
    intro l' i x V W hx hI hsz
    gi_wp2_with fail
    refine ⟨trivial, ?_⟩
    obtain ⟨hf, hB, hn', hc⟩ := hI
    have cn := hn'.cell
    have hmem : x ∈ runs sameOwner rs := (List.mem_filter.1 (List.mem_of_getElem? hx)).1
    have hP := RecsAt.piece ((unhide HR).below hB) hmem
    have hrl := runs_len hmem
    have hst := all_step (p := cutOk n) hx
    rw [hf] at hst
    have HS := hide hst
    have HNB := hide hn'
    have HCB := hide hc
    have HP := hide hP
    have hBB : ((B (ownerOf x)).toList == (B n).toList) = (ownerOf x == n) := B_inj
    have hnlt := hn'.lt
    have hclt := hc.lt
    clear hf hst hn' hc hmem hP
    have hcs := fun W' => starred_any (B (ownerOf x)) W'
    have HCS : Hid (∀ W', Calls Tryz.prog 124 #[.string (B (ownerOf x))] W' fun e w' => e = .returned (.bool (Sp.starred (ownerOf x))) ∧ w' = W') := hcs
    clear hcs
    -- what follows a tested owner, at a world that only has more
    have HFIN : ∀ (kk : Int) (W3 W4 : World), Below W.heap.size W W3 → Below W3.heap.size W3 W4 → Sp.starred (ownerOf x) = false → (if ownerOf x == n then (2 : Int) else 1) = kk →
        Hid ((x.2.any (notP kk) = false → It.Above W2.heap.size W W4 ∧ (∀ k ∈ [b, w.heap.size + 1 + 1 + 1], W4.heap[k]? = W.heap[k]?) ∧ (((underRuns n rs).drop (i + 1)).all (cutOk n) = rightCut rs n ∧ Below w.heap.size w W4 ∧ It.Box W4 w.heap.size (.string (B n)) 9 ∧ It.Box W4 (w.heap.size + 1) (.bool false) 4)) ∧
          (x.2.any (notP kk) = true → It.Above W2.heap.size W (W4.setCell ⟨w.heap.size + 1, 0, none⟩ (.bool false)) ∧ rightCut rs n = false ∧ Below w.heap.size w (W4.setCell ⟨w.heap.size + 1, 0, none⟩ (.bool false)) ∧ It.Box (W4.setCell ⟨w.heap.size + 1, 0, none⟩ (.bool false)) (w.heap.size + 1) (.bool false) 4)) := by
      intro kk W3 W4 h3 h4 hsd ho
      have hs := cut_step kk HS hsd ho
      have h34 := h3.trans (h4.mono h3.size)
      have s34 := h34.size
      refine ⟨fun e => ⟨It.Above.of_grown h34, fun k hk => h34.block k (by simp at hk; omega), hs.1 e, hB.trans (h34.mono hB.size), (unhide HNB).below h34 hnlt, (unhide HCB).below h34 hclt⟩, fun e => ⟨(It.Above.of_grown h34).trans (It.Above.setCell W4 _ _ (by omega)), hs.2 e, (hB.trans (h34.mono hB.size)).setCell (by show w.heap.size ≤ w.heap.size + 1; omega) _, ((unhide HCB).below h34 hclt).set _⟩⟩
    cases hsd : Sp.starred (ownerOf x)
    · cases ho : ownerOf x == n
      · rw [ho] at hBB
        gi_wp2_with fail
        refine ⟨trivial, rfl, ?_⟩
        refine (CallsIn.inRound l' (callsIn_wide.2 (unhide HCS _))).mono ?_
        rintro e W3 ⟨rfl, hW3⟩
        have h3 : Below W.heap.size W W3 := by rw [hW3]; exact (Below.refl _ _).alloc (Nat.le_refl _) _
        have c3 : W3.cell? ⟨W.heap.size, 0, none⟩ = some (.int .i64 1) := by rw [hW3]; go_simp
        have l3 : W.heap.size < W3.heap.size := by rw [hW3]; simp
        clear hW3
        have HC4 := hide (containsOther 1 W.heap.size b (off + x.1 * 4) x.2.length x.2 W3 c3 l3 ((unhide HP).below h3) (by omega))
        gi_wp2_with fail
        refine ⟨trivial, rfl, ?_⟩
        refine (CallsIn.inRound l' (callsIn_wide.2 (unhide HC4))).mono ?_
        rintro e W4 ⟨rfl, hb4⟩
        have HE := HFIN 1 W3 W4 h3 hb4 hsd (by rw [ho]; rfl)
        have b4 := (((unhide HCB).below h3 hclt).below hb4 (Nat.lt_of_lt_of_le hclt h3.size))
        have cb4 := b4.cell
        have cf4 := b4.frozen
        clear HFIN b4
        cases hm : x.2.any (notP 1)
        · gi_wp2_with fail
          exact (unhide HE).1 hm
        · gi_wp2_with fail
          obtain ⟨r1, r2⟩ := (unhide HE).2 hm
          exact ⟨r1, rfl, r2⟩
      · rw [ho] at hBB
        gi_wp2_with fail
        refine ⟨trivial, rfl, ?_⟩
        refine (CallsIn.inRound l' (callsIn_wide.2 (unhide HCS _))).mono ?_
        rintro e W3 ⟨rfl, hW3⟩
        have h3 : Below W.heap.size W W3 := by rw [hW3]; exact (Below.refl _ _).alloc (Nat.le_refl _) _
        have c3 : W3.cell? ⟨W.heap.size, 0, none⟩ = some (.int .i64 2) := by rw [hW3]; go_simp
        have l3 : W.heap.size < W3.heap.size := by rw [hW3]; simp
        clear hW3
        have HC4 := hide (containsOther 2 W.heap.size b (off + x.1 * 4) x.2.length x.2 W3 c3 l3 ((unhide HP).below h3) (by omega))
        gi_wp2_with fail
        refine ⟨trivial, rfl, ?_⟩
        refine (CallsIn.inRound l' (callsIn_wide.2 (unhide HC4))).mono ?_
        rintro e W4 ⟨rfl, hb4⟩
        have HE := HFIN 2 W3 W4 h3 hb4 hsd (by rw [ho]; rfl)
        have b4 := (((unhide HCB).below h3 hclt).below hb4 (Nat.lt_of_lt_of_le hclt h3.size))
        have cb4 := b4.cell
        have cf4 := b4.frozen
        clear HFIN b4
        cases hm : x.2.any (notP 2)
        · gi_wp2_with fail
          exact (unhide HE).1 hm
        · gi_wp2_with fail
          obtain ⟨r1, r2⟩ := (unhide HE).2 hm
          exact ⟨r1, rfl, r2⟩
    · have HF : Hid (rightCut rs n = false) := by
        rw [Hid, unhide HS, cutOk, hsd]; rfl
      clear HFIN
      cases ho : ownerOf x == n
      all_goals
        rw [ho] at hBB
        gi_wp2_with fail
        refine ⟨trivial, rfl, ?_⟩
        refine (CallsIn.inRound l' (callsIn_wide.2 (unhide HCS _))).mono ?_
        rintro e W3 ⟨rfl, hW3⟩
        have h3 : Below W.heap.size W W3 := by
          rw [hW3]
          first
          | exact (Below.refl _ _).alloc (Nat.le_refl _) _
          | exact ((Below.refl _ _).alloc (Nat.le_refl _) _).setCell (p := ⟨W.heap.size, 0, none⟩) (Nat.le_refl W.heap.size) _
        clear hW3
        have b4 := (unhide HCB).below h3 hclt
        have cb4 := b4.cell
        have cf4 := b4.frozen
        have B4 := hide b4
        clear b4
        have s3 := h3.size
        gi_wp2_with fail
        refine ⟨trivial, ?_⟩
        gi_wp2_with fail
        exact ⟨(It.Above.of_grown h3).trans (It.Above.setCell W3 _ _ (by omega)), rfl, unhide HF, (hB.trans (h3.mono hB.size)).setCell (by show w.heap.size ≤ w.heap.size + 1; omega) _, (unhide B4).set _⟩
  case done =>
    intro W hI hdef hsz
    obtain ⟨hf, hB, hn', hc⟩ := hI
    have cb := hc.cell
    have cf := hc.frozen
    have HF : Hid (rightCut rs n = true) := by
      rw [Hid, ← hf, List.drop_of_length_le (Nat.le_refl _)]; rfl
    clear hf
    gi_wp2_with fail
    have hd' := (Below.heap_setCell W ⟨w.heap.size + 1, 0, none⟩ (.bool true) W2.heap.size (by show W2.heap.size ≠ w.heap.size + 1; omega)).trans hdef
    refine ⟨by simp, .inl ⟨_, _, rfl, run_takeDeferred hd', ?_⟩⟩
    have cr := ((hc.set (.bool true)).put (d := W2.heap.size) (o := .deferred none) (by omega)).cell
    refine ⟨.bool true, by simp [results, Tryz.results111, go_sem, cr], by rw [unhide HF], ?_⟩
    exact (hB.setCell (by show w.heap.size ≤ w.heap.size + 1; omega) _).trans (belowK_b (w := W2) (by omega) _ _ _ _ (Nat.le_refl _) hd' rfl rfl)
  case stop =>
    intro c W hI hdef hsz
    obtain ⟨rfl, hof, hB, hc⟩ := hI
    have HF := hide hof
    clear hof
    have cb := hc.cell
    gi_wp2_with fail
    refine ⟨by simp, .inl ⟨_, _, rfl, run_takeDeferred hdef, ?_⟩⟩
    have cr := (hc.put (d := W2.heap.size) (o := .deferred none) (by omega)).cell
    have hB' := hB.trans (belowK_b (w := W2) (show w.heap.size ≤ W2.heap.size by omega) W _ _ (.deferred none) (Nat.le_refl _) hdef rfl rfl)
    exact ⟨.bool false, by simp [results, Tryz.results111, go_sem, cr], by rw [unhide HF], hB'⟩
end Ze
end Go.Proofs.YtkkpahmoljiepaaGreatDoor
