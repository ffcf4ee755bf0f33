/- Contracts: slices.Grow at nil, slices.Concat of two lists; (*Table).additional where no record names another. -/
import Derived.Test.YtkkpahmoljiepaaGreatDoorJ15
import Derived.Test.YtkkpahmoljiepaaGreatDoorJ09
import Derived.Conc.LoneSelect
import Derived.Conc.EventLaws
import Derived.KernelRfl
import Derived.Laws.Rows
import Derived.Test.YtkkpahmoljiepaaGreatDoorJ01
set_option linter.unusedSimpArgs false
set_option linter.unusedVariables false
namespace Go.Proofs.YtkkpahmoljiepaaGreatDoor
open Go.RowKit
open Pu (Str hide unhide)

namespace Li
open Ka Kd Rf Rg Ia Iow Ie Zb Zc Za La Lb Re Lc Le Lf Lg Lh

theorem grow_nil (n : Nat) (w : World) (hn : n ≤ 10000) :
    Calls Tryz.prog 249 #[.slice none 0 0, .int .i64 n] w fun e w' => ∃ v, e = .returned v ∧ OwnR w' w.heap.size v [] ∧ Below w.heap.size w w' := by
  obtain ⟨i0, hi, hz0, hz1, hz2⟩ := info_parts infoR
  by_cases h0 : n = 0
  · subst h0
    refine (Any8.slices_Grow_room Tryz.lGrow none 0 0 0 w (Nat.le_refl _) (by omega) (by omega) (by omega)).mono ?_
    rintro e w' ⟨rfl, rfl⟩
    exact ⟨_, rfl, World.ownsRow_nil _ _ _ _, Below.refl _ _⟩
  · refine (Any8.slices_Grow_grow Tryz.lGrow i0 _ hi hz0 (by rw [hz1]; omega) none 0 0 n [] w (Nat.le_refl _) (by omega) (by rw [hz2]; omega) (by omega) (by simp) (fun _ => rfl) (fun a h => by cases h)).mono ?_
    rintro e w' ⟨rfl, rfl⟩
    have hge := grownCap_ge w (0 + n) 0 (Tryz.lGrow_ren.t 25)
    have hle := grownCap_le_maxLen w (0 + n) 0 (Tryz.lGrow_ren.t 25) (by simp [maxLen]; omega)
    refine ⟨_, rfl, ⟨rfl, .inr ⟨w.heap.size, _, _, rfl, Nat.le_refl _, heap_alloc_new w.drew _, Nat.zero_le _, hle, ?_, rfl⟩⟩, ((Below.refl _ _).drew).alloc (Nat.le_refl _) _⟩
    have e1 : (Value.cells (.agg #[.string ⟨#[]⟩, .int .i64 0, .int .i64 0, .string ⟨#[]⟩])).size = 4 := rfl
    rw [Array.size_append, Array.size_append, size_zeroCells, size_zeroCells, e1]
    have e2 : (List.toArray ([] : List Value)).size = 0 := rfl
    rw [e2]
    generalize grownCap w (0 + n) 0 (Tryz.lGrow_ren.t 25) = G at *
    omega

/-- append of a list of records, nil or not. -/
theorem append_rv (base : Nat) (va xv : Value) (ans xs : List Rec) (w : World) (ho : OwnR w base va ans) (hx : RV w xv xs) (hb : base ≤ w.heap.size) (hl : ans.length + xs.length ≤ 100000) :
    ∃ v' w', (Builtin.append_ #[41, 41] 41 #[va, xv]).run Tryz.prog w = .ok v' w' ∧ OwnR w' base v' (ans ++ xs) ∧ Below base w w' := by
  rcases hx with ⟨rfl, rfl⟩ | ⟨b, off, cap, rfl, hc, hr⟩
  · obtain ⟨i0, hi, hz0, hz1, hz2⟩ := info_parts infoR
    exact ⟨va, w, run_append_owned_none (P := Tryz.prog) (w := w) base 41 41 47 i0 4 underR hi va _ _ ho, by rw [List.append_nil]; exact ho, Below.refl _ _⟩
  · obtain ⟨v', w', h1, h2, h3, _⟩ := append_run base va ans xs b off cap w ho hr hb hl
    exact ⟨v', w', h1, h2, (Below.refl _ w).grown h3 hb (fun k hk => (ho.own_lt0 k hk).1)⟩

theorem wpL_append {P : Program} {ops : Array Oper} {rest : List Oper} {o : Oper} {a : Act} {w : World} {Q : Exit → Act → World → Prop} (hgd : o.guard = none) (s x : Operand) (t : TypeId) (ho : o.op = .call { callee := .builtin .append, args := #[s, x], argTypes := #[t, t] }) (v xv v' : Value) (w' : World) (hs : a.eval s = v) (hx : a.eval x = xv)
    (hr : (Builtin.append_ #[t, t] o.type #[v, xv]).run P w = .ok v' w') (h : wpList P ops Q rest (a.put o.dst v') w') : wpList P ops Q (o :: rest) a w := by
  refine wpList_plain hgd fun K hK => ?_
  unfold Oper.wp execOp
  simp only [ho, resolve, invoke, builtin, Sem.run_bind, Sem.run_pure, Result.andThen_ok, List.map_toArray, List.map_cons, List.map_nil, hs, hx, hr]
  exact hK _ _ h

set_option maxRecDepth 100000 in
set_option maxHeartbeats 1600000 in
theorem concat_any (q : Nat) (va vb : Value) (ans auth : List Rec) (w : World) (hq : q < w.heap.size) (h0 : w.cell? ⟨q, 0, none⟩ = some va) (h1 : w.cell? ⟨q, 1, none⟩ = some vb) (ha : RV w va ans) (hb : RV w vb auth) (hla : ans.length ≤ 4000) (hlb : auth.length ≤ 4000) :
    Calls Tryz.prog 195 #[.slice (some ⟨q, 0, none⟩) 2 2] w fun e w' => ∃ v, e = .returned v ∧ OwnR w' w.heap.size v (ans ++ auth) ∧ Below w.heap.size w w' := by
  have HA := hide ha
  have HB := hide hb
  obtain ⟨aa, ca, rfl⟩ := rv_slice ha
  obtain ⟨ab, cb, rfl⟩ := rv_slice hb
  clear ha hb
  have HGR := hide (grow_nil (ans.length + auth.length) w (by omega))
  go_enter Tryz.func195, Tryz.ntmps195
  go_wp2_with fail
  go_loop [3, 11] (fun sz i => (sz = .int .i64 0 ∧ i = .int .i64 0) ∨ (sz = .int .i64 ans.length ∧ i = .int .i64 1) ∨ (sz = .int .i64 ((ans.length + auth.length : Nat) : Int) ∧ i = .int .i64 2)) (fun _ i => 2 - (intOf i).toNat)
  case atStart => exact .inl ⟨rfl, rfl⟩
  case round =>
    rcases hrel with ⟨rfl, rfl⟩ | ⟨rfl, rfl⟩ | ⟨rfl, rfl⟩
    · go_wp2_with fail
      go_round
      case rel => exact .inr (.inl ⟨by go_num, by go_num⟩)
      case measure => simp [intOf]
    · go_wp2_with fail
      go_round
      case rel => exact .inr (.inr ⟨by go_num, by go_num⟩)
      case measure => simp [intOf]
    · go_wp2_with fail
      refine (unhide HGR).mono ?_
      rintro e w1 ⟨v1, rfl, ho1, hb1⟩
      have HO1 := hide ho1
      clear ho1
      go_wp2_with fail
      go_loopw [6, 27] (fun v i wr => (i = .int .i64 0 ∧ OwnR wr w.heap.size v [] ∧ Below w.heap.size w wr) ∨ (i = .int .i64 1 ∧ OwnR wr w.heap.size v ans ∧ Below w.heap.size w wr) ∨ (i = .int .i64 2 ∧ OwnR wr w.heap.size v (ans ++ auth) ∧ Below w.heap.size w wr)) (fun _ i _ => 2 - (intOf i).toNat)
      case atStart => exact .inl ⟨rfl, unhide HO1, hb1⟩
      case round =>
        clear HO1 hb1 HGR
        rcases hrel with ⟨rfl, hov, hbr⟩ | ⟨rfl, hov, hbr⟩ | ⟨rfl, hov, hbr⟩
        · obtain ⟨v', w', hrun, ho', hb'⟩ := append_rv w.heap.size _ _ [] ans wr hov ((unhide HA).below hbr) hbr.size (by simp; omega)
          obtain ⟨av, cv, rfl⟩ := hov.slice
          have q0 := (hbr.cell (p := ⟨q, 0, none⟩) hq).trans h0
          have HE : Hid (OwnR w' w.heap.size v' ans ∧ Below w.heap.size w w') := ⟨ho', hbr.trans hb'⟩
          clear hov ho' hb'
          go_wp2_with (at_builtin; refine wpL_append rfl _ _ 41 rfl _ _ v' w' rfl rfl hrun ?_)
          go_roundw
          case rel => exact .inr (.inl ⟨by go_num, unhide HE⟩)
          case measure => simp [intOf]
        · obtain ⟨v', w', hrun, ho', hb'⟩ := append_rv w.heap.size _ _ ans auth wr hov ((unhide HB).below hbr) hbr.size (by omega)
          obtain ⟨av, cv, rfl⟩ := hov.slice
          have q1 := (hbr.cell (p := ⟨q, 1, none⟩) hq).trans h1
          have HE : Hid (OwnR w' w.heap.size v' (ans ++ auth) ∧ Below w.heap.size w w') := ⟨ho', hbr.trans hb'⟩
          clear hov ho' hb'
          go_wp2_with (at_builtin; refine wpL_append rfl _ _ 41 rfl _ _ v' w' rfl rfl hrun ?_)
          go_roundw
          case rel => exact .inr (.inr ⟨by go_num, unhide HE⟩)
          case measure => simp [intOf]
        · have HE := hide hov
          clear hov
          go_wp2_with fail
          go_ret
          exact ⟨_, rfl, unhide HE, hbr⟩
set_option maxRecDepth 100000 in
set_option maxHeartbeats 1600000 in
theorem additional_plain (zb : Nat) (rc : Int) (au : Bool) (va vb vc : Value) (ans auth : List Rec) (w : World) (ha : RV w va ans) (hb : RV w vb auth) (hla : ans.length ≤ 4000) (hlb : auth.length ≤ 4000)
    (hno : ∀ r ∈ ans ++ auth, (r.type != 2) = true ∧ (r.type != 15) = true ∧ r.data.length ≤ 3000) :
    Calls Tryz.prog 128 #[.pointer (some ⟨zb, 0, none⟩), .agg #[.int .i64 rc, .bool au, va, vb, vc]] w fun e w' => e = .returned (.slice none 0 0) ∧ Below w.heap.size w w' := by
  obtain ⟨aa, ca, rfl⟩ := rv_slice ha
  obtain ⟨ab, cb, rfl⟩ := rv_slice hb
  have HA := hide ha
  have HB := hide hb
  have HNO := hide hno
  clear ha hb hno
  go_enter Tryz.func128, Tryz.ntmps128
  go_wp2_with fail
  have hbx : Below w.heap.size w ((w.alloc (.cells #[.int .i64 rc, .bool au, .slice aa ans.length ca, .slice ab auth.length cb, vc] 43)).alloc (.cells #[.slice aa ans.length ca, .slice ab auth.length cb] 41)) := ((Below.refl _ _).alloc (Nat.le_refl _) _).alloc (by simp) _
  refine (concat_any (w.heap.size + 1) _ _ ans auth _ (by simp) (by go_simp) (by go_simp) ((unhide HA).below hbx) ((unhide HB).below hbx) hla hlb).mono ?_
  rintro e w1 ⟨v1, rfl, ho1, hb1⟩
  have hB1 : Below w.heap.size w w1 := hbx.trans (hb1.mono (by simp <;> omega))
  obtain ⟨a1, c1, rfl⟩ := ho1.slice
  have HO1 := hide ho1.rv
  have hll : (ans ++ auth).length ≤ 8000 := by rw [List.length_append]; omega
  clear ho1 hbx hb1 HA HB
  generalize ans ++ auth = L at *
  go_wp2_with fail
  go_loopw [5, 19] (fun ls i wr => ∃ k : Nat, ls = .slice none 0 0 ∧ i = .int .i64 k ∧ k ≤ L.length ∧ Below w1.heap.size w1 wr) (fun _ i _ => L.length - (intOf i).toNat)
  case atStart => exact ⟨0, rfl, rfl, Nat.zero_le _, Below.refl _ _⟩
  case round =>
    obtain ⟨k, rfl, rfl, hk, hbr⟩ := hrel
    by_cases hlt : k < L.length
    · have hrv := (unhide HO1).below hbr
      rcases hrv with ⟨e1, e2⟩ | ⟨b', off', cap', e1, hc', hr'⟩
      · rw [e2] at hlt; simp at hlt
      · cases e1
        obtain ⟨q0, q1, q2, q3⟩ := hr'.four k hlt
        obtain ⟨t2, t15, hdl⟩ := unhide HNO L[k] (List.getElem_mem hlt)
        have HLW := hide (fun W => lastWord_any L[k].data W hdl)
        clear hr'
        generalize L[k] = r at *
        go_wp2_with fail
        refine (unhide HLW _).mono ?_
        rintro e w4 ⟨rfl, hw4⟩
        have hb4 : Below wr.heap.size wr w4 := by rw [hw4]; exact (Below.refl _ _).alloc (Nat.le_refl _) _
        have d2 : w4.cell? ⟨wr.heap.size, 2, none⟩ = some (.int .i64 r.type) := by rw [hw4]; go_simp
        clear hw4 HLW
        go_wp2_with fail
        go_roundw
        case rel => exact ⟨k + 1, rfl, by go_num, by omega, hbr.trans (hb4.mono hbr.size)⟩
        case measure => simp [intOf]; omega
    · go_wp2_with fail
      go_ret
      exact ⟨rfl, hB1.trans (hbr.mono hB1.size)⟩
end Li
end Go.Proofs.YtkkpahmoljiepaaGreatDoor

/- Contracts: lookup's cancel: newCancel, asked, call. -/
namespace Go.Proofs.YtkkpahmoljiepaaGreatDoor
open Go.RowKit Go.Conc
open Pu (Str hide unhide)

/-- a cancel in memory: its channel, closed or not. -/
def CancelAt (w : World) (cb c : Nat) (shut : Bool) : Prop :=
  cb < w.heap.size ∧ w.cell? ⟨cb, 0, none⟩ = some (.chan (some c)) ∧ ∃ s r tm, w.heap[c]? = some (.chan 0 #[] shut s r tm)
theorem CancelAt.below {w w' : World} {cb c n : Nat} {shut : Bool} (h : CancelAt w cb c shut) (hb : Below n w w') (h1 : cb < n) (h2 : c < n) : CancelAt w' cb c shut := by
  obtain ⟨a, b, s, r, tm, d⟩ := h
  exact ⟨Nat.lt_of_lt_of_le a hb.size, (hb.cell (p := ⟨cb, 0, none⟩) h1).trans b, s, r, tm, (hb.block c h2).trans d⟩
theorem CancelAt.lt {w : World} {cb c : Nat} {shut : Bool} (h : CancelAt w cb c shut) : c < w.heap.size := by
  obtain ⟨_, _, _, _, _, h⟩ := h
  exact (Array.getElem?_eq_some_iff.1 h).1

namespace Ld
open Ka

theorem bytesE : ∃ i, Tryz.prog.info? 332 = some i ∧ i.bytes = 0 := by
  have h : (Tryz.prog.info? 332).map (·.bytes) = some 0 := by kernel_rfl
  obtain ⟨i, hi, hb⟩ := Option.map_eq_some_iff.1 h
  exact ⟨i, hi, hb⟩
theorem mk0 (w : World) : (Instr.makeChan 270 (.int .i64 0)).run Tryz.prog w = .ok (.chan (some w.heap.size)) (w.alloc (.chan 0 #[] false 0 0 false)) := by
  obtain ⟨i, hi, hb⟩ := bytesE
  simpa using run_makeChan (P := Tryz.prog) (w := w) Tryz.underlying270 hi .i64 0 (by omega) (by rw [hb]; omega)

set_option maxHeartbeats 400000 in
theorem newCancel_any (w : World) :
    Calls Tryz.prog 125 #[] w fun e w' => ∃ cb c, e = .returned (.pointer (some ⟨cb, 0, none⟩)) ∧ CancelAt w' cb c false ∧ w.heap.size ≤ cb ∧ w.heap.size ≤ c ∧ cb ≠ c ∧ Below w.heap.size w w' := by
  have hmc := mk0
  go_enter Tryz.func125, Tryz.ntmps125
  go_wp2
  go_ret
  refine ⟨_, w.heap.size, rfl, ⟨by simp, by go_simp, 0, 0, false, ?_⟩, by omega, Nat.le_refl _, by omega, ((Below.refl _ _).alloc (Nat.le_refl _) _).alloc (by simp) _⟩
  exact (Below.heap_alloc _ _ _ (by simp)).trans (World.alloc_heap_new w _)

set_option maxRecDepth 100000 in
set_option maxHeartbeats 400000 in
theorem asked_open (cb c : Nat) (w : World) (h : CancelAt w cb c false) :
    Calls Tryz.prog 193 #[.pointer (some ⟨cb, 0, none⟩)] w fun e w' => e = .returned (.bool false) ∧ w' = w := by
  obtain ⟨hlt, hc, s, r, tm, hch⟩ := h
  refine calls_of_loneTo fun cs => ?_
  have e : Frame.enter Tryz.prog 193 #[.pointer (some ⟨cb, 0, none⟩)] .normal = (base 193).at ⟨#[.pointer (some ⟨cb, 0, none⟩), undef, undef, undef, undef, undef, undef, undef, undef, undef], []⟩ [.code (Tryz.f193.body.getD .skip)] := by
    simp [Frame.enter, Frame.at, Tryz.func193, base, Tryz.f193]
  rw [e]
  refine LoneTo.goes (n := 13) ?_
  simp only [Tryz.f193, Option.getD_some]
  s_c stepG_seq
  s_reg
  s_op
  s_c stepG_region_end
  s_c stepG_seq
  s_reg
  s_op
  s_op
  s_op
  s_op
  s_c stepG_region_end
  s_c stepG_seq
  s_reg
  s_stop
  refine LoneTo.step (step_lone_select_default (c := c) (z := .agg #[]) (stepG_comm (cases := #[rcase c (.agg #[])]) (blocking := false) (shape := .select) (w' := w) rfl rfl (by decide) (by simp [go_sem, execOp, rcase, Act.eval])) hch) ?_
  rw [Frame.finish_at]
  walk_nrm
  refine LoneTo.goes (n := 10) ?_
  s_op
  s_op
  s_c stepG_region_end
  s_c stepG_block
  s_cond false
  s_c stepG_seq
  s_reg
  s_op
  s_c stepG_region_end
  s_c stepG_ret'
  s_stop
  refine LoneTo.done ⟨.returned (.bool false), _, rfl, ⟨rfl, rfl⟩, rfl, rfl, rfl, rfl, _, Tryz.func193, by simp [results, Tryz.f193, Frame.at]⟩
set_option maxRecDepth 100000 in
set_option maxHeartbeats 400000 in
theorem asked_shut (cb c : Nat) (w : World) (h : CancelAt w cb c true) :
    Calls Tryz.prog 193 #[.pointer (some ⟨cb, 0, none⟩)] w fun e w' => e = .returned (.bool true) ∧ w' = w := by
  obtain ⟨hlt, hc, s, r, tm, hch⟩ := h
  refine calls_of_loneTo fun cs => ?_
  have e : Frame.enter Tryz.prog 193 #[.pointer (some ⟨cb, 0, none⟩)] .normal = (base 193).at ⟨#[.pointer (some ⟨cb, 0, none⟩), undef, undef, undef, undef, undef, undef, undef, undef, undef], []⟩ [.code (Tryz.f193.body.getD .skip)] := by
    simp [Frame.enter, Frame.at, Tryz.func193, base, Tryz.f193]
  rw [e]
  refine LoneTo.goes (n := 13) ?_
  simp only [Tryz.f193, Option.getD_some]
  s_c stepG_seq
  s_reg
  s_op
  s_c stepG_region_end
  s_c stepG_seq
  s_reg
  s_op
  s_op
  s_op
  s_op
  s_c stepG_region_end
  s_c stepG_seq
  s_reg
  s_stop
  refine LoneTo.step (step_lone_select_recv_shut (c := c) (z := .agg #[]) (stepG_comm (cases := #[rcase c (.agg #[])]) (blocking := false) (shape := .select) (w' := w) rfl rfl (by decide) (by simp [go_sem, execOp, rcase, Act.eval])) hch) ?_
  rw [Frame.finish_at]
  walk_nrm
  refine LoneTo.goes (n := 10) ?_
  s_op
  s_op
  s_c stepG_region_end
  s_c stepG_block
  s_cond true
  s_c stepG_seq
  s_reg
  s_op
  s_c stepG_region_end
  s_c stepG_ret'
  s_stop
  refine LoneTo.done ⟨.returned (.bool true), _, rfl, ⟨rfl, rfl⟩, rfl, rfl, rfl, rfl, _, Tryz.func193, by simp [results, Tryz.f193, Frame.at]⟩
theorem asked_any (cb c : Nat) (shut : Bool) (w : World) (h : CancelAt w cb c shut) :
    Calls Tryz.prog 193 #[.pointer (some ⟨cb, 0, none⟩)] w fun e w' => e = .returned (.bool shut) ∧ w' = w := by
  cases shut
  · exact asked_open cb c w h
  · exact asked_shut cb c w h

set_option maxHeartbeats 400000 in
theorem call_any (cb c : Nat) (w : World) (h : CancelAt w cb c false) (hne : cb ≠ c) :
    Calls Tryz.prog 275 #[.pointer (some ⟨cb, 0, none⟩)] w fun e w' => (∃ v, e = .returned v) ∧ CancelAt w' cb c true ∧ (∀ k, k ≠ c → w'.heap[k]? = w.heap[k]?) ∧ w'.heap.size = w.heap.size ∧ ∀ B, B ≤ c → Below B w w' := by
  have HA := hide (asked_any cb c false w h)
  have hc := h.2.1
  have hcb := h.1
  obtain ⟨s, r, tm, hch⟩ := h.2.2
  clear h
  have hcl := fun ats ty => run_close_open (P := Tryz.prog) (w := w) ats ty hch
  go_enter Tryz.func275, Tryz.ntmps275
  go_wp2_with fail
  refine (unhide HA).mono ?_
  rintro e w ⟨rfl, rfl⟩
  go_wp2_with fail
  go_end0
  have hoth : ∀ k, k ≠ c → (w.heap.setIfInBounds c (.chan 0 #[] true s r tm))[k]? = w.heap[k]? := fun k hk => Array.getElem?_setIfInBounds_ne (by omega)
  have hclt : c < w.heap.size := (Array.getElem?_eq_some_iff.1 hch).1
  refine ⟨⟨_, rfl⟩, ⟨by simpa using hcb, (World.cell?_of_block (hoth cb hne)).trans hc, s, r, tm, ?_⟩, hoth, by simp, fun B hB => ⟨rfl, rfl, rfl, by simp, fun k hk => hoth k (by omega)⟩⟩
  show (w.heap.setIfInBounds c (.chan 0 #[] true s r tm))[c]? = _
  rw [Array.getElem?_setIfInBounds_self_of_lt hclt]
end Ld
end Go.Proofs.YtkkpahmoljiepaaGreatDoor

/- Contracts: (*search).follow, (*Table).Answer, (*Zone).Lookup of a name whose records are no CNAME, where no record names another. -/
namespace Go.Proofs.YtkkpahmoljiepaaGreatDoor
open Go.RowKit
open Pu (Str hide unhide)

def boolN : Value → Nat
  | .bool true => 1
  | _ => 0

/-- what is asked of a zone and a name, that a search is a plain one. -/
structure Plain (o n : Str) (rs : List Rec) (k : Int) : Prop where
  fit : Fit o rs
  len : n.length ≤ 2900
  soa : ∀ r ∈ setP (ofP rs o) 6, soaOk r ∧ r.data.length ≤ 3000 ∧ r.ttl ≤ 1000000000
  ne5 : (k == 5) = false
  ne255 : (k == 255) = false
  alias : aliasP (matchP rs n).1 = false
  mlen : (matchP rs n).1.length ≤ 3001
  under : Sp.under n o = true
  names : ∀ r ∈ stepAns o rs k n ++ stepAuth o rs k n, (r.type != 2) = true ∧ (r.type != 15) = true ∧ r.data.length ≤ 3000
  alen : (stepAns o rs k n).length ≤ 4000
  blen : (stepAuth o rs k n).length ≤ 4000

/-- an answer in memory. -/
def AnsAt (w : World) (rb : Nat) (c0 c1 c2 c3 c4 : Value) : Prop := w.heap[rb]? = some (.cells #[c0, c1, c2, c3, c4] 43)
theorem AnsAt.cells {w : World} {rb : Nat} {c0 c1 c2 c3 c4 : Value} (h : AnsAt w rb c0 c1 c2 c3 c4) : w.cell? ⟨rb, 0, none⟩ = some c0 ∧ w.cell? ⟨rb, 1, none⟩ = some c1 ∧ w.cell? ⟨rb, 2, none⟩ = some c2 ∧ w.cell? ⟨rb, 3, none⟩ = some c3 ∧ w.cell? ⟨rb, 4, none⟩ = some c4 := by
  unfold AnsAt at h
  refine ⟨?_, ?_, ?_, ?_, ?_⟩ <;> simp [World.cell?, h]
theorem AnsAt.frozen {w : World} {rb : Nat} {c0 c1 c2 c3 c4 : Value} (h : AnsAt w rb c0 c1 c2 c3 c4) (i : Nat) : w.frozen? ⟨rb, i, none⟩ = false := by
  unfold AnsAt at h; simp [World.frozen?, h]
theorem AnsAt.set0 {w : World} {rb : Nat} {c0 c1 c2 c3 c4 : Value} (h : AnsAt w rb c0 c1 c2 c3 c4) (x : Value) : AnsAt (w.setCell ⟨rb, 0, none⟩ x) rb x c1 c2 c3 c4 := by
  unfold AnsAt at *; simp only [World.setCell]; rw [Array.getElem?_modify, if_pos rfl, h]; rfl
theorem AnsAt.set1 {w : World} {rb : Nat} {c0 c1 c2 c3 c4 : Value} (h : AnsAt w rb c0 c1 c2 c3 c4) (x : Value) : AnsAt (w.setCell ⟨rb, 1, none⟩ x) rb c0 x c2 c3 c4 := by
  unfold AnsAt at *; simp only [World.setCell]; rw [Array.getElem?_modify, if_pos rfl, h]; rfl
theorem AnsAt.set2 {w : World} {rb : Nat} {c0 c1 c2 c3 c4 : Value} (h : AnsAt w rb c0 c1 c2 c3 c4) (x : Value) : AnsAt (w.setCell ⟨rb, 2, none⟩ x) rb c0 c1 x c3 c4 := by
  unfold AnsAt at *; simp only [World.setCell]; rw [Array.getElem?_modify, if_pos rfl, h]; rfl
theorem AnsAt.set3 {w : World} {rb : Nat} {c0 c1 c2 c3 c4 : Value} (h : AnsAt w rb c0 c1 c2 c3 c4) (x : Value) : AnsAt (w.setCell ⟨rb, 3, none⟩ x) rb c0 c1 c2 x c4 := by
  unfold AnsAt at *; simp only [World.setCell]; rw [Array.getElem?_modify, if_pos rfl, h]; rfl
theorem AnsAt.set4 {w : World} {rb : Nat} {c0 c1 c2 c3 c4 : Value} (h : AnsAt w rb c0 c1 c2 c3 c4) (x : Value) : AnsAt (w.setCell ⟨rb, 4, none⟩ x) rb c0 c1 c2 c3 x := by
  unfold AnsAt at *; simp only [World.setCell]; rw [Array.getElem?_modify, if_pos rfl, h]; rfl

namespace Lj
open Ka Kd Rf Rg Ia Iow Ie Zb Zc Za La Lb Re Lc Le Lf Lg Lh Li Ld

set_option maxHeartbeats 800000 in
theorem follow_plain (sb zb cb c b off cap : Nat) (k : Int) (au : Bool) (va vb vc : Value) (o n : Str) (rs : List Rec) (w : World) (hs : SearchAt w sb zb k 0 au va vb vc cb) (hva : va = .slice none 0 0) (hvb : vb = .slice none 0 0)
    (hz : TableAt w zb o b off cap rs) (hg : G w) (hzs : zb < sb) (hbs : b < sb) (h0 : 0 < sb) (hc : CancelAt w cb c false) (hp : Plain o n rs k) :
    Calls Tryz.prog 127 #[.pointer (some ⟨sb, 0, none⟩), .string (B n)] w fun e w' => e = .returned (.bool true) ∧ (∃ va' vb', SearchAt w' sb zb k (stepRc o rs n) au va' vb' vc cb ∧ OwnR w' (sb + 1) va' (stepAns o rs k n) ∧ OwnR w' (sb + 1) vb' (stepAuth o rs k n)) ∧ Below sb w w' := by
  have HST := hide (step_plain sb zb cb b off cap k au va vb vc o n rs [] w hs (by subst hva; exact World.ownsRow_nil _ _ _ _) hvb hz hg hzs hbs h0 hp.fit hp.len (by simp) hp.soa hp.ne5 hp.ne255 hp.alias hp.mlen)
  have HAS := hide (asked_any cb c false w hc)
  obtain ⟨s0, s1, s2, s3, s4, s5, s6, s7⟩ := hs.cells
  clear hs hz hg hc hp s0 s1 s2 s3 s4 s5 s6
  go_enter Tryz.func127, Tryz.ntmps127
  go_wp2_with fail
  go_loopw [1, 5] (fun nm mr wr => (nm = .string (B n) ∧ mr = .bool true ∧ wr = w) ∨ (mr = .bool false ∧ (∃ va' vb', SearchAt wr sb zb k (stepRc o rs n) au va' vb' vc cb ∧ OwnR wr (sb + 1) va' (stepAns o rs k n) ∧ OwnR wr (sb + 1) vb' (stepAuth o rs k n)) ∧ Below sb w wr)) (fun _ mr _ => boolN mr)
  case atStart => exact .inl ⟨rfl, rfl, rfl⟩
  case round =>
    rcases hrel with ⟨rfl, rfl, rfl⟩ | ⟨rfl, hpost⟩
    · go_wp2_with fail
      refine (unhide HAS).mono ?_
      rintro e w ⟨rfl, rfl⟩
      go_wp2_with fail
      refine (unhide HST).mono ?_
      rintro e w1 ⟨rfl, hpost⟩
      rw [List.nil_append] at hpost
      have HP := hide hpost
      clear hpost
      go_wp2_with fail
      go_roundw
      case rel => exact .inr ⟨rfl, unhide HP⟩
      case measure => simp [boolN]
    · have HP := hide hpost
      clear hpost
      go_wp2_with fail
      go_ret
      exact ⟨rfl, unhide HP⟩

set_option maxRecDepth 100000 in
set_option maxHeartbeats 1600000 in
theorem answer_plain (zb b off cap : Nat) (k : Int) (o n : Str) (rs : List Rec) (w : World) (hz : TableAt w zb o b off cap rs) (hg : G w) (hp : Plain o n rs k) :
    Calls Tryz.prog 69 #[.pointer (some ⟨zb, 0, none⟩), .string (B n), .int .i64 k] w fun e w' =>
      (∃ va vb, e = .returned (.agg #[.int .i64 (stepRc o rs n), .bool (decide ((cutP o rs n).length = 0)), va, vb, .slice none 0 0]) ∧ OwnR w' w.heap.size va (stepAns o rs k n) ∧ OwnR w' w.heap.size vb (stepAuth o rs k n)) ∧ Below w.heap.size w w' := by
  have hzb := hz.1
  have hblt := hz.2.2.2.2.1
  have hz0 := hz.2.1
  have hg0 := hg.1
  have HZ := hide hz
  have HG := hide hg
  have HP := hide hp
  have hu := hp.under
  have hol := hp.fit.2.1
  have hnl := hp.len
  have hlen := hp.fit.1
  have hbx : Below w.heap.size w (w.alloc (.cells #[.int .i64 0, .bool false, .slice none 0 0, .slice none 0 0, .slice none 0 0] 43)) := (Below.refl _ _).alloc (Nat.le_refl _) _
  have HU : Hid (∀ W, Calls Tryz.prog 110 #[.string (B n), .string (B o)] W fun e w' => e = .returned (.bool true) ∧ w' = W) := fun W => by
    have := under_any (B n) (B o) W (by rw [size_B]; omega) (by rw [size_B]; omega)
    rw [data_B, data_B, hu] at this
    exact this
  clear hz hg hp hu
  go_enter Tryz.func69, Tryz.ntmps69
  go_wp2_with fail
  refine (unhide HU _).mono ?_
  rintro e w1 ⟨rfl, hw1⟩
  have hb1 : Below w.heap.size w w1 := by rw [hw1]; exact hbx
  have r1 : w1.heap[w.heap.size]? = some (.cells #[.int .i64 0, .bool false, .slice none 0 0, .slice none 0 0, .slice none 0 0] 43) := by rw [hw1]; exact heap_alloc_new w _
  clear hw1 hbx HU
  go_wp2_with fail
  refine (newCancel_any w1).mono ?_
  rintro e w2 ⟨cb, c, rfl, hc2, hcb, hcc, hne, hb2⟩
  have HC2 := hide hc2
  have hcl := hc2.lt
  have hcbl := hc2.1
  have hb12 := hb1.trans (hb2.mono hb1.size)
  have r2 := (hb2.block w.heap.size (Array.getElem?_eq_some_iff.1 r1).1).trans r1
  clear hc2 r1
  go_wp2_with fail
  have hb3 : Below w2.heap.size w2 (w2.alloc (.cells #[.pointer (some ⟨zb, 0, none⟩), .int .i64 k, .int .i64 0, .bool false, .slice none 0 0, .slice none 0 0, .slice none 0 0, .pointer (some ⟨cb, 0, none⟩)] 210)) := (Below.refl _ _).alloc (Nat.le_refl _) _
  have S3 : SearchAt (w2.alloc (.cells #[.pointer (some ⟨zb, 0, none⟩), .int .i64 k, .int .i64 0, .bool false, .slice none 0 0, .slice none 0 0, .slice none 0 0, .pointer (some ⟨cb, 0, none⟩)] 210)) w2.heap.size zb k 0 false (.slice none 0 0) (.slice none 0 0) (.slice none 0 0) cb := heap_alloc_new w2 _
  have hs2 := hb2.size
  have hs1 := hb1.size
  refine (cutOver_any zb b off cap o n rs _ (((unhide HZ).below hb12).below hb3) (((unhide HG).below hb12).below hb3) hlen (by omega) hol).mono ?_
  rintro e w4 ⟨⟨v4, rfl, hv4⟩, hb4⟩
  obtain ⟨a4, c4, rfl⟩ := hv4.slice
  have S4 := S3.kept (hb4.block w2.heap.size (by simp))
  have hb24 : Below w2.heap.size w2 w4 := hb3.trans (hb4.mono (by simp <;> omega))
  have hs4 : w2.heap.size < w4.heap.size := S4.lt
  clear S3 hv4 hb3 hb4
  obtain ⟨x0, x1, x2, x3, x4, x5, x6, x7⟩ := S4.cells
  have xf := S4.frozen 3
  have H4 := hide S4
  clear S4 x0 x1 x2 x4 x5 x6 x7
  obtain ⟨au, hcI, hau⟩ : ∃ au : Bool, (((cutP o rs n).length : Int) == 0) = au ∧ decide ((cutP o rs n).length = 0) = au := ⟨_, rfl, by
    by_cases h : (cutP o rs n).length = 0
    · rw [h]; rfl
    · rw [decide_eq_false h, eq_comm, beq_eq_false_iff_ne]; omega⟩
  have HAU := hide hau
  clear hau
  have S5 := (unhide H4).set3 au
  have hb45 : Below w2.heap.size w2 (w4.setCell ⟨w2.heap.size, 3, none⟩ (.bool au)) := hb24.setCell (p := ⟨w2.heap.size, 3, none⟩) (Nat.le_refl _) _
  have hs5 : (w4.setCell ⟨w2.heap.size, 3, none⟩ (.bool au)).heap.size = w4.heap.size := by simp [World.setCell]
  have HF := hide (follow_plain w2.heap.size zb cb c b off cap k au _ _ _ o n rs _ S5 rfl rfl ((unhide HZ).below (hb12.trans (hb45.mono hb12.size))) ((unhide HG).below (hb12.trans (hb45.mono hb12.size))) (by omega) (by omega) (by omega) ((unhide HC2).below hb45 hcbl hcl) (unhide HP))
  clear S5 H4
  go_wp2_with fail
  refine (unhide HF).mono ?_
  rintro e w6 ⟨rfl, ⟨va, vb, hs6, hov, hrv⟩, hb6⟩
  have hB6 : Below w2.heap.size w2 w6 := hb45.trans hb6
  have r6 := (hB6.block w.heap.size (by omega)).trans r2
  obtain ⟨y0, y1, y2, y3, y4, y5, y6, y7⟩ := hs6.cells
  obtain ⟨aa, ca, rfl⟩ := hov.slice
  obtain ⟨ab, cb', rfl⟩ := hrv.slice
  have HAD := hide (additional_plain zb (stepRc o rs n) au _ _ (.slice none 0 0) _ _ w6 hov.rv hrv.rv (unhide HP).alen (unhide HP).blen (unhide HP).names)
  have HS6 := hide hs6
  have HOV := hide hov
  have HRV := hide hrv
  have hs6l := hs6.lt
  clear HF hs6 hov hrv
  go_wp2_with fail
  refine (unhide HAD).mono ?_
  rintro e w7 ⟨rfl, hb7⟩
  have hs7 := (unhide HS6).kept (hb7.block w2.heap.size hs6l)
  obtain ⟨z0, z1, z2, z3, z4, z5, z6, z7⟩ := hs7.cells
  have zf := hs7.frozen 6
  have hs8 := hs7.set6 (.slice none 0 0)
  obtain ⟨p0, p1, p2, p3, p4, p5, p6, p7⟩ := hs8.cells
  have r7 := (hb7.block w.heap.size (by have := hb6.size; rw [hs5] at this; omega)).trans r6
  have hRV7 := hide (And.intro ((unhide HOV).below hb7) ((unhide HRV).below hb7))
  obtain ⟨k0, k1, k2, k3, k4⟩ := AnsAt.cells r7
  have kf0 := AnsAt.frozen r7 0
  have kf1 := AnsAt.frozen r7 1
  have kf2 := AnsAt.frozen r7 2
  have kf3 := AnsAt.frozen r7 3
  have kf4 := AnsAt.frozen r7 4
  clear hs7 hs8 y0 y1 y2 y3 y4 y5 y6 y7 x3 xf r2 r6
  go_wp2_with fail
  have A9 := ((((AnsAt.set0 (show AnsAt (w7.setCell ⟨w2.heap.size, 6, none⟩ (.slice none 0 0)) w.heap.size _ _ _ _ _ from (Below.heap_setCell _ _ _ _ (by show w.heap.size ≠ w2.heap.size; omega)).trans r7) (.int .i64 (stepRc o rs n))).set1 (.bool au)).set2 (.slice aa (stepAns o rs k n).length ca)).set3 (.slice ab (stepAuth o rs k n).length cb')).set4 (.slice none 0 0)
  obtain ⟨n0, n1, n2, n3, n4⟩ := A9.cells
  have hB7 : Below w2.heap.size w2 w7 := hB6.trans (hb7.mono (by omega))
  have hrvs := unhide hRV7
  refine bodyPost_ret (v := .agg #[.int .i64 (stepRc o rs n), .bool au, .slice aa (stepAns o rs k n).length ca, .slice ab (stepAuth o rs k n).length cb', .slice none 0 0]) ?_ rfl ?_
  · simp [results, Tryz.results69, go_sem, n0, n1, n2, n3, n4]
  · refine ⟨⟨_, _, by rw [unhide HAU], ?_, ?_⟩, ?_⟩
    · exact (((((((hrvs.1.set_low (k := w2.heap.size) (i := 6) (by omega) _).set_low (k := w.heap.size) (i := 0) (by omega) _).set_low (k := w.heap.size) (i := 1) (by omega) _).set_low (k := w.heap.size) (i := 2) (by omega) _).set_low (k := w.heap.size) (i := 3) (by omega) _).set_low (k := w.heap.size) (i := 4) (by omega) _)).base (by omega)
    · exact (((((((hrvs.2.set_low (k := w2.heap.size) (i := 6) (by omega) _).set_low (k := w.heap.size) (i := 0) (by omega) _).set_low (k := w.heap.size) (i := 1) (by omega) _).set_low (k := w.heap.size) (i := 2) (by omega) _).set_low (k := w.heap.size) (i := 3) (by omega) _).set_low (k := w.heap.size) (i := 4) (by omega) _)).base (by omega)
    · have h7 := hb12.trans (hB7.mono hb12.size)
      exact (((((h7.setCell (p := ⟨w2.heap.size, 6, none⟩) (by show w.heap.size ≤ w2.heap.size; omega) _).setCell (p := ⟨w.heap.size, 0, none⟩) (Nat.le_refl _) _).setCell (p := ⟨w.heap.size, 1, none⟩) (Nat.le_refl _) _).setCell (p := ⟨w.heap.size, 2, none⟩) (Nat.le_refl _) _).setCell (p := ⟨w.heap.size, 3, none⟩) (Nat.le_refl _) _).setCell (p := ⟨w.heap.size, 4, none⟩) (Nat.le_refl _) _
end Lj
end Go.Proofs.YtkkpahmoljiepaaGreatDoor

/- Contract: (*zone.Zone).Lookup of a plain search. -/
namespace Go.Proofs.YtkkpahmoljiepaaGreatDoor
open Go.RowKit
open Pu (Str hide unhide)

namespace Lk
open Ka Kd Rf Rg Ia Iow Ie Zb Zc Za La Lb Re Lc Le Lf Lg Lh Li Ld Lj

set_option maxRecDepth 100000 in
set_option maxHeartbeats 1600000 in
theorem lookup_plain (zb b off cap : Nat) (k : Int) (o n : Str) (rs : List Rec) (w : World) (hz : TableAt w zb o b off cap rs) (hg : G w) (hp : Plain o n rs k) (hpl : Sp.plain n = true) (hk1 : 1 ≤ k) (hk2 : k ≤ 65535) :
    Calls Tryz.prog 24 #[.pointer (some ⟨zb, 0, none⟩), .string (B n), .int .i64 k] w fun e w' =>
      (∃ va vb, e = .returned (.tuple #[.agg #[.int .i64 (stepRc o rs n), .bool (decide ((cutP o rs n).length = 0)), va, vb, .slice none 0 0], .int .i64 0]) ∧ OwnR w' w.heap.size va (stepAns o rs k n) ∧ OwnR w' w.heap.size vb (stepAuth o rs k n)) ∧ Below w.heap.size w w' := by
  have hnl := hp.len
  have hbx : Below w.heap.size w (w.alloc (.cells #[.int .i64 0, .bool false, .slice none 0 0, .slice none 0 0, .slice none 0 0] 43)) := (Below.refl _ _).alloc (Nat.le_refl _) _
  have HPL : Hid (Calls Tryz.prog 68 #[.string (B n)] (w.alloc (.cells #[.int .i64 0, .bool false, .slice none 0 0, .slice none 0 0, .slice none 0 0] 43)) fun e w' => e = .returned (.bool true) ∧ Below (w.alloc (.cells #[.int .i64 0, .bool false, .slice none 0 0, .slice none 0 0, .slice none 0 0] 43)).heap.size (w.alloc (.cells #[.int .i64 0, .bool false, .slice none 0 0, .slice none 0 0, .slice none 0 0] 43)) w') := by
    have := plain_any (B n) (w.alloc (.cells #[.int .i64 0, .bool false, .slice none 0 0, .slice none 0 0, .slice none 0 0] 43)) (hg.below hbx) (by rw [size_B]; simp [maxLen]; omega)
    rw [data_B, hpl] at this
    exact this
  have HA := hide (fun W (hb : Below w.heap.size w W) => answer_plain zb b off cap k o n rs W (hz.below hb) (hg.below hb) hp)
  clear hz hg hp hpl
  go_enter Tryz.func24, Tryz.ntmps24
  go_wp2_with fail
  refine (unhide HPL).mono ?_
  rintro e w1 ⟨rfl, hb1⟩
  have hB1 : Below w.heap.size w w1 := hbx.trans (hb1.mono (by simp <;> omega))
  have r1 : AnsAt w1 w.heap.size (.int .i64 0) (.bool false) (.slice none 0 0) (.slice none 0 0) (.slice none 0 0) := (hb1.block w.heap.size (by simp)).trans (heap_alloc_new w _)
  have rl := (Array.getElem?_eq_some_iff.1 r1).1
  clear hbx hb1 HPL
  go_wp2_with fail
  refine (Pa.clone_any (B n) w1 (by rw [size_B]; omega)).mono ?_
  rintro e w2 ⟨rfl, hb2⟩
  have hB2 := hB1.trans (hb2.mono hB1.size)
  have r2 : AnsAt w2 w.heap.size (.int .i64 0) (.bool false) (.slice none 0 0) (.slice none 0 0) (.slice none 0 0) := (hb2.block w.heap.size rl).trans r1
  have rl2 := Nat.lt_of_lt_of_le rl hb2.size
  clear r1
  go_wp2_with fail
  refine (unhide HA w2 hB2).mono ?_
  rintro e w7 ⟨⟨va, vb, rfl, hva, hvb⟩, hb7⟩
  have r7 : AnsAt w7 w.heap.size (.int .i64 0) (.bool false) (.slice none 0 0) (.slice none 0 0) (.slice none 0 0) := (hb7.block w.heap.size rl2).trans r2
  obtain ⟨aa, ca, rfl⟩ := hva.slice
  obtain ⟨ab, cb', rfl⟩ := hvb.slice
  obtain ⟨k0, k1, k2, k3, k4⟩ := AnsAt.cells r7
  have kf0 := AnsAt.frozen r7 0
  have kf1 := AnsAt.frozen r7 1
  have kf2 := AnsAt.frozen r7 2
  have kf3 := AnsAt.frozen r7 3
  have kf4 := AnsAt.frozen r7 4
  have hRV := hide (And.intro hva hvb)
  have R7 := hide r7
  clear hva hvb r2 r7
  obtain ⟨au, hau⟩ : ∃ au : Bool, au = decide ((cutP o rs n).length = 0) := ⟨_, rfl⟩
  rw [← hau]
  have HAU := hide hau
  clear hau
  go_wp2_with fail
  have A9 := (((((unhide R7).set0 (.int .i64 (stepRc o rs n))).set1 (.bool au)).set2 (.slice aa (stepAns o rs k n).length ca)).set3 (.slice ab (stepAuth o rs k n).length cb')).set4 (.slice none 0 0)
  obtain ⟨n0, n1, n2, n3, n4⟩ := A9.cells
  have hB7 := hB2.trans (hb7.mono hB2.size)
  have hs2 := hB2.size
  have hrvs := unhide hRV
  refine bodyPost_ret (v := .tuple #[.agg #[.int .i64 (stepRc o rs n), .bool au, .slice aa (stepAns o rs k n).length ca, .slice ab (stepAuth o rs k n).length cb', .slice none 0 0], .int .i64 0]) ?_ rfl ?_
  · simp [results, Tryz.results24, go_sem, n0, n1, n2, n3, n4]
  · refine ⟨⟨_, _, by rw [unhide HAU], ?_, ?_⟩, ?_⟩
    · exact (((((hrvs.1.set_low (k := w.heap.size) (i := 0) (by omega) _).set_low (k := w.heap.size) (i := 1) (by omega) _).set_low (k := w.heap.size) (i := 2) (by omega) _).set_low (k := w.heap.size) (i := 3) (by omega) _).set_low (k := w.heap.size) (i := 4) (by omega) _).base (by omega)
    · exact (((((hrvs.2.set_low (k := w.heap.size) (i := 0) (by omega) _).set_low (k := w.heap.size) (i := 1) (by omega) _).set_low (k := w.heap.size) (i := 2) (by omega) _).set_low (k := w.heap.size) (i := 3) (by omega) _).set_low (k := w.heap.size) (i := 4) (by omega) _).base (by omega)
    · exact ((((hB7.setCell (p := ⟨w.heap.size, 0, none⟩) (Nat.le_refl _) _).setCell (p := ⟨w.heap.size, 1, none⟩) (Nat.le_refl _) _).setCell (p := ⟨w.heap.size, 2, none⟩) (Nat.le_refl _) _).setCell (p := ⟨w.heap.size, 3, none⟩) (Nat.le_refl _) _).setCell (p := ⟨w.heap.size, 4, none⟩) (Nat.le_refl _) _
end Lk
end Go.Proofs.YtkkpahmoljiepaaGreatDoor

/- Contracts: beaconkeep.digits, host. -/
namespace Go.Proofs.YtkkpahmoljiepaaGreatDoor
open Go.RowKit
open Pu (hide unhide)
namespace Kc
open Ka

theorem conv1 (w : World) (c : Int) : Sem.run Tryz.prog (convert 58 9 (.slice (some ⟨w.heap.size, 0, none⟩) 1 1)) (w.alloc (.cells #[.int .u8 c] 5)) = .ok (.string (strOfNums [c])) (w.alloc (.cells #[.int .u8 c] 5)) :=
  run_convert_bytes_arg _ 58 5 (by kernel_rfl) (by kernel_rfl) w.heap.size 0 1 1 [c] rfl (fun i hi => by
    obtain rfl : i = 0 := by omega
    simp) 9 (by kernel_rfl)

/-- the digits so far, before the loop's next round: what is still to write stands ahead. -/
def digitsI (n : Nat) : Pu.Str := if h : n < 10 then [UInt8.ofNat (48 + n)] else digitsI (n / 10) ++ [UInt8.ofNat (48 + n % 10)]

theorem digitsI_small (n : Nat) (h : n < 10) : digitsI n = [UInt8.ofNat (48 + n)] := by rw [digitsI, dif_pos h]
theorem digitsI_great (n : Nat) (h : ¬ n < 10) : digitsI n = digitsI (n / 10) ++ [UInt8.ofNat (48 + n % 10)] := by rw [digitsI, dif_neg h]
theorem digitsI_len : ∀ (f n : Nat), n < 10 ^ f → (digitsI n).length ≤ f + 1
  | 0, n, h => by rw [digitsI_small n (by omega)]; simp
  | f + 1, n, h => by
    by_cases h1 : n < 10
    · rw [digitsI_small n h1]; simp
    · rw [digitsI_great n h1, List.length_append]
      have := digitsI_len f (n / 10) (by rw [Nat.pow_succ] at h; omega)
      simp; omega

def hd (k : Nat) : Pu.Str := if k < 10 then [] else digitsI (k / 10)
theorem digitsI_hd (k : Nat) : digitsI k = hd k ++ [UInt8.ofNat (48 + k % 10)] := by
  unfold hd
  split
  · rw [digitsI_small k (by assumption), Nat.mod_eq_of_lt (by assumption)]; rfl
  · rw [digitsI_great k (by assumption)]

theorem str1 (c : Nat) : strOfNums [48 + (c : Int) % 10] = ⟨[UInt8.ofNat (48 + c % 10)].toArray⟩ := by
  unfold strOfNums
  have : (48 + (c : Int) % 10).toNat = 48 + c % 10 := by omega
  simp [this]

set_option maxRecDepth 100000 in
set_option maxHeartbeats 800000 in
theorem digits_any (n : Nat) (w : World) (hn : n ≤ 1000000) :
    Calls Tryz.prog 21 #[.int .i64 n] w fun e w' => e = .returned (.string ⟨(digitsI n).toArray⟩) ∧ Below w.heap.size w w' := by
  have hcv := conv1
  have hlen := digitsI_len 7 n (by omega)
  have hsz : ∀ c : Int, (strOfNums [c]).size = 1 := fun _ => rfl
  go_enter Tryz.func21, Tryz.ntmps21
  go_wp2
  go_loopw [0, 3] (fun a s wr => ∃ (k : Nat) (t : ByteArray), a = .int .i64 k ∧ k ≤ 1000000 ∧ s = .string t ∧ digitsI n = hd k ++ t.data.toList ∧ Below w.heap.size w wr) (fun a _ _ => (intOf a).toNat)
  case atStart =>
    exact ⟨n, _, rfl, hn, rfl, by rw [str1, digitsI_hd n], (Below.refl _ _).alloc (Nat.le_refl _) _⟩
  case round =>
    obtain ⟨k, t, rfl, hk, rfl, hd1, hb⟩ := hrel
    have H := hide hd1
    have hts : t.size ≤ 8 := by
      have := congrArg List.length hd1
      rw [List.length_append, Pu.len_eq] at this
      omega
    clear hd1
    by_cases h10 : k < 10
    · have hfin : Hid (digitsI n = t.data.toList) := by
        rw [unhide H, hd, if_pos h10]; rfl
      go_wp2
      go_ret
      refine ⟨?_, hb⟩
      rw [unhide hfin]
      rfl
    · have hgt : (10 : Int) ≤ k := by omega
      have hstep : digitsI n = hd (k / 10) ++ (UInt8.ofNat (48 + k / 10 % 10) :: t.data.toList) := by
        rw [unhide H, hd, if_neg h10, digitsI_hd (k / 10)]; simp
      have Hs := hide hstep
      clear hstep
      go_wp2
      go_roundw
      case rel =>
        refine ⟨k / 10, _, by go_num, by omega, rfl, ?_, hb.trans ((Below.refl _ _).alloc hb.size _)⟩
        rw [unhide Hs, show ((k : Int) / 10) = ((k / 10 : Nat) : Int) from by omega, str1 (k / 10)]
        simp
      case measure => simp [intOf]; omega

set_option maxRecDepth 100000 in
set_option maxHeartbeats 800000 in
theorem host_any (n : Nat) (w : World) (hn : n ≤ 1000000) :
    Calls Tryz.prog 25 #[.int .i64 n] w fun e w' => e = .returned (.string ⟨(104 :: digitsI n).toArray⟩) ∧ Below w.heap.size w w' := by
  have hlen := digitsI_len 7 n (by omega)
  have hsz : (⟨(digitsI n).toArray⟩ : ByteArray).size ≤ 8 := by simpa [ByteArray.size] using hlen
  go_enter Tryz.func25, Tryz.ntmps25
  go_wp2_with (go_at_call 21; refine (digits_any n w hn).mono ?_; rintro e w' ⟨rfl, hb⟩)
  go_ret
  exact ⟨ret_str (by simp), hb⟩
end Kc
end Go.Proofs.YtkkpahmoljiepaaGreatDoor
