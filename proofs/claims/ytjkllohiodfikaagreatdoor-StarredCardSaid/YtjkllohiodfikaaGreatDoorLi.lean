/- Contracts: slices.Grow at nil, slices.Concat of two lists; (*Table).additional where no record names another. -/
import Derived.Test.YtjkllohiodfikaaGreatDoorLh
import Derived.Test.YtjkllohiodfikaaGreatDoorShG
set_option linter.unusedSimpArgs false
set_option linter.unusedVariables false
namespace Go.Proofs.YtjkllohiodfikaaGreatDoor
open Go.RowKit
open Pu (Str hide unhide)

namespace Li
open Ka Kd Rf Rg Ia Iow Ie Zb Zc Za La Lb Re Lc Le Lf Lg Lh

theorem grow_nil (n : Nat) (w : World) (hn : n ≤ 10000) :
    Calls Tryz.prog 200 #[.slice none 0 0, .int .i64 n] w fun e w' => ∃ v, e = .returned v ∧ OwnR w' w.heap.size v [] ∧ Below w.heap.size w w' := by
  obtain ⟨i0, hi, hz0, hz1, hz2⟩ := info_parts infoR
  by_cases h0 : n = 0
  · subst h0
    refine (Any8.slices_Grow_room Tryz.lGrow none 0 0 0 w (Nat.le_refl _) (by omega) (by omega) (by omega)).mono ?_
    rintro e w' ⟨rfl, rfl⟩
    exact ⟨_, rfl, World.ownsRow_nil _ _ _ _, Below.refl _ _⟩
  · refine (Any8.slices_Grow_grow Tryz.lGrow i0 _ hi hz0 (by rw [hz1]; omega) none 0 0 n [] w (Nat.le_refl _) (by omega) (by rw [hz2]; omega) (by omega) (by simp) (fun _ => rfl) (fun a h => by cases h)).mono ?_
    rintro e w' ⟨rfl, rfl⟩
    have hge := grownCap_ge w (0 + n) 0 (Tryz.lGrow_ren.t 25)
    have hle := grownCap_le_maxLen w (0 + n) 0 (Tryz.lGrow_ren.t 25) (by simp [maxLen]; omega)
    refine ⟨_, rfl, ⟨rfl, .inr ⟨w.heap.size, _, _, rfl, Nat.le_refl _, heap_alloc_new w.drew _, Nat.zero_le _, hle, ?_, rfl⟩⟩, ((Below.refl _ _).drew).alloc (Nat.le_refl _) _⟩
    have e1 : (Value.cells (.agg #[.string ⟨#[]⟩, .int .i64 0, .int .i64 0, .string ⟨#[]⟩])).size = 4 := rfl
    rw [Array.size_append, Array.size_append, size_zeroCells, size_zeroCells, e1]
    have e2 : (List.toArray ([] : List Value)).size = 0 := rfl
    rw [e2]
    generalize grownCap w (0 + n) 0 (Tryz.lGrow_ren.t 25) = G at *
    omega

/-- append of a list of records, nil or not. -/
theorem append_rv (base : Nat) (va xv : Value) (ans xs : List Rec) (w : World) (ho : OwnR w base va ans) (hx : RV w xv xs) (hb : base ≤ w.heap.size) (hl : ans.length + xs.length ≤ 100000) :
    ∃ v' w', (Builtin.append_ #[41, 41] 41 #[va, xv]).run Tryz.prog w = .ok v' w' ∧ OwnR w' base v' (ans ++ xs) ∧ Below base w w' := by
  rcases hx with ⟨rfl, rfl⟩ | ⟨b, off, cap, rfl, hc, hr⟩
  · obtain ⟨i0, hi, hz0, hz1, hz2⟩ := info_parts infoR
    exact ⟨va, w, run_append_owned_none (P := Tryz.prog) (w := w) base 41 41 47 i0 4 underR hi va _ _ ho, by rw [List.append_nil]; exact ho, Below.refl _ _⟩
  · obtain ⟨v', w', h1, h2, h3, _⟩ := append_run base va ans xs b off cap w ho hr hb hl
    exact ⟨v', w', h1, h2, (Below.refl _ w).grown h3 hb (fun k hk => (ho.own_lt0 k hk).1)⟩

theorem wpL_append {P : Program} {ops : Array Oper} {rest : List Oper} {o : Oper} {a : Act} {w : World} {Q : Exit → Act → World → Prop} (hgd : o.guard = none) (s x : Operand) (t : TypeId) (ho : o.op = .call { callee := .builtin .append, args := #[s, x], argTypes := #[t, t] }) (v xv v' : Value) (w' : World) (hs : a.eval s = v) (hx : a.eval x = xv)
    (hr : (Builtin.append_ #[t, t] o.type #[v, xv]).run P w = .ok v' w') (h : wpList P ops Q rest (a.put o.dst v') w') : wpList P ops Q (o :: rest) a w := by
  refine wpList_plain hgd fun K hK => ?_
  unfold Oper.wp execOp
  simp only [ho, resolve, invoke, builtin, Sem.run_bind, Sem.run_pure, Result.andThen_ok, List.map_toArray, List.map_cons, List.map_nil, hs, hx, hr]
  exact hK _ _ h

set_option maxRecDepth 100000 in
set_option maxHeartbeats 1600000 in
theorem concat_any (q : Nat) (va vb : Value) (ans auth : List Rec) (w : World) (hq : q < w.heap.size) (h0 : w.cell? ⟨q, 0, none⟩ = some va) (h1 : w.cell? ⟨q, 1, none⟩ = some vb) (ha : RV w va ans) (hb : RV w vb auth) (hla : ans.length ≤ 4000) (hlb : auth.length ≤ 4000) :
    Calls Tryz.prog 155 #[.slice (some ⟨q, 0, none⟩) 2 2] w fun e w' => ∃ v, e = .returned v ∧ OwnR w' w.heap.size v (ans ++ auth) ∧ Below w.heap.size w w' := by
  have HA := hide ha
  have HB := hide hb
  obtain ⟨aa, ca, rfl⟩ := rv_slice ha
  obtain ⟨ab, cb, rfl⟩ := rv_slice hb
  clear ha hb
  have HGR := hide (grow_nil (ans.length + auth.length) w (by omega))
  go_enter Tryz.func155, Tryz.ntmps155
  go_wp2_with fail
  go_loop [3, 11] (fun sz i => (sz = .int .i64 0 ∧ i = .int .i64 0) ∨ (sz = .int .i64 ans.length ∧ i = .int .i64 1) ∨ (sz = .int .i64 ((ans.length + auth.length : Nat) : Int) ∧ i = .int .i64 2)) (fun _ i => 2 - (intOf i).toNat)
  case atStart => exact .inl ⟨rfl, rfl⟩
  case round =>
    rcases hrel with ⟨rfl, rfl⟩ | ⟨rfl, rfl⟩ | ⟨rfl, rfl⟩
    · go_wp2_with fail
      go_round
      case rel => exact .inr (.inl ⟨by go_num, by go_num⟩)
      case measure => simp [intOf]
    · go_wp2_with fail
      go_round
      case rel => exact .inr (.inr ⟨by go_num, by go_num⟩)
      case measure => simp [intOf]
    · go_wp2_with fail
      refine (unhide HGR).mono ?_
      rintro e w1 ⟨v1, rfl, ho1, hb1⟩
      have HO1 := hide ho1
      clear ho1
      go_wp2_with fail
      go_loopw [6, 27] (fun v i wr => (i = .int .i64 0 ∧ OwnR wr w.heap.size v [] ∧ Below w.heap.size w wr) ∨ (i = .int .i64 1 ∧ OwnR wr w.heap.size v ans ∧ Below w.heap.size w wr) ∨ (i = .int .i64 2 ∧ OwnR wr w.heap.size v (ans ++ auth) ∧ Below w.heap.size w wr)) (fun _ i _ => 2 - (intOf i).toNat)
      case atStart => exact .inl ⟨rfl, unhide HO1, hb1⟩
      case round =>
        clear HO1 hb1 HGR
        rcases hrel with ⟨rfl, hov, hbr⟩ | ⟨rfl, hov, hbr⟩ | ⟨rfl, hov, hbr⟩
        · obtain ⟨v', w', hrun, ho', hb'⟩ := append_rv w.heap.size _ _ [] ans wr hov ((unhide HA).below hbr) hbr.size (by simp; omega)
          obtain ⟨av, cv, rfl⟩ := hov.slice
          have q0 := (hbr.cell (p := ⟨q, 0, none⟩) hq).trans h0
          have HE : Hid (OwnR w' w.heap.size v' ans ∧ Below w.heap.size w w') := ⟨ho', hbr.trans hb'⟩
          clear hov ho' hb'
          go_wp2_with (at_builtin; refine wpL_append rfl _ _ 41 rfl _ _ v' w' rfl rfl hrun ?_)
          go_roundw
          case rel => exact .inr (.inl ⟨by go_num, unhide HE⟩)
          case measure => simp [intOf]
        · obtain ⟨v', w', hrun, ho', hb'⟩ := append_rv w.heap.size _ _ ans auth wr hov ((unhide HB).below hbr) hbr.size (by omega)
          obtain ⟨av, cv, rfl⟩ := hov.slice
          have q1 := (hbr.cell (p := ⟨q, 1, none⟩) hq).trans h1
          have HE : Hid (OwnR w' w.heap.size v' (ans ++ auth) ∧ Below w.heap.size w w') := ⟨ho', hbr.trans hb'⟩
          clear hov ho' hb'
          go_wp2_with (at_builtin; refine wpL_append rfl _ _ 41 rfl _ _ v' w' rfl rfl hrun ?_)
          go_roundw
          case rel => exact .inr (.inr ⟨by go_num, unhide HE⟩)
          case measure => simp [intOf]
        · have HE := hide hov
          clear hov
          go_wp2_with fail
          go_ret
          exact ⟨_, rfl, unhide HE, hbr⟩
set_option maxRecDepth 100000 in
set_option maxHeartbeats 1600000 in
theorem additional_plain (zb : Nat) (rc : Int) (au : Bool) (va vb vc : Value) (ans auth : List Rec) (w : World) (ha : RV w va ans) (hb : RV w vb auth) (hla : ans.length ≤ 4000) (hlb : auth.length ≤ 4000)
    (hno : ∀ r ∈ ans ++ auth, (r.type != 2) = true ∧ (r.type != 15) = true ∧ r.data.length ≤ 3000) :
    Calls Tryz.prog 101 #[.pointer (some ⟨zb, 0, none⟩), .agg #[.int .i64 rc, .bool au, va, vb, vc]] w fun e w' => e = .returned (.slice none 0 0) ∧ Below w.heap.size w w' := by
  obtain ⟨aa, ca, rfl⟩ := rv_slice ha
  obtain ⟨ab, cb, rfl⟩ := rv_slice hb
  have HA := hide ha
  have HB := hide hb
  have HNO := hide hno
  clear ha hb hno
  go_enter Tryz.func101, Tryz.ntmps101
  go_wp2_with fail
  have hbx : Below w.heap.size w ((w.alloc (.cells #[.int .i64 rc, .bool au, .slice aa ans.length ca, .slice ab auth.length cb, vc] 43)).alloc (.cells #[.slice aa ans.length ca, .slice ab auth.length cb] 41)) := ((Below.refl _ _).alloc (Nat.le_refl _) _).alloc (by simp) _
  refine (concat_any (w.heap.size + 1) _ _ ans auth _ (by simp) (by go_simp) (by go_simp) ((unhide HA).below hbx) ((unhide HB).below hbx) hla hlb).mono ?_
  rintro e w1 ⟨v1, rfl, ho1, hb1⟩
  have hB1 : Below w.heap.size w w1 := hbx.trans (hb1.mono (by simp <;> omega))
  obtain ⟨a1, c1, rfl⟩ := ho1.slice
  have HO1 := hide ho1.rv
  have hll : (ans ++ auth).length ≤ 8000 := by rw [List.length_append]; omega
  clear ho1 hbx hb1 HA HB
  generalize ans ++ auth = L at *
  go_wp2_with fail
  go_loopw [5, 19] (fun ls i wr => ∃ k : Nat, ls = .slice none 0 0 ∧ i = .int .i64 k ∧ k ≤ L.length ∧ Below w1.heap.size w1 wr) (fun _ i _ => L.length - (intOf i).toNat)
  case atStart => exact ⟨0, rfl, rfl, Nat.zero_le _, Below.refl _ _⟩
  case round =>
    obtain ⟨k, rfl, rfl, hk, hbr⟩ := hrel
    by_cases hlt : k < L.length
    · have hrv := (unhide HO1).below hbr
      rcases hrv with ⟨e1, e2⟩ | ⟨b', off', cap', e1, hc', hr'⟩
      · rw [e2] at hlt; simp at hlt
      · cases e1
        obtain ⟨q0, q1, q2, q3⟩ := hr'.four k hlt
        obtain ⟨t2, t15, hdl⟩ := unhide HNO L[k] (List.getElem_mem hlt)
        have HLW := hide (fun W => lastWord_any L[k].data W hdl)
        clear hr'
        generalize L[k] = r at *
        go_wp2_with fail
        refine (unhide HLW _).mono ?_
        rintro e w4 ⟨rfl, hw4⟩
        have hb4 : Below wr.heap.size wr w4 := by rw [hw4]; exact (Below.refl _ _).alloc (Nat.le_refl _) _
        have d2 : w4.cell? ⟨wr.heap.size, 2, none⟩ = some (.int .i64 r.type) := by rw [hw4]; go_simp
        clear hw4 HLW
        go_wp2_with fail
        go_roundw
        case rel => exact ⟨k + 1, rfl, by go_num, by omega, hbr.trans (hb4.mono hbr.size)⟩
        case measure => simp [intOf]; omega
    · go_wp2_with fail
      go_ret
      exact ⟨rfl, hB1.trans (hbr.mono hB1.size)⟩
end Li
end Go.Proofs.YtjkllohiodfikaaGreatDoor
