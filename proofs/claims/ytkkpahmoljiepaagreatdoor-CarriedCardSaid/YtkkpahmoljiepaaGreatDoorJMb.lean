/- Contract: wire's compressed in general: labels up to the first end that was written already. -/
import Derived.Test.YtkkpahmoljiepaaGreatDoorJ28
import Derived.Test.YtkkpahmoljiepaaGreatDoorJIh
set_option linter.unusedSimpArgs false
set_option linter.unusedVariables false
namespace Go.Proofs.YtkkpahmoljiepaaGreatDoor
open Go.RowKit
open Pu (Str hide unhide)
attribute [local go_sem] Oper.semAt_some undef

/-- a name's first label. -/
def firstL (e : Str) : Str := (Lib.cut e [46]).1
theorem first_some (a b : Str) (h : (46 : UInt8) ∉ a) : firstL (a ++ 46 :: b) = a := by
  unfold firstL Lib.cut
  rw [Lib.index_one, Sp.indexByte_some 46 a b h, if_pos (by omega)]
  simp [Int.toNat_natCast]
theorem first_none (l : Str) (h : (46 : UInt8) ∉ l) : firstL l = l := by
  unfold firstL Lib.cut
  rw [Lib.index_one, Sp.indexByte_none 46 l h, if_neg (by decide)]
theorem first_after (l : Str) : (firstL l).length + (after l).length ≤ l.length := by
  by_cases hc : (46 : UInt8) ∈ l
  · obtain ⟨a, b, rfl, ha⟩ := List.eq_append_cons_of_mem hc
    rw [after_some a b ha, first_some a b ha]; simp
  · rw [after_none l hc, first_none l hc]; simp
theorem ends_few : ∀ (f : Nat) (n : Str), n.length ≤ f → (ends n).length ≤ n.length
  | 0, n, h => by
    obtain rfl : n = [] := List.eq_nil_of_length_eq_zero (by omega)
    simp [ends_nil]
  | f + 1, n, h => by
    by_cases hn : n = []
    · subst hn; simp [ends_nil]
    · have h1 := after_len n hn
      rw [ends_cons n hn, List.length_cons]
      have := ends_few f (after n) (by omega)
      omega
def labS (e : Str) : Str := UInt8.ofNat (firstL e).length :: firstL e
def PlOk (ps : Pl) : Prop := ∀ p ∈ ps, p.2 < 16384

namespace Mb
open Ka Kd Rg Ia Iow Ie Zb Zc Za La Wa Wb Wc Wd We Wf Wg Wh Wi Wj Wk Wl Wm Wn Wo Wp Ws Ma Re

/-- a name's ends, written: the bytes and the places behind it. -/
def compL : List Str → Str → Pl → Str × Pl
  | [], l, ps => (l ++ [0], ps)
  | e :: es, l, ps => match findP ps e with
    | some n => (l ++ ptr n, ps)
    | none => compL es (l ++ labS e) (learnP ps e l.length)
theorem compL_hit {e : Str} {es : List Str} {l : Str} {ps : Pl} {n : Nat} (h : findP ps e = some n) : compL (e :: es) l ps = (l ++ ptr n, ps) := by rw [compL, h]
theorem compL_miss {e : Str} {es : List Str} {l : Str} {ps : Pl} (h : findP ps e = none) : compL (e :: es) l ps = compL es (l ++ labS e) (learnP ps e l.length) := by rw [compL, h]
theorem learn_ok {ps : Pl} (h : PlOk ps) (x : Str) (n : Nat) : PlOk (learnP ps x n) := by
  intro p hp
  unfold learnP at hp
  split at hp
  · rename_i hn
    rw [List.mem_append] at hp
    rcases hp with hp | hp
    · exact h p hp
    · simp at hp; subst hp; exact hn
  · exact h p hp
theorem find_lt {ps : Pl} (h : PlOk ps) {x : Str} {n : Nat} (hf : findP ps x = some n) : n < 16384 := by
  obtain ⟨j, hj, e1, _⟩ := findP_hit ps x n hf
  rw [← e1]; exact h _ (List.getElem_mem hj)

/-- learn, the bytes' value kept. -/
theorem learn_v (mb base : Nat) (x : Str) (n : Nat) (l : Str) (ps : Pl) (vb vp : Value) (w : World) (h1 : MsgAt w mb vb vp) (h2 : OwnB w base vb l) (h3 : OwnP w base vp ps) (hbs : base ≤ w.heap.size) (hl : ps.length ≤ 1000) (hn : n ≤ 1000000) :
    Calls Tryz.prog 202 #[.pointer (some ⟨mb, 0, none⟩), .string (B x), .int .i64 (n : Int)] w fun e w' =>
      e = .returned (.tuple #[]) ∧ ∃ vp', MsgAt w' mb vb vp' ∧ OwnB w' base vb l ∧ OwnP w' base vp' (learnP ps x n) ∧ TG mb base w w' := by
  unfold learnP
  split
  · rename_i hlt
    refine (learn_w mb base x n vb vp ps w h1 h3 hbs hl hlt).mono ?_
    rintro e w' ⟨rfl, vp', k1, k2, _, k4⟩
    refine ⟨rfl, vp', k1, own_kept h2 fun g hg => ?_, k2, k4.os, k4.tape, k4.output, k4.size, fun i hi hmi hp => ?_⟩
    · obtain ⟨cur, hcur⟩ := own_kindB h2 hg
      refine k4.block g (World.ownsRow.lt h2 g hg).2 ⟨fun e => ?_, fun e => ?_⟩
      · rw [e, h1] at hcur; simp at hcur
      · obtain ⟨cur', hcur'⟩ := own_kindP h3 e.symm
        rw [hcur] at hcur'; simp at hcur'
    · refine k4.block i hi ⟨hmi, fun e => ?_⟩
      rcases hp with hp | hp
      · have := (World.ownsRow.lt h3 i e.symm).1; omega
      · obtain ⟨cur', hcur'⟩ := own_kindP h3 e.symm
        exact hp.2 cur' hcur'
  · rename_i hlt
    refine (learn_skip mb x n w hlt hn).mono ?_
    rintro e w' ⟨rfl, rfl⟩
    exact ⟨rfl, vp, h1, h2, h3, TG.refl _ _ _⟩

set_option maxRecDepth 100000 in
set_option maxHeartbeats 3200000 in
theorem comp_m (mb base : Nat) (x : Str) (l : Str) (ps : Pl) (w : World) (hm : Msg w mb base l ps) (hg : G w) (hbs : base ≤ w.heap.size) (hb0 : 0 < base) (hm0 : 0 < mb) (hxl : x.length ≤ 3000) (hok : PlOk ps) (hpl : ps.length + x.length ≤ 1000) (hl : l.length ≤ 60000) :
    Calls Tryz.prog 338 #[.string (B x), .pointer (some ⟨mb, 0, none⟩)] w fun e w' =>
      e = .returned (.tuple #[]) ∧ Msg w' mb base (compL (ends x) l ps).1 (compL (ends x) l ps).2 ∧ TG mb base w w' := by
  refine (callsIn_wide (n := 0)).1 ?_
  refine callsIn_of_wp_marks Tryz.func338 rfl trivial ?_
  simp only [Tryz.ntmps338, List.size_toArray, List.length_cons, List.length_nil, Nat.reduceAdd, Nat.reduceSub, Array.replicate_succ, Array.replicate_zero, List.push_toArray, List.append_toArray, List.nil_append, List.cons_append]
  have HM := hide hm
  have HG := hide hg
  have HOK := hide hok
  have hlt := hm.lt
  have hg0 := hg.1
  have hmx : Tryz.prog.follows .mixedOrders = true := by kernel_rfl
  have hef := ends_few _ x (Nat.le_refl _)
  clear hm hg hok
  obtain ⟨R, hR⟩ : ∃ R, R = compL (ends x) l ps := ⟨_, rfl⟩
  rw [← hR]
  have HR := hide hR
  clear hR
  gi_wp2_with fail
  refine ⟨trivial, rfl, ?_⟩
  refine (callsIn_wide.2 (ends_o _ _)).mono ?_
  rintro e W2 ⟨rfl, e4, hb2, e2⟩
  have e0 : It.Box W2 w.heap.size (.pointer (some ⟨mb, 0, none⟩)) 216 := (It.Box.new _ _ _).below hb2 (by simp)
  have e5 : Below w.heap.size w W2 := ((Below.refl _ _).alloc (Nat.le_refl _) _).trans (hb2.mono (by simp))
  simp only [World.size_alloc] at e4 e2
  have s2 : w.heap.size + 2 ≤ W2.heap.size := by omega
  have HM2 := hide ((unhide HM).below e5)
  have HT2 : Hid (TG mb base w W2) := TG.of_below e5
  have HG2 := hide ((unhide HG).below e5)
  clear e4 e5 hb2
  gi_wp2_with fail
  have hgrow : ∀ r, Below W2.heap.size W2 ((W2.alloc (.deferred (some []))).alloc (.loop r)) := fun r => ((Below.refl _ _).alloc (Nat.le_refl _) _).alloc (by simp) _
  refine It.rangeE (xs := ends x) (encs := fun e : Str => #[.string (B e)]) (St := fun A B => Below A.heap.size A B) (Kp := fun A B => A.heap.size ≤ B.heap.size ∧ B.heap[0]? = A.heap[0]?) (Kx := fun _ _ => True)
    (gf := 241) (lb := #[.pointer (some ⟨w.heap.size + 1, 0, none⟩)]) rfl (enters_of Tryz.func241 (by kernel_rfl) rfl) (fun _ => rfl) ?seq
    [0] (by simp; omega) (fun A B h => h) (fun A B h h' => ⟨h', h _ (by simp)⟩) (fun _ _ => trivial)
    (fun i W => (∃ y li psi, (ends x).drop i = ends y ∧ R = compL (ends y) li psi ∧ li.length + y.length ≤ l.length + x.length + i ∧ psi.length ≤ ps.length + i ∧ PlOk psi ∧ MsgN W mb base (W2.heap.size + 1) li psi) ∧ TG mb base w W ∧ It.Box W w.heap.size (.pointer (some ⟨mb, 0, none⟩)) 216 ∧ G W)
    (fun c W => c = .ret ∧ MsgN W mb base (W2.heap.size + 1) R.1 R.2 ∧ TG mb base w W)
    (fun i A B h hA hk => by
      obtain ⟨⟨y, li, psi, q1, q2, q3, q4, q5, q6⟩, hT, hB, hG⟩ := h
      refine ⟨⟨y, li, psi, q1, q2, q3, q4, q5, q6.keeps hk (by omega)⟩, hT.keeps hk (by omega), It.Box.kept hB (hk.block _ (It.Box.lt hB) (by omega)), ?_⟩
      obtain ⟨g0, m, hc⟩ := hG
      exact ⟨Nat.lt_of_lt_of_le g0 hk.size, m, (World.cell?_of_block (hk.block 0 g0 (by omega))).trans hc⟩)
    (fun c A B h hA hk => ⟨h.1, h.2.1.keeps hk (by omega), h.2.2.keeps hk (by omega)⟩)
    ⟨⟨x, l, ps, rfl, unhide HR, by omega, by omega, unhide HOK, (unhide HM2).new (by omega)⟩, unhide HT2, e0, unhide HG2⟩
    ?round ?done ?stop
  case seq =>
    intro r
    have hg := hgrow r
    exact ends_seq _ x _ ((hg.cell (p := ⟨w.heap.size + 1, 0, none⟩) (by show w.heap.size + 1 < W2.heap.size; omega)).trans e2) ((unhide HG2).below hg) hxl
  case round =>
    intro l' i y' Vr W hy hI hsz hd1 hd2
    obtain ⟨⟨y, li, psi, q1, q2, q3, q4, q5, q6⟩, hT, hB, hGW⟩ := hI
    have hil : i < (ends x).length := (List.getElem?_eq_some_iff.1 hy).1
    have hyx : y'.length ≤ x.length := ends_mem_len (List.mem_of_getElem? hy)
    have hy0 : y ≠ [] := by
      intro h
      subst h
      rw [ends_nil] at q1
      have := congrArg List.length q1
      simp at this; omega
    have hyy : y' = y ∧ (ends x).drop (i + 1) = ends (after y) := by
      rw [ends_cons y hy0] at q1
      have h1 : ((ends x).drop i)[0]? = some y' := by simpa using hy
      rw [q1] at h1
      refine ⟨by simpa using h1.symm, ?_⟩
      rw [← List.drop_drop, q1]; rfl
    obtain ⟨rfl, q7⟩ := hyy
    rw [ends_cons y' hy0] at q2
    have hfa := first_after y'
    have hPO := placeOf_any mb base y' li psi W q6.msg (by omega)
    have HT := hide hT
    have HB := hide hB
    have HGW := hide hGW
    have HQ6 := hide q6
    have hmlt := q6.msg.lt
    have cb := It.Box.cell hB
    have HQ7 := hide q7
    have HQ5 := hide q5
    have HD1 := hide hd1
    have HD2 := hide hd2
    have hTs := hT.size
    clear hT hB hGW q6 q1 q7 hd1 hd2 hy
    cases hf : findP psi y' with
    | some pn =>
      have hpn := find_lt (unhide HQ5) hf
      rw [hf] at hPO
      have HPO : Hid (Calls Tryz.prog 339 #[.pointer (some ⟨mb, 0, none⟩), .string (B y')] W fun e w' => e = .returned (.tuple #[.int .i64 (pn : Int), .bool true]) ∧ Below W.heap.size W w') := hPO
      rw [compL_hit hf] at q2
      have HQ2 := hide q2
      clear q2 hf hPO
      gi_wp2_with fail
      refine ⟨trivial, ?_⟩
      gi_wp2_with fail
      refine ⟨trivial, rfl, ?_⟩
      refine (CallsIn.inRound l' (callsIn_wide.2 (unhide HPO))).mono ?_
      rintro e W3 ⟨rfl, hb3⟩
      have hm3 := (unhide HQ6).msg.below hb3
      have hB3 := It.Box.below (unhide HB) hb3 (It.Box.lt (unhide HB))
      have hs3 := hb3.size
      have c3 := It.Box.cell hB3
      have hor' := or_place pn hpn
      have hwr : IntKind.u16.wrap ((49152 + pn : Nat) : Int) = ((49152 + pn : Nat) : Int) := by rw [IntKind.wrap_u16]; omega
      have hnew := World.alloc_heap_new W3 (.cells #[.iface 284 (.int .u16 ((49152 + pn : Nat) : Int))] 297)
      have HPUT := hide (put_m mb base W3.heap.size 1 [fShort (49152 + pn)] li psi (W3.alloc (.cells #[.iface 284 (.int .u16 ((49152 + pn : Nat) : Int))] 297)) (hm3.below ((Below.refl _ _).alloc (Nat.le_refl _) _)) (by simp; omega)
        (fun f hf => by simp at hf; subst hf; exact short_ok _ (by omega)) (by simp) (by have := hm3.lt; omega) (.inr fun cur h => by rw [hnew] at h; simp at h)
        (fun j hj => by
          match j, hj with
          | 0, _ => unfold World.cell?; rw [hnew]; rfl
          | j + 1, hj => simp at hj) (by simp) (by simp) (by simp [outs, fShort]; omega))
      obtain ⟨q, hq⟩ : ∃ q, q = 49152 + pn := ⟨_, rfl⟩
      rw [← hq] at HPUT hwr hor'
      have HQ := hide hq
      have HB3 := hide hb3
      clear hq hnew hm3 hB3 hb3 HPO cb
      gi_wp2_with fail
      refine ⟨trivial, rfl, ?_⟩
      refine (CallsIn.inRound l' (callsIn_wide.2 (unhide HPUT))).mono ?_
      rintro e W4 ⟨rfl, hm4, hT4⟩
      have T34 : TG mb base W W4 := (TG.of_below (unhide HB3)).trans ((TG.of_below ((Below.refl _ _).alloc (Nat.le_refl _) _)).trans hT4)
      have d1 := unhide HD1
      obtain ⟨r, d2⟩ := unhide HD2
      have g1 : W4.heap[W2.heap.size]? = W.heap[W2.heap.size]? := T34.other d1 (by omega) (fun _ _ _ h => by cases h)
      have g2 : W4.heap[W2.heap.size + 1]? = W.heap[W2.heap.size + 1]? := T34.other d2 (by omega) (fun _ _ _ h => by cases h)
      have HE : Hid (It.Loops W2.heap.size W W4 ∧ MsgN W4 mb base (W2.heap.size + 1) R.1 R.2 ∧ TG mb base w W4) := by
        refine ⟨⟨T34.size, g1, g2⟩, ?_, (unhide HT).trans T34⟩
        rw [unhide HQ2, show ptr pn = outs [fShort q] by rw [unhide HQ]; rfl]
        exact hm4.away (no_cells (g2.trans d2) (fun _ _ _ h => by cases h))
      clear hm4 hT4 T34 d1 d2 g1 g2 HPUT
      gi_wp2_with fail
      exact ⟨(unhide HE).1, rfl, (unhide HE).2⟩
    | none =>
      rw [hf] at hPO
      have HPO : Hid (Calls Tryz.prog 339 #[.pointer (some ⟨mb, 0, none⟩), .string (B y')] W fun e w' => e = .returned (.tuple #[.int .i64 0, .bool false]) ∧ Below W.heap.size W w') := hPO
      rw [compL_miss hf] at q2
      have HQ2 := hide q2
      clear q2 hf hPO
      gi_wp2_with fail
      refine ⟨trivial, ?_⟩
      gi_wp2_with fail
      refine ⟨trivial, rfl, ?_⟩
      refine (CallsIn.inRound l' (callsIn_wide.2 (unhide HPO))).mono ?_
      rintro e W3 ⟨rfl, hb3⟩
      obtain ⟨vb3, vp3, m3, b3, p3⟩ := (unhide HQ6).msg.below hb3
      have bx3 := It.Box.below (unhide HB) hb3 (It.Box.lt (unhide HB))
      have hs3 := hb3.size
      have c3 := It.Box.cell bx3
      obtain ⟨ab, nb, cb3, rfl⟩ := own_slice b3
      obtain rfl : nb = li.length := by
        obtain ⟨_, ⟨e, hz⟩ | ⟨g', cap', cur', e, _⟩⟩ := b3
        · cases e; omega
        · cases e; rfl
      have m30 := m3.cells.1
      have hd3 : Below W3.heap.size W3 W3.drew := (Below.refl _ _).drew
      have bx3' : It.Box W3.drew w.heap.size (.pointer (some ⟨mb, 0, none⟩)) 216 := bx3
      have HLE := hide (learn_v mb base y' li.length li psi _ vp3 W3.drew (m3.kept rfl) (own_below b3 hd3) (own_below p3 hd3) (by show base ≤ W3.heap.size; omega) (by omega) (by omega))
      have T3 : TG mb base W W3.drew := TG.of_below (hb3.trans (hd3.mono hs3))
      have HT3 := hide T3
      have HC3 := hide (And.intro m3 (And.intro b3 p3))
      clear m3 b3 p3 hb3 hd3 T3 HPO cb
      gi_wp2_with fail
      refine Ih.region_held (fun W => W.cell? ⟨w.heap.size, 0, none⟩ = some (.pointer (some ⟨mb, 0, none⟩)) ∧ W.cell? ⟨mb, 0, none⟩ = some (.slice ab li.length cb3)) hmx (Ir.noDefer_spec (by kernel_rfl)) ⟨c3, m30⟩ fun hS => ?_
      refine wpAnyH_take (i := 0) (v := ?_) rfl (by kernel_rfl) (by kernel_rfl) (by kernel_rfl) (fun _ _ _ h => (Ih.Only.no h (by simp)).elim) (Or.inl ⟨by rfl, by intro w hw; go_simp; first | done | with_reducible rfl⟩) hS ?_
      refine wpAnyH_take (i := 1) (v := ?_) rfl (by kernel_rfl) (by kernel_rfl) (by kernel_rfl) (fun _ _ _ h => (Ih.Only.no h (by simp)).elim) (Or.inl ⟨by rfl, by intro w hw; go_simp; first | done | with_reducible rfl⟩) hS ?_
      refine wpAnyH_take (i := 2) (v := ?_) rfl (by kernel_rfl) (by kernel_rfl) (by kernel_rfl) (fun _ _ _ h => (Ih.Only.no h (by simp)).elim) (Or.inl ⟨by rfl, by intro w hw; go_simp; first | done | with_reducible rfl⟩) hS ?_
      refine wpAnyH_take (i := 3) (v := ?_) rfl (by kernel_rfl) (by kernel_rfl) (by kernel_rfl) (fun _ _ _ h => (Ih.Only.no h (by simp)).elim) (Or.inl ⟨by rfl, by intro w hw; go_simp; first | done | with_reducible rfl⟩) hS ?_
      refine wpAnyH_take (i := 4) (v := ?_) rfl (by kernel_rfl) (by kernel_rfl) (by kernel_rfl) (fun _ _ _ h => (Ih.Only.no h (by simp)).elim) (Or.inl ⟨by rfl, by intro w hw; go_simp; first | done | with_reducible rfl⟩) hS ?_
      refine wpAnyH_take (i := 5) (v := ?_) rfl (by kernel_rfl) (by kernel_rfl) (by kernel_rfl) (fun _ _ _ h => (Ih.Only.no h (by simp)).elim) (Or.inl ⟨by rfl, by intro w hw; go_simp; first | done | with_reducible rfl⟩) hS ?_
      refine wpAnyH_take (i := 6) (v := ?_) rfl (by kernel_rfl) (by kernel_rfl) (by kernel_rfl) (fun _ _ _ h => (Ih.Only.no h (by simp)).elim) (Or.inl ⟨by rfl, by intro w hw; go_simp; first | done | with_reducible rfl⟩) hS ?_
      refine wpAnyH_ready (rs := [7]) (by kernel_rfl) (by simp) (AllReadyH.cons rfl (fun K hK => ?_) AllReadyH.nil)
      go_simp
      refine (unhide HLE).mono ?_
      rintro e W4 ⟨rfl, vp4, m4, b4, p4, g4⟩
      have x4 := g4.box bx3' (by omega) (by decide) (by decide)
      refine hK.out _ _ ⟨It.Box.cell x4, m4.cells.1⟩ (fun hS => ?_)
      clear hK K hS
      refine wpAnyH_done (by kernel_rfl) ?_ _
      refine ⟨rfl, ?_⟩
      have hG4 := ((unhide HGW).tg ((unhide HT3).trans g4) hb0 hm0)
      have T4 : TG mb base W W4 := (unhide HT3).trans g4
      have hT4s := T4.size
      have HFI := hide (first_any y' W4 hG4 (by omega))
      have HM4 : Hid (Msg W4 mb base li (learnP psi y' li.length)) := ⟨_, _, m4, b4, p4⟩
      have HX4 := hide x4
      have HT4 := hide T4
      have c4 := It.Box.cell x4
      clear m4 b4 p4 g4 x4 T4 hG4 HLE c3 m30 bx3 bx3'
      gi_wp2_with fail
      refine ⟨trivial, rfl, ?_⟩
      refine (CallsIn.inRound l' (callsIn_wide.2 (unhide HFI))).mono ?_
      rintro e W5 ⟨rfl, hb5⟩
      have HFL : Hid ((Lib.cut y' [46]).1 = firstL y') := rfl
      rw [unhide HFL]
      have hm5 := (unhide HM4).below hb5
      have hx5 := It.Box.below (unhide HX4) hb5 (It.Box.lt (unhide HX4))
      have c5 := It.Box.cell hx5
      have hs5 := hb5.size
      have hll := learnP_len psi y' li.length
      obtain ⟨fl, hfl⟩ : ∃ fl, fl = firstL y' := ⟨_, rfl⟩
      have HLS : Hid (labS y' = UInt8.ofNat fl.length :: fl) := by rw [hfl]; rfl
      rw [← hfl] at hfa ⊢
      obtain ⟨oc, hoc⟩ : ∃ oc, oc = UInt8.ofNat fl.length := ⟨_, rfl⟩
      have hocv : IntKind.u8.wrap (fl.length : Int) = (oc.toNat : Int) := by rw [IntKind.wrap_u8, hoc, UInt8.toNat_ofNat']; omega
      rw [← hoc] at HLS
      have hfs : (B fl).size = fl.length := size_B fl
      have hnew := World.alloc_heap_new W5 (.cells #[.iface 292 (.int .u8 oc.toNat), .iface 224 (.string (B fl))] 297)
      have HPUT := hide (put_m mb base W5.heap.size 2 [fOctet oc, fRaw fl] li _ (W5.alloc (.cells #[.iface 292 (.int .u8 oc.toNat), .iface 224 (.string (B fl))] 297)) (hm5.below ((Below.refl _ _).alloc (Nat.le_refl _) _)) (by simp; omega)
        (fun f hf => by
          simp at hf
          rcases hf with rfl | rfl
          · exact octet_ok _
          · exact raw_ok _) (by simp) (by have := hm5.lt; omega) (.inr fun cur h => by rw [hnew] at h; simp at h)
        (fun j hj => by
          match j, hj with
          | 0, _ => unfold World.cell?; rw [hnew]; rfl
          | 1, _ => unfold World.cell?; rw [hnew]; rfl
          | j + 2, hj => simp at hj; omega) (by simp) (by simp) (by simp [outs, fOctet, fRaw]; omega))
      have T5 : TG mb base W W5 := (unhide HT4).trans (TG.of_below hb5)
      have HT5 := hide T5
      have HX5 := hide hx5
      clear hfl hoc hnew hm5 hx5 hb5 T5 HFI HM4 HX4 c4 HFL
      gi_wp2_with fail
      refine ⟨trivial, rfl, ?_⟩
      refine (CallsIn.inRound l' (callsIn_wide.2 (unhide HPUT))).mono ?_
      rintro e W6 ⟨rfl, hm6, hT6⟩
      have T6 : TG mb base W W6 := (unhide HT5).trans ((TG.of_below ((Below.refl _ _).alloc (Nat.le_refl _) _)).trans hT6)
      have d1 := unhide HD1
      obtain ⟨r, d2⟩ := unhide HD2
      have g1 : W6.heap[W2.heap.size]? = W.heap[W2.heap.size]? := T6.other d1 (by omega) (fun _ _ _ h => by cases h)
      have g2 : W6.heap[W2.heap.size + 1]? = W.heap[W2.heap.size + 1]? := T6.other d2 (by omega) (fun _ _ _ h => by cases h)
      have HE : Hid (It.Loops W2.heap.size W W6 ∧ (∀ k ∈ [0], W6.heap[k]? = W.heap[k]?) ∧ (∃ y li psi, (ends x).drop (i + 1) = ends y ∧ R = compL (ends y) li psi ∧ li.length + y.length ≤ l.length + x.length + (i + 1) ∧ psi.length ≤ ps.length + (i + 1) ∧ PlOk psi ∧ MsgN W6 mb base (W2.heap.size + 1) li psi) ∧ TG mb base w W6 ∧ It.Box W6 w.heap.size (.pointer (some ⟨mb, 0, none⟩)) 216 ∧ G W6) := by
        refine ⟨⟨T6.size, g1, g2⟩, fun k hk => ?_, ⟨after y', li ++ labS y', _, unhide HQ7, unhide HQ2, ?_, by omega, learn_ok (unhide HQ5) _ _, ?_⟩, (unhide HT).trans T6, T6.box (unhide HB) (by omega) (by decide) (by decide), (unhide HGW).tg T6 hb0 hm0⟩
        · obtain rfl : k = 0 := by simpa using hk
          exact T6.block 0 (by omega) (by omega) (.inl hb0)
        · rw [unhide HLS, List.length_append, List.length_cons]; omega
        · rw [unhide HLS]
          have : li ++ outs [fOctet oc, fRaw fl] = li ++ oc :: fl := by simp [outs, fOctet, fRaw]
          rw [← this]
          exact hm6.away (no_cells (g2.trans d2) (fun _ _ _ h => by cases h))
      clear hm6 hT6 T6 d1 d2 g1 g2 HPUT
      gi_wp2_with fail
      exact ⟨(unhide HE).1, (unhide HE).2.1, (unhide HE).2.2⟩
  case done =>
    intro W hI hdef hsz
    obtain ⟨⟨y, li, psi, q1, q2, q3, q4, q5, q6⟩, hT, hB, hGW⟩ := hI
    have hy0 : y = [] := by
      rw [List.drop_length] at q1
      by_cases h : y = []
      · exact h
      · rw [ends_cons y h] at q1; cases q1
    subst hy0
    rw [ends_nil] at q2
    have c3 := It.Box.cell hB
    have hm3 := q6.msg
    have hTs := hT.size
    have hnew := World.alloc_heap_new W (.cells #[.iface 292 (.int .u8 (0 : UInt8).toNat)] 297)
    have HPUT : Hid (Calls Tryz.prog 139 #[.pointer (some ⟨mb, 0, none⟩), .slice (some ⟨W.heap.size, 0, none⟩) 1 1] (W.alloc (.cells #[.iface 292 (.int .u8 0)] 297)) fun e w' => e = .returned (.tuple #[]) ∧ Msg w' mb base (li ++ [0]) psi ∧ TG mb base (W.alloc (.cells #[.iface 292 (.int .u8 0)] 297)) w') :=
      put_m mb base W.heap.size 1 [fOctet 0] li psi (W.alloc (.cells #[.iface 292 (.int .u8 (0 : UInt8).toNat)] 297)) (hm3.below ((Below.refl _ _).alloc (Nat.le_refl _) _)) (by simp; omega)
        (fun f hf => by simp at hf; subst hf; exact octet_ok _) (by simp) (by have := hm3.lt; omega) (.inr fun cur h => by rw [hnew] at h; simp at h)
        (fun j hj => by
          match j, hj with
          | 0, _ => unfold World.cell?; rw [hnew]; rfl
          | j + 1, hj => simp at hj) (by simp) (by simp) (by simp [outs, fOctet]; simp at q3; omega)
    have HQ2 := hide q2
    have HT := hide hT
    have HD := hide hdef
    clear q1 q2 hT hB hGW q6 hm3 hnew hdef
    gi_wp2_with fail
    refine ⟨trivial, rfl, ?_⟩
    refine (callsIn_wide.2 (unhide HPUT)).mono ?_
    rintro e W4 ⟨rfl, hm4, hT4⟩
    have T4 : TG mb base W W4 := (TG.of_below ((Below.refl _ _).alloc (Nat.le_refl _) _)).trans hT4
    have hdef4 : W4.heap[W2.heap.size]? = some (.deferred (some [])) := (T4.other (unhide HD) (by omega) (fun _ _ _ h => by cases h)).trans (unhide HD)
    have hN := hm4.away (d := W2.heap.size) (no_cells hdef4 (fun _ _ _ h => by cases h))
    have HF : Hid (MsgN W4 mb base W2.heap.size R.1 R.2 ∧ TG mb base w W4 ∧ W4.heap[W2.heap.size]? = some (.deferred (some []))) := ⟨by rw [unhide HQ2]; exact hN, (unhide HT).trans T4, hdef4⟩
    clear hm4 hT4 T4 hdef4 hN HPUT HD c3
    gi_wp2_with fail
    refine ⟨by simp, .inl ⟨_, _, rfl, run_takeDeferred (unhide HF).2.2, ?_⟩⟩
    exact ⟨.tuple #[], by simp [results, Tryz.results338], rfl, (unhide HF).1.put _ (by omega), (unhide HF).2.1.keeps (It.Keeps.put (d := W2.heap.size) W4 W2.heap.size (.deferred none)) (by omega)⟩
  case stop =>
    intro c W hI hdef hsz
    obtain ⟨rfl, h2, h3⟩ := hI
    have H := hide (And.intro h2 h3)
    have hN := h2.msg.away (d := W2.heap.size) (no_cells hdef (fun _ _ _ h => by cases h))
    have HN := hide hN
    clear h2 h3 hN
    gi_wp2_with fail
    refine ⟨by simp, .inl ⟨_, _, rfl, run_takeDeferred hdef, ?_⟩⟩
    exact ⟨.tuple #[], by simp [results, Tryz.results338], rfl, (unhide HN).put _ (by omega), (unhide H).2.keeps (It.Keeps.put (d := W2.heap.size) W W2.heap.size (.deferred none)) (by omega)⟩
end Mb
end Go.Proofs.YtkkpahmoljiepaaGreatDoor
