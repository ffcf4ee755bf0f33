/- Contracts: wire's newMessage, learn, placeOf. -/
import Derived.Test.YtkkpahmoljiepaaGreatDoorJ20
import Derived.Test.YtkkpahmoljiepaaGreatDoorJ16
import Derived.BigRegion
set_option linter.unusedSimpArgs false
set_option linter.unusedVariables false
namespace Go.Proofs.YtkkpahmoljiepaaGreatDoor
open Go.RowKit
open Pu (Str hide unhide)

/-- a place as it lies in memory. -/
def placeCells (ps : List (Str × Nat)) : List Value := ps.flatMap fun p => [.string (B p.1), .int .i64 (p.2 : Int)]
/-- places in memory of the call's own. -/
def OwnP (w : World) (base : Nat) (v : Value) (ps : List (Str × Nat)) : Prop := w.ownsRow base 343 2 v ps.length (placeCells ps)

namespace Wo
open Ka Kd Rg Ia Wa Wb Wc Wd We Wf Wg Wh Wi Wj Wk Wl Wm Wn Re

theorem infoP : (Tryz.prog.info? 343).map (fun i => (i.zero, i.size, i.bytes)) = some (some (.agg #[.string ⟨#[]⟩, .int .i64 0]), 2, 24) := by kernel_rfl
theorem underP : Tryz.prog.underlying 281 = some (.slice 343) := by kernel_rfl

theorem placeCells_len (ps : List (Str × Nat)) : (placeCells ps).length = ps.length * 2 := by
  induction ps with
  | nil => rfl
  | cons p t ih => rw [placeCells, List.flatMap_cons, List.length_append, ← placeCells, ih]; simp; omega
theorem placeCells_snoc (ps : List (Str × Nat)) (p : Str × Nat) : placeCells (ps ++ [p]) = placeCells ps ++ [.string (B p.1), .int .i64 (p.2 : Int)] := by
  simp [placeCells]
theorem placeCells_get : ∀ (ps : List (Str × Nat)) (j : Nat) (h : j < ps.length), (placeCells ps)[j * 2]? = some (.string (B ps[j].1)) ∧ (placeCells ps)[j * 2 + 1]? = some (.int .i64 (ps[j].2 : Int))
  | [], j, h => by simp at h
  | p :: t, 0, h => by simp [placeCells]
  | p :: t, j + 1, h => by
    have := placeCells_get t j (by simpa using h)
    have e : placeCells (p :: t) = .string (B p.1) :: .int .i64 (p.2 : Int) :: placeCells t := by simp [placeCells]
    rw [e, show (j + 1) * 2 = j * 2 + 1 + 1 by omega]
    simpa using this

theorem msg_neP {w : World} {mb base : Nat} {vb vp v : Value} {ps : List (Str × Nat)} (hm : MsgAt w mb vb vp) (ho : OwnP w base v ps) : some mb ≠ v.ownBlock := fun e => by
  obtain ⟨_, ⟨rfl, _⟩ | ⟨g, cap, cur, rfl, _, hcur, _⟩⟩ := ho
  · simp [Value.ownBlock] at e
  · simp only [Value.ownBlock, Option.some.injEq] at e
    subst e
    rw [hm] at hcur
    simp at hcur

set_option maxRecDepth 100000 in
set_option maxHeartbeats 800000 in
theorem newMessage_any (w : World) :
    Calls Tryz.prog 130 #[] w fun e w' => e = .returned (.pointer (some ⟨w.heap.size + 1, 0, none⟩)) ∧ (∃ vb, MsgAt w' (w.heap.size + 1) vb (.slice none 0 0) ∧ OwnB w' w.heap.size vb (List.replicate 12 0)) ∧ Below w.heap.size w w' := by
  have hmk : ∀ w : World, (Instr.makeSlice 58 (.int .i64 12) (.int .i64 12)).run Tryz.prog w = .ok (.slice (some ⟨w.heap.size, 0, none⟩) 12 12) (w.alloc (.cells (Array.replicate 12 (.int .u8 0)) 5)) := fun _ => by kernel_rfl
  generalize hrep : (Array.replicate 12 (Value.int .u8 0)) = R at *
  go_enter Tryz.func130, Tryz.ntmps130
  go_wp2
  go_ret
  have hnew := World.alloc_heap_new (w.alloc (.cells R 5)) (.cells #[.slice (some ⟨w.heap.size, 0, none⟩) 12 12, .slice none 0 0] 283)
  simp only [World.size_alloc] at hnew
  refine ⟨rfl, ⟨_, hnew, by simp, .inr ⟨w.heap.size, 12, R, rfl, Nat.le_refl _, (Below.heap_alloc _ _ _ (by simp)).trans (World.alloc_heap_new w _), by simp, by unfold maxLen; omega, by rw [← hrep]; rfl, by rw [← hrep]; rfl⟩⟩, ((Below.refl _ _).alloc (Nat.le_refl _) _).alloc (by simp) _⟩

set_option maxRecDepth 100000 in
set_option maxHeartbeats 800000 in
theorem learn_w (mb base : Nat) (x : Str) (n : Nat) (vb vp : Value) (ps : List (Str × Nat)) (w : World) (hm : MsgAt w mb vb vp) (ho : OwnP w base vp ps) (hbs : base ≤ w.heap.size) (hl : ps.length ≤ 1000) (hn : n < 16384) :
    Calls Tryz.prog 202 #[.pointer (some ⟨mb, 0, none⟩), .string (B x), .int .i64 (n : Int)] w fun e w' =>
      e = .returned (.tuple #[]) ∧ ∃ vp', MsgAt w' mb vb vp' ∧ OwnP w' base vp' (ps ++ [(x, n)]) ∧ (vp'.ownBlock = vp.ownBlock ∨ ∃ g, vp'.ownBlock = some g ∧ w.heap.size ≤ g) ∧ Fr (fun i => i ≠ mb ∧ some i ≠ vp.ownBlock) w w' := by
  obtain ⟨i0, hi, hz0, hz1, hz2⟩ := info_parts infoP
  have hc0 := hm.cells.2
  have HM := hide hm
  have HO := hide ho
  have hlt := hm.lt
  have hnI : (n : Int) < 16384 := by omega
  clear hm ho
  go_enter Tryz.func202, Tryz.ntmps202
  go_wp2_with (at_builtin; go_loud (refine wpList_append_own_at _ rfl (.tmp 12) (.tmp 16) 281 rfl base 343 i0 (.agg #[.string ⟨#[]⟩, .int .i64 0]) 2 24 underP hi hz0 hz1 hz2 rfl (by decide) _ ps.length _ rfl ((unhide HO).alloc _) ⟨w.heap.size, 0, none⟩ 1 1 [.string (B x), .int .i64 (n : Int)] rfl rfl ?c1 ?c2 ?c3 ?c4 ?c5 ?_))
  case c1 =>
    intro j u hj
    match j, hj with
    | 0, hj => simp at hj; subst hj; simp [Addr.add]
    | 1, hj => simp at hj; subst hj; simp [Addr.add]
    | n + 2, hj => simp at hj
  case c2 => intro u hu; simp at hu; rcases hu with rfl | rfl <;> rfl
  case c3 => unfold maxLen; omega
  case c4 => omega
  case c5 => simp; omega
  intro v' w3 hown' hgrow _ hat
  obtain ⟨va, vn, vc, rfl⟩ := own_slice hown'
  have HO3 : Hid (OwnP w3 base (.slice va vn vc) (ps ++ [(x, n)])) := by
    unfold Hid OwnP
    rw [List.length_append, placeCells_snoc]
    exact hown'
  have hblk : ∀ i, i < w.heap.size → some i ≠ vp.ownBlock → w3.heap[i]? = w.heap[i]? := fun i hi hne =>
    (hgrow.block i (by simp; omega) hne).trans (Below.heap_alloc _ _ _ hi)
  have hne : some mb ≠ vp.ownBlock := msg_neP (unhide HM) (unhide HO)
  have HM3 := hide ((unhide HM).kept (hblk mb hlt hne))
  have HF3 : Hid (Fr (fun i => i ≠ mb ∧ some i ≠ vp.ownBlock) w w3) :=
    ⟨hgrow.os, hgrow.tape, hgrow.output, Nat.le_trans (by simp) hgrow.size, fun i hi hp => hblk i hi hp.2⟩
  have HA : Hid ((Value.slice va vn vc).ownBlock = vp.ownBlock ∨ ∃ g, (Value.slice va vn vc).ownBlock = some g ∧ w.heap.size ≤ g) := by
    rcases hat with h | h
    · exact .inl h
    · exact .inr ⟨_, h, by simp⟩
  have hfz := (unhide HM3).frozen
  have hc := (unhide HM3).cells.2
  clear hown' hgrow hat hblk hne HM HO
  go_wp2_with fail
  refine bodyPost_end (v := .tuple #[]) (by simp [results, Tryz.results202]) rfl ?_
  refine ⟨rfl, _, (unhide HM3).set1 _, ?_, unhide HA, (unhide HF3).trans (Fr.of_set _ fun i h => h.1)⟩
  exact own_set_low (unhide HO3) (msg_neP (unhide HM3) (unhide HO3)) _ _

/-- the cells of a row of places. -/
theorem place_at {w : World} {base : Nat} {v : Value} {ps : List (Str × Nat)} (h : OwnP w base v ps) (hne : ps ≠ []) : ∃ g cap, v = .slice (some ⟨g, 0, none⟩) ps.length cap ∧ g < w.heap.size ∧ ps.length ≤ cap ∧ ∀ j (hj : j < ps.length), w.cell? ⟨g, j * 2, none⟩ = some (.string (B ps[j].1)) ∧ w.cell? ⟨g, j * 2 + 1, none⟩ = some (.int .i64 (ps[j].2 : Int)) := by
  have h0 := h
  obtain ⟨_, ⟨rfl, hz⟩ | ⟨g, cap, cur, rfl, hb, hcur, hc, _⟩⟩ := h
  · exact absurd (List.eq_nil_of_length_eq_zero hz) hne
  · refine ⟨g, cap, rfl, (Array.getElem?_eq_some_iff.1 hcur).1, hc, fun j hj => ?_⟩
    have hg := placeCells_get ps j hj
    have c0 := World.ownsRow.cellAt h0 (j * 2) (by omega)
    have c1 := World.ownsRow.cellAt h0 (j * 2 + 1) (by omega)
    exact ⟨c0.trans hg.1, c1.trans hg.2⟩

set_option maxRecDepth 100000 in
set_option maxHeartbeats 800000 in
theorem placeOf_hit (mb base j0 : Nat) (x : Str) (vb vp : Value) (ps : List (Str × Nat)) (w : World) (hm : MsgAt w mb vb vp) (ho : OwnP w base vp ps) (hj : j0 < ps.length) (he : ps[j0].1 = x) (hb : ∀ j (h : j < j0), (ps[j].1 == x) = false) (hl : ps.length ≤ 1000) :
    Calls Tryz.prog 339 #[.pointer (some ⟨mb, 0, none⟩), .string (B x)] w fun e w' =>
      e = .returned (.tuple #[.int .i64 (ps[j0].2 : Int), .bool true]) ∧ Below w.heap.size w w' := by
  obtain ⟨g, cap, rfl, hg, hcap, hcell⟩ := place_at ho (by intro h; subst h; simp at hj)
  have hc0 := hm.cells.2
  have HC := hide hcell
  have HB := hide hb
  have HE := hide he
  clear hm ho hcell hb he
  go_enter Tryz.func339, Tryz.ntmps339
  go_wp2_with fail
  go_loopw [13] (fun i wr => ∃ k : Nat, i = .int .i64 k ∧ k ≤ j0 ∧ Below w.heap.size w wr) (fun i _ => ps.length - (intOf i).toNat)
  case atStart => exact ⟨0, rfl, Nat.zero_le _, Below.refl _ _⟩
  case round =>
    obtain ⟨k, rfl, hk, hbr⟩ := hrel
    have hkl : k < ps.length := by omega
    have hkI : (k : Int) < (ps.length : Int) := by omega
    obtain ⟨c0, c1⟩ := unhide HC k hkl
    have d0 := (hbr.cell (p := ⟨g, k * 2, none⟩) hg).trans c0
    have d1 := (hbr.cell (p := ⟨g, k * 2 + 1, none⟩) hg).trans c1
    have hBB : ((B ps[k].1).toList == (B x).toList) = (ps[k].1 == x) := B_inj
    have HBR := hide hbr
    have hs := hbr.size
    clear c0 c1 hbr
    by_cases hkj : k = j0
    · subst hkj
      clear hBB hk
      rw [unhide HE] at d0
      obtain ⟨pn, hpn⟩ : ∃ pn, pn = ps[k].2 := ⟨_, rfl⟩
      rw [← hpn] at d1
      have HPN := hide hpn
      clear hpn
      go_wp2_with fail
      go_ret2
      refine ⟨?_, (unhide HBR).alloc hs _⟩
      rw [← unhide HPN]
      rfl
    · rw [unhide HB k (by omega)] at hBB
      generalize ps[k].2 = pn at *
      generalize B ps[k].1 = pb at *
      go_wp2_with fail
      go_roundw
      case rel => exact ⟨k + 1, by go_num, by omega, (unhide HBR).alloc hs _⟩
      case measure => simp [intOf]; omega
end Wo
end Go.Proofs.YtkkpahmoljiepaaGreatDoor

/- Contract: wire's sized: how long its fields are stands ahead of them. -/
namespace Go.Proofs.YtkkpahmoljiepaaGreatDoor
open Go.RowKit
open Pu (Str hide unhide)

/-- fields that lie side by side in a block that no writing touches. -/
def FdsAt (mb : Nat) (w : World) (g : Nat) (fs : List Fd) : Prop := g < w.heap.size ∧ g ≠ mb ∧ (∀ cur, w.heap[g]? ≠ some (.cells cur 5 (0, 0))) ∧ ∀ j (h : j < fs.length), w.cell? ⟨g, j, none⟩ = some (.iface fs[j].t fs[j].x)
theorem FdsAt.tf {mb base g : Nat} {fs : List Fd} {w w' : World} (h : FdsAt mb w g fs) (ht : TF mb base w w') : FdsAt mb w' g fs := by
  have e := ht.block g h.1 h.2.1 (.inr h.2.2.1)
  exact ⟨Nat.lt_of_lt_of_le h.1 ht.size, h.2.1, by rw [e]; exact h.2.2.1, fun j hj => (World.cell?_of_block e).trans (h.2.2.2 j hj)⟩

namespace Wp
open Ka Wa Wb Wc Wd We Wf Wg Wh Wi Wj Wk Wl Wm Wn Wo Re

/-- a row of bytes that is not empty. -/
theorem own_at {w : World} {base : Nat} {v : Value} {l : Str} (h : OwnB w base v l) (hne : l ≠ []) : ∃ g cap cur, v = .slice (some ⟨g, 0, none⟩) l.length cap ∧ base ≤ g ∧ w.heap[g]? = some (.cells cur 5 (0, 0)) ∧ l.length ≤ cap ∧ cap ≤ maxLen := by
  obtain ⟨_, ⟨rfl, hz⟩ | ⟨g, cap, cur, rfl, hb, hcur, hc, hm, _⟩⟩ := h
  · exact absurd (List.eq_nil_of_length_eq_zero hz) hne
  · exact ⟨g, cap, cur, rfl, hb, hcur, hc, hm⟩
theorem own_setB {w : World} {base g n cap : Nat} {l : Str} (h : OwnB w base (.slice (some ⟨g, 0, none⟩) n cap) l) (i : Nat) (c : UInt8) (hi : i < l.length) :
    OwnB (w.setCell ⟨g, i, none⟩ (.int .u8 c.toNat)) base (.slice (some ⟨g, 0, none⟩) n cap) (l.set i c) := by
  obtain ⟨h1, ⟨e, hz⟩ | ⟨g', cap', cur, e, hb, hcur, hc, hm, hs, ht⟩⟩ := h
  · cases e
  · cases e
    refine ⟨by simp, .inr ⟨g, cap, cur.setIfInBounds i (.int .u8 c.toNat), by simp, hb, ?_, by rw [List.length_set]; exact hc, hm, by rw [Array.size_setIfInBounds]; exact hs, ?_⟩⟩
    · simp only [World.setCell]; rw [Array.getElem?_modify, if_pos rfl, hcur]; rfl
    · rw [Array.toList_setIfInBounds, List.take_set]
      rw [List.length_set, ht]
      rw [List.map_set]

theorem tf_set {mb base g : Nat} {w w' : World} (h : TF mb base w w') (i : Nat) (u : Value) {cur : Array Value} (hb : base ≤ g) (hcur : w'.heap[g]? = some (.cells cur 5 (0, 0))) : TF mb base w (w'.setCell ⟨g, i, none⟩ u) :=
  h.trans ⟨rfl, rfl, rfl, by simp [World.setCell], fun k hk hm hp => by
    by_cases e : k = g
    · subst e
      rcases hp with hp | hp
      · omega
      · exact absurd hcur (hp cur)
    · exact Below.heap_setCell _ _ _ _ e⟩

theorem m_sized (a : Option Addr) (n c : Nat) (W : World) : (method 521 293 (.slice a n c) "beacon/wire.writeTo").run Tryz.prog W = .ok (342, .slice a n c) W := by kernel_rfl
theorem c_sized (args : Array Value) (W : World) : (callFunc 342 args).run Tryz.prog W = .ok (.enter 342 args) W := by kernel_rfl
theorem c_put (args : Array Value) (W : World) : (callFunc 139 args).run Tryz.prog W = .ok (.enter 139 args) W := by kernel_rfl
def sizedOut (fs : List Fd) : Str := hi (outs fs).length :: lo (outs fs).length :: outs fs
def fSized (g cap : Nat) (fs : List Fd) : Fd := ⟨293, .slice (some ⟨g, 0, none⟩) fs.length cap, 342, sizedOut fs⟩

theorem set2 (l m : Str) (a b c d : UInt8) : ((l ++ a :: b :: m).set l.length c).set (l.length + 1) d = l ++ c :: d :: m := by
  induction l with
  | nil => rfl
  | cons x t ih => simp

set_option maxRecDepth 100000 in
set_option maxHeartbeats 1600000 in
theorem sized_w (mb base g cap : Nat) (vp : Value) (I : World → Prop) (fs : List Fd) (hst : Stable mb base I) (hI : ∀ w, I w → FdsAt mb w g fs) (hok : ∀ f ∈ fs, f.OkI mb base vp I) (hn : fs.length ≤ cap) (hc : fs.length ≤ 1000000) :
    WrI mb base vp I 342 (.slice (some ⟨g, 0, none⟩) fs.length cap) (sizedOut fs) := by
  intro vb l w hIw hm ho hbs hl
  have HM := hide hm
  have HO := hide ho
  have HIW := hide hIw
  have HST := hide hst
  have HI := hide hI
  have HOK := hide hok
  have hlt := hm.lt
  have hl2 : l.length + (outs fs).length + 2 ≤ 60000 := by simp [sizedOut] at hl; omega
  have HL := hide hl2
  clear hm ho hIw hst hI hok hl
  go_enter Tryz.func342, Tryz.ntmps342
  go_wp2_with fail
  have hnew := World.alloc_heap_new w (.cells #[.iface 284 (.int .u16 0)] 297)
  refine (put_any mb base w.heap.size 1 [fShort 0] vb vp l _ ((Below.heap_alloc _ _ _ hlt).trans (unhide HM)) ((unhide HO).alloc _) (by simp; omega) ?_ (by simp) (by omega) (.inr ?_) ?_ (by simp) (by simp) ?_).mono ?_
  · intro f hf
    simp at hf
    subst hf; exact short_ok _ (by omega)
  · intro cur h
    rw [hnew] at h
    simp at h
  · intro j hj
    match j, hj with
    | 0, _ => unfold World.cell?; rw [hnew]; rfl
    | j + 1, hj => simp at hj
  · simp [outs, fShort]; omega
  rintro e w2 ⟨rfl, ⟨vb2, h1, h2⟩, h3⟩
  have T2 : Hid (TF mb base w w2) := (TF.of_below ((Below.refl _ _).alloc (Nat.le_refl _) _)).trans h3
  have HM2 := hide h1
  have HO2 : Hid (OwnB w2 base vb2 (l ++ [0, 0])) := h2
  clear h1 h2 h3 hnew HM HO
  obtain ⟨g2, cap2, cur2, rfl, hb2, hcur2, hc2, _⟩ := own_at (unhide HO2) (by simp)
  have c2 := (unhide HM2).cells.1
  have hs2 := (unhide T2).size
  rw [List.length_append] at c2
  simp only [List.length_cons, List.length_nil] at c2
  have HP := hide (put_I mb base g cap I fs _ vp (l ++ [0, 0]) w2 (unhide HST w w2 (unhide HIW) (unhide T2)) (unhide HST) (unhide HM2) (unhide HO2) (by omega) (unhide HOK) (unhide HI _ (unhide HST w w2 (unhide HIW) (unhide T2))).1 (unhide HI _ (unhide HST w w2 (unhide HIW) (unhide T2))).2.1 (.inr (unhide HI _ (unhide HST w w2 (unhide HIW) (unhide T2))).2.2.1) (unhide HI _ (unhide HST w w2 (unhide HIW) (unhide T2))).2.2.2 hn hc (by rw [List.length_append]; simp; omega))
  clear hcur2 hb2
  go_wp2_with fail
  refine (unhide HP).mono ?_
  rintro e w3 ⟨rfl, ⟨vb3, h1, h2⟩, h3⟩
  have T3 : Hid (TF mb base w w3) := (unhide T2).trans h3
  have HM3 := hide h1
  have HO3 := hide h2
  clear h1 h2 h3 HP c2
  obtain ⟨g3, cap3, cur3, rfl, hb3, hcur3, hc3, hm3⟩ := own_at (unhide HO3) (by simp)
  have HC3 := hide hcur3
  have c3 := (unhide HM3).cells.1
  have hgm : mb ≠ g3 := fun e => by
    have := unhide HM3
    rw [MsgAt, e, hcur3] at this
    simp at this
  have hlen3 : (l ++ [0, 0] ++ outs fs).length = l.length + 2 + (outs fs).length := by simp; omega
  rw [hlen3] at c3 hc3
  have k0 : w3.frozen? ⟨g3, l.length, none⟩ = false := by simp [World.frozen?, hcur3]
  have k1 : ∀ u, (w3.setCell ⟨g3, l.length, none⟩ u).frozen? ⟨g3, l.length + 1, none⟩ = false := fun u => by
    simp [World.frozen?, World.setCell, Array.getElem?_modify, hcur3]
  have hx0 := World.ownsRow.cellAt (unhide HO3) l.length (by simp)
  have hx1 := World.ownsRow.cellAt (unhide HO3) (l.length + 1) (by simp)
  simp at hx0 hx1
  clear hcur3 hlen3
  generalize hL : (outs fs).length = L at *
  have e1 : (l.length : Int) + 2 + (L : Int) - ((l.length : Int) + 2) = (L : Int) := by omega
  go_wp2_with fail
  go_region
  have eh : (L : Int) / 256 = ((hi L).toNat : Int) := by unfold hi; rw [UInt8.toNat_ofNat']; omega
  have el : (L : Int) % 256 = ((lo L).toNat : Int) := by unfold lo; rw [UInt8.toNat_ofNat']; omega
  rw [eh, el]
  have O4 := own_setB (own_setB (unhide HO3) l.length (hi L) (by simp)) (l.length + 1) (lo L) (by simp)
  rw [List.append_assoc l, show ([0, 0] ++ outs fs : Str) = 0 :: 0 :: outs fs from rfl, set2] at O4
  rw [show hi L :: lo L :: outs fs = sizedOut fs by rw [sizedOut, hL]] at O4
  have M4 := (unhide HM3).kept (w' := ((w3.setCell ⟨g3, l.length, none⟩ (.int .u8 (hi L).toNat)).setCell ⟨g3, l.length + 1, none⟩ (.int .u8 (lo L).toNat))) ((Below.heap_setCell _ _ _ _ hgm).trans (Below.heap_setCell _ _ _ _ hgm))
  have T4 := tf_set (tf_set (unhide T3) l.length (.int .u8 (hi L).toNat) hb3 (unhide HC3)) (l.length + 1) (.int .u8 (lo L).toNat) hb3 (cur := cur3.setIfInBounds l.length (.int .u8 (hi L).toNat)) (by simp only [World.setCell]; rw [Array.getElem?_modify, if_pos rfl, unhide HC3]; rfl)
  rw [List.append_assoc l, show ([0, 0] ++ outs fs : Str) = 0 :: 0 :: outs fs from rfl] at M4
  have HF := hide (And.intro O4 (And.intro M4 T4))
  clear O4 M4 T4 eh el
  generalize ((w3.setCell ⟨g3, l.length, none⟩ (.int .u8 (hi L).toNat)).setCell ⟨g3, l.length + 1, none⟩ (.int .u8 (lo L).toNat)) = w4 at *
  go_wp2_with fail
  refine bodyPost_end (v := .tuple #[]) (by simp [results, Tryz.results342]) rfl ?_
  obtain ⟨h1, h2, h3⟩ := unhide HF
  exact ⟨rfl, ⟨_, h2.kept rfl, own_below h1 (Below.refl _ _).drew⟩, h3.trans (TF.of_below (Below.refl _ _).drew)⟩
end Wp
end Go.Proofs.YtkkpahmoljiepaaGreatDoor

/- Contracts: wire's number, addressOf, dataOf of an address. -/
namespace Go.Proofs.YtkkpahmoljiepaaGreatDoor
open Go.RowKit
open Pu (Str hide unhide)

/-- fields in memory of the call's own. -/
def OwnF (w : World) (base : Nat) (v : Value) (fs : List Fd) : Prop := w.ownsRow base 297 1 v fs.length (fs.map fun f => .iface f.t f.x)

namespace Wq
open Ka Wa Wb Wc Wd We Wf Wg Wh Wi Wj Wk Wl Wm Wn Wo Wp Re

theorem infoF : (Tryz.prog.info? 297).map (fun i => (i.zero, i.size, i.bytes)) = some (some .nilIface, 1, 16) := by kernel_rfl
theorem underZ : Tryz.prog.underlying 293 = some (.slice 297) := by kernel_rfl

theorem below_bytes (w : World) (t : TypeId) (s : ByteArray) : Below w.heap.size w (Lib.bytesWorld w t s) := Go.Joins.below_bytesWorld _ _ _ _ (Nat.le_refl _)

set_option maxHeartbeats 400000 in
theorem number_ok (s : ByteArray) (u : Nat) (w : World) (hs : s.size ≤ 3000) (h : Lib.parseUintB 64 s.data.toList = .ok u) :
    Calls Tryz.prog 280 #[.string s] w fun e w' => e = .returned (.int .u64 (u : Int)) ∧ Below w.heap.size w w' := by
  have HC := hide (Tryz.strconv_ParseUint_10_at64_ok s (by omega) u h w)
  clear h
  go_enter Tryz.func280, Tryz.ntmps280
  go_wp2_with fail
  refine (unhide HC).mono ?_
  rintro e w1 ⟨rfl, hw1⟩
  have hb : Below w.heap.size w w1 := by
    rcases hw1 with rfl | rfl
    · exact Below.refl _ _
    · exact below_bytes _ _ _
  clear hw1
  go_wp2_with fail
  go_ret
  exact ⟨rfl, hb⟩

/-- the numbers of an address. -/
def AddrOk (d : Str) (us : List Nat) : Prop := (Sp.spl 46 d).map (Lib.parseUintB 64) = us.map .ok
def addrFs (us : List Nat) : List Fd := us.map fun u => fOctet (UInt8.ofNat u)

set_option maxRecDepth 100000 in
set_option maxHeartbeats 800000 in
theorem addressOf_any (d : Str) (us : List Nat) (w : World) (hg : G w) (hd : d.length ≤ 3000) (hu : AddrOk d us) :
    Calls Tryz.prog 281 #[.string (B d)] w fun e w' => (∃ v, e = .returned v ∧ OwnF w' w.heap.size v (addrFs us)) ∧ Below w.heap.size w w' := by
  obtain ⟨i0, hi, hz0, hz1, hz2⟩ := info_parts infoF
  have hat := strsAt_alloc w (Sp.pieces 46 (B d))
  have hcall := split_any (B d) 46 w hg (by rw [size_B]; omega)
  have hb : Below w.heap.size w (w.alloc (.cells ((Sp.pieces 46 (B d)).map Value.string).toArray 9)) := (Below.refl _ _).alloc (Nat.le_refl _) _
  have hps : Hid (∀ x ∈ Sp.pieces 46 (B d), x.size ≤ 3000) := fun x hx => by
    have := Sp.piece_size 46 (B d) x hx
    rw [size_B] at this; omega
  have hpu : Hid ((Sp.pieces 46 (B d)).map (fun x => Lib.parseUintB 64 x.data.toList) = us.map .ok) := by
    have := Sp.pieces_data 46 (B d)
    rw [data_B] at this
    unfold AddrOk at hu
    rw [← this, List.map_map] at hu
    exact hu
  have hlen : (Sp.pieces 46 (B d)).length = us.length := by
    have := congrArg List.length (unhide hpu)
    simpa using this
  have hle : us.length ≤ 3001 := by
    have := Sp.spl_len_le 46 (B d).data.toList
    rw [← Sp.pieces_data, List.length_map, data_B] at this
    omega
  generalize Sp.pieces 46 (B d) = L at *
  generalize w.alloc (.cells (L.map Value.string).toArray 9) = W at *
  have HC := hide hcall
  have HB := hide hb
  have hWs := hb.size
  rw [hlen] at HC
  clear hcall hb
  obtain ⟨hsz, hcell⟩ := hat
  have HL := hide hcell
  have HLEN := hide hlen
  clear hcell hlen hu hg
  go_enter Tryz.func281, Tryz.ntmps281
  go_wp2_with (go_at_call 97; refine (unhide HC).mono ?_; rintro e W ⟨rfl, rfl⟩)
  go_loopw [9, 3] (fun i v wr => ∃ (k : Nat) (a : Option Addr) (n c : Nat), i = .int .i64 k ∧ v = .slice a n c ∧ k ≤ us.length ∧ OwnF wr W.heap.size (.slice a n c) (addrFs (us.take k)) ∧ Below W.heap.size W wr) (fun i _ _ => us.length - (intOf i).toNat)
  case atStart => exact ⟨0, none, 0, 0, rfl, rfl, Nat.zero_le _, World.ownsRow_nil _ _ _ _, Below.refl _ _⟩
  case round =>
    obtain ⟨k, a, n, c, rfl, rfl, hk, hof, hbr⟩ := hrel
    have HOF := hide hof
    have HBR := hide hbr
    have hsr := hbr.size
    clear hof
    by_cases hlt : k < us.length
    · have hkL : k < L.length := by rw [unhide HLEN]; exact hlt
      have hck := (hbr.cell (p := ⟨w.heap.size, 0 + k, none⟩) hsz).trans ((unhide HL) k hkL)
      rw [Nat.zero_add] at hck
      have hkI : (k : Int) < (us.length : Int) := by omega
      have hpk : Lib.parseUintB 64 L[k].data.toList = .ok us[k] := by
        have := congrArg (fun l : List _ => l[k]?) (unhide hpu)
        simpa [hkL, hlt] using this
      have HN := hide (number_ok L[k] us[k] wr (unhide hps L[k] (List.getElem_mem hkL)) hpk)
      have HT : Hid (addrFs (us.take (k + 1)) = addrFs (us.take k) ++ [fOctet (UInt8.ofNat us[k])]) := by
        rw [Hid, addrFs, List.take_succ_eq_append_getElem hlt, List.map_append]; rfl
      have hwr : (us[k] : Int) % 256 = ((UInt8.ofNat us[k]).toNat : Int) := by
        rw [UInt8.toNat_ofNat']; omega
      have HWR := hide hwr
      have hfl : (addrFs (us.take k)).length = k := by simp [addrFs]; omega
      clear hpk hbr hwr
      generalize L[k] = x at *
      generalize us[k] = u at *
      go_wp2_with fail
      refine (unhide HN).mono ?_
      rintro e w2 ⟨rfl, hb2⟩
      have HO2 : Hid (OwnF w2 W.heap.size (.slice a n c) (addrFs (us.take k))) := own_below (unhide HOF) hb2
      have hs2 := hb2.size
      have HB2 := hide ((unhide HBR).trans (hb2.mono hsr))
      clear hb2
      go_wp2_with (at_builtin; go_loud (refine wpList_append_own _ rfl (.tmp 13) (.tmp 18) 293 rfl W.heap.size 297 i0 .nilIface 1 16 underZ hi hz0 hz1 hz2 rfl (by decide) _ (addrFs (us.take k)).length _ rfl ((unhide HO2).alloc _) ⟨w2.heap.size, 0, none⟩ 1 1 [.iface 292 (.int .u8 ((u : Int) % 256))] rfl rfl ?c1 ?c2 ?c3 ?c4 ?c5 ?_))
      case c1 =>
        intro j u' hj
        match j, hj with
        | 0, hj => simp at hj; subst hj; simp [Addr.add]
        | n + 1, hj => simp at hj
      case c2 => intro u' hu'; simp at hu'; subst hu'; rfl
      case c3 => unfold maxLen; omega
      case c4 => omega
      case c5 => simp; omega
      intro v' w3 hown' hgrow _
      obtain ⟨va, vn, vc, rfl⟩ := own_slice hown'
      have HO3 : Hid (OwnF w3 W.heap.size (.slice va vn vc) (addrFs (us.take (k + 1)))) := by
        unfold Hid OwnF
        rw [unhide HT, List.length_append, List.map_append, hfl]
        rw [unhide HWR] at hown'
        exact hown'
      have HB3 : Hid (Below W.heap.size W w3) := ((unhide HB2).alloc (by omega) _).grown hgrow (by simp; omega) (fun k' hk' => ((unhide HO2).lt k' hk').1)
      clear hown' hgrow
      go_wp2_with fail
      exact ⟨⟨k + 1, _, _, _, by go_num, rfl, by omega, unhide HO3, unhide HB3⟩, by simp [intOf]; omega⟩
    · have hkl : k = us.length := by omega
      subst hkl
      have HO2 := unhide HOF
      rw [List.take_length] at HO2
      have HO3 := hide HO2
      clear HO2
      go_wp2
      go_ret
      exact ⟨⟨_, rfl, own_base (unhide HO3) (by omega)⟩, (unhide HB).trans ((unhide HBR).mono hWs)⟩

set_option maxHeartbeats 400000 in
theorem dataOf_A (r : Rec) (us : List Nat) (w : World) (hg : G w) (ht : r.type = 1) (hd : r.data.length ≤ 3000) (hu : AddrOk r.data us) :
    Calls Tryz.prog 254 #[.agg #[.string (B r.owner), .int .i64 r.ttl, .int .i64 r.type, .string (B r.data)]] w fun e w' => (∃ v, e = .returned v ∧ OwnF w' w.heap.size v (addrFs us)) ∧ Below w.heap.size w w' := by
  have hb0 : Below w.heap.size w (w.alloc (.cells #[.string (B r.owner), .int .i64 r.ttl, .int .i64 r.type, .string (B r.data)] 47)) := (Below.refl _ _).alloc (Nat.le_refl _) _
  have hs0 := hb0.size
  have HC := hide (split_any (B r.data) 32 _ (hg.below hb0) (by rw [size_B]; omega))
  have hb1 : Below w.heap.size w ((w.alloc (.cells #[.string (B r.owner), .int .i64 r.ttl, .int .i64 r.type, .string (B r.data)] 47)).alloc (.cells ((Sp.pieces 32 (B r.data)).map Value.string).toArray 9)) := hb0.alloc (by simp) _
  have HA := hide (addressOf_any r.data us _ (hg.below hb1) hd hu)
  rw [ht] at *
  clear hg ht hu
  generalize Sp.pieces 32 (B r.data) = L at *
  have HB1 := hide hb1
  clear hb1 hb0 hs0
  go_enter Tryz.func254, Tryz.ntmps254
  go_wp2_with fail
  refine (unhide HC).mono ?_
  rintro e w1 ⟨rfl, rfl⟩
  go_wp2_with fail
  refine (unhide HA).mono ?_
  rintro e w2 ⟨⟨v, rfl, hv⟩, hb2⟩
  have HV := hide hv
  obtain ⟨va, vn, vc, rfl⟩ := own_slice hv
  clear hv
  have hs1 := (unhide HB1).size
  go_wp2_with fail
  go_ret
  exact ⟨⟨_, rfl, own_base (unhide HV) hs1⟩, (unhide HB1).trans (hb2.mono hs1)⟩
end Wq
end Go.Proofs.YtkkpahmoljiepaaGreatDoor
