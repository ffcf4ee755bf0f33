/- Fields in general: what each does to a message's bytes and places; put of any list of them; sized. -/
import Derived.Test.YtkkpahmoljiepaaGreatDoorJMb
import Derived.Test.YtkkpahmoljiepaaGreatDoorJ21
import Derived.Deep.RegionHeld
set_option linter.unusedSimpArgs false
set_option linter.unusedVariables false
namespace Go.Proofs.YtkkpahmoljiepaaGreatDoor
open Go.RowKit
open Pu (Str hide unhide)

/-- a method writes into one message, where something lies in memory that such writing leaves as it is. -/
def WrM (mb base : Nat) (I : World → Prop) (fn : FuncId) (x : Value) (step : Str → Pl → Str × Pl) : Prop := ∀ (l : Str) (ps : Pl) (w : World), I w → Msg w mb base l ps → base ≤ w.heap.size → PlOk ps → (step l ps).1.length ≤ 50000 → (step l ps).2.length ≤ 700 →
  Calls Tryz.prog fn #[x, .pointer (some ⟨mb, 0, none⟩)] w fun e w' => e = .returned (.tuple #[]) ∧ Msg w' mb base (step l ps).1 (step l ps).2 ∧ TG mb base w w'
/-- a field: its type, its value, the method that writes it, what that does. -/
structure Fe where
  t : TypeId
  x : Value
  fn : FuncId
  step : Str → Pl → Str × Pl
structure Fe.Ok (f : Fe) (mb base : Nat) (I : World → Prop) : Prop where
  meth : ∀ W : World, (method 521 f.t f.x "beacon/wire.writeTo").run Tryz.prog W = .ok (f.fn, f.x) W
  call : ∀ (args : Array Value) (W : World), (callFunc f.fn args).run Tryz.prog W = .ok (.enter f.fn args) W
  wr : WrM mb base I f.fn f.x f.step
  more : ∀ l ps, l.length ≤ (f.step l ps).1.length ∧ ps.length ≤ (f.step l ps).2.length ∧ (PlOk ps → PlOk (f.step l ps).2)
def steps (fs : List Fe) (l : Str) (ps : Pl) : Str × Pl := fs.foldl (fun s f => f.step s.1 s.2) (l, ps)
/-- what writing leaves as it is. -/
def StableG (mb base : Nat) (I : World → Prop) : Prop := ∀ w w', I w → TG mb base w w' → I w'
/-- fields that lie side by side in a block that no writing touches. -/
def FesAt (mb : Nat) (w : World) (g : Nat) (fs : List Fe) : Prop := g ≠ mb ∧ (∃ cs t, w.heap[g]? = some (.cells cs t) ∧ t ≠ 5 ∧ t ≠ 343) ∧ ∀ j (h : j < fs.length), w.cell? ⟨g, j, none⟩ = some (.iface fs[j].t fs[j].x)
theorem FesAt.tg {mb base g : Nat} {fs : List Fe} {w w' : World} (h : FesAt mb w g fs) (ht : TG mb base w w') : FesAt mb w' g fs := by
  obtain ⟨h1, ⟨cs, t, h2, h3, h4⟩, h5⟩ := h
  have e := ht.box h2 h1 h3 h4
  exact ⟨h1, ⟨cs, t, e, h3, h4⟩, fun j hj => (World.cell?_of_block (e.trans h2.symm)).trans (h5 j hj)⟩

namespace Mc
open Ka Kd Rg Ia Iow Ie Zb Zc Za La Wa Wb Wc Wd We Wf Wg Wh Wi Wj Wk Wl Wm Wn Wo Wp Ws Ma Mb Re

theorem steps_nil (l : Str) (ps : Pl) : steps [] l ps = (l, ps) := rfl
theorem steps_cons (f : Fe) (fs : List Fe) (l : Str) (ps : Pl) : steps (f :: fs) l ps = steps fs (f.step l ps).1 (f.step l ps).2 := rfl
theorem steps_app (fs gs : List Fe) (l : Str) (ps : Pl) : steps (fs ++ gs) l ps = steps gs (steps fs l ps).1 (steps fs l ps).2 := by
  unfold steps; rw [List.foldl_append]
theorem steps_take (fs : List Fe) (k : Nat) (h : k < fs.length) (l : Str) (ps : Pl) : steps (fs.take (k + 1)) l ps = fs[k].step (steps (fs.take k) l ps).1 (steps (fs.take k) l ps).2 := by
  rw [List.take_succ_eq_append_getElem h, steps_app]; rfl
theorem steps_more {mb base : Nat} {I : World → Prop} : ∀ (fs : List Fe), (∀ f ∈ fs, f.Ok mb base I) → ∀ l ps, l.length ≤ (steps fs l ps).1.length ∧ ps.length ≤ (steps fs l ps).2.length ∧ (PlOk ps → PlOk (steps fs l ps).2)
  | [], _, l, ps => ⟨Nat.le_refl _, Nat.le_refl _, id⟩
  | f :: fs, h, l, ps => by
    have h1 := (h f (by simp)).more l ps
    have h2 := steps_more fs (fun g hg => h g (by simp [hg])) (f.step l ps).1 (f.step l ps).2
    rw [steps_cons]
    exact ⟨by omega, by omega, fun h => h2.2.2 (h1.2.2 h)⟩
theorem steps_part {mb base : Nat} {I : World → Prop} (fs : List Fe) (hok : ∀ f ∈ fs, f.Ok mb base I) (l : Str) (ps : Pl) (k : Nat) : (steps (fs.take k) l ps).1.length ≤ (steps fs l ps).1.length ∧ (steps (fs.take k) l ps).2.length ≤ (steps fs l ps).2.length := by
  have e : steps fs l ps = steps (fs.drop k) (steps (fs.take k) l ps).1 (steps (fs.take k) l ps).2 := by rw [← steps_app, List.take_append_drop]
  have := steps_more (fs.drop k) (fun f hf => hok f (List.mem_of_mem_drop hf)) (steps (fs.take k) l ps).1 (steps (fs.take k) l ps).2
  rw [e]; exact ⟨this.1, this.2.1⟩

set_option maxRecDepth 100000 in
set_option maxHeartbeats 800000 in
theorem put_g (mb base g cap : Nat) (I : World → Prop) (fs : List Fe) (l : Str) (ps : Pl) (w : World) (hI : I w) (hst : StableG mb base I) (hm : Msg w mb base l ps) (hbs : base ≤ w.heap.size) (hpo : PlOk ps)
    (hok : ∀ f ∈ fs, f.Ok mb base I) (hfs : FesAt mb w g fs) (hn : fs.length ≤ cap) (hc : fs.length ≤ 1000000) (hl : (steps fs l ps).1.length ≤ 50000) (hp : (steps fs l ps).2.length ≤ 700) :
    Calls Tryz.prog 139 #[.pointer (some ⟨mb, 0, none⟩), .slice (some ⟨g, 0, none⟩) fs.length cap] w fun e w' =>
      e = .returned (.tuple #[]) ∧ Msg w' mb base (steps fs l ps).1 (steps fs l ps).2 ∧ TG mb base w w' := by
  have HM := hide hm
  have HOK := hide hok
  have HC := hide hfs
  have HI := hide hI
  have HST := hide hst
  have HPO := hide hpo
  have hgl : g < w.heap.size := by obtain ⟨_, ⟨cs, t, h2, _⟩, _⟩ := hfs; exact (Array.getElem?_eq_some_iff.1 h2).1
  clear hm hok hfs hI hst hpo
  go_enter Tryz.func139, Tryz.ntmps139
  go_wp2_with fail
  go_loopw [8] (fun i wr => ∃ (k : Nat), i = .int .i64 k ∧ k ≤ fs.length ∧ Msg wr mb base (steps (fs.take k) l ps).1 (steps (fs.take k) l ps).2 ∧ TG mb base w wr) (fun i _ => fs.length - (intOf i).toNat)
  case atStart => exact ⟨0, rfl, Nat.zero_le _, unhide HM, TG.refl _ _ _⟩
  case round =>
    obtain ⟨k, rfl, hk, hmr, ht⟩ := hrel
    have HM1 := hide hmr
    have HT1 := hide ht
    have hsz := ht.size
    clear hmr ht
    by_cases hlk : k < fs.length
    · have hcell : wr.cell? ⟨g, k, none⟩ = some (.iface fs[k].t fs[k].x) := ((unhide HC).tg (unhide HT1)).2.2 k hlk
      have hOK := unhide HOK fs[k] (List.getElem_mem hlk)
      have HE := hide (steps_take fs k hlk l ps)
      have h1 := steps_part fs (unhide HOK) l ps (k + 1)
      rw [steps_take fs k hlk l ps] at h1
      have hpk := (steps_more (fs.take k) (fun f hf => unhide HOK f (List.mem_of_mem_take hf)) l ps).2.2 (unhide HPO)
      generalize fs[k] = f at *
      have hmeth := hOK.meth
      have hcf := hOK.call
      have HW := hide (hOK.wr _ _ wr (unhide HST w wr (unhide HI) (unhide HT1)) (unhide HM1) (by omega) hpk (by omega) (by omega))
      clear hOK h1 hpk
      go_wp2_with fail
      refine (unhide HW).mono ?_
      rintro e w2 ⟨rfl, h1, h3⟩
      rw [← unhide HE] at h1
      have HF := hide (And.intro h1 ((unhide HT1).trans h3))
      clear h1 h3 HW
      go_wp2_with fail
      exact ⟨⟨k + 1, by go_num, by omega, (unhide HF).1, (unhide HF).2⟩, by simp [intOf]; omega⟩
    · have hkl : k = fs.length := by omega
      subst hkl
      have HO2 := unhide HM1
      rw [List.take_length] at HO2
      have HO3 := hide HO2
      clear HO2
      go_wp2
      refine bodyPost_end (v := .tuple #[]) (by simp [results, Tryz.results139]) rfl ?_
      exact ⟨rfl, unhide HO3, unhide HT1⟩

/-- a plain field, as one in general. -/
def ofFd (f : Fd) : Fe := ⟨f.t, f.x, f.fn, fun l ps => (l ++ f.out, ps)⟩
theorem ofFd_ok {f : Fd} (h : f.Ok) (mb base : Nat) (I : World → Prop) : (ofFd f).Ok mb base I where
  meth := h.1
  call := h.2.1
  wr := fun l ps w _ hm hbs _ hl _ => by
    obtain ⟨vb, vp, h1, h2, h3⟩ := hm
    simp only [ofFd, List.length_append] at hl
    refine (h.2.2 mb base vb vp l w h1 h2 hbs (by omega)).mono ?_
    rintro e w' ⟨rfl, ⟨vb', k1, k2⟩, k3⟩
    exact ⟨rfl, ⟨vb', vp, k1, k2, own_tfP h3 h1 k3⟩, TG.of_tf k3⟩
  more := fun l ps => ⟨by simp [ofFd], Nat.le_refl _, id⟩
/-- a name. -/
def compF (x : Str) : Fe := ⟨291, .string (B x), 338, fun l ps => compL (ends x) l ps⟩
theorem compL_more : ∀ (es : List Str) (l : Str) (ps : Pl), l.length ≤ (compL es l ps).1.length ∧ ps.length ≤ (compL es l ps).2.length ∧ (PlOk ps → PlOk (compL es l ps).2)
  | [], l, ps => ⟨by simp [compL], Nat.le_refl _, id⟩
  | e :: es, l, ps => by
    cases hf : findP ps e with
    | some n => rw [compL_hit hf]; exact ⟨by simp, Nat.le_refl _, id⟩
    | none =>
      rw [compL_miss hf]
      have h1 := compL_more es (l ++ labS e) (learnP ps e l.length)
      have h2 := learnP_ge ps e l.length
      rw [List.length_append] at h1
      exact ⟨by omega, by omega, fun h => h1.2.2 (learn_ok h _ _)⟩
theorem comp_ok (x : Str) (hx : x.length ≤ 300) (mb base : Nat) (I : World → Prop) (hIg : ∀ w, I w → G w) (hb0 : 0 < base) (hm0 : 0 < mb) : (compF x).Ok mb base I where
  meth := m_comp _
  call := c_comp
  wr := fun l ps w hI hm hbs hpo hl hp => by
    have h1 := compL_more (ends x) l ps
    exact comp_m mb base x l ps w hm (hIg w hI) hbs hb0 hm0 (by omega) hpo (by have : (compL (ends x) l ps).2.length ≤ 700 := hp; omega) (by have : (compL (ends x) l ps).1.length ≤ 50000 := hl; omega)
  more := fun l ps => compL_more (ends x) l ps

/-- bytes at a place are written anew. -/
def patch (l : Str) (n : Nat) (k : Nat) : Str := (l.set n (hi k)).set (n + 1) (lo k)
theorem patch_len (l : Str) (n k : Nat) : (patch l n k).length = l.length := by simp [patch]
def sizedStep (fs : List Fe) (l : Str) (ps : Pl) : Str × Pl :=
  (patch (steps fs (l ++ [0, 0]) ps).1 l.length ((steps fs (l ++ [0, 0]) ps).1.length - (l.length + 2)), (steps fs (l ++ [0, 0]) ps).2)
def sizedF (g cap : Nat) (fs : List Fe) : Fe := ⟨293, .slice (some ⟨g, 0, none⟩) fs.length cap, 342, sizedStep fs⟩

set_option maxRecDepth 100000 in
set_option maxHeartbeats 1600000 in
theorem sized_m (mb base g cap : Nat) (I : World → Prop) (fs : List Fe) (hst : StableG mb base I) (hI : ∀ w, I w → FesAt mb w g fs) (hok : ∀ f ∈ fs, f.Ok mb base I) (hn : fs.length ≤ cap) (hc : fs.length ≤ 1000000) :
    WrM mb base I 342 (.slice (some ⟨g, 0, none⟩) fs.length cap) (sizedStep fs) := by
  intro l ps w hIw hm hbs hpo hl hp
  have hmo := steps_more fs hok (l ++ [0, 0]) ps
  rw [List.length_append] at hmo
  simp only [List.length_cons, List.length_nil] at hmo
  simp only [sizedStep, patch_len] at hl hp
  have HM := hide hm
  have HIW := hide hIw
  have HST := hide hst
  have HI := hide hI
  have HOK := hide hok
  have HPO := hide hpo
  have hlt := hm.lt
  clear hm hIw hst hI hok hpo
  go_enter Tryz.func342, Tryz.ntmps342
  go_wp2_with fail
  have hnew := World.alloc_heap_new w (.cells #[.iface 284 (.int .u16 0)] 297)
  refine (put_m mb base w.heap.size 1 [fShort 0] l ps _ ((unhide HM).below ((Below.refl _ _).alloc (Nat.le_refl _) _)) (by simp; omega) ?_ (by simp) (by omega) (.inr ?_) ?_ (by simp) (by simp) ?_).mono ?_
  · intro f hf
    simp at hf
    subst hf; exact short_ok _ (by omega)
  · intro cur h
    rw [hnew] at h
    simp at h
  · intro j hj
    match j, hj with
    | 0, _ => unfold World.cell?; rw [hnew]; rfl
    | j + 1, hj => simp at hj
  · simp [outs, fShort]; omega
  rintro e w2 ⟨rfl, h1, h3⟩
  have T2 : Hid (TG mb base w w2) := (TG.of_below ((Below.refl _ _).alloc (Nat.le_refl _) _)).trans h3
  have HM2 : Hid (Msg w2 mb base (l ++ [0, 0]) ps) := h1
  clear h1 h3 hnew HM
  obtain ⟨vb2, vp2, m2, o2, p2⟩ := unhide HM2
  obtain ⟨g2, cap2, cur2, rfl, hb2, hcur2, hc2, _⟩ := own_at o2 (by simp)
  have c2 := m2.cells.1
  have hs2 := (unhide T2).size
  rw [List.length_append] at c2
  simp only [List.length_cons, List.length_nil] at c2
  have HP := hide (put_g mb base g cap I fs (l ++ [0, 0]) ps w2 (unhide HST w w2 (unhide HIW) (unhide T2)) (unhide HST) (unhide HM2) (by omega) (unhide HPO) (unhide HOK) (unhide HI _ (unhide HST w w2 (unhide HIW) (unhide T2))) hn hc hl hp)
  clear hcur2 hb2 m2 o2 p2 hc2
  go_wp2_with fail
  refine (unhide HP).mono ?_
  rintro e w3 ⟨rfl, h1, h3⟩
  have T3 : Hid (TG mb base w w3) := (unhide T2).trans h3
  clear h3 HP c2
  obtain ⟨vb3, vp3, m3, o3, p3⟩ := h1
  obtain ⟨st, hsteq⟩ : ∃ st, st = steps fs (l ++ [0, 0]) ps := ⟨_, rfl⟩
  have HSS : Hid (sizedStep fs l ps = (patch st.1 l.length (st.1.length - (l.length + 2)), st.2)) := by rw [Hid, hsteq]; rfl
  rw [← hsteq] at hmo hl hp o3 p3
  obtain ⟨s1, s2⟩ := st
  simp only at hmo hl hp o3 p3 HSS
  have hne : s1 ≠ [] := by intro h; subst h; simp at hmo
  obtain ⟨g3, cap3, cur3, rfl, hb3, hcur3, hc3, hm3⟩ := own_at o3 hne
  have c3 := m3.cells.1
  have hgm : mb ≠ g3 := fun e => by
    rw [MsgAt, e, hcur3] at m3
    simp at m3
  have k0 : w3.frozen? ⟨g3, l.length, none⟩ = false := by simp [World.frozen?, hcur3]
  have k1 : ∀ u, (w3.setCell ⟨g3, l.length, none⟩ u).frozen? ⟨g3, l.length + 1, none⟩ = false := fun u => by
    simp [World.frozen?, World.setCell, Array.getElem?_modify, hcur3]
  have hx0 : ∃ u, w3.cell? ⟨g3, l.length, none⟩ = some (.int .u8 u) := ⟨_, by
    rw [World.ownsRow.cellAt o3 l.length (by omega)]
    rw [List.getElem?_map, List.getElem?_eq_getElem (by omega)]; rfl⟩
  have hx1 : ∃ u, w3.cell? ⟨g3, l.length + 1, none⟩ = some (.int .u8 u) := ⟨_, by
    rw [World.ownsRow.cellAt o3 (l.length + 1) (by omega)]
    rw [List.getElem?_map, List.getElem?_eq_getElem (by omega)]; rfl⟩
  obtain ⟨u0, hx0⟩ := hx0
  obtain ⟨u1, hx1⟩ := hx1
  obtain ⟨L, hL⟩ : ∃ L, s1.length = l.length + 2 + L := ⟨s1.length - (l.length + 2), by omega⟩
  have hLL : s1.length - (l.length + 2) = L := by omega
  rw [hLL] at HSS
  have HC3 := hide hcur3
  have HO3 := hide o3
  have HM3 := hide m3
  have HP3 := hide p3
  have HLn := hide hL
  have hl0 : l.length < s1.length := by omega
  have hl1 : l.length + 1 < s1.length := by omega
  rw [hL] at c3 hc3
  clear hcur3 o3 m3 p3 hsteq
  have e1 : (l.length : Int) + 2 + (L : Int) - ((l.length : Int) + 2) = (L : Int) := by omega
  have hLb : l.length + L + 2 ≤ 60000 := by omega
  clear hmo hl hp hL hLL hne HM2
  go_wp2_with fail
  go_region
  have eh : (L : Int) / 256 = ((hi L).toNat : Int) := by unfold hi; rw [UInt8.toNat_ofNat']; omega
  have el : (L : Int) % 256 = ((lo L).toNat : Int) := by unfold lo; rw [UInt8.toNat_ofNat']; omega
  rw [eh, el]
  have O4 := own_setB (own_setB (unhide HO3) l.length (hi L) hl0) (l.length + 1) (lo L) (by simp; omega)
  have hne4 : ∀ k, k ≠ g3 → ((w3.setCell ⟨g3, l.length, none⟩ (.int .u8 (hi L).toNat)).setCell ⟨g3, l.length + 1, none⟩ (.int .u8 (lo L).toNat)).heap[k]? = w3.heap[k]? := fun k hk => (Below.heap_setCell _ _ _ _ hk).trans (Below.heap_setCell _ _ _ _ hk)
  have M4 := (unhide HM3).kept (w' := ((w3.setCell ⟨g3, l.length, none⟩ (.int .u8 (hi L).toNat)).setCell ⟨g3, l.length + 1, none⟩ (.int .u8 (lo L).toNat))) (hne4 mb hgm)
  have P4 : OwnP ((w3.setCell ⟨g3, l.length, none⟩ (.int .u8 (hi L).toNat)).setCell ⟨g3, l.length + 1, none⟩ (.int .u8 (lo L).toNat)) base vp3 s2 := own_kept (unhide HP3) fun k hk => hne4 k fun e => by
    obtain ⟨cur, hcur⟩ := own_kindP (unhide HP3) hk
    rw [e, unhide HC3] at hcur; simp at hcur
  have T4 : TG mb base w ((w3.setCell ⟨g3, l.length, none⟩ (.int .u8 (hi L).toNat)).setCell ⟨g3, l.length + 1, none⟩ (.int .u8 (lo L).toNat)) := (unhide T3).trans ⟨rfl, rfl, rfl, by simp [World.setCell], fun k hk hm hp => hne4 k fun e => by
    rcases hp with hp | hp
    · omega
    · rw [e] at hp; exact hp.1 cur3 (unhide HC3)⟩
  have HF : Hid (Msg ((w3.setCell ⟨g3, l.length, none⟩ (.int .u8 (hi L).toNat)).setCell ⟨g3, l.length + 1, none⟩ (.int .u8 (lo L).toNat)) mb base (patch s1 l.length L) s2 ∧ TG mb base w ((w3.setCell ⟨g3, l.length, none⟩ (.int .u8 (hi L).toNat)).setCell ⟨g3, l.length + 1, none⟩ (.int .u8 (lo L).toNat))) := ⟨⟨_, _, M4, O4, P4⟩, T4⟩
  clear O4 M4 P4 T4 eh el hne4
  generalize ((w3.setCell ⟨g3, l.length, none⟩ (.int .u8 (hi L).toNat)).setCell ⟨g3, l.length + 1, none⟩ (.int .u8 (lo L).toNat)) = w4 at *
  go_wp2_with fail
  refine bodyPost_end (v := .tuple #[]) (by simp [results, Tryz.results342]) rfl ?_
  refine ⟨rfl, ?_, (unhide HF).2.trans (TG.of_below (Below.refl _ _).drew)⟩
  rw [unhide HSS]
  exact (unhide HF).1.below (Below.refl _ _).drew
theorem sized_ok (mb base g cap : Nat) (I : World → Prop) (fs : List Fe) (hst : StableG mb base I) (hI : ∀ w, I w → FesAt mb w g fs) (hok : ∀ f ∈ fs, f.Ok mb base I) (hn : fs.length ≤ cap) (hc : fs.length ≤ 1000000) : (sizedF g cap fs).Ok mb base I where
  meth := m_sized _ _ _
  call := c_sized
  wr := sized_m mb base g cap I fs hst hI hok hn hc
  more := fun l ps => by
    have h := steps_more fs hok (l ++ [0, 0]) ps
    rw [List.length_append] at h
    refine ⟨?_, h.2⟩
    show l.length ≤ (patch _ _ _).length
    rw [patch_len]
    have := h.1
    simp at this; omega
end Mc
end Go.Proofs.YtkkpahmoljiepaaGreatDoor

/- Contracts: wire's dataOf, of records of every type, as fields in general. -/
namespace Go.Proofs.YtkkpahmoljiepaaGreatDoor
open Go.RowKit
open Pu (Str hide unhide)

/-- fields in memory of the call's own. -/
def OwnE (w : World) (base : Nat) (v : Value) (fs : List Fe) : Prop := w.ownsRow base 297 1 v fs.length (fs.map fun f => .iface f.t f.x)

namespace Md
open Ka Kd Rg Ia Iow Ie Zb Zc Za La Wa Wb Wc Wd We Wf Wg Wh Wi Wj Wk Wl Wm Wn Wo Wp Wq Ws Ma Mb Mc Re

theorem ownE_new (w : World) (base : Nat) (cs : Array Value) (fs : List Fe) (hc : cs.toList = fs.map fun f => .iface f.t f.x) (hb : base ≤ w.heap.size) (hl : fs.length ≤ maxLen) (n g : Nat) (hn : n = fs.length) (hg : g = w.heap.size) : OwnE (w.alloc (.cells cs 297)) base (.slice (some ⟨g, 0, none⟩) n n) fs := by
  subst hn hg
  have hs : cs.size = fs.length := by rw [← Array.length_toList, hc, List.length_map]
  exact ⟨by simp, .inr ⟨w.heap.size, fs.length, cs, rfl, hb, World.alloc_heap_new w _, Nat.le_refl _, hl, by rw [hs, Nat.mul_one], by rw [hc, Nat.mul_one]; exact List.take_of_length_le (by simp)⟩⟩
theorem OwnE.drew {w : World} {base : Nat} {v : Value} {fs : List Fe} (h : OwnE w base v fs) : OwnE w.drew base v fs := own_below h (Below.refl _ _).drew

/-- a record as it stands in memory. -/
def rv (r : Rec) : Value := .agg #[.string (B r.owner), .int .i64 r.ttl, .int .i64 r.type, .string (B r.data)]

def txtFs (d : Str) : List Fe := [ofFd (fOctet (UInt8.ofNat d.length)), ofFd (fRaw d)]
set_option maxRecDepth 100000 in
set_option maxHeartbeats 1600000 in
theorem dataOf_TXT (r : Rec) (w : World) (hg : G w) (ht : r.type = 16) (hd : r.data.length ≤ 3000) :
    Calls Tryz.prog 254 #[rv r] w fun e w' => (∃ v, e = .returned v ∧ OwnE w' w.heap.size v (txtFs r.data)) ∧ Below w.heap.size w w' := by
  obtain ⟨oc, hoc⟩ : ∃ oc, oc = UInt8.ofNat r.data.length := ⟨_, rfl⟩
  have ho : IntKind.u8.wrap (r.data.length : Int) = (oc.toNat : Int) := by rw [IntKind.wrap_u8, hoc, UInt8.toNat_ofNat']; omega
  have HOC := hide hoc
  clear hoc
  have hb0 : Below w.heap.size w (w.alloc (.cells #[.string (B r.owner), .int .i64 r.ttl, .int .i64 r.type, .string (B r.data)] 47)) := (Below.refl _ _).alloc (Nat.le_refl _) _
  have HC := hide (split_any (B r.data) 32 _ (hg.below hb0) (by rw [size_B]; omega))
  have hs : (B r.data).size = r.data.length := size_B _
  unfold rv
  rw [ht] at HC hb0 ⊢
  clear hg ht hb0
  generalize Sp.pieces 32 (B r.data) = L at *
  go_enter Tryz.func254, Tryz.ntmps254
  go_wp2_with fail
  refine (unhide HC).mono ?_
  rintro e w1 ⟨rfl, rfl⟩
  clear HC
  go_wp2_with fail
  go_ret
  refine ⟨⟨.slice (some ⟨w.heap.size + 1 + 1, 0, none⟩) 2 2, rfl, ?_⟩, (((Below.refl _ _).alloc (Nat.le_refl _) _).alloc (by simp) _).alloc (by simp <;> omega) _⟩
  rw [show txtFs r.data = [ofFd (fOctet oc), ofFd (fRaw r.data)] by rw [unhide HOC]; rfl]
  refine ownE_new _ _ _ [ofFd (fOctet oc), ofFd (fRaw r.data)] ?_ ?_ ?_ 2 _ rfl ?_
  · rfl
  · first | omega | (simp only [World.size_alloc]; omega) | (simp; omega)
  · simp [maxLen]
  · simp only [World.size_alloc]

set_option maxRecDepth 100000 in
set_option maxHeartbeats 1600000 in
theorem dataOf_one (r : Rec) (w : World) (hg : G w) (k : Int) (ht : r.type = k) (h6 : (k == 6) = false) (h1 : (k == 1) = false) (h16 : (k == 16) = false) (h15 : (k == 15) = false) (hd : r.data.length ≤ 3000) :
    Calls Tryz.prog 254 #[rv r] w fun e w' => (∃ v, e = .returned v ∧ OwnE w' w.heap.size v [compF r.data]) ∧ Below w.heap.size w w' := by
  have hb0 : Below w.heap.size w (w.alloc (.cells #[.string (B r.owner), .int .i64 r.ttl, .int .i64 r.type, .string (B r.data)] 47)) := (Below.refl _ _).alloc (Nat.le_refl _) _
  have HC := hide (split_any (B r.data) 32 _ (hg.below hb0) (by rw [size_B]; omega))
  have hs : (B r.data).size = r.data.length := size_B _
  unfold rv
  rw [ht] at HC hb0 ⊢
  clear hg ht hb0
  generalize Sp.pieces 32 (B r.data) = L at *
  go_enter Tryz.func254, Tryz.ntmps254
  go_wp2_with fail
  refine (unhide HC).mono ?_
  rintro e w1 ⟨rfl, rfl⟩
  clear HC
  go_wp2_with fail
  go_ret
  refine ⟨⟨.slice (some ⟨w.heap.size + 1 + 1, 0, none⟩) 1 1, rfl, ownE_new _ _ _ [compF r.data] ?_ ?_ ?_ 1 _ rfl ?_⟩, ?_⟩
  · rfl
  · first | omega | (simp only [World.size_alloc]; omega) | (simp; omega)
  · simp [maxLen]
  · simp only [World.size_alloc]
  exact (((Below.refl _ _).alloc (Nat.le_refl _) _).alloc (by simp) _).alloc (by simp <;> omega) _

/-- a number's low bits. -/
def soaFs (x0 x1 : Str) (n2 n3 : Nat) : List Fe := [compF x0, compF x1, ofFd (fLong (n2 % 4294967296)), ofFd (fLong 3600), ofFd (fLong 600), ofFd (fLong 86400), ofFd (fLong (n3 % 4294967296))]
def mxFs (n0 : Nat) (x1 : Str) : List Fe := [ofFd (fShort (n0 % 65536)), compF x1]

set_option maxRecDepth 100000 in
set_option maxHeartbeats 1600000 in
theorem dataOf_MX (r : Rec) (w : World) (hg : G w) (ht : r.type = 15) (hd : r.data.length ≤ 3000) (x0 x1 : Str) (n0 : Nat) (hw : Sp.pieces 32 (B r.data) = [B x0, B x1]) (hp0 : Lib.parseUintB 64 x0 = .ok n0) (hl0 : x0.length ≤ 3000) :
    Calls Tryz.prog 254 #[rv r] w fun e w' => (∃ v, e = .returned v ∧ OwnE w' w.heap.size v (mxFs n0 x1)) ∧ Below w.heap.size w w' := by
  have hb0 : Below w.heap.size w (w.alloc (.cells #[.string (B r.owner), .int .i64 r.ttl, .int .i64 r.type, .string (B r.data)] 47)) := (Below.refl _ _).alloc (Nat.le_refl _) _
  have HC := hide (split_any (B r.data) 32 _ (hg.below hb0) (by rw [size_B]; omega))
  have hs : (B r.data).size = r.data.length := size_B _
  unfold rv
  rw [ht] at HC hb0 ⊢
  clear hg ht hb0
  rw [hw] at HC
  go_enter Tryz.func254, Tryz.ntmps254
  go_wp2_with fail
  refine (unhide HC).mono ?_
  rintro e w1 ⟨rfl, rfl⟩
  clear HC
  simp only [List.map_cons, List.map_nil, List.length_cons, List.length_nil]
  have kS : ∀ W W' : World, Below W.heap.size W W' → (W.cell? ⟨w.heap.size + 1, 0, none⟩ = some (.string (B x0)) ∧ W.cell? ⟨w.heap.size + 1, 1, none⟩ = some (.string (B x1))) → (W'.cell? ⟨w.heap.size + 1, 0, none⟩ = some (.string (B x0)) ∧ W'.cell? ⟨w.heap.size + 1, 1, none⟩ = some (.string (B x1))) := fun W W' hb h => by
    have kp : ∀ (a : Addr) (v : Value), W.cell? a = some v → W'.cell? a = some v := fun a v h => (hb.cell (World.block_lt_of_cell? W a h)).trans h
    obtain ⟨e0, e1⟩ := h
    exact ⟨kp _ _ e0, kp _ _ e1⟩
  have HK : Hid (∀ (W : World) (o : Obj), (W.cell? ⟨w.heap.size + 1, 0, none⟩ = some (.string (B x0)) ∧ W.cell? ⟨w.heap.size + 1, 1, none⟩ = some (.string (B x1))) ∧ Below w.heap.size w W → (((W.alloc o).cell? ⟨w.heap.size + 1, 0, none⟩ = some (.string (B x0)) ∧ (W.alloc o).cell? ⟨w.heap.size + 1, 1, none⟩ = some (.string (B x1))) ∧ Below w.heap.size w (W.alloc o))) := fun W o h => ⟨kS W _ ((Below.refl _ _).alloc (Nat.le_refl _) _) h.1, h.2.alloc h.2.size _⟩
  have HN0 : Hid (∀ W, (W.cell? ⟨w.heap.size + 1, 0, none⟩ = some (.string (B x0)) ∧ W.cell? ⟨w.heap.size + 1, 1, none⟩ = some (.string (B x1))) → Below w.heap.size w W → Calls Tryz.prog 280 #[.string (B x0)] W fun e w' => e = .returned (.int .u64 (n0 : Int)) ∧ (w'.cell? ⟨w.heap.size + 1, 0, none⟩ = some (.string (B x0)) ∧ w'.cell? ⟨w.heap.size + 1, 1, none⟩ = some (.string (B x1))) ∧ Below w.heap.size w w') := fun W h hb => by
    refine (number_ok (B x0) n0 W (by rw [size_B]; exact hl0) hp0).mono ?_
    rintro e w' ⟨rfl, hb'⟩
    exact ⟨rfl, kS W w' hb' h, hb.trans (hb'.mono hb.size)⟩
  have y0 : IntKind.u16.wrap (n0 : Int) = ((n0 % 65536 : Nat) : Int) := by rw [IntKind.wrap_u16]; omega
  have hS0 : ((w.alloc (.cells #[.string (B r.owner), .int .i64 r.ttl, .int .i64 15, .string (B r.data)] 47)).alloc (.cells #[.string (B x0), .string (B x1)] 9)).drew.cell? ⟨w.heap.size + 1, 0, none⟩ = some (.string (B x0)) ∧ ((w.alloc (.cells #[.string (B r.owner), .int .i64 r.ttl, .int .i64 15, .string (B r.data)] 47)).alloc (.cells #[.string (B x0), .string (B x1)] 9)).drew.cell? ⟨w.heap.size + 1, 1, none⟩ = some (.string (B x1)) := by
    have hnew := World.alloc_heap_new (w.alloc (.cells #[.string (B r.owner), .int .i64 r.ttl, .int .i64 15, .string (B r.data)] 47)) (.cells #[.string (B x0), .string (B x1)] 9)
    rw [World.size_alloc] at hnew
    refine ⟨?_, ?_⟩ <;> (show (World.cell? _ _) = _; unfold World.cell?; simp only [World.drew]; rw [hnew]; rfl)
  have hB0 : Below w.heap.size w ((w.alloc (.cells #[.string (B r.owner), .int .i64 r.ttl, .int .i64 15, .string (B r.data)] 47)).alloc (.cells #[.string (B x0), .string (B x1)] 9)).drew := (((Below.refl _ _).alloc (Nat.le_refl _) _).alloc (by simp) _).drew
  clear kS hw hp0 hl0
  go_wp2_with fail
  generalize ((w.alloc (.cells #[.string (B r.owner), .int .i64 r.ttl, .int .i64 15, .string (B r.data)] 47)).alloc (.cells #[.string (B x0), .string (B x1)] 9)) = w1 at *
  go_region_held (fun w' => (w'.cell? ⟨w.heap.size + 1, 0, none⟩ = some (.string (B x0)) ∧ w'.cell? ⟨w.heap.size + 1, 1, none⟩ = some (.string (B x1))) ∧ Below w.heap.size w w') (first | exact ⟨by assumption, by assumption⟩ | (refine unhide HK _ _ ?_; exact ⟨by assumption, by assumption⟩) | go_keep)
    (first
      | (go_at_call_of 280 (Value.string (B x0)); go_loud (refine (unhide HN0 _ ?_ ?_).mono ?_; assumption; assumption; rintro e w' ⟨rfl, hq, hbq⟩)))
  have z0 : (n0 : Int) % 65536 = ((n0 % 65536 : Nat) : Int) := by omega
  rw [z0]
  have hbs := hbq.size
  have HF := hide hbq
  clear HK HN0 hS0 hB0 hq hbq
  go_wp2_with fail
  go_ret
  refine ⟨⟨.slice (some ⟨w'.heap.size, 0, none⟩) 2 2, rfl, ownE_new _ _ _ (mxFs n0 x1) ?_ ?_ ?_ 2 _ rfl rfl⟩, ?_⟩
  · rfl
  · exact hbs
  · simp [maxLen, mxFs]
  · exact (unhide HF).alloc hbs _

set_option maxRecDepth 100000 in
set_option maxHeartbeats 1600000 in
theorem dataOf_SOA (r : Rec) (w : World) (hg : G w) (ht : r.type = 6) (hd : r.data.length ≤ 3000) (x0 x1 x2 x3 : Str) (n2 n3 : Nat) (hw : Sp.pieces 32 (B r.data) = [B x0, B x1, B x2, B x3]) (hp2 : Lib.parseUintB 64 x2 = .ok n2) (hp3 : Lib.parseUintB 64 x3 = .ok n3) (hl2 : x2.length ≤ 3000) (hl3 : x3.length ≤ 3000) :
    Calls Tryz.prog 254 #[rv r] w fun e w' => (∃ v, e = .returned v ∧ OwnE w' w.heap.size v (soaFs x0 x1 n2 n3)) ∧ Below w.heap.size w w' := by
  have hb0 : Below w.heap.size w (w.alloc (.cells #[.string (B r.owner), .int .i64 r.ttl, .int .i64 r.type, .string (B r.data)] 47)) := (Below.refl _ _).alloc (Nat.le_refl _) _
  have HC := hide (split_any (B r.data) 32 _ (hg.below hb0) (by rw [size_B]; omega))
  have hs : (B r.data).size = r.data.length := size_B _
  unfold rv
  rw [ht] at HC hb0 ⊢
  clear hg ht hb0
  rw [hw] at HC
  go_enter Tryz.func254, Tryz.ntmps254
  go_wp2_with fail
  refine (unhide HC).mono ?_
  rintro e w1 ⟨rfl, rfl⟩
  clear HC
  simp only [List.map_cons, List.map_nil, List.length_cons, List.length_nil]
  have kS : ∀ W W' : World, Below W.heap.size W W' → (W.cell? ⟨w.heap.size + 1, 0, none⟩ = some (.string (B x0)) ∧ W.cell? ⟨w.heap.size + 1, 1, none⟩ = some (.string (B x1)) ∧ W.cell? ⟨w.heap.size + 1, 2, none⟩ = some (.string (B x2)) ∧ W.cell? ⟨w.heap.size + 1, 3, none⟩ = some (.string (B x3))) → (W'.cell? ⟨w.heap.size + 1, 0, none⟩ = some (.string (B x0)) ∧ W'.cell? ⟨w.heap.size + 1, 1, none⟩ = some (.string (B x1)) ∧ W'.cell? ⟨w.heap.size + 1, 2, none⟩ = some (.string (B x2)) ∧ W'.cell? ⟨w.heap.size + 1, 3, none⟩ = some (.string (B x3))) := fun W W' hb h => by
    have kp : ∀ (a : Addr) (v : Value), W.cell? a = some v → W'.cell? a = some v := fun a v h => (hb.cell (World.block_lt_of_cell? W a h)).trans h
    obtain ⟨e0, e1, e2, e3⟩ := h
    exact ⟨kp _ _ e0, kp _ _ e1, kp _ _ e2, kp _ _ e3⟩
  have HK : Hid (∀ (W : World) (o : Obj), (W.cell? ⟨w.heap.size + 1, 0, none⟩ = some (.string (B x0)) ∧ W.cell? ⟨w.heap.size + 1, 1, none⟩ = some (.string (B x1)) ∧ W.cell? ⟨w.heap.size + 1, 2, none⟩ = some (.string (B x2)) ∧ W.cell? ⟨w.heap.size + 1, 3, none⟩ = some (.string (B x3))) ∧ Below w.heap.size w W → (((W.alloc o).cell? ⟨w.heap.size + 1, 0, none⟩ = some (.string (B x0)) ∧ (W.alloc o).cell? ⟨w.heap.size + 1, 1, none⟩ = some (.string (B x1)) ∧ (W.alloc o).cell? ⟨w.heap.size + 1, 2, none⟩ = some (.string (B x2)) ∧ (W.alloc o).cell? ⟨w.heap.size + 1, 3, none⟩ = some (.string (B x3))) ∧ Below w.heap.size w (W.alloc o))) := fun W o h => ⟨kS W _ ((Below.refl _ _).alloc (Nat.le_refl _) _) h.1, h.2.alloc h.2.size _⟩
  have HN2 : Hid (∀ W, (W.cell? ⟨w.heap.size + 1, 0, none⟩ = some (.string (B x0)) ∧ W.cell? ⟨w.heap.size + 1, 1, none⟩ = some (.string (B x1)) ∧ W.cell? ⟨w.heap.size + 1, 2, none⟩ = some (.string (B x2)) ∧ W.cell? ⟨w.heap.size + 1, 3, none⟩ = some (.string (B x3))) → Below w.heap.size w W → Calls Tryz.prog 280 #[.string (B x2)] W fun e w' => e = .returned (.int .u64 (n2 : Int)) ∧ (w'.cell? ⟨w.heap.size + 1, 0, none⟩ = some (.string (B x0)) ∧ w'.cell? ⟨w.heap.size + 1, 1, none⟩ = some (.string (B x1)) ∧ w'.cell? ⟨w.heap.size + 1, 2, none⟩ = some (.string (B x2)) ∧ w'.cell? ⟨w.heap.size + 1, 3, none⟩ = some (.string (B x3))) ∧ Below w.heap.size w w') := fun W h hb => by
    refine (number_ok (B x2) n2 W (by rw [size_B]; exact hl2) hp2).mono ?_
    rintro e w' ⟨rfl, hb'⟩
    exact ⟨rfl, kS W w' hb' h, hb.trans (hb'.mono hb.size)⟩
  have y2 : IntKind.u32.wrap (n2 : Int) = ((n2 % 4294967296 : Nat) : Int) := by rw [IntKind.wrap_u32]; omega
  have HN3 : Hid (∀ W, (W.cell? ⟨w.heap.size + 1, 0, none⟩ = some (.string (B x0)) ∧ W.cell? ⟨w.heap.size + 1, 1, none⟩ = some (.string (B x1)) ∧ W.cell? ⟨w.heap.size + 1, 2, none⟩ = some (.string (B x2)) ∧ W.cell? ⟨w.heap.size + 1, 3, none⟩ = some (.string (B x3))) → Below w.heap.size w W → Calls Tryz.prog 280 #[.string (B x3)] W fun e w' => e = .returned (.int .u64 (n3 : Int)) ∧ (w'.cell? ⟨w.heap.size + 1, 0, none⟩ = some (.string (B x0)) ∧ w'.cell? ⟨w.heap.size + 1, 1, none⟩ = some (.string (B x1)) ∧ w'.cell? ⟨w.heap.size + 1, 2, none⟩ = some (.string (B x2)) ∧ w'.cell? ⟨w.heap.size + 1, 3, none⟩ = some (.string (B x3))) ∧ Below w.heap.size w w') := fun W h hb => by
    refine (number_ok (B x3) n3 W (by rw [size_B]; exact hl3) hp3).mono ?_
    rintro e w' ⟨rfl, hb'⟩
    exact ⟨rfl, kS W w' hb' h, hb.trans (hb'.mono hb.size)⟩
  have y3 : IntKind.u32.wrap (n3 : Int) = ((n3 % 4294967296 : Nat) : Int) := by rw [IntKind.wrap_u32]; omega
  have hS0 : ((w.alloc (.cells #[.string (B r.owner), .int .i64 r.ttl, .int .i64 6, .string (B r.data)] 47)).alloc (.cells #[.string (B x0), .string (B x1), .string (B x2), .string (B x3)] 9)).drew.cell? ⟨w.heap.size + 1, 0, none⟩ = some (.string (B x0)) ∧ ((w.alloc (.cells #[.string (B r.owner), .int .i64 r.ttl, .int .i64 6, .string (B r.data)] 47)).alloc (.cells #[.string (B x0), .string (B x1), .string (B x2), .string (B x3)] 9)).drew.cell? ⟨w.heap.size + 1, 1, none⟩ = some (.string (B x1)) ∧ ((w.alloc (.cells #[.string (B r.owner), .int .i64 r.ttl, .int .i64 6, .string (B r.data)] 47)).alloc (.cells #[.string (B x0), .string (B x1), .string (B x2), .string (B x3)] 9)).drew.cell? ⟨w.heap.size + 1, 2, none⟩ = some (.string (B x2)) ∧ ((w.alloc (.cells #[.string (B r.owner), .int .i64 r.ttl, .int .i64 6, .string (B r.data)] 47)).alloc (.cells #[.string (B x0), .string (B x1), .string (B x2), .string (B x3)] 9)).drew.cell? ⟨w.heap.size + 1, 3, none⟩ = some (.string (B x3)) := by
    have hnew := World.alloc_heap_new (w.alloc (.cells #[.string (B r.owner), .int .i64 r.ttl, .int .i64 6, .string (B r.data)] 47)) (.cells #[.string (B x0), .string (B x1), .string (B x2), .string (B x3)] 9)
    rw [World.size_alloc] at hnew
    refine ⟨?_, ?_, ?_, ?_⟩ <;> (show (World.cell? _ _) = _; unfold World.cell?; simp only [World.drew]; rw [hnew]; rfl)
  have hB0 : Below w.heap.size w ((w.alloc (.cells #[.string (B r.owner), .int .i64 r.ttl, .int .i64 6, .string (B r.data)] 47)).alloc (.cells #[.string (B x0), .string (B x1), .string (B x2), .string (B x3)] 9)).drew := (((Below.refl _ _).alloc (Nat.le_refl _) _).alloc (by simp) _).drew
  clear kS hw hp2 hl2 hp3 hl3
  go_wp2_with fail
  generalize ((w.alloc (.cells #[.string (B r.owner), .int .i64 r.ttl, .int .i64 6, .string (B r.data)] 47)).alloc (.cells #[.string (B x0), .string (B x1), .string (B x2), .string (B x3)] 9)) = w1 at *
  go_region_held (fun w' => (w'.cell? ⟨w.heap.size + 1, 0, none⟩ = some (.string (B x0)) ∧ w'.cell? ⟨w.heap.size + 1, 1, none⟩ = some (.string (B x1)) ∧ w'.cell? ⟨w.heap.size + 1, 2, none⟩ = some (.string (B x2)) ∧ w'.cell? ⟨w.heap.size + 1, 3, none⟩ = some (.string (B x3))) ∧ Below w.heap.size w w') (first | exact ⟨by assumption, by assumption⟩ | (refine unhide HK _ _ ?_; exact ⟨by assumption, by assumption⟩) | go_keep)
    (first
      | (go_at_call_of 280 (Value.string (B x2)); go_loud (refine (unhide HN2 _ ?_ ?_).mono ?_; assumption; assumption; rintro e w' ⟨rfl, hq, hbq⟩))
      | (go_at_call_of 280 (Value.string (B x3)); go_loud (refine (unhide HN3 _ ?_ ?_).mono ?_; assumption; assumption; rintro e w' ⟨rfl, hq, hbq⟩)))
  have z2 : (n2 : Int) % 4294967296 = ((n2 % 4294967296 : Nat) : Int) := by omega
  have z3 : (n3 : Int) % 4294967296 = ((n3 % 4294967296 : Nat) : Int) := by omega
  rw [z2, z3]
  have hbs := hbq.size
  have HF := hide hbq
  clear HK HN2 HN3 hS0 hB0 hq hbq
  go_wp2_with fail
  go_ret
  refine ⟨⟨.slice (some ⟨w'.heap.size, 0, none⟩) 7 7, rfl, ownE_new _ _ _ (soaFs x0 x1 n2 n3) ?_ ?_ ?_ 7 _ rfl rfl⟩, ?_⟩
  · rfl
  · exact hbs
  · simp [maxLen, soaFs]
  · exact (unhide HF).alloc hbs _

end Md
end Go.Proofs.YtkkpahmoljiepaaGreatDoor
