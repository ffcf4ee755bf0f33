/- Contract: wire's fit in general, where the records fit. -/
import Derived.Test.YtkkpahmoljiepaaGreatDoorJ29
import Derived.Test.YtkkpahmoljiepaaGreatDoorJ23
import Derived.Deep.RegionHeld
import Derived.Test.YtkkpahmoljiepaaGreatDoorJ12
import Derived.Test.YtkkpahmoljiepaaGreatDoorJ13
import Derived.Test.YtkkpahmoljiepaaGreatDoorJ27
import Derived.Test.YtkkpahmoljiepaaGreatDoorJ25
set_option linter.unusedSimpArgs false
set_option linter.unusedVariables false
namespace Go.Proofs.YtkkpahmoljiepaaGreatDoor
open Go.RowKit
open Pu (Str hide unhide)

namespace Me
open Ka Kd Rg Ia Iow Ie Zb Zc Za La Wa Wb Wc Wd We Wf Wg Wh Wi Wj Wk Wl Wm Wn Wo Wp Wq Ws Wt Ma Mb Mc Md Re

/-- a record that can be written, and the fields of its data. -/
structure RrG (r : Rec) (df : List Fe) : Prop where
  own : r.owner.length ≤ 300
  typ : r.type = (r.type.toNat : Int) ∧ r.type.toNat < 65536
  ttl : r.ttl < 4294967296
  data : ∀ W, G W → Calls Tryz.prog 254 #[rVal r] W fun e w' => (∃ v, e = .returned v ∧ OwnE w' W.heap.size v df) ∧ Below W.heap.size W w'
  ok : ∀ (mb base : Nat) (I : World → Prop), (∀ w, I w → G w) → 0 < base → 0 < mb → ∀ f ∈ df, f.Ok mb base I
  ne : df ≠ []
  few : df.length ≤ 1000
def rrFe (r : Rec) (g cap : Nat) (df : List Fe) : List Fe := [compF r.owner, ofFd (fShort r.type.toNat), ofFd (fShort 1), ofFd (fLong r.ttl), sizedF g cap df]
/-- what writing a record does. -/
def rrStep (r : Rec) (df : List Fe) (l : Str) (ps : Pl) : Str × Pl := steps (rrFe r 0 0 df) l ps
theorem rrStep_eq (r : Rec) (g cap : Nat) (df : List Fe) (l : Str) (ps : Pl) : steps (rrFe r g cap df) l ps = rrStep r df l ps := rfl
/-- what writing records does. -/
def recsStep (df : Rec → List Fe) (rs : List Rec) (l : Str) (ps : Pl) : Str × Pl := rs.foldl (fun s r => rrStep r (df r) s.1 s.2) (l, ps)
theorem recsStep_take (df : Rec → List Fe) (rs : List Rec) (k : Nat) (h : k < rs.length) (l : Str) (ps : Pl) : recsStep df (rs.take (k + 1)) l ps = rrStep rs[k] (df rs[k]) (recsStep df (rs.take k) l ps).1 (recsStep df (rs.take k) l ps).2 := by
  rw [List.take_succ_eq_append_getElem h, recsStep, List.foldl_append]; rfl
theorem recsStep_app (df : Rec → List Fe) (rs qs : List Rec) (l : Str) (ps : Pl) : recsStep df (rs ++ qs) l ps = recsStep df qs (recsStep df rs l ps).1 (recsStep df rs l ps).2 := by
  rw [recsStep, List.foldl_append]; rfl

theorem fesAt_of_own {mb base : Nat} {w : World} {v : Value} {fs : List Fe} (h : OwnE w base v fs) (hne : fs ≠ []) (hm : mb < base) : ∃ g cap, v = .slice (some ⟨g, 0, none⟩) fs.length cap ∧ fs.length ≤ cap ∧ FesAt mb w g fs := by
  have h0 := h
  obtain ⟨_, ⟨rfl, hz⟩ | ⟨g, cap, cur, rfl, hb, hcur, hc, _⟩⟩ := h
  · exact absurd (List.eq_nil_of_length_eq_zero hz) hne
  · refine ⟨g, cap, rfl, hc, by omega, ⟨_, _, hcur, by decide, by decide⟩, fun j hj => ?_⟩
    have := World.ownsRow.cellAt h0 j (by omega)
    rw [this]; simp [hj]
theorem stab {mb base g : Nat} {df : List Fe} (hb0 : 0 < base) (hm0 : 0 < mb) : StableG mb base (fun w => G w ∧ FesAt mb w g df) := fun w w' h ht => ⟨h.1.tg ht hb0 hm0, h.2.tg ht⟩
theorem rrFe_ok {r : Rec} {df : List Fe} (hr : RrG r df) (mb base g cap : Nat) (hb0 : 0 < base) (hm0 : 0 < mb) (hcap : df.length ≤ cap) : ∀ f ∈ rrFe r g cap df, f.Ok mb base (fun w => G w ∧ FesAt mb w g df) := by
  intro f hf
  simp only [rrFe, List.mem_cons, List.mem_nil_iff, or_false] at hf
  rcases hf with rfl | rfl | rfl | rfl | rfl
  · exact comp_ok _ hr.own _ _ _ (fun _ h => h.1) hb0 hm0
  · exact ofFd_ok (short_ok _ hr.typ.2) _ _ _
  · exact ofFd_ok (short_ok _ (by omega)) _ _ _
  · exact ofFd_ok (long_ok _ hr.ttl) _ _ _
  · exact sized_ok mb base g cap _ df (stab hb0 hm0) (fun _ h => h.2) (hr.ok _ _ _ (fun _ h => h.1) hb0 hm0) hcap (by have := hr.few; omega)
theorem rrStep_more {r : Rec} {df : List Fe} (hr : RrG r df) (l : Str) (ps : Pl) : l.length ≤ (rrStep r df l ps).1.length ∧ ps.length ≤ (rrStep r df l ps).2.length ∧ (PlOk ps → PlOk (rrStep r df l ps).2) :=
  steps_more (rrFe r 0 df.length df) (rrFe_ok hr 1 1 0 df.length (by omega) (by omega) (Nat.le_refl _)) l ps
theorem recsStep_more (df : Rec → List Fe) : ∀ (rs : List Rec), (∀ r ∈ rs, RrG r (df r)) → ∀ l ps, l.length ≤ (recsStep df rs l ps).1.length ∧ ps.length ≤ (recsStep df rs l ps).2.length ∧ (PlOk ps → PlOk (recsStep df rs l ps).2)
  | [], _, l, ps => ⟨Nat.le_refl _, Nat.le_refl _, id⟩
  | r :: rs, h, l, ps => by
    have h1 := rrStep_more (h r (by simp)) l ps
    have h2 := recsStep_more df rs (fun g hg => h g (by simp [hg])) (rrStep r (df r) l ps).1 (rrStep r (df r) l ps).2
    exact ⟨Nat.le_trans h1.1 h2.1, Nat.le_trans h1.2.1 h2.2.1, fun h => h2.2.2 (h1.2.2 h)⟩
theorem recsStep_part (df : Rec → List Fe) (rs : List Rec) (hok : ∀ r ∈ rs, RrG r (df r)) (l : Str) (ps : Pl) (k : Nat) : (recsStep df (rs.take k) l ps).1.length ≤ (recsStep df rs l ps).1.length ∧ (recsStep df (rs.take k) l ps).2.length ≤ (recsStep df rs l ps).2.length := by
  have e : recsStep df rs l ps = recsStep df (rs.drop k) (recsStep df (rs.take k) l ps).1 (recsStep df (rs.take k) l ps).2 := by rw [← recsStep_app, List.take_append_drop]
  have := recsStep_more df (rs.drop k) (fun f hf => hok f (List.mem_of_mem_drop hf)) (recsStep df (rs.take k) l ps).1 (recsStep df (rs.take k) l ps).2
  rw [e]; exact ⟨this.1, this.2.1⟩

/-- five fields in a new block, written. -/
theorem put_rr_g (mb base g cap : Nat) (r : Rec) (df : List Fe) (hr : RrG r df) (hb0 : 0 < base) (hm0 : 0 < mb) (l : Str) (ps : Pl) (w : World) (hG : G w) (hF : FesAt mb w g df) (hcap : df.length ≤ cap) (hm : Msg w mb base l ps) (hpo : PlOk ps) (hbs : base ≤ w.heap.size)
    (hl : (rrStep r df l ps).1.length ≤ 50000) (hp : (rrStep r df l ps).2.length ≤ 700) :
    Calls Tryz.prog 139 #[.pointer (some ⟨mb, 0, none⟩), .slice (some ⟨w.heap.size, 0, none⟩) 5 5] (w.alloc (.cells #[.iface 291 (.string (B r.owner)), .iface 284 (.int .u16 r.type.toNat), .iface 284 (.int .u16 1), .iface 344 (.int .u32 r.ttl), .iface 293 (.slice (some ⟨g, 0, none⟩) df.length cap)] 297)) fun e w' =>
      e = .returned (.tuple #[]) ∧ Msg w' mb base (rrStep r df l ps).1 (rrStep r df l ps).2 ∧ TG mb base w w' := by
  have hnew := World.alloc_heap_new w (.cells #[.iface 291 (.string (B r.owner)), .iface 284 (.int .u16 r.type.toNat), .iface 284 (.int .u16 1), .iface 344 (.int .u32 r.ttl), .iface 293 (.slice (some ⟨g, 0, none⟩) df.length cap)] 297)
  have hba : Below w.heap.size w (w.alloc (.cells #[.iface 291 (.string (B r.owner)), .iface 284 (.int .u16 r.type.toNat), .iface 284 (.int .u16 1), .iface 344 (.int .u32 r.ttl), .iface 293 (.slice (some ⟨g, 0, none⟩) df.length cap)] 297)) := (Below.refl _ _).alloc (Nat.le_refl _) _
  have hta : TG mb base w _ := TG.of_below hba
  have hmlt := hm.lt
  have hst := stab (mb := mb) (base := base) (g := g) (df := df) hb0 hm0
  refine (put_g mb base w.heap.size 5 (fun w => G w ∧ FesAt mb w g df) (rrFe r g cap df) l ps _ (hst _ _ ⟨hG, hF⟩ hta) hst (hm.below hba) (by simp; omega) hpo (rrFe_ok hr mb base g cap hb0 hm0 hcap) ⟨by omega, ⟨_, _, hnew, by decide, by decide⟩, ?_⟩ (by simp [rrFe]) (by simp [rrFe]) hl hp).mono ?_
  · intro j hj
    match j, hj with
    | 0, _ => unfold World.cell?; rw [hnew]; rfl
    | 1, _ => unfold World.cell?; rw [hnew]; rfl
    | 2, _ => unfold World.cell?; rw [hnew]; rfl
    | 3, _ => unfold World.cell?; rw [hnew]; rfl
    | 4, _ => unfold World.cell?; rw [hnew]; rfl
    | j + 5, hj => simp [rrFe] at hj; omega
  rintro e w2 ⟨rfl, h1, h2⟩
  exact ⟨rfl, h1, hta.trans h2⟩
theorem RB_tg {W W' : World} {b mb base : Nat} {r : Rec} (h : RB W b r) (ht : TG mb base W W') (hb : b ≠ mb) : RB W' b r := ht.box h hb (by decide) (by decide)

set_option maxRecDepth 100000 in
set_option maxHeartbeats 3200000 in
theorem fit_g (mb base b off cap : Nat) (size : Int) (df : Rec → List Fe) (rs : List Rec) (ps : Pl) (l : Str) (w : World) (hm : Msg w mb base l ps) (hpo : PlOk ps) (hg : G w) (hbs : base ≤ w.heap.size) (hb0 : 0 < base) (hm0 : 0 < mb)
    (hr : RecsAt w b off rs) (hbb : b < base) (hbm : b ≠ mb) (hcap : rs.length ≤ cap) (hlen : rs.length ≤ 3001) (hok : ∀ r ∈ rs, RrG r (df r)) (hl : (recsStep df rs l ps).1.length ≤ 50000) (hp : (recsStep df rs l ps).2.length ≤ 700) (hsz : ((recsStep df rs l ps).1.length : Int) ≤ size) :
    Calls Tryz.prog 203 #[.pointer (some ⟨mb, 0, none⟩), .int .i64 size, .slice (some ⟨b, off, none⟩) rs.length cap] w fun e w' =>
      e = .returned (.bool true) ∧ Msg w' mb base (recsStep df rs l ps).1 (recsStep df rs l ps).2 ∧ TG mb base w w' := by
  have HM0 := hide hm
  obtain ⟨vb, vp, hma, ho, hpp⟩ := hm
  obtain ⟨a1, n1, c1, rfl⟩ := own_slice ho
  obtain ⟨a2, n2, c2, rfl⟩ := own_slice hpp
  obtain ⟨m0, m1⟩ := hma.cells
  have hmlt := hma.lt
  have hT1 : TG mb base w (w.alloc (.cells #[.slice a1 n1 c1, .slice a2 n2 c2] 283)) := TG.of_below ((Below.refl _ _).alloc (Nat.le_refl _) _)
  have HM := hide (show Msg (w.alloc (.cells #[.slice a1 n1 c1, .slice a2 n2 c2] 283)) mb base l ps from (unhide HM0).below ((Below.refl _ _).alloc (Nat.le_refl _) _))
  have HT1 := hide hT1
  have HG := hide hg
  have HR := hide hr
  have HOK := hide hok
  have HPO := hide hpo
  have hblt := hr.1
  clear hma ho hpp hg hr hok hT1 HM0 hpo
  go_enter Tryz.func203, Tryz.ntmps203
  go_wp2_with fail
  go_loopw [15] (fun i wr => ∃ (k : Nat), i = .int .i64 k ∧ k ≤ rs.length ∧ Msg wr mb base (recsStep df (rs.take k) l ps).1 (recsStep df (rs.take k) l ps).2 ∧ TG mb base w wr) (fun i _ => rs.length - (intOf i).toNat)
  case atStart => exact ⟨0, rfl, Nat.zero_le _, unhide HM, unhide HT1⟩
  case round =>
    obtain ⟨k, rfl, hk, hmr, htr⟩ := hrel
    have HMR := hide hmr
    have HTR := hide htr
    have hsr := htr.size
    by_cases hlt : k < rs.length
    · have hkI : (k : Int) < (rs.length : Int) := by omega
      have hrr := Ia.RecsAt.kept (unhide HR) htr.size (htr.block b hblt hbm (.inl hbb))
      obtain ⟨q0, q1, q2, q3⟩ := hrr.four k hlt
      have hrk := unhide HOK rs[k] (List.getElem_mem hlt)
      have HFT := hide (recsStep_take df rs k hlt l ps)
      have HFL := hide (recsStep_part df rs (unhide HOK) l ps (k + 1))
      have HPK := hide ((recsStep_more df (rs.take k) (fun f hf => unhide HOK f (List.mem_of_mem_take hf)) l ps).2.2 (unhide HPO))
      have hgr := ((unhide HG).tg htr hb0 hm0)
      have hW0 : Below wr.heap.size wr (wr.alloc (.cells #[.string (B rs[k].owner), .int .i64 rs[k].ttl, .int .i64 rs[k].type, .string (B rs[k].data)] 47)) := (Below.refl _ _).alloc (Nat.le_refl _) _
      have hnewr : RB (wr.alloc (.cells #[.string (B rs[k].owner), .int .i64 rs[k].ttl, .int .i64 rs[k].type, .string (B rs[k].data)] 47)) wr.heap.size rs[k] := World.alloc_heap_new wr _
      obtain ⟨r, hrE⟩ : ∃ r, r = rs[k] := ⟨_, rfl⟩
      rw [← hrE] at q0 q1 q2 q3 hrk hW0 hnewr
      obtain ⟨l1, p1, hlp⟩ : ∃ l1 p1, recsStep df (rs.take k) l ps = (l1, p1) := ⟨_, _, rfl⟩
      have HFT2 : Hid (recsStep df (rs.take (k + 1)) l ps = rrStep r (df r) l1 p1) := by
        have := unhide HFT
        rw [hlp, ← hrE] at this; exact this
      have HMR1 : Hid (Msg wr mb base l1 p1) := by rw [hlp] at hmr; exact hmr
      have HPK1 : Hid (PlOk p1) := by have := unhide HPK; rw [hlp] at this; exact this
      clear hrr hmr htr hrE HFT hlp HMR HPK
      have hbx : wr.heap.size ≠ mb := by omega
      have HD : Hid (∀ W1, Below wr.heap.size wr W1 → RB W1 wr.heap.size r → Calls Tryz.prog 254 #[.agg #[.string (B r.owner), .int .i64 r.ttl, .int .i64 r.type, .string (B r.data)]] W1.drew fun e w' => ∃ g cp, e = .returned (.slice (some ⟨g, 0, none⟩) (df r).length cp) ∧
          (w'.cell? ⟨wr.heap.size, 0, none⟩ = some (.string (B r.owner)) ∧ w'.cell? ⟨wr.heap.size, 1, none⟩ = some (.int .i64 r.ttl) ∧ w'.cell? ⟨wr.heap.size, 2, none⟩ = some (.int .i64 r.type) ∧ w'.cell? ⟨wr.heap.size, 3, none⟩ = some (.string (B r.data))) ∧
          Hid ((df r).length ≤ cp ∧ FesAt mb w' g (df r) ∧ RB w' wr.heap.size r ∧ Msg w' mb base l1 p1 ∧ G w' ∧ TG mb base w w')) := by
        intro W1 hb1 hr1
        have hb1d : Below wr.heap.size wr W1.drew := hb1.drew
        refine (hrk.data W1.drew (hgr.below hb1d)).mono ?_
        rintro e w' ⟨⟨v, rfl, hv⟩, hb2⟩
        obtain ⟨g, cp, rfl, hcp, hfd⟩ := fesAt_of_own (mb := mb) hv hrk.ne (by have := hb1d.size; omega)
        have hr2 : RB w' wr.heap.size r := (hb2.block _ (Array.getElem?_eq_some_iff.1 hr1).1).trans hr1
        have hb3 : Below wr.heap.size wr w' := hb1d.trans (hb2.mono hb1d.size)
        have ht3 : TG mb base wr w' := TG.of_below hb3
        exact ⟨g, cp, rfl, hr2.cells, hcp, hfd, hr2, (unhide HMR1).below hb3, hgr.below hb3, (unhide HTR).trans ht3⟩
      have HPP : Hid (∀ g cp W2, Hid ((df r).length ≤ cp ∧ FesAt mb W2 g (df r) ∧ RB W2 wr.heap.size r ∧ Msg W2 mb base l1 p1 ∧ G W2 ∧ TG mb base w W2) →
          Calls Tryz.prog 139 #[.pointer (some ⟨mb, 0, none⟩), .slice (some ⟨W2.heap.size, 0, none⟩) 5 5] (W2.alloc (.cells #[.iface 291 (.string (B r.owner)), .iface 284 (.int .u16 r.type.toNat), .iface 284 (.int .u16 1), .iface 344 (.int .u32 r.ttl), .iface 293 (.slice (some ⟨g, 0, none⟩) (df r).length cp)] 297)) fun e w' =>
            e = .returned (.tuple #[]) ∧ (w'.cell? ⟨wr.heap.size, 0, none⟩ = some (.string (B r.owner)) ∧ w'.cell? ⟨wr.heap.size, 1, none⟩ = some (.int .i64 r.ttl) ∧ w'.cell? ⟨wr.heap.size, 2, none⟩ = some (.int .i64 r.type) ∧ w'.cell? ⟨wr.heap.size, 3, none⟩ = some (.string (B r.data))) ∧
            Hid (Msg w' mb base (recsStep df (rs.take (k + 1)) l ps).1 (recsStep df (rs.take (k + 1)) l ps).2 ∧ TG mb base w w')) := by
        intro g cp W2 hB
        obtain ⟨hcp, hfd, hr2, hm2, hi2, ht2⟩ := unhide hB
        have hL := unhide HFL
        rw [unhide HFT2] at hL
        refine (put_rr_g mb base g cp r (df r) hrk hb0 hm0 l1 p1 W2 hi2 hfd hcp hm2 (unhide HPK1) (Nat.le_trans hbs ht2.size) (by omega) (by omega)).mono ?_
        rintro e w' ⟨rfl, h2, h3⟩
        refine ⟨rfl, (RB_tg hr2 h3 hbx).cells, ?_, ht2.trans h3⟩
        rw [unhide HFT2]
        exact h2
      have x1 : IntKind.u16.wrap r.type = (r.type.toNat : Int) := by
        have h1 := hrk.typ.1
        have h2 := hrk.typ.2
        rw [IntKind.wrap_u16]; omega
      have x2 : IntKind.u32.wrap (r.ttl : Int) = (r.ttl : Int) := by
        have h1 := hrk.ttl
        rw [IntKind.wrap_u32]; omega
      clear hrk HFL hgr HFT2
      obtain ⟨tn, htn⟩ : ∃ tn, tn = r.type.toNat := ⟨_, rfl⟩
      rw [← htn] at x1 HPP
      clear htn
      go_wp2_with fail
      have HD1 := hide (unhide HD _ hW0 hnewr)
      have hS1 := hnewr.cells
      clear hW0 hnewr HD q0 q1 q2 q3
      generalize (wr.alloc (.cells #[.string (B r.owner), .int .i64 r.ttl, .int .i64 r.type, .string (B r.data)] 47)) = W1 at *
      have hS : (W1.drew.cell? ⟨wr.heap.size, 0, none⟩ = some (.string (B r.owner)) ∧ W1.drew.cell? ⟨wr.heap.size, 1, none⟩ = some (.int .i64 r.ttl) ∧ W1.drew.cell? ⟨wr.heap.size, 2, none⟩ = some (.int .i64 r.type) ∧ W1.drew.cell? ⟨wr.heap.size, 3, none⟩ = some (.string (B r.data))) := hS1
      clear hS1
      go_region_held (fun w' => w'.cell? ⟨wr.heap.size, 0, none⟩ = some (.string (B r.owner)) ∧ w'.cell? ⟨wr.heap.size, 1, none⟩ = some (.int .i64 r.ttl) ∧ w'.cell? ⟨wr.heap.size, 2, none⟩ = some (.int .i64 r.type) ∧ w'.cell? ⟨wr.heap.size, 3, none⟩ = some (.string (B r.data))) (first | assumption | go_keep)
        (first
          | (go_at_call 254; go_loud (refine (unhide HD1).mono ?_; rintro e w2 ⟨g, cp, rfl, hS2, HB2⟩))
          | (go_at_call 139; go_loud (refine (unhide HPP _ _ _ HB2).mono ?_; rintro e w3 ⟨rfl, hS3, HB3⟩)))
      rename_i hH
      clear hH hS hS2 hS3 HB2 HD1 HPP
      go_wp2_with fail
      obtain ⟨h1, h3⟩ := unhide HB3
      exact ⟨⟨k + 1, by go_num, by omega, h1, h3⟩, by simp [intOf]; omega⟩
    · have hkl : k = rs.length := by omega
      subst hkl
      rw [List.take_length] at hmr
      have HF := hide (And.intro hmr htr)
      obtain ⟨vb1, vp1, hm1, ho1, _⟩ := hmr
      obtain ⟨ab, cb, rfl⟩ := own_sl ho1
      have c0 := hm1.cells.1
      have hgt : ¬ size < (((recsStep df rs l ps).1).length : Int) := by omega
      clear hm1 ho1 htr HMR
      generalize (recsStep df rs l ps).1.length = N at *
      go_wp2_with fail
      go_ret
      exact ⟨rfl, (unhide HF).1, (unhide HF).2⟩
end Me
end Go.Proofs.YtkkpahmoljiepaaGreatDoor

/- Records that can be written, by their types. -/
namespace Go.Proofs.YtkkpahmoljiepaaGreatDoor
open Go.RowKit
open Pu (Str hide unhide)

namespace Mm
open Ka Kd Rg Ia Iow Ie Zb Zc Za La Wa Wb Wc Wd We Wf Wg Wh Wi Wj Wk Wl Wm Wn Wo Wp Wq Ws Wt Ma Mb Mc Md Me Re

theorem ownE_of {w : World} {base : Nat} {v : Value} {fs : List Fd} (h : OwnF w base v fs) : OwnE w base v (fs.map ofFd) := by
  unfold OwnF at h
  unfold OwnE
  rw [List.length_map, List.map_map]
  exact h
theorem rr_A (r : Rec) (us : List Nat) (ho : r.owner.length ≤ 300) (ht : r.type = 1) (hl : r.ttl < 4294967296) (hd : r.data.length ≤ 3000) (hu : AddrOk r.data us) (hne : addrFs us ≠ []) (hfew : (addrFs us).length ≤ 1000) (hok : ∀ f ∈ addrFs us, f.Ok) : RrG r ((addrFs us).map ofFd) where
  own := ho
  typ := by rw [ht]; exact ⟨rfl, by decide⟩
  ttl := hl
  data := fun W hG => by
    refine (dataOf_A r us W hG ht hd hu).mono ?_
    rintro e w' ⟨⟨v, rfl, hv⟩, hb⟩
    exact ⟨⟨v, rfl, ownE_of hv⟩, hb⟩
  ok := fun mb base I _ _ _ f hf => by
    obtain ⟨g, hg, rfl⟩ := List.mem_map.1 hf
    exact ofFd_ok (hok g hg) _ _ _
  ne := by simpa using hne
  few := by simpa using hfew
theorem rr_SOA (r : Rec) (ho : r.owner.length ≤ 300) (ht : r.type = 6) (hl : r.ttl < 4294967296) (hd : r.data.length ≤ 3000) (x0 x1 x2 x3 : Str) (n2 n3 : Nat) (hw : Sp.pieces 32 (B r.data) = [B x0, B x1, B x2, B x3]) (hp2 : Lib.parseUintB 64 x2 = .ok n2) (hp3 : Lib.parseUintB 64 x3 = .ok n3) (hl0 : x0.length ≤ 300) (hl1 : x1.length ≤ 300) (hl2 : x2.length ≤ 3000) (hl3 : x3.length ≤ 3000) : RrG r (soaFs x0 x1 n2 n3) where
  own := ho
  typ := by rw [ht]; exact ⟨rfl, by decide⟩
  ttl := hl
  data := fun W hG => dataOf_SOA r W hG ht hd x0 x1 x2 x3 n2 n3 hw hp2 hp3 hl2 hl3
  ok := fun mb base I hI hb hm f hf => by
    simp only [soaFs, List.mem_cons, List.mem_nil_iff, or_false] at hf
    rcases hf with rfl | rfl | rfl | rfl | rfl | rfl | rfl
    · exact comp_ok _ hl0 _ _ _ hI hb hm
    · exact comp_ok _ hl1 _ _ _ hI hb hm
    · exact ofFd_ok (long_ok _ (Nat.mod_lt _ (by omega))) _ _ _
    · exact ofFd_ok (long_ok _ (by omega)) _ _ _
    · exact ofFd_ok (long_ok _ (by omega)) _ _ _
    · exact ofFd_ok (long_ok _ (by omega)) _ _ _
    · exact ofFd_ok (long_ok _ (Nat.mod_lt _ (by omega))) _ _ _
  ne := by simp [soaFs]
  few := by simp [soaFs]
theorem rr_TXT (r : Rec) (ho : r.owner.length ≤ 300) (ht : r.type = 16) (hl : r.ttl < 4294967296) (hd : r.data.length ≤ 3000) : RrG r (txtFs r.data) where
  own := ho
  typ := by rw [ht]; exact ⟨rfl, by decide⟩
  ttl := hl
  data := fun W hG => dataOf_TXT r W hG ht hd
  ok := fun mb base I hI hb hm f hf => by
    simp only [txtFs, List.mem_cons, List.mem_nil_iff, or_false] at hf
    rcases hf with rfl | rfl
    · exact ofFd_ok (octet_ok _) _ _ _
    · exact ofFd_ok (raw_ok _) _ _ _
  ne := by simp [txtFs]
  few := by simp [txtFs]
theorem rr_MX (r : Rec) (ho : r.owner.length ≤ 300) (ht : r.type = 15) (hl : r.ttl < 4294967296) (hd : r.data.length ≤ 3000) (x0 x1 : Str) (n0 : Nat) (hw : Sp.pieces 32 (B r.data) = [B x0, B x1]) (hp0 : Lib.parseUintB 64 x0 = .ok n0) (hl0 : x0.length ≤ 3000) (hl1 : x1.length ≤ 300) : RrG r (mxFs n0 x1) where
  own := ho
  typ := by rw [ht]; exact ⟨rfl, by decide⟩
  ttl := hl
  data := fun W hG => dataOf_MX r W hG ht hd x0 x1 n0 hw hp0 hl0
  ok := fun mb base I hI hb hm f hf => by
    simp only [mxFs, List.mem_cons, List.mem_nil_iff, or_false] at hf
    rcases hf with rfl | rfl
    · exact ofFd_ok (short_ok _ (Nat.mod_lt _ (by omega))) _ _ _
    · exact comp_ok _ hl1 _ _ _ hI hb hm
  ne := by simp [mxFs]
  few := by simp [mxFs]
theorem rr_name (r : Rec) (ho : r.owner.length ≤ 300) (ht : r.type = 2 ∨ r.type = 5) (hl : r.ttl < 4294967296) (hd : r.data.length ≤ 300) : RrG r [compF r.data] where
  own := ho
  typ := by rcases ht with ht | ht <;> rw [ht] <;> exact ⟨rfl, by decide⟩
  ttl := hl
  data := fun W hG => by
    rcases ht with ht | ht
    · exact dataOf_one r W hG 2 ht (by decide) (by decide) (by decide) (by decide) (by omega)
    · exact dataOf_one r W hG 5 ht (by decide) (by decide) (by decide) (by decide) (by omega)
  ok := fun mb base I hI hb hm f hf => by
    simp only [List.mem_cons, List.mem_nil_iff, or_false] at hf
    subst hf
    exact comp_ok _ hd _ _ _ hI hb hm
  ne := by simp
  few := by simp
end Mm
end Go.Proofs.YtkkpahmoljiepaaGreatDoor

/- Contracts: what limit and last give with an OPT; written in general. -/
namespace Go.Proofs.YtkkpahmoljiepaaGreatDoor
open Go.RowKit
open Pu (Str hide unhide)

namespace Mi
open Ka Kd Rf Rg Ia Iow Ie Zb Zc Za La Wa Wb Wc Wd We Wf Wg Wh Wi Wj Wk Wl Wm Wn Wo Wp Ws Ma Mb Mc Re

set_option maxHeartbeats 400000 in
theorem limit_opt (h0 h1 h2 h3 h4 h5 : Int) (q n : Str) (k c sz ver : Int) (w : World) :
    Calls Tryz.prog 138 #[qVal h0 h1 h2 h3 h4 h5 q n k c true sz ver] w fun e w' => e = .returned (.int .i64 (min (max sz 512) 1232)) ∧ Below w.heap.size w w' := by
  unfold qVal
  go_enter Tryz.func138, Tryz.ntmps138
  go_wp2
  go_ret
  refine ⟨?_, (Below.refl _ _).alloc (Nat.le_refl _) _⟩
  rfl

set_option maxRecDepth 100000 in
set_option maxHeartbeats 800000 in
theorem written_g (g cap : Nat) (I : World → Prop) (fs : List Fe) (w : World) (hI : ∀ w', Below w.heap.size w w' → I w') (hst : StableG w.heap.size (w.heap.size + 1) I) (hok : ∀ f ∈ fs, f.Ok w.heap.size (w.heap.size + 1) I) (hfs : FesAt w.heap.size w g fs)
    (hn : fs.length ≤ cap) (hc : fs.length ≤ 1000000) (hl : (steps fs [] []).1.length ≤ 50000) (hp : (steps fs [] []).2.length ≤ 700) :
    Calls Tryz.prog 199 #[.slice (some ⟨g, 0, none⟩) fs.length cap] w fun e w' => e = .returned (.string (B (steps fs [] []).1)) ∧ Below w.heap.size w w' := by
  have hnew := World.alloc_heap_new w (.cells #[.slice none 0 0, .slice none 0 0] 283)
  have hba : Below w.heap.size w (w.alloc (.cells #[.slice none 0 0, .slice none 0 0] 283)) := (Below.refl _ _).alloc (Nat.le_refl _) _
  have HP := hide (put_g w.heap.size (w.heap.size + 1) g cap I fs [] [] (w.alloc (.cells #[.slice none 0 0, .slice none 0 0] 283)) (hI _ hba) hst ⟨_, _, hnew, World.ownsRow_nil _ _ _ _, World.ownsRow_nil _ _ _ _⟩ (by simp) (fun p hp => by cases hp) hok (hfs.tg (base := w.heap.size + 1) (TG.of_below hba)) hn hc hl hp)
  clear hnew hok hfs hI hst hba
  go_enter Tryz.func199, Tryz.ntmps199
  go_wp2_with fail
  refine (unhide HP).mono ?_
  rintro e w2 ⟨rfl, ⟨vb, vp, h1, h2, _⟩, h3⟩
  have hc0 := h1.cells.1
  have hcv := own_string h2
  have HB : Hid (Below w.heap.size w w2) := ((Below.refl _ _).alloc (Nat.le_refl _) _).trans ⟨h3.os, h3.tape, h3.output, h3.size, fun k hk => h3.block k (by simp; omega) (by omega) (.inl (by omega))⟩
  obtain ⟨va, vn, vc, rfl⟩ := own_slice h2
  clear h1 h2 h3 HP
  go_wp2_with fail
  go_ret
  exact ⟨rfl, unhide HB⟩

/-- an OPT, as it is written. -/
def optFs (g : Nat) (x : UInt8) : List Fe := [compF [], ofFd (fShort 41), ofFd (fShort 1232), ofFd (fOctet x), ofFd (fRaw [0, 0, 0]), sizedF g 0 []]
def optS (x : UInt8) : Str := [0, 0, 41, 4, 208, x, 0, 0, 0, 0, 0]
theorem opt_steps (g : Nat) (x : UInt8) : steps (optFs g x) [] [] = (optS x, []) := by
  have e : ends ([] : Str) = [] := by first | rfl | simp [ends] | decide
  simp [steps, optFs, compF, e, compL, ofFd, fShort, fOctet, fRaw, sizedF, sizedStep, patch, hi, lo, optS]

/-- the six fields of an OPT in a block. -/
theorem written_opt (g g2 : Nat) (x : UInt8) (w : World) (hG : G w) (hs : 0 < w.heap.size) (h1 : w.heap[g]? = some (.cells #[.iface 291 (.string ⟨#[]⟩), .iface 284 (.int .u16 41), .iface 284 (.int .u16 1232), .iface 292 (.int .u8 x.toNat), .iface 224 (.string ⟨#[0, 0, 0]⟩), .iface 293 (.slice (some ⟨g2, 0, none⟩) 0 0)] 297)) (h2 : w.heap[g2]? = some (.cells #[] 297)) :
    Calls Tryz.prog 199 #[.slice (some ⟨g, 0, none⟩) 6 6] w fun e w' => e = .returned (.string (B (optS x))) ∧ Below w.heap.size w w' := by
  have hg := (Array.getElem?_eq_some_iff.1 h1).1
  have hg2 := (Array.getElem?_eq_some_iff.1 h2).1
  have hst : StableG w.heap.size (w.heap.size + 1) (fun W => G W ∧ FesAt w.heap.size W g2 []) := fun W W' h ht => ⟨h.1.tg ht (by omega) hs, h.2.tg ht⟩
  have := written_g g 6 (fun W => G W ∧ FesAt w.heap.size W g2 []) (optFs g2 x) w (fun W hb => ⟨hG.below hb, by omega, ⟨_, _, (hb.block g2 hg2).trans h2, by decide, by decide⟩, fun j hj => by simp at hj⟩) hst (fun f hf => ?_) ⟨by omega, ⟨_, _, h1, by decide, by decide⟩, fun j hj => ?_⟩ (by simp [optFs]) (by simp [optFs]) (by rw [opt_steps]; simp [optS]) (by rw [opt_steps]; simp)
  · rw [opt_steps] at this
    exact this
  · simp only [optFs, List.mem_cons, List.mem_nil_iff, or_false] at hf
    rcases hf with rfl | rfl | rfl | rfl | rfl | rfl
    · exact comp_ok _ (by simp) _ _ _ (fun _ h => h.1) (by omega) hs
    · exact ofFd_ok (short_ok _ (by omega)) _ _ _
    · exact ofFd_ok (short_ok _ (by omega)) _ _ _
    · exact ofFd_ok (octet_ok _) _ _ _
    · exact ofFd_ok (raw_ok _) _ _ _
    · exact sized_ok _ _ g2 0 _ [] hst (fun _ h => h.2) (fun f hf => by cases hf) (by simp) (by simp)
  · match j, hj with
    | 0, _ => unfold World.cell?; rw [h1]; rfl
    | 1, _ => unfold World.cell?; rw [h1]; rfl
    | 2, _ => unfold World.cell?; rw [h1]; rfl
    | 3, _ => unfold World.cell?; rw [h1]; rfl
    | 4, _ => unfold World.cell?; rw [h1]; rfl
    | 5, _ => unfold World.cell?; rw [h1]; rfl
    | j + 6, hj => simp [optFs] at hj; omega

set_option maxHeartbeats 400000 in
theorem last_opt0 (h0 h1 h2 h3 h4 h5 : Int) (q n : Str) (k c sz ver : Int) (w : World) (hG : G w) :
    Calls Tryz.prog 136 #[qVal h0 h1 h2 h3 h4 h5 q n k c true sz ver, .int .i64 0] w fun e w' => e = .returned (.string (B (optS 0))) ∧ Below w.heap.size w w' := by
  have hb1 : ∀ o, Below w.heap.size w (w.alloc o) := fun o => (Below.refl _ _).alloc (Nat.le_refl _) _
  have HG : Hid (∀ W, Below w.heap.size w W → G W) := fun W hb => hG.below hb
  clear hG
  unfold qVal
  go_enter Tryz.func136, Tryz.ntmps136
  go_wp2_with fail
  refine (written_opt (w.heap.size + 1 + 1) (w.heap.size + 1) 0 _ (unhide HG _ (((hb1 _).alloc (by simp) _).alloc (by simp <;> omega) _)) (by simp) ?_ ?_).mono ?_
  · have := World.alloc_heap_new ((w.alloc (.cells #[.int .i64 h0, .int .i64 h1, .int .i64 h2, .int .i64 h3, .int .i64 h4, .int .i64 h5, .string (B q), .string (B n), .int .i64 k, .int .i64 c, .bool true, .int .i64 sz, .int .i64 ver] 137)).alloc (.cells #[] 297)) (.cells #[.iface 291 (.string ⟨#[]⟩), .iface 284 (.int .u16 41), .iface 284 (.int .u16 1232), .iface 292 (.int .u8 (0 : UInt8).toNat), .iface 224 (.string ⟨#[0, 0, 0]⟩), .iface 293 (.slice (some ⟨w.heap.size + 1, 0, none⟩) 0 0)] 297)
    simp only [World.size_alloc] at this
    exact this
  · have := World.alloc_heap_new (w.alloc (.cells #[.int .i64 h0, .int .i64 h1, .int .i64 h2, .int .i64 h3, .int .i64 h4, .int .i64 h5, .string (B q), .string (B n), .int .i64 k, .int .i64 c, .bool true, .int .i64 sz, .int .i64 ver] 137)) (.cells #[] 297)
    simp only [World.size_alloc] at this
    exact (Below.heap_alloc _ _ _ (by simp)).trans this
  rintro e w2 ⟨rfl, hb2⟩
  have HB : Hid (Below w.heap.size w w2) := (((hb1 _).alloc (by simp) _).alloc (by simp <;> omega) _).trans (hb2.mono (by simp <;> omega))
  clear hb2 hb1 HG
  go_wp2_with fail
  go_ret
  exact ⟨rfl, unhide HB⟩

set_option maxHeartbeats 400000 in
theorem last_opt2 (h0 h1 h2 h3 h4 h5 : Int) (q n : Str) (k c sz ver : Int) (w : World) (hG : G w) :
    Calls Tryz.prog 136 #[qVal h0 h1 h2 h3 h4 h5 q n k c true sz ver, .int .i64 2] w fun e w' => e = .returned (.string (B (optS 0))) ∧ Below w.heap.size w w' := by
  have hb1 : ∀ o, Below w.heap.size w (w.alloc o) := fun o => (Below.refl _ _).alloc (Nat.le_refl _) _
  have HG : Hid (∀ W, Below w.heap.size w W → G W) := fun W hb => hG.below hb
  clear hG
  unfold qVal
  go_enter Tryz.func136, Tryz.ntmps136
  go_wp2_with fail
  refine (written_opt (w.heap.size + 1 + 1) (w.heap.size + 1) 0 _ (unhide HG _ (((hb1 _).alloc (by simp) _).alloc (by simp <;> omega) _)) (by simp) ?_ ?_).mono ?_
  · have := World.alloc_heap_new ((w.alloc (.cells #[.int .i64 h0, .int .i64 h1, .int .i64 h2, .int .i64 h3, .int .i64 h4, .int .i64 h5, .string (B q), .string (B n), .int .i64 k, .int .i64 c, .bool true, .int .i64 sz, .int .i64 ver] 137)).alloc (.cells #[] 297)) (.cells #[.iface 291 (.string ⟨#[]⟩), .iface 284 (.int .u16 41), .iface 284 (.int .u16 1232), .iface 292 (.int .u8 (0 : UInt8).toNat), .iface 224 (.string ⟨#[0, 0, 0]⟩), .iface 293 (.slice (some ⟨w.heap.size + 1, 0, none⟩) 0 0)] 297)
    simp only [World.size_alloc] at this
    exact this
  · have := World.alloc_heap_new (w.alloc (.cells #[.int .i64 h0, .int .i64 h1, .int .i64 h2, .int .i64 h3, .int .i64 h4, .int .i64 h5, .string (B q), .string (B n), .int .i64 k, .int .i64 c, .bool true, .int .i64 sz, .int .i64 ver] 137)) (.cells #[] 297)
    simp only [World.size_alloc] at this
    exact (Below.heap_alloc _ _ _ (by simp)).trans this
  rintro e w2 ⟨rfl, hb2⟩
  have HB : Hid (Below w.heap.size w w2) := (((hb1 _).alloc (by simp) _).alloc (by simp <;> omega) _).trans (hb2.mono (by simp <;> omega))
  clear hb2 hb1 HG
  go_wp2_with fail
  go_ret
  exact ⟨rfl, unhide HB⟩

set_option maxHeartbeats 400000 in
theorem last_opt3 (h0 h1 h2 h3 h4 h5 : Int) (q n : Str) (k c sz ver : Int) (w : World) (hG : G w) :
    Calls Tryz.prog 136 #[qVal h0 h1 h2 h3 h4 h5 q n k c true sz ver, .int .i64 3] w fun e w' => e = .returned (.string (B (optS 0))) ∧ Below w.heap.size w w' := by
  have hb1 : ∀ o, Below w.heap.size w (w.alloc o) := fun o => (Below.refl _ _).alloc (Nat.le_refl _) _
  have HG : Hid (∀ W, Below w.heap.size w W → G W) := fun W hb => hG.below hb
  clear hG
  unfold qVal
  go_enter Tryz.func136, Tryz.ntmps136
  go_wp2_with fail
  refine (written_opt (w.heap.size + 1 + 1) (w.heap.size + 1) 0 _ (unhide HG _ (((hb1 _).alloc (by simp) _).alloc (by simp <;> omega) _)) (by simp) ?_ ?_).mono ?_
  · have := World.alloc_heap_new ((w.alloc (.cells #[.int .i64 h0, .int .i64 h1, .int .i64 h2, .int .i64 h3, .int .i64 h4, .int .i64 h5, .string (B q), .string (B n), .int .i64 k, .int .i64 c, .bool true, .int .i64 sz, .int .i64 ver] 137)).alloc (.cells #[] 297)) (.cells #[.iface 291 (.string ⟨#[]⟩), .iface 284 (.int .u16 41), .iface 284 (.int .u16 1232), .iface 292 (.int .u8 (0 : UInt8).toNat), .iface 224 (.string ⟨#[0, 0, 0]⟩), .iface 293 (.slice (some ⟨w.heap.size + 1, 0, none⟩) 0 0)] 297)
    simp only [World.size_alloc] at this
    exact this
  · have := World.alloc_heap_new (w.alloc (.cells #[.int .i64 h0, .int .i64 h1, .int .i64 h2, .int .i64 h3, .int .i64 h4, .int .i64 h5, .string (B q), .string (B n), .int .i64 k, .int .i64 c, .bool true, .int .i64 sz, .int .i64 ver] 137)) (.cells #[] 297)
    simp only [World.size_alloc] at this
    exact (Below.heap_alloc _ _ _ (by simp)).trans this
  rintro e w2 ⟨rfl, hb2⟩
  have HB : Hid (Below w.heap.size w w2) := (((hb1 _).alloc (by simp) _).alloc (by simp <;> omega) _).trans (hb2.mono (by simp <;> omega))
  clear hb2 hb1 HG
  go_wp2_with fail
  go_ret
  exact ⟨rfl, unhide HB⟩

set_option maxHeartbeats 400000 in
theorem last_opt5 (h0 h1 h2 h3 h4 h5 : Int) (q n : Str) (k c sz ver : Int) (w : World) (hG : G w) :
    Calls Tryz.prog 136 #[qVal h0 h1 h2 h3 h4 h5 q n k c true sz ver, .int .i64 5] w fun e w' => e = .returned (.string (B (optS 0))) ∧ Below w.heap.size w w' := by
  have hb1 : ∀ o, Below w.heap.size w (w.alloc o) := fun o => (Below.refl _ _).alloc (Nat.le_refl _) _
  have HG : Hid (∀ W, Below w.heap.size w W → G W) := fun W hb => hG.below hb
  clear hG
  unfold qVal
  go_enter Tryz.func136, Tryz.ntmps136
  go_wp2_with fail
  refine (written_opt (w.heap.size + 1 + 1) (w.heap.size + 1) 0 _ (unhide HG _ (((hb1 _).alloc (by simp) _).alloc (by simp <;> omega) _)) (by simp) ?_ ?_).mono ?_
  · have := World.alloc_heap_new ((w.alloc (.cells #[.int .i64 h0, .int .i64 h1, .int .i64 h2, .int .i64 h3, .int .i64 h4, .int .i64 h5, .string (B q), .string (B n), .int .i64 k, .int .i64 c, .bool true, .int .i64 sz, .int .i64 ver] 137)).alloc (.cells #[] 297)) (.cells #[.iface 291 (.string ⟨#[]⟩), .iface 284 (.int .u16 41), .iface 284 (.int .u16 1232), .iface 292 (.int .u8 (0 : UInt8).toNat), .iface 224 (.string ⟨#[0, 0, 0]⟩), .iface 293 (.slice (some ⟨w.heap.size + 1, 0, none⟩) 0 0)] 297)
    simp only [World.size_alloc] at this
    exact this
  · have := World.alloc_heap_new (w.alloc (.cells #[.int .i64 h0, .int .i64 h1, .int .i64 h2, .int .i64 h3, .int .i64 h4, .int .i64 h5, .string (B q), .string (B n), .int .i64 k, .int .i64 c, .bool true, .int .i64 sz, .int .i64 ver] 137)) (.cells #[] 297)
    simp only [World.size_alloc] at this
    exact (Below.heap_alloc _ _ _ (by simp)).trans this
  rintro e w2 ⟨rfl, hb2⟩
  have HB : Hid (Below w.heap.size w w2) := (((hb1 _).alloc (by simp) _).alloc (by simp <;> omega) _).trans (hb2.mono (by simp <;> omega))
  clear hb2 hb1 HG
  go_wp2_with fail
  go_ret
  exact ⟨rfl, unhide HB⟩

set_option maxHeartbeats 400000 in
theorem last_opt16 (h0 h1 h2 h3 h4 h5 : Int) (q n : Str) (k c sz ver : Int) (w : World) (hG : G w) :
    Calls Tryz.prog 136 #[qVal h0 h1 h2 h3 h4 h5 q n k c true sz ver, .int .i64 16] w fun e w' => e = .returned (.string (B (optS 1))) ∧ Below w.heap.size w w' := by
  have hb1 : ∀ o, Below w.heap.size w (w.alloc o) := fun o => (Below.refl _ _).alloc (Nat.le_refl _) _
  have HG : Hid (∀ W, Below w.heap.size w W → G W) := fun W hb => hG.below hb
  clear hG
  unfold qVal
  go_enter Tryz.func136, Tryz.ntmps136
  go_wp2_with fail
  refine (written_opt (w.heap.size + 1 + 1) (w.heap.size + 1) 1 _ (unhide HG _ (((hb1 _).alloc (by simp) _).alloc (by simp <;> omega) _)) (by simp) ?_ ?_).mono ?_
  · have := World.alloc_heap_new ((w.alloc (.cells #[.int .i64 h0, .int .i64 h1, .int .i64 h2, .int .i64 h3, .int .i64 h4, .int .i64 h5, .string (B q), .string (B n), .int .i64 k, .int .i64 c, .bool true, .int .i64 sz, .int .i64 ver] 137)).alloc (.cells #[] 297)) (.cells #[.iface 291 (.string ⟨#[]⟩), .iface 284 (.int .u16 41), .iface 284 (.int .u16 1232), .iface 292 (.int .u8 (1 : UInt8).toNat), .iface 224 (.string ⟨#[0, 0, 0]⟩), .iface 293 (.slice (some ⟨w.heap.size + 1, 0, none⟩) 0 0)] 297)
    simp only [World.size_alloc] at this
    exact this
  · have := World.alloc_heap_new (w.alloc (.cells #[.int .i64 h0, .int .i64 h1, .int .i64 h2, .int .i64 h3, .int .i64 h4, .int .i64 h5, .string (B q), .string (B n), .int .i64 k, .int .i64 c, .bool true, .int .i64 sz, .int .i64 ver] 137)) (.cells #[] 297)
    simp only [World.size_alloc] at this
    exact (Below.heap_alloc _ _ _ (by simp)).trans this
  rintro e w2 ⟨rfl, hb2⟩
  have HB : Hid (Below w.heap.size w w2) := (((hb1 _).alloc (by simp) _).alloc (by simp <;> omega) _).trans (hb2.mono (by simp <;> omega))
  clear hb2 hb1 HG
  go_wp2_with fail
  go_ret
  exact ⟨rfl, unhide HB⟩
end Mi
end Go.Proofs.YtkkpahmoljiepaaGreatDoor

/- What is written at Carried's and Served's questions: records, and what writing them does. -/
namespace Go.Proofs.YtkkpahmoljiepaaGreatDoor
open Go.RowKit
open Pu (Str hide unhide)

namespace Mpp
open Ka Kd Rg Ia Iow Ie Zb Zc Za La Wa Wb Wc Wd We Wf Wg Wh Wi Wj Wk Wl Wm Wn Wo Wp Wq Ws Wt Wy Ma Mb Mc Md Me Mi Mm Mo Xb Re
open Va (hostN recN dataN IsK)

/-- the fields of a record of these zones. -/
def dfC (d : UInt8) (r : Rec) : List Fe := if r.type = 6 then soaFs [97, 46, 122, 122] [98, 46, 122, 122] 9 40 else (addrFs [10, 0, d.toNat - 48, 7]).map ofFd
theorem rr_rec {d : UInt8} (h : IsK d) : RrG (recN d) (dfC d (recN d)) := by
  refine rr_A (recN d) [10, 0, d.toNat - 48, 7] (by simp [recN, Rec.owner, hostN]) rfl ?_ (by simp [recN, Rec.data, dataN]) (addr_ok h) (by simp [addrFs]) (by simp [addrFs]) ?_
  · have : d.toNat < 256 := UInt8.toNat_lt d
    show d.toNat - 48 < 4294967296
    omega
  · intro f hf
    simp only [addrFs, List.mem_map] at hf
    obtain ⟨u, _, rfl⟩ := hf
    exact octet_ok _
theorem rr_soa (d : UInt8) : RrG soaR (dfC d soaR) := by
  refine rr_SOA soaR (by decide) rfl (by decide) (by decide) [97, 46, 122, 122] [98, 46, 122, 122] [57] [52, 48] 9 40 ?_ ?_ ?_ (by decide) (by decide) (by decide) (by decide)
  · kernel_rfl
  · kernel_rfl
  · kernel_rfl
/-- a host's question. -/
def qC (d : UInt8) : Str := [2, 104, d, 2, 122, 122, 0, 0, 1, 0, 1]
/-- what the address adds to a message. -/
theorem step_rec {d : UInt8} (h : IsK d) : recsStep (dfC d) [recN d] (List.replicate 12 0 ++ qC d) (plcs 12 (hostN d)) = (List.replicate 12 0 ++ qC d ++ [192, 12, 0, 1, 0, 1, 0, 0, 0, d - 48, 0, 4, 10, 0, d - 48, 7], plcs 12 (hostN d)) := by
  rcases h with rfl | rfl | rfl <;> kernel_rfl
def soaOut : Str := [192, 15, 0, 6, 0, 1, 0, 0, 0, 40, 0, 28, 1, 97, 192, 15, 1, 98, 192, 15, 0, 0, 0, 9, 0, 0, 14, 16, 0, 0, 2, 88, 0, 1, 81, 128, 0, 0, 0, 40]
theorem step_soa {d : UInt8} (h : d = 51 ∨ d = 52) : recsStep (dfC d) [soaR] (List.replicate 12 0 ++ qC d) (plcs 12 (hostN d)) = (List.replicate 12 0 ++ qC d ++ soaOut, plcs 12 (hostN d) ++ [([97, 46, 122, 122], 35), ([98, 46, 122, 122], 39)]) := by
  rcases h with rfl | rfl <;> kernel_rfl
end Mpp
end Go.Proofs.YtkkpahmoljiepaaGreatDoor
