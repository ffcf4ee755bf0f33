/- Contract: wire's fit, where the records fit. -/
import Derived.Test.YtkkpahmoljiepaaGreatDoorJ21
import Derived.Test.YtkkpahmoljiepaaGreatDoorJ22
import Derived.Deep.RegionHeld
import Derived.Test.YtkkpahmoljiepaaGreatDoorJLg
import Derived.Lib.BufferWrite
import Derived.Deep.RegionHeldLaw
set_option linter.unusedSimpArgs false
set_option linter.unusedVariables false
namespace Go.Proofs.YtkkpahmoljiepaaGreatDoor
open Go.RowKit
open Pu (Str hide unhide)

def rVal (r : Rec) : Value := .agg #[.string (B r.owner), .int .i64 r.ttl, .int .i64 r.type, .string (B r.data)]

namespace Wt
open Ka Rg Ia Wa Wb Wc Wd We Wf Wg Wh Wi Wj Wk Wl Wm Wn Wo Wp Wq Ws Re

/-- a record that can be written into a message: its owner stands there already. -/
structure RrOk (mb base : Nat) (vp : Value) (ps : List (Str × Nat)) (r : Rec) (p : Nat) (df : List Fd) : Prop where
  own : (fComp r.owner p).OkI mb base vp (fun w => PlAt mb w vp ps ∧ G w)
  typ : r.type = (r.type.toNat : Int) ∧ r.type.toNat < 65536
  ttl : r.ttl < 4294967296
  data : ∀ W, G W → Calls Tryz.prog 254 #[rVal r] W fun e w' => (∃ v, e = .returned v ∧ OwnF w' W.heap.size v df) ∧ Below W.heap.size W w'
  ok : ∀ f ∈ df, f.Ok
  ne : df ≠ []
  few : df.length ≤ 1000
def rrFs (r : Rec) (p g cap : Nat) (df : List Fd) : List Fd := [fComp r.owner p, fShort r.type.toNat, fShort 1, fLong r.ttl, fSized g cap df]
/-- a record as it is written. -/
def rrOut (r : Rec) (p : Nat) (df : List Fd) : Str := outs (rrFs r p 0 0 df)
theorem rrOut_eq (r : Rec) (p g cap : Nat) (df : List Fd) : outs (rrFs r p g cap df) = rrOut r p df := rfl

theorem OkI_mono {mb base : Nat} {vp : Value} {I J : World → Prop} {f : Fd} (h : f.OkI mb base vp I) (hij : ∀ w, J w → I w) : f.OkI mb base vp J :=
  ⟨h.1, h.2.1, fun vb l w hj hm ho hb hl => h.2.2 vb l w (hij w hj) hm ho hb hl⟩

theorem fdsAt_of_own {mb base : Nat} {w : World} {v : Value} {fs : List Fd} (h : OwnF w base v fs) (hne : fs ≠ []) (hm : mb < base) : ∃ g cap, v = .slice (some ⟨g, 0, none⟩) fs.length cap ∧ fs.length ≤ cap ∧ FdsAt mb w g fs := by
  have h0 := h
  obtain ⟨_, ⟨rfl, hz⟩ | ⟨g, cap, cur, rfl, hb, hcur, hc, _⟩⟩ := h
  · exact absurd (List.eq_nil_of_length_eq_zero hz) hne
  · refine ⟨g, cap, rfl, hc, (Array.getElem?_eq_some_iff.1 hcur).1, by omega, fun c hcc => ?_, fun j hj => ?_⟩
    · rw [hcur] at hcc; simp at hcc
    · have := World.ownsRow.cellAt h0 j (by omega)
      rw [this]; simp [hj]

/-- five fields in a new block, written. -/
theorem put_rr (mb base g cap p : Nat) (vp : Value) (ps : List (Str × Nat)) (r : Rec) (df : List Fd) (hr : RrOk mb base vp ps r p df) (hb0 : 0 < base) (hm0 : 0 < mb) (vb : Value) (l : Str) (w : World) (hI : PlAt mb w vp ps ∧ G w) (hF : FdsAt mb w g df) (hcap : df.length ≤ cap)
    (hm : MsgAt w mb vb vp) (ho : OwnB w base vb l) (hbs : base ≤ w.heap.size) (hl : l.length + (rrOut r p df).length ≤ 60000) :
    Calls Tryz.prog 139 #[.pointer (some ⟨mb, 0, none⟩), .slice (some ⟨w.heap.size, 0, none⟩) 5 5] (w.alloc (.cells #[.iface 291 (.string (B r.owner)), .iface 284 (.int .u16 r.type.toNat), .iface 284 (.int .u16 1), .iface 344 (.int .u32 r.ttl), .iface 293 (.slice (some ⟨g, 0, none⟩) df.length cap)] 297)) fun e w' =>
      e = .returned (.tuple #[]) ∧ (∃ vb', MsgAt w' mb vb' vp ∧ OwnB w' base vb' (l ++ rrOut r p df)) ∧ TF mb base w w' := by
  have hnew := World.alloc_heap_new w (.cells #[.iface 291 (.string (B r.owner)), .iface 284 (.int .u16 r.type.toNat), .iface 284 (.int .u16 1), .iface 344 (.int .u32 r.ttl), .iface 293 (.slice (some ⟨g, 0, none⟩) df.length cap)] 297)
  have hba : Below w.heap.size w (w.alloc (.cells #[.iface 291 (.string (B r.owner)), .iface 284 (.int .u16 r.type.toNat), .iface 284 (.int .u16 1), .iface 344 (.int .u32 r.ttl), .iface 293 (.slice (some ⟨g, 0, none⟩) df.length cap)] 297)) := (Below.refl _ _).alloc (Nat.le_refl _) _
  have hta : TF mb base w _ := TF.of_below hba
  have hmlt := hm.lt
  have hst : Stable mb base (fun w => (PlAt mb w vp ps ∧ G w) ∧ FdsAt mb w g df) := fun w w' h ht => ⟨⟨h.1.1.tf ht, h.1.2.tf ht hb0 hm0⟩, h.2.tf ht⟩
  refine (put_I mb base w.heap.size 5 (fun w => (PlAt mb w vp ps ∧ G w) ∧ FdsAt mb w g df) (rrFs r p g cap df) vb vp l _ (hst _ _ ⟨hI, hF⟩ hta) hst ((Below.heap_alloc _ _ _ hmlt).trans hm) (ho.alloc _) (by simp; omega) ?_ (by simp) (by omega) (.inr ?_) ?_ (by simp [rrFs]) (by simp [rrFs]) hl).mono ?_
  · intro f hf
    simp only [rrFs, List.mem_cons, List.mem_nil_iff, or_false] at hf
    rcases hf with rfl | rfl | rfl | rfl | rfl
    · exact OkI_mono hr.own fun _ h => h.1
    · exact (short_ok _ hr.typ.2).toI _ _ _ _
    · exact (short_ok _ (by omega)).toI _ _ _ _
    · exact (long_ok _ hr.ttl).toI _ _ _ _
    · exact ⟨m_sized _ _ _, c_sized, sized_w mb base g cap vp _ df hst (fun _ h => h.2) (fun f hf => (hr.ok f hf).toI _ _ _ _) hcap (by have := hr.few; omega)⟩
  · intro cur h
    rw [hnew] at h
    simp at h
  · intro j hj
    match j, hj with
    | 0, _ => unfold World.cell?; rw [hnew]; rfl
    | 1, _ => unfold World.cell?; rw [hnew]; rfl
    | 2, _ => unfold World.cell?; rw [hnew]; rfl
    | 3, _ => unfold World.cell?; rw [hnew]; rfl
    | 4, _ => unfold World.cell?; rw [hnew]; rfl
    | j + 5, hj => simp [rrFs] at hj; omega
  rintro e w2 ⟨rfl, h1, h2⟩
  exact ⟨rfl, h1, hta.trans h2⟩

/-- a record in a block of its own. -/
def RB (W : World) (b : Nat) (r : Rec) : Prop := W.heap[b]? = some (.cells #[.string (B r.owner), .int .i64 r.ttl, .int .i64 r.type, .string (B r.data)] 47)
theorem RB.cells {W : World} {b : Nat} {r : Rec} (h : RB W b r) : W.cell? ⟨b, 0, none⟩ = some (.string (B r.owner)) ∧ W.cell? ⟨b, 1, none⟩ = some (.int .i64 r.ttl) ∧ W.cell? ⟨b, 2, none⟩ = some (.int .i64 r.type) ∧ W.cell? ⟨b, 3, none⟩ = some (.string (B r.data)) := by
  unfold RB at h
  refine ⟨?_, ?_, ?_, ?_⟩ <;> simp [World.cell?, h]
theorem RB.tf {W W' : World} {b mb base : Nat} {r : Rec} (h : RB W b r) (ht : TF mb base W W') (hb : b ≠ mb) : RB W' b r :=
  (ht.block b (Array.getElem?_eq_some_iff.1 h).1 hb (.inr fun c hc => by rw [h] at hc; simp at hc)).trans h

theorem own_sl {w : World} {base : Nat} {v : Value} {l : Str} (h : OwnB w base v l) : ∃ a c, v = .slice a l.length c := by
  obtain ⟨_, ⟨rfl, hz⟩ | ⟨g, cap, cur, rfl, _⟩⟩ := h
  · exact ⟨none, 0, by rw [hz]⟩
  · exact ⟨_, _, rfl⟩
theorem flat_take {α : Type} (f : α → Str) (l : List α) (k : Nat) (h : k < l.length) : (l.take (k + 1)).flatMap f = (l.take k).flatMap f ++ f l[k] := by
  rw [List.take_succ_eq_append_getElem h, List.flatMap_append]; simp
theorem flat_le {α : Type} (f : α → Str) (l : List α) (k : Nat) : ((l.take k).flatMap f).length ≤ (l.flatMap f).length := by
  have : l.flatMap f = (l.take k).flatMap f ++ (l.drop k).flatMap f := by rw [← List.flatMap_append, List.take_append_drop]
  rw [this]; simp

set_option maxRecDepth 100000 in
set_option maxHeartbeats 3200000 in
theorem fit_yes (mb base b off cap : Nat) (size : Int) (p : Rec → Nat) (df : Rec → List Fd) (rs : List Rec) (ps : List (Str × Nat)) (vb vp : Value) (l : Str) (w : World) (hm : MsgAt w mb vb vp) (ho : OwnB w base vb l) (hp : PlAt mb w vp ps) (hg : G w) (hbs : base ≤ w.heap.size) (hb0 : 0 < base) (hm0 : 0 < mb)
    (hr : RecsAt w b off rs) (hbb : b < base) (hbm : b ≠ mb) (hcap : rs.length ≤ cap) (hlen : rs.length ≤ 3001) (hok : ∀ r ∈ rs, RrOk mb base vp ps r (p r) (df r)) (hl : l.length + (rs.flatMap fun r => rrOut r (p r) (df r)).length ≤ 60000) (hsz : ((l.length + (rs.flatMap fun r => rrOut r (p r) (df r)).length : Nat) : Int) ≤ size) :
    Calls Tryz.prog 203 #[.pointer (some ⟨mb, 0, none⟩), .int .i64 size, .slice (some ⟨b, off, none⟩) rs.length cap] w fun e w' =>
      e = .returned (.bool true) ∧ (∃ vb', MsgAt w' mb vb' vp ∧ OwnB w' base vb' (l ++ rs.flatMap fun r => rrOut r (p r) (df r))) ∧ TF mb base w w' := by
  obtain ⟨a1, n1, c1, rfl⟩ := own_slice ho
  obtain ⟨a2, n2, c2, rfl⟩ : ∃ a n c, vp = .slice a n c := by obtain ⟨_, h, _⟩ := hp; exact own_slice h
  obtain ⟨m0, m1⟩ := hm.cells
  have hmlt := hm.lt
  have hT1 : TF mb base w (w.alloc (.cells #[.slice a1 n1 c1, .slice a2 n2 c2] 283)) := TF.of_below ((Below.refl _ _).alloc (Nat.le_refl _) _)
  have HM := hide (show MsgAt (w.alloc (.cells #[.slice a1 n1 c1, .slice a2 n2 c2] 283)) mb _ _ from (Below.heap_alloc _ _ _ hmlt).trans hm)
  have HO : Hid (OwnB (w.alloc (.cells #[.slice a1 n1 c1, .slice a2 n2 c2] 283)) base (.slice a1 n1 c1) l) := ho.alloc _
  have HT1 := hide hT1
  have HP := hide hp
  have HG := hide hg
  have HR := hide hr
  have HOK := hide hok
  have hblt := hr.1
  clear hm ho hp hg hr hok hT1
  generalize hout : (fun r => rrOut r (p r) (df r)) = out at *
  go_enter Tryz.func203, Tryz.ntmps203
  go_wp2_with fail
  go_loopw [15] (fun i wr => ∃ (k : Nat) (vb' : Value), i = .int .i64 k ∧ k ≤ rs.length ∧ MsgAt wr mb vb' (.slice a2 n2 c2) ∧ OwnB wr base vb' (l ++ (rs.take k).flatMap out) ∧ TF mb base w wr) (fun i _ => rs.length - (intOf i).toNat)
  case atStart => exact ⟨0, _, rfl, Nat.zero_le _, unhide HM, by simpa using unhide HO, unhide HT1⟩
  case round =>
    obtain ⟨k, vb', rfl, hk, hmr, hor, htr⟩ := hrel
    have HMR := hide hmr
    have HOR := hide hor
    have HTR := hide htr
    have hsr := htr.size
    by_cases hlt : k < rs.length
    · have hkI : (k : Int) < (rs.length : Int) := by omega
      have hrr := Ia.RecsAt.kept (unhide HR) htr.size (htr.block b hblt hbm (.inl hbb))
      obtain ⟨q0, q1, q2, q3⟩ := hrr.four k hlt
      have hrk := unhide HOK rs[k] (List.getElem_mem hlt)
      have HFT := hide (flat_take out rs k hlt)
      have HFL := hide (flat_le out rs (k + 1))
      have hor2 : Hid (out rs[k] = rrOut rs[k] (p rs[k]) (df rs[k])) := by rw [Hid, ← hout]
      have hgr := ((unhide HG).tf htr hb0 hm0)
      have hpr := (unhide HP).tf htr
      have hW0 : Below wr.heap.size wr (wr.alloc (.cells #[.string (B rs[k].owner), .int .i64 rs[k].ttl, .int .i64 rs[k].type, .string (B rs[k].data)] 47)) := (Below.refl _ _).alloc (Nat.le_refl _) _
      have hnewr : RB (wr.alloc (.cells #[.string (B rs[k].owner), .int .i64 rs[k].ttl, .int .i64 rs[k].type, .string (B rs[k].data)] 47)) wr.heap.size rs[k] := World.alloc_heap_new wr _
      obtain ⟨r, hrE⟩ : ∃ r, r = rs[k] := ⟨_, rfl⟩
      rw [← hrE] at q0 q1 q2 q3 hrk hor2 hW0 hnewr
      have HFT2 : Hid (List.flatMap out (List.take (k + 1) rs) = List.flatMap out (List.take k rs) ++ out r) := by rw [hrE]; exact unhide HFT
      clear hrr hmr hor htr hrE HFT
      have hbx : wr.heap.size ≠ mb := by omega
      have HD : Hid (∀ W1, Below wr.heap.size wr W1 → RB W1 wr.heap.size r → Calls Tryz.prog 254 #[.agg #[.string (B r.owner), .int .i64 r.ttl, .int .i64 r.type, .string (B r.data)]] W1.drew fun e w' => ∃ g cp, e = .returned (.slice (some ⟨g, 0, none⟩) (df r).length cp) ∧
          (w'.cell? ⟨wr.heap.size, 0, none⟩ = some (.string (B r.owner)) ∧ w'.cell? ⟨wr.heap.size, 1, none⟩ = some (.int .i64 r.ttl) ∧ w'.cell? ⟨wr.heap.size, 2, none⟩ = some (.int .i64 r.type) ∧ w'.cell? ⟨wr.heap.size, 3, none⟩ = some (.string (B r.data))) ∧
          Hid ((df r).length ≤ cp ∧ FdsAt mb w' g (df r) ∧ RB w' wr.heap.size r ∧ MsgAt w' mb vb' (.slice a2 n2 c2) ∧ OwnB w' base vb' (l ++ (rs.take k).flatMap out) ∧ (PlAt mb w' (.slice a2 n2 c2) ps ∧ G w') ∧ TF mb base w w')) := by
        intro W1 hb1 hr1
        have hb1d : Below wr.heap.size wr W1.drew := hb1.drew
        refine (hrk.data W1.drew (hgr.below hb1d)).mono ?_
        rintro e w' ⟨⟨v, rfl, hv⟩, hb2⟩
        obtain ⟨g, cp, rfl, hcp, hfd⟩ := fdsAt_of_own (mb := mb) hv hrk.ne (by have := hb1d.size; omega)
        have hr2 : RB w' wr.heap.size r := (hb2.block _ (Array.getElem?_eq_some_iff.1 hr1).1).trans hr1
        have hb3 : Below wr.heap.size wr w' := hb1d.trans (hb2.mono hb1d.size)
        have ht3 : TF mb base wr w' := TF.of_below hb3
        exact ⟨g, cp, rfl, hr2.cells, hcp, hfd, hr2, (unhide HMR).kept (hb3.block mb (by omega)), own_below (unhide HOR) hb3, ⟨hpr.tf ht3, hgr.below hb3⟩, (unhide HTR).trans ht3⟩
      have HPP : Hid (∀ g cp W2, Hid ((df r).length ≤ cp ∧ FdsAt mb W2 g (df r) ∧ RB W2 wr.heap.size r ∧ MsgAt W2 mb vb' (.slice a2 n2 c2) ∧ OwnB W2 base vb' (l ++ (rs.take k).flatMap out) ∧ (PlAt mb W2 (.slice a2 n2 c2) ps ∧ G W2) ∧ TF mb base w W2) →
          Calls Tryz.prog 139 #[.pointer (some ⟨mb, 0, none⟩), .slice (some ⟨W2.heap.size, 0, none⟩) 5 5] (W2.alloc (.cells #[.iface 291 (.string (B r.owner)), .iface 284 (.int .u16 r.type.toNat), .iface 284 (.int .u16 1), .iface 344 (.int .u32 r.ttl), .iface 293 (.slice (some ⟨g, 0, none⟩) (df r).length cp)] 297)) fun e w' =>
            e = .returned (.tuple #[]) ∧ (w'.cell? ⟨wr.heap.size, 0, none⟩ = some (.string (B r.owner)) ∧ w'.cell? ⟨wr.heap.size, 1, none⟩ = some (.int .i64 r.ttl) ∧ w'.cell? ⟨wr.heap.size, 2, none⟩ = some (.int .i64 r.type) ∧ w'.cell? ⟨wr.heap.size, 3, none⟩ = some (.string (B r.data))) ∧
            Hid (∃ vb2, MsgAt w' mb vb2 (.slice a2 n2 c2) ∧ OwnB w' base vb2 (l ++ (rs.take (k + 1)).flatMap out) ∧ TF mb base w w')) := by
        intro g cp W2 hB
        obtain ⟨hcp, hfd, hr2, hm2, ho2, hi2, ht2⟩ := unhide hB
        refine (put_rr mb base g cp (p r) (.slice a2 n2 c2) ps r (df r) hrk hb0 hm0 vb' (l ++ (rs.take k).flatMap out) W2 hi2 hfd hcp hm2 ho2 (Nat.le_trans hbs ht2.size) ?_).mono ?_
        · rw [← unhide hor2, List.length_append]
          have := unhide HFL
          rw [unhide HFT2, List.length_append] at this
          omega
        · rintro e w' ⟨rfl, ⟨vb2, h1, h2⟩, h3⟩
          refine ⟨rfl, (hr2.tf h3 hbx).cells, vb2, h1, ?_, ht2.trans h3⟩
          rw [List.append_assoc, ← unhide hor2, ← unhide HFT2] at h2
          exact h2
      have x1 : IntKind.u16.wrap r.type = (r.type.toNat : Int) := by
        have h1 := hrk.typ.1
        have h2 := hrk.typ.2
        rw [IntKind.wrap_u16]; omega
      have x2 : IntKind.u32.wrap (r.ttl : Int) = (r.ttl : Int) := by
        have h1 := hrk.ttl
        rw [IntKind.wrap_u32]; omega
      clear hrk hor2 HFL hgr hpr
      obtain ⟨tn, htn⟩ : ∃ tn, tn = r.type.toNat := ⟨_, rfl⟩
      rw [← htn] at x1 HPP
      clear htn
      go_wp2_with fail
      have HD1 := hide (unhide HD _ hW0 hnewr)
      have hS1 := hnewr.cells
      clear hW0 hnewr HD q0 q1 q2 q3
      generalize (wr.alloc (.cells #[.string (B r.owner), .int .i64 r.ttl, .int .i64 r.type, .string (B r.data)] 47)) = W1 at *
      have hS : (W1.drew.cell? ⟨wr.heap.size, 0, none⟩ = some (.string (B r.owner)) ∧ W1.drew.cell? ⟨wr.heap.size, 1, none⟩ = some (.int .i64 r.ttl) ∧ W1.drew.cell? ⟨wr.heap.size, 2, none⟩ = some (.int .i64 r.type) ∧ W1.drew.cell? ⟨wr.heap.size, 3, none⟩ = some (.string (B r.data))) := hS1
      clear hS1
      go_region_held (fun w' => w'.cell? ⟨wr.heap.size, 0, none⟩ = some (.string (B r.owner)) ∧ w'.cell? ⟨wr.heap.size, 1, none⟩ = some (.int .i64 r.ttl) ∧ w'.cell? ⟨wr.heap.size, 2, none⟩ = some (.int .i64 r.type) ∧ w'.cell? ⟨wr.heap.size, 3, none⟩ = some (.string (B r.data))) (first | assumption | go_keep)
        (first
          | (go_at_call 254; go_loud (refine (unhide HD1).mono ?_; rintro e w2 ⟨g, cp, rfl, hS2, HB2⟩))
          | (go_at_call 139; go_loud (refine (unhide HPP _ _ _ HB2).mono ?_; rintro e w3 ⟨rfl, hS3, HB3⟩)))
      rename_i hH
      clear hH hS hS2 hS3 HB2 HD1 HPP
      go_wp2_with fail
      obtain ⟨vb2, h1, h2, h3⟩ := unhide HB3
      exact ⟨⟨k + 1, vb2, by go_num, by omega, h1, h2, h3⟩, by simp [intOf]; omega⟩
    · have hkl : k = rs.length := by omega
      subst hkl
      rw [List.take_length] at hor
      obtain ⟨ab, cb, rfl⟩ := own_sl hor
      have c0 := hmr.cells.1
      have HF := hide (And.intro hmr (And.intro hor htr))
      have hgt : ¬ size < ((l ++ rs.flatMap out).length : Int) := by rw [List.length_append]; omega
      clear hmr hor htr HMR HOR
      generalize (l ++ rs.flatMap out).length = N at *
      go_wp2_with fail
      go_ret
      exact ⟨rfl, ⟨_, (unhide HF).1, (unhide HF).2.1⟩, (unhide HF).2.2⟩
end Wt
end Go.Proofs.YtkkpahmoljiepaaGreatDoor

/- What wire's fill keeps while it goes through three lists. -/
namespace Go.Proofs.YtkkpahmoljiepaaGreatDoor
open Go.RowKit
open Pu (Str hide unhide)

namespace Wu
open Ka Kd Rf Rg Ia Iow Ie Zb Zc Za La Lb Lg Wa Wb Wc Wd We Wf Wg Wh Wi Wj Wk Wl Wm Wn Wo Wp Wq Ws Wt Re

/-- the blocks that fill lays at its beginning. -/
structure FB (s mb : Nat) (size : Int) (cs : List Int) (W : World) : Prop where
  b0 : It.Box W s (.pointer (some ⟨mb, 0, none⟩)) 216
  b1 : It.Box W (s + 1) (.int .i64 size) 3
  b2 : It.Box W (s + 2) (.slice none 0 0) 56
  b3 : NumsAt W (s + 3) cs 3
  b4 : It.Box W (s + 4) (.slice (some ⟨s + 3, 0, none⟩) 3 3) 56
theorem FB.kept {s mb : Nat} {size : Int} {cs : List Int} {W W' : World} (h : FB s mb size cs W) (hk : ∀ k, s ≤ k → k < s + 5 → W'.heap[k]? = W.heap[k]?) : FB s mb size cs W' :=
  ⟨(hk _ (by omega) (by omega)).trans h.b0, (hk _ (by omega) (by omega)).trans h.b1, (hk _ (by omega) (by omega)).trans h.b2, (hk _ (by omega) (by omega)).trans h.b3, (hk _ (by omega) (by omega)).trans h.b4⟩
theorem FB.lt {s mb : Nat} {size : Int} {cs : List Int} {W : World} (h : FB s mb size cs W) : s + 4 < W.heap.size := It.Box.lt h.b4
theorem box_tf {mb base k : Nat} {W W' : World} {v : Value} {t : TypeId} (h : It.Box W k v t) (ht : TF mb base W W') (hm : k ≠ mb) (h8 : t ≠ 5) : It.Box W' k v t :=
  (ht.block k (It.Box.lt h) hm (.inr fun c hc => by rw [h] at hc; simp at hc; exact h8 hc.2)).trans h
theorem FB.tf {s mb base : Nat} {size : Int} {cs : List Int} {W W' : World} (h : FB s mb size cs W) (ht : TF mb base W W') (hm : mb < s) : FB s mb size cs W' := by
  have hl := h.lt
  refine ⟨box_tf h.b0 ht (by omega) (by decide), box_tf h.b1 ht (by omega) (by decide), box_tf h.b2 ht (by omega) (by decide), (ht.block _ (by omega) (by omega) (.inr fun c hc => ?_)).trans h.b3, box_tf h.b4 ht (by omega) (by decide)⟩
  have := h.b3
  unfold NumsAt at this
  rw [this] at hc; simp at hc
theorem FB.set {s mb : Nat} {size : Int} {cs : List Int} {W : World} (h : FB s mb size cs W) (k : Nat) (x : Int) : FB s mb size (cs.set k x) (W.setCell ⟨s + 3, k, none⟩ (.int .i64 x)) :=
  ⟨(Below.heap_setCell _ _ _ _ (by show s ≠ s + 3; omega)).trans h.b0, (Below.heap_setCell _ _ _ _ (by show s + 1 ≠ s + 3; omega)).trans h.b1, (Below.heap_setCell _ _ _ _ (by show s + 2 ≠ s + 3; omega)).trans h.b2, h.b3.set k x, (Below.heap_setCell _ _ _ _ (by show s + 4 ≠ s + 3; omega)).trans h.b4⟩

/-- what holds between two lists, and between two RRsets. -/
structure FI (mb base s lb : Nat) (size : Int) (vp : Value) (ps : List (Str × Nat)) (vs : Array Value) (w : World) (ds : List Nat) (cs : List Int) (d : Nat) (out : Str) (W : World) : Prop where
  fb : FB s mb size cs W
  lists : W.heap[lb]? = some (.cells vs 41)
  msg : ∃ vb', MsgAt W mb vb' vp ∧ OwnB W base vb' out ∧ ∀ g, vb'.ownBlock = some g → g ≠ d
  pl : PlAt mb W vp ps
  g : G W
  tf : TF mb base w W
  defs : ∀ x ∈ ds, W.heap[x]? = some (.deferred (some []))

section
variable {mb base s lb : Nat} {size : Int} {vp : Value} {ps : List (Str × Nat)} {vs : Array Value} {w : World} {ds : List Nat} {cs : List Int} {d : Nat} {out : Str} {W B : World}
theorem FI.re (h : FI mb base s lb size vp ps vs w ds cs d out W) (d' : Nat) (hd : ∀ cur, W.heap[d']? ≠ some (.cells cur 5 (0, 0))) : FI mb base s lb size vp ps vs w ds cs d' out W := by
  obtain ⟨vb, h1, h2, h3⟩ := h.msg
  refine ⟨h.fb, h.lists, ⟨vb, h1, h2, fun g hg e => ?_⟩, h.pl, h.g, h.tf, h.defs⟩
  obtain ⟨cur, hcur⟩ := own_kindB h2 hg
  rw [e] at hcur
  exact hd cur hcur
theorem FI.keeps (h : FI mb base s lb size vp ps vs w ds cs d out W) (hk : It.Keeps d W B) (h1 : s + 4 < d) (h2 : lb < d) (h3 : mb < d) (h4 : w.heap.size ≤ d) (h5 : ∀ g, vp.ownBlock = some g → g < d) (h6 : ∀ x ∈ ds, x ≠ d) : FI mb base s lb size vp ps vs w ds cs d out B := by
  obtain ⟨vb, m1, m2, m3⟩ := h.msg
  have hl := h.fb.lt
  obtain ⟨b', p1, p2⟩ := h.pl
  obtain ⟨g0, gm, gc⟩ := h.g
  refine ⟨h.fb.kept fun k k1 k2 => hk.block k (by omega) (by omega), (hk.block lb (Array.getElem?_eq_some_iff.1 h.lists).1 (by omega)).trans h.lists, ⟨vb, m1.kept (hk.block mb m1.lt (by omega)), own_kept m2 fun g hg => hk.block g (World.ownsRow.lt m2 g hg).2 (m3 g hg), m3⟩,
    ⟨b', own_kept p1 fun g hg => hk.block g (World.ownsRow.lt p1 g hg).2 (by have := h5 g hg; omega), p2⟩, ⟨Nat.lt_of_lt_of_le g0 hk.size, gm, (World.cell?_of_block (hk.block 0 g0 (by omega))).trans gc⟩, h.tf.keeps hk h4, fun x hx => (hk.block x (Array.getElem?_eq_some_iff.1 (h.defs x hx)).1 (h6 x hx)).trans (h.defs x hx)⟩
theorem FI.below (h : FI mb base s lb size vp ps vs w ds cs d out W) (hb : Below W.heap.size W B) : FI mb base s lb size vp ps vs w ds cs d out B := by
  obtain ⟨vb, m1, m2, m3⟩ := h.msg
  have hl := h.fb.lt
  have ht : TF mb base W B := TF.of_below hb
  exact ⟨h.fb.kept fun k k1 k2 => hb.block k (by omega), (hb.block lb (Array.getElem?_eq_some_iff.1 h.lists).1).trans h.lists, ⟨vb, m1.kept (hb.block mb m1.lt), own_below m2 hb, m3⟩, h.pl.tf ht, h.g.below hb, h.tf.trans ht, fun x hx => (hb.block x (Array.getElem?_eq_some_iff.1 (h.defs x hx)).1).trans (h.defs x hx)⟩
/-- behind fit. -/
theorem FI.fit (h : FI mb base s lb size vp ps vs w ds cs d out W) (ht : TF mb base W B) {vb : Value} {out' : Str} (hm : MsgAt B mb vb vp) (ho : OwnB B base vb out') (h0 : mb < s) (h1 : lb ≠ mb) (h2 : 0 < base) (h3 : 0 < mb) (h4 : ∀ x ∈ ds, x ≠ mb) (hd : ∀ cur, B.heap[d]? ≠ some (.cells cur 5 (0, 0))) : FI mb base s lb size vp ps vs w ds cs d out' B := by
  refine ⟨h.fb.tf ht h0, (ht.block lb (Array.getElem?_eq_some_iff.1 h.lists).1 h1 (.inr fun c hc => by rw [h.lists] at hc; simp at hc)).trans h.lists, ⟨vb, hm, ho, fun g hg e => ?_⟩, h.pl.tf ht, h.g.tf ht h2 h3, h.tf.trans ht, fun x hx => (ht.block x (Array.getElem?_eq_some_iff.1 (h.defs x hx)).1 (h4 x hx) (.inr fun c hc => by rw [h.defs x hx] at hc; cases hc)).trans (h.defs x hx)⟩
  obtain ⟨cur, hcur⟩ := own_kindB ho hg
  rw [e] at hcur
  exact hd cur hcur
/-- behind a count. -/
theorem FI.set (h : FI mb base s lb size vp ps vs w ds cs d out W) (k : Nat) (x : Int) (h0 : mb < s) (h1 : lb < s) (h2 : w.heap.size ≤ s) (h3 : ∀ y ∈ ds, y ≠ s + 3) : FI mb base s lb size vp ps vs w ds (cs.set k x) d out (W.setCell ⟨s + 3, k, none⟩ (.int .i64 x)) := by
  obtain ⟨vb, m1, m2, m3⟩ := h.msg
  obtain ⟨b', p1, p2⟩ := h.pl
  have hnum := h.fb.b3
  unfold NumsAt at hnum
  have hne : ∀ k', k' ≠ s + 3 → (W.setCell ⟨s + 3, k, none⟩ (.int .i64 x)).heap[k']? = W.heap[k']? := fun k' hk => Below.heap_setCell _ _ _ _ hk
  refine ⟨h.fb.set k x, (hne lb (by omega)).trans h.lists, ⟨vb, m1.kept (hne mb (by omega)), own_kept m2 fun g hg => hne g fun e => ?_, m3⟩, ⟨b', own_kept p1 fun g hg => hne g fun e => ?_, p2⟩, ?_, ⟨h.tf.os, h.tf.tape, h.tf.output, Nat.le_trans h.tf.size (by simp [World.setCell]), fun i hi hm hp => (hne i (by omega)).trans (h.tf.block i hi hm hp)⟩, fun y hy => (hne y (h3 y hy)).trans (h.defs y hy)⟩
  · obtain ⟨cur, hcur⟩ := own_kindB m2 hg
    rw [e, hnum] at hcur
    simp at hcur
  · obtain ⟨_, ⟨rfl, _⟩ | ⟨g', cap, cur, rfl, _, hcur, _⟩⟩ := p1
    · simp [Value.ownBlock] at hg
    · simp only [Value.ownBlock, Option.some.injEq] at hg
      subst hg
      rw [e, hnum] at hcur
      simp at hcur
  · obtain ⟨g0, gm, gc⟩ := h.g
    exact ⟨by simpa [World.setCell] using g0, gm, (World.cell?_of_block (hne 0 (by omega))).trans gc⟩
end

theorem sets_b (a : Option Addr) (n c : Nat) (w : World) :
    Calls Tryz.prog 107 #[.slice a n c] w fun e w' => e = .returned (.func (.func 233) #[] #[.pointer (some ⟨w.heap.size, 0, none⟩), .pointer (some ⟨w.heap.size + 1, 0, none⟩)]) ∧ w'.heap.size = w.heap.size + 2 ∧ Below w.heap.size w w' ∧
      It.Box w' w.heap.size (.slice a n c) 41 ∧ It.Box w' (w.heap.size + 1) (.func (.func 177) #[] #[]) 261 := by
  refine (sets_any a n c w).mono ?_
  rintro e w' ⟨rfl, rfl⟩
  refine ⟨rfl, by simp, ((Below.refl _ _).alloc (Nat.le_refl _) _).alloc (by simp) _, (It.Box.new _ _ _).alloc _, ?_⟩
  have := It.Box.new (w.alloc (.cells #[.slice a n c] 41)) (.func (.func 177) #[] #[]) 261
  rwa [World.size_alloc] at this

/-- the records of a list's first RRsets. -/
def tk (rs : List Rec) (i : Nat) : List Rec := ((runs sameSet rs).take i).flatMap (·.2)
theorem tk_zero (rs : List Rec) : tk rs 0 = [] := rfl
theorem tk_succ {rs : List Rec} {i : Nat} {x : Nat × List Rec} (h : (runs sameSet rs)[i]? = some x) : tk rs (i + 1) = tk rs i ++ x.2 := by
  unfold tk; rw [take_one h, List.flatMap_append]; simp
theorem tk_all (rs : List Rec) : tk rs (runs sameSet rs).length = rs := by
  unfold tk; rw [List.take_length]; exact runs_cat sameSet _ _ _ (Nat.le_refl _)
theorem tk_le (rs : List Rec) (i : Nat) (f : Rec → Str) : ((tk rs i).flatMap f).length ≤ (rs.flatMap f).length := by
  have h : rs = tk rs i ++ ((runs sameSet rs).drop i).flatMap (·.2) := by
    unfold tk
    rw [← List.flatMap_append, List.take_append_drop]
    exact (runs_cat sameSet _ _ _ (Nat.le_refl _)).symm
  conv => rhs; rw [h, List.flatMap_append, List.length_append]
  omega
theorem tk_len (rs : List Rec) (i : Nat) : (tk rs i).length ≤ rs.length := by
  have h : rs = tk rs i ++ ((runs sameSet rs).drop i).flatMap (·.2) := by
    unfold tk
    rw [← List.flatMap_append, List.take_append_drop]
    exact (runs_cat sameSet _ _ _ (Nat.le_refl _)).symm
  conv => rhs; rw [h, List.length_append]
  omega
theorem tk_mem {rs : List Rec} {x : Nat × List Rec} (h : x ∈ runs sameSet rs) {r : Rec} (hr : r ∈ x.2) : r ∈ rs := by
  rw [(runs_piece h).2.2] at hr
  exact List.mem_of_mem_drop (List.mem_of_mem_take hr)
end Wu
end Go.Proofs.YtkkpahmoljiepaaGreatDoor

/- Contract: wire's under: a whole message with its header. -/
namespace Go.Proofs.YtkkpahmoljiepaaGreatDoor
open Go.RowKit
open Pu (Str hide unhide)

namespace Wv
open Ka Rg Ia Wa Wb Wc Wd We Wf Wg Wh Wi Wj Wk Wl Wm Wn Wo Wp Wq Ws Wt Re

def hdrFs (i b c0 c1 c2 c3 : Nat) : List Fd := [fShort i, fShort b, fShort c0, fShort c1, fShort c2, fShort c3]
theorem hdr_len (i b c0 c1 c2 c3 : Nat) : (outs (hdrFs i b c0 c1 c2 c3)).length = 12 := rfl
theorem underF : Tryz.prog.underlying 285 = some (.slice 297) := by kernel_rfl

theorem sizeB : (Tryz.prog.info? 5).map (·.size) = some 1 := by kernel_rfl

/-- copy, as a step of a region that draws. -/
theorem step_copy_run {P : Program} {ops : Array Oper} {o : Oper} {a : Act} {w : World} {K : Act → World → Prop} {Q : Exit → Act → World → Prop} {E : Prop}
    (hg : o.guard = none) (d x : Operand) (dT sT : TypeId) (hop : o.op = Op.call { callee := Callee.builtin Builtin.copy, args := #[d, x], argTypes := #[dT, sT] })
    (vd vx v : Value) (w' : World) (hd : a.eval d = vd) (hx : a.eval x = vx) (hrun : (Builtin.copy_ #[dT, sT] o.type #[vd, vx]).run P w = .ok v w')
    (hK : K (a.put o.dst v) w') : if Region.wanted o (yielded ops a.tmps) = true then Oper.wp P o a w K Q else E := by
  have hw : Region.wanted o (yielded ops a.tmps) = true := by simp [Region.wanted, hg]
  rw [if_pos hw]
  unfold Oper.wp
  simp [execOp, hop, resolve, invoke, builtin, hd, hx, hrun, Result.andThen]
  exact hK

/-- bytes over the beginning of a row of one's own. -/
theorem own_over {w : World} {base g cap : Nat} {l h : Str} (ho : OwnB w base (.slice (some ⟨g, 0, none⟩) l.length cap) l) (hl : h.length ≤ l.length) :
    ∃ cur, w.heap[g]? = some (.cells cur 5 (0, 0)) ∧ h.length ≤ cur.size ∧ ∀ w' : World, w'.heap[g]? = some (.cells cur 5 (0, 0)) → OwnB (w'.setRow g (cur.toList.take 0 ++ Lib.byteCells (B h).data.toList ++ cur.toList.drop (0 + (B h).size)).toArray) base (.slice (some ⟨g, 0, none⟩) l.length cap) (h ++ l.drop h.length) := by
  obtain ⟨h1, ⟨e, hz⟩ | ⟨g', cap', cur, e, hb, hcur, hc, hm, hs, ht⟩⟩ := ho
  · cases e
  · cases e
    refine ⟨cur, hcur, by omega, fun w' hw' => ?_⟩
    have hlen : (h ++ l.drop h.length).length = l.length := by simp; omega
    have hbs : (B h).size = h.length := size_B h
    refine ⟨by simp, .inr ⟨g, cap, _, by rw [hlen], hb, setRow_heap w' g cur _ 5 (0, 0) hw', by omega, hm, ?_, ?_⟩⟩
    · have : ((B h).data.toList).length = h.length := by simp [B]
      simp [Lib.byteCells, hbs, B] at *
      omega
    · rw [hlen, Nat.mul_one]
      rw [Nat.mul_one] at ht
      have e1 : (B h).data.toList = h := by simp [B]
      have e2 : cur.toList.drop h.length = (cur.toList.take l.length).drop h.length ++ cur.toList.drop l.length := by
        conv => lhs; rw [← List.take_append_drop l.length cur.toList]
        rw [List.drop_append_of_le_length (by simp; omega)]
      simp only [List.take_zero, List.nil_append, e1, hbs, Nat.zero_add]
      rw [e2, ht, ← List.append_assoc, List.take_left' (by simp [Lib.byteCells]; omega)]
      simp [Lib.byteCells]

set_option maxRecDepth 100000 in
set_option maxHeartbeats 1600000 in
theorem under_any (mb base i b c0 c1 c2 c3 : Nat) (vb vp : Value) (l : Str) (w : World) (hm : MsgAt w mb vb vp) (ho : OwnB w base vb l) (hbs : base ≤ w.heap.size) (hl : 12 ≤ l.length) (hl2 : l.length ≤ 60000)
    (h0 : i < 65536) (h1 : b < 65536) (h2 : c0 < 65536) (h3 : c1 < 65536) (h4 : c2 < 65536) (h5 : c3 < 65536) :
    Calls Tryz.prog 131 #[.pointer (some ⟨mb, 0, none⟩), .agg #[.int .i64 i, .int .i64 b, .int .i64 c0, .int .i64 c1, .int .i64 c2, .int .i64 c3]] w fun e w' =>
      e = .returned (.string (B (outs (hdrFs i b c0 c1 c2 c3) ++ l.drop 12))) ∧ TF mb base w w' := by
  obtain ⟨i0, hi, hz0, hz1, hz2⟩ := info_parts infoF
  obtain ⟨g, cap, cur, rfl, hbg, hcur, hcap, _⟩ := own_at ho (by intro h; subst h; simp at hl)
  have hmc := hm.cells.1
  have hmlt := hm.lt
  have hglt := (Array.getElem?_eq_some_iff.1 hcur).1
  have hgm : mb ≠ g := fun e => by
    rw [MsgAt, e, hcur] at hm
    simp at hm
  have HM := hide hm
  have HO := hide ho
  clear hm ho hcur
  have a0 : IntKind.u16.wrap (i : Int) = (i : Int) := by rw [IntKind.wrap_u16]; omega
  have a1 : IntKind.u16.wrap (b : Int) = (b : Int) := by rw [IntKind.wrap_u16]; omega
  have a2 : IntKind.u16.wrap (c0 : Int) = (c0 : Int) := by rw [IntKind.wrap_u16]; omega
  have a3 : IntKind.u16.wrap (c1 : Int) = (c1 : Int) := by rw [IntKind.wrap_u16]; omega
  have a4 : IntKind.u16.wrap (c2 : Int) = (c2 : Int) := by rw [IntKind.wrap_u16]; omega
  have a5 : IntKind.u16.wrap (c3 : Int) = (c3 : Int) := by rw [IntKind.wrap_u16]; omega
  have HS : Hid (i < 65536 ∧ b < 65536 ∧ c0 < 65536 ∧ c1 < 65536 ∧ c2 < 65536 ∧ c3 < 65536) := ⟨h0, h1, h2, h3, h4, h5⟩
  have HX : Hid (∀ k : Nat, k < 4 → ∃ ck : Nat, (hdrFs i b c0 c1 c2 c3).take (2 + (k + 1)) = (hdrFs i b c0 c1 c2 c3).take (2 + k) ++ [fShort ck] ∧ IntKind.u16.wrap (ck : Int) = (ck : Int) ∧ ∀ W : World, (Instr.index 131 (.agg #[.int .i64 c0, .int .i64 c1, .int .i64 c2, .int .i64 c3]) (.int .i64 k)).run Tryz.prog W = .ok (.int .i64 ck) W) := by
    intro k hk
    match k, hk with
    | 0, _ => exact ⟨c0, rfl, a2, fun _ => by kernel_rfl⟩
    | 1, _ => exact ⟨c1, rfl, a3, fun _ => by kernel_rfl⟩
    | 2, _ => exact ⟨c2, rfl, a4, fun _ => by kernel_rfl⟩
    | 3, _ => exact ⟨c3, rfl, a5, fun _ => by kernel_rfl⟩
    | k + 4, h => omega
  clear h0 h1 h2 h3 h4 h5 a2 a3 a4 a5
  go_enter Tryz.func131, Tryz.ntmps131
  go_wp2_with fail
  have HOF0 : Hid (OwnF ((w.alloc (.cells #[.int .i64 i, .int .i64 b, .int .i64 c0, .int .i64 c1, .int .i64 c2, .int .i64 c3] 133)).alloc (.cells #[.iface 284 (.int .u16 i), .iface 284 (.int .u16 b)] 297)) (w.heap.size + 1) (.slice (some ⟨w.heap.size + 1, 0, none⟩) 2 2) ((hdrFs i b c0 c1 c2 c3).take (2 + 0))) := by
    have hnew := World.alloc_heap_new (w.alloc (.cells #[.int .i64 i, .int .i64 b, .int .i64 c0, .int .i64 c1, .int .i64 c2, .int .i64 c3] 133)) (.cells #[.iface 284 (.int .u16 i), .iface 284 (.int .u16 b)] 297)
    rw [World.size_alloc] at hnew
    exact ⟨rfl, .inr ⟨w.heap.size + 1, 2, _, rfl, Nat.le_refl _, hnew, Nat.le_refl _, by simp [maxLen], rfl, rfl⟩⟩
  have HB0 : Hid (Below w.heap.size w ((w.alloc (.cells #[.int .i64 i, .int .i64 b, .int .i64 c0, .int .i64 c1, .int .i64 c2, .int .i64 c3] 133)).alloc (.cells #[.iface 284 (.int .u16 i), .iface 284 (.int .u16 b)] 297))) := ((Below.refl _ _).alloc (Nat.le_refl _) _).alloc (by simp) _
  go_loopw [19, 5] (fun ix v wr => ∃ (k : Nat) (a : Option Addr) (n c : Nat), ix = .int .i64 k ∧ v = .slice a n c ∧ k ≤ 4 ∧ OwnF wr (w.heap.size + 1) (.slice a n c) ((hdrFs i b c0 c1 c2 c3).take (2 + k)) ∧ Below w.heap.size w wr ∧ w.heap.size + 1 < wr.heap.size) (fun ix _ _ => 4 - (intOf ix).toNat)
  case atStart => exact ⟨0, _, _, _, rfl, rfl, by omega, unhide HOF0, unhide HB0, by simp⟩
  case round =>
    obtain ⟨k, a, n, c, rfl, rfl, hk, hof, hbr, hws⟩ := hrel
    have HOF := hide hof
    have HBR := hide hbr
    have hsr := hbr.size
    clear hof HOF0 HB0
    by_cases hlt : k < 4
    · obtain ⟨ck, ht, hw, hidx⟩ := unhide HX k hlt
      have HT := hide ht
      have hkI : (k : Int) < 4 := by omega
      have hfl : ((hdrFs i b c0 c1 c2 c3).take (2 + k)).length = 2 + k := by simp [hdrFs]; omega
      clear ht hbr
      go_wp2_with (at_builtin; go_loud (refine wpList_append_own _ rfl (.tmp 22) (.tmp 26) 285 rfl (w.heap.size + 1) 297 i0 .nilIface 1 16 underF hi hz0 hz1 hz2 rfl (by decide) _ ((hdrFs i b c0 c1 c2 c3).take (2 + k)).length _ rfl ((unhide HOF).alloc _) ⟨wr.heap.size, 0, none⟩ 1 1 [.iface 284 (.int .u16 ck)] rfl rfl ?c1 ?c2 ?c3 ?c4 ?c5 ?_))
      case c1 =>
        intro j u' hj
        match j, hj with
        | 0, hj => simp at hj; subst hj; simp [Addr.add]
        | n + 1, hj => simp at hj
      case c2 => intro u' hu'; simp at hu'; subst hu'; rfl
      case c3 => unfold maxLen; omega
      case c4 => omega
      case c5 => simp; omega
      intro v' w3 hown' hgrow _
      obtain ⟨va, vn, vc, rfl⟩ := own_slice hown'
      have HO3 : Hid (OwnF w3 (w.heap.size + 1) (.slice va vn vc) ((hdrFs i b c0 c1 c2 c3).take (2 + (k + 1)))) := by
        unfold Hid OwnF
        rw [unhide HT, List.length_append, List.map_append, hfl, List.map_take]
        exact hown'
      have HB3 : Hid (Below w.heap.size w w3 ∧ w.heap.size + 1 < w3.heap.size) := ⟨((unhide HBR).alloc (by omega) _).grown hgrow (by simp; omega) (fun k' hk' => by have := ((unhide HOF).lt k' hk').1; omega), by have := hgrow.size; simp at this; omega⟩
      clear hown' hgrow hidx
      go_wp2_with fail
      exact ⟨⟨k + 1, _, _, _, by go_num, rfl, by omega, unhide HO3, (unhide HB3).1, (unhide HB3).2⟩, by simp [intOf]; omega⟩
    · have hkl : k = 4 := by omega
      subst hkl
      have hfin : (hdrFs i b c0 c1 c2 c3).take (2 + 4) = hdrFs i b c0 c1 c2 c3 := rfl
      rw [hfin] at HOF
      obtain ⟨fg, fcap, hv, hfc, hfd⟩ := fdsAt_of_own (mb := mb) (unhide HOF) (by simp [hdrFs]) (by omega)
      cases hv
      have hd : Below wr.heap.size wr wr.drew := (Below.refl _ _).drew
      have HW := hide (written_any fg c (hdrFs i b c0 c1 c2 c3) wr.drew (fun f hf => by
        obtain ⟨s0, s1, s2, s3, s4, s5⟩ := unhide HS
        simp only [hdrFs, List.mem_cons, List.mem_nil_iff, or_false] at hf
        rcases hf with rfl | rfl | rfl | rfl | rfl | rfl <;> exact short_ok _ (by assumption)) hfd.1 (fun j hj => hfd.2.2.2 j hj) hfc (by simp [hdrFs]) (by rw [hdr_len]; omega))
      have hmk := hbr.block mb hmlt
      have hmc2 : wr.drew.cell? ⟨mb, 0, none⟩ = some (.slice (some ⟨g, 0, none⟩) l.length cap) := (World.cell?_of_block hmk).trans hmc
      clear hfd HX hfin
      have hmc3 : wr.cell? ⟨mb, 0, none⟩ = some (.slice (some ⟨g, 0, none⟩) l.length cap) := hmc2
      obtain ⟨cur2, hcur2, hsz2, hown2⟩ := own_over (unhide HO) (h := outs (hdrFs i b c0 c1 c2 c3)) (by rw [hdr_len]; exact hl)
      obtain ⟨hd0, hhd⟩ : ∃ x, x = outs (hdrFs i b c0 c1 c2 c3) := ⟨_, rfl⟩
      have hlen0 : hd0.length = 12 := by rw [hhd]; exact hdr_len i b c0 c1 c2 c3
      rw [← hhd] at HW hown2 hsz2
      have HCP : Hid (∀ w2, Below wr.drew.heap.size wr.drew w2 → (Builtin.copy_ #[58, 9] 3 #[.slice (some ⟨g, 0, none⟩) l.length cap, .string (B hd0)]).run Tryz.prog w2 = .ok (goInt (B hd0).size) (w2.setRow g (cur2.toList.take 0 ++ Lib.byteCells (B hd0).data.toList ++ cur2.toList.drop (0 + (B hd0).size)).toArray)) := fun w2 hb2 => by
        have e := ((hb2.block g (show g < wr.heap.size by omega)).trans (hbr.block g hglt)).trans hcur2
        exact Lib.run_copy_row_string w2 _ _ _ _ g 0 l.length cap (B hd0) cur2 5 underB sizeB e (by rw [size_B]; omega) (by rw [size_B]; omega)
      have HOV : Hid (∀ w2, Below wr.drew.heap.size wr.drew w2 → OwnB (w2.setRow g (cur2.toList.take 0 ++ Lib.byteCells (B hd0).data.toList ++ cur2.toList.drop (0 + (B hd0).size)).toArray) base (.slice (some ⟨g, 0, none⟩) l.length cap) (hd0 ++ l.drop hd0.length)) := fun w2 hb2 =>
        hown2 w2 (((hb2.block g (show g < wr.heap.size by omega)).trans (hbr.block g hglt)).trans hcur2)
      clear hown2 hcur2 hsz2
      generalize (cur2.toList.take 0 ++ Lib.byteCells (B hd0).data.toList ++ cur2.toList.drop (0 + (B hd0).size)).toArray = row at *
      have HHD := hide hhd
      clear hhd hmk
      go_wp2_with fail
      go_region_held_law (fun w' => w'.cell? ⟨mb, 0, none⟩ = some (.slice (some ⟨g, 0, none⟩) l.length cap)) (first | assumption | exact (cell_setRow_other _ _ _ _ hgm).trans (by assumption))
        (first
          | (refine step_copy_run rfl (.tmp 32) (.tmp 34) 58 9 rfl _ _ _ _ rfl rfl (unhide HCP _ hb2) ?_)
          | (go_at_call 199; go_loud (refine (unhide HW).mono ?_; rintro e w2 ⟨rfl, hb2⟩; have hS2 := (hb2.cell (p := ⟨mb, 0, none⟩) (show mb < wr.heap.size by omega)).trans hmc2)))
      rename_i hH
      have hown3 := unhide HOV w2 hb2
      have hcv := own_string hown3
      have hbw2 : Below w.heap.size w w2 := hbr.trans (((Below.refl _ _).drew.trans hb2).mono hsr)
      obtain ⟨cur4, hcur4⟩ := own_kindB (unhide HO) rfl
      have HT3 : Hid (TF mb base w (w2.setRow g row)) := ⟨hbw2.os, hbw2.tape, hbw2.output, by rw [setRow_size]; exact hbw2.size, fun k hk hm hp => by
        by_cases e : k = g
        · subst e
          rcases hp with hp | hp
          · omega
          · exact absurd hcur4 (hp cur4)
        · exact (setRow_other _ _ _ _ e).trans (hbw2.block k hk)⟩
      have HE : Hid (hd0 ++ List.drop (List.length hd0) l = outs (hdrFs i b c0 c1 c2 c3) ++ l.drop 12) := by rw [Hid, hlen0, unhide HHD]
      rw [unhide HE] at hcv
      clear hown3 hbw2 hcur4 hb2 hS2 HCP HOV HW hbr hmc hmc2 hmc3 HE hlen0
      generalize w2.setRow g row = w3 at *
      go_wp2_with fail
      go_ret
      exact ⟨rfl, unhide HT3⟩
end Wv
end Go.Proofs.YtkkpahmoljiepaaGreatDoor
