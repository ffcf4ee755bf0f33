/- Contract: wire.Reply in general, the contracts of its four calls given. -/
import Derived.Test.YtkkpahmoljiepaaGreatDoorJ25
import Derived.Test.YtkkpahmoljiepaaGreatDoorJ12
import Derived.Test.YtkkpahmoljiepaaGreatDoorJ24
set_option linter.unusedSimpArgs false
set_option linter.unusedVariables false
namespace Go.Proofs.YtkkpahmoljiepaaGreatDoor
open Go.RowKit
open Pu (Str hide unhide)

namespace Mn
open Ka Kd Rf Rg Ia Iow Ie Zb Zc Za La Lb Lc Lg Lj Wa Wb Wc Wd We Wf Wg Wh Wi Wj Wk Wl Wm Wn Wo Wp Wq Ws Wt Wu Wv Wx Wy Wz Xa Xb Va Vb Vd Re
open Ta (zz)

set_option maxRecDepth 100000 in
set_option maxHeartbeats 3200000 in
theorem reply_glue (zb i : Nat) (xo sz rc : Int) (op : Bool) (m qs nm : Str) (ra rb : List Rec) (R : Str) (w : World) (hg : G w) (hml : 12 ≤ m.length)
    (hh : Calls Tryz.prog 70 #[.string (B m)] w fun e w' => e = .returned (.tuple #[.agg #[.int .i64 i, .int .i64 256, .int .i64 1, .int .i64 0, .int .i64 0, .int .i64 xo], .bool true]) ∧ Below w.heap.size w w')
    (hq : ∀ W, Calls Tryz.prog 72 #[.agg #[.int .i64 i, .int .i64 256, .int .i64 1, .int .i64 0, .int .i64 0, .int .i64 xo], .string (B m)] W fun e w' => e = .returned (.tuple #[qVal i 256 1 0 0 xo qs nm 1 1 op sz 0, .bool true]) ∧ Below W.heap.size W w')
    (ha : ∀ W, Below w.heap.size w W → Calls Tryz.prog 74 #[qVal i 256 1 0 0 xo qs nm 1 1 op sz 0, .pointer (some ⟨zb, 0, none⟩)] W fun e w' => (∃ va vb, e = .returned (.agg #[.int .i64 rc, .bool true, va, vb, .slice none 0 0]) ∧ OwnR w' W.heap.size va ra ∧ OwnR w' W.heap.size vb rb) ∧ Below W.heap.size W w')
    (hr : ∀ W va vb, G W → RV W va ra → RV W vb rb → Calls Tryz.prog 73 #[qVal i 256 1 0 0 xo qs nm 1 1 op sz 0, .agg #[.int .i64 rc, .bool true, va, vb, .slice none 0 0]] W fun e w' => e = .returned (.string (B R)) ∧ Below W.heap.size W w') :
    Calls Tryz.prog 27 #[.pointer (some ⟨zb, 0, none⟩), .string (B m)] w fun e w' => e = .returned (.string (B R)) ∧ Below w.heap.size w w' := by
  have HRH := hide hh
  have HRQ := hide hq
  have HQA := hide ha
  have HRP := hide hr
  have HG := hide hg
  have hs : (B m).size = m.length := size_B m
  have b1 : bits .and .i64 256 32768 = 0 := by kernel_rfl
  have b2 : bits .and .i64 256 30720 = 0 := by kernel_rfl
  clear hh hq ha hr hg
  unfold qVal at HRQ HQA HRP
  go_enter Tryz.func27, Tryz.ntmps27
  go_wp2_with fail
  refine (unhide HRH).mono ?_
  rintro e w1 ⟨rfl, hb1⟩
  have hB1 := hide hb1
  have hs1 := hb1.size
  clear hb1
  go_wp2_with fail
  refine (unhide HRQ _).mono ?_
  rintro e w2 ⟨rfl, hb2⟩
  have hB2 : Below w.heap.size w w2 := ((unhide hB1).alloc hs1 _).trans (hb2.mono (by simp; omega))
  have HB2 := hide hB2
  have hs2 := hB2.size
  clear hb2 hB2 hB1 HRQ HRH
  go_wp2_with fail
  have hQ : QAt (w2.alloc (.cells #[.int .i64 i, .int .i64 256, .int .i64 1, .int .i64 0, .int .i64 0, .int .i64 xo, .string (B qs), .string (B nm), .int .i64 1, .int .i64 1, .bool op, .int .i64 sz, .int .i64 0] 137)) w2.heap.size i 256 1 0 0 xo qs nm 1 1 op sz 0 := World.alloc_heap_new w2 _
  have hBX : Below w.heap.size w (w2.alloc (.cells #[.int .i64 i, .int .i64 256, .int .i64 1, .int .i64 0, .int .i64 0, .int .i64 xo, .string (B qs), .string (B nm), .int .i64 1, .int .i64 1, .bool op, .int .i64 sz, .int .i64 0] 137)) := (unhide HB2).alloc hs2 _
  clear HB2
  generalize (w2.alloc (.cells #[.int .i64 i, .int .i64 256, .int .i64 1, .int .i64 0, .int .i64 0, .int .i64 xo, .string (B qs), .string (B nm), .int .i64 1, .int .i64 1, .bool op, .int .i64 sz, .int .i64 0] 137)) = X at *
  have kS : ∀ W W' : World, Below W.heap.size W W' → (W.cell? ⟨w2.heap.size, 0, none⟩ = some (.int .i64 i) ∧ W.cell? ⟨w2.heap.size, 1, none⟩ = some (.int .i64 256) ∧ W.cell? ⟨w2.heap.size, 2, none⟩ = some (.int .i64 1) ∧ W.cell? ⟨w2.heap.size, 3, none⟩ = some (.int .i64 0) ∧ W.cell? ⟨w2.heap.size, 4, none⟩ = some (.int .i64 0) ∧ W.cell? ⟨w2.heap.size, 5, none⟩ = some (.int .i64 xo) ∧ W.cell? ⟨w2.heap.size, 6, none⟩ = some (.string (B qs)) ∧ W.cell? ⟨w2.heap.size, 7, none⟩ = some (.string (B nm)) ∧ W.cell? ⟨w2.heap.size, 8, none⟩ = some (.int .i64 1) ∧ W.cell? ⟨w2.heap.size, 9, none⟩ = some (.int .i64 1) ∧ W.cell? ⟨w2.heap.size, 10, none⟩ = some (.bool op) ∧ W.cell? ⟨w2.heap.size, 11, none⟩ = some (.int .i64 sz) ∧ W.cell? ⟨w2.heap.size, 12, none⟩ = some (.int .i64 0)) → (W'.cell? ⟨w2.heap.size, 0, none⟩ = some (.int .i64 i) ∧ W'.cell? ⟨w2.heap.size, 1, none⟩ = some (.int .i64 256) ∧ W'.cell? ⟨w2.heap.size, 2, none⟩ = some (.int .i64 1) ∧ W'.cell? ⟨w2.heap.size, 3, none⟩ = some (.int .i64 0) ∧ W'.cell? ⟨w2.heap.size, 4, none⟩ = some (.int .i64 0) ∧ W'.cell? ⟨w2.heap.size, 5, none⟩ = some (.int .i64 xo) ∧ W'.cell? ⟨w2.heap.size, 6, none⟩ = some (.string (B qs)) ∧ W'.cell? ⟨w2.heap.size, 7, none⟩ = some (.string (B nm)) ∧ W'.cell? ⟨w2.heap.size, 8, none⟩ = some (.int .i64 1) ∧ W'.cell? ⟨w2.heap.size, 9, none⟩ = some (.int .i64 1) ∧ W'.cell? ⟨w2.heap.size, 10, none⟩ = some (.bool op) ∧ W'.cell? ⟨w2.heap.size, 11, none⟩ = some (.int .i64 sz) ∧ W'.cell? ⟨w2.heap.size, 12, none⟩ = some (.int .i64 0)) := fun W W' hb h => by
    have kp : ∀ (a : Addr) (v : Value), W.cell? a = some v → W'.cell? a = some v := fun a v h => (hb.cell (World.block_lt_of_cell? W a h)).trans h
    obtain ⟨e0, e1, e2, e3, e4, e5, e6, e7, e8, e9, e10, e11, e12⟩ := h
    exact ⟨kp _ _ e0, kp _ _ e1, kp _ _ e2, kp _ _ e3, kp _ _ e4, kp _ _ e5, kp _ _ e6, kp _ _ e7, kp _ _ e8, kp _ _ e9, kp _ _ e10, kp _ _ e11, kp _ _ e12⟩
  have HQ2 : Hid (∀ W, Below w.heap.size w W → (W.cell? ⟨w2.heap.size, 0, none⟩ = some (.int .i64 i) ∧ W.cell? ⟨w2.heap.size, 1, none⟩ = some (.int .i64 256) ∧ W.cell? ⟨w2.heap.size, 2, none⟩ = some (.int .i64 1) ∧ W.cell? ⟨w2.heap.size, 3, none⟩ = some (.int .i64 0) ∧ W.cell? ⟨w2.heap.size, 4, none⟩ = some (.int .i64 0) ∧ W.cell? ⟨w2.heap.size, 5, none⟩ = some (.int .i64 xo) ∧ W.cell? ⟨w2.heap.size, 6, none⟩ = some (.string (B qs)) ∧ W.cell? ⟨w2.heap.size, 7, none⟩ = some (.string (B nm)) ∧ W.cell? ⟨w2.heap.size, 8, none⟩ = some (.int .i64 1) ∧ W.cell? ⟨w2.heap.size, 9, none⟩ = some (.int .i64 1) ∧ W.cell? ⟨w2.heap.size, 10, none⟩ = some (.bool op) ∧ W.cell? ⟨w2.heap.size, 11, none⟩ = some (.int .i64 sz) ∧ W.cell? ⟨w2.heap.size, 12, none⟩ = some (.int .i64 0)) → Calls Tryz.prog 74 #[(.agg #[.int .i64 i, .int .i64 256, .int .i64 1, .int .i64 0, .int .i64 0, .int .i64 xo, .string (B qs), .string (B nm), .int .i64 1, .int .i64 1, .bool op, .int .i64 sz, .int .i64 0]), .pointer (some ⟨zb, 0, none⟩)] W fun e w' =>
      ∃ aa ca ab cb, e = .returned (.agg #[.int .i64 rc, .bool true, .slice aa ra.length ca, .slice ab rb.length cb, .slice none 0 0]) ∧ (w'.cell? ⟨w2.heap.size, 0, none⟩ = some (.int .i64 i) ∧ w'.cell? ⟨w2.heap.size, 1, none⟩ = some (.int .i64 256) ∧ w'.cell? ⟨w2.heap.size, 2, none⟩ = some (.int .i64 1) ∧ w'.cell? ⟨w2.heap.size, 3, none⟩ = some (.int .i64 0) ∧ w'.cell? ⟨w2.heap.size, 4, none⟩ = some (.int .i64 0) ∧ w'.cell? ⟨w2.heap.size, 5, none⟩ = some (.int .i64 xo) ∧ w'.cell? ⟨w2.heap.size, 6, none⟩ = some (.string (B qs)) ∧ w'.cell? ⟨w2.heap.size, 7, none⟩ = some (.string (B nm)) ∧ w'.cell? ⟨w2.heap.size, 8, none⟩ = some (.int .i64 1) ∧ w'.cell? ⟨w2.heap.size, 9, none⟩ = some (.int .i64 1) ∧ w'.cell? ⟨w2.heap.size, 10, none⟩ = some (.bool op) ∧ w'.cell? ⟨w2.heap.size, 11, none⟩ = some (.int .i64 sz) ∧ w'.cell? ⟨w2.heap.size, 12, none⟩ = some (.int .i64 0)) ∧ Hid (Below w.heap.size w w' ∧ G w' ∧ RV w' (.slice aa ra.length ca) ra ∧ RV w' (.slice ab rb.length cb) rb)) := by
    intro W hb hS
    refine (unhide HQA W hb).mono ?_
    rintro e w' ⟨⟨va, vb, rfl, ha, hv⟩, hb'⟩
    have hB' := hb.trans (hb'.mono hb.size)
    have ra' := ha.rv
    have rb' := hv.rv
    obtain ⟨aa, ca, rfl⟩ := ha.slice
    obtain ⟨ab, cb, rfl⟩ := hv.slice
    exact ⟨aa, ca, ab, cb, rfl, kS W w' hb' hS, hB', (unhide HG).below hB', ra', rb'⟩
  have HR2 : Hid (∀ W aa ca ab cb, Hid (Below w.heap.size w W ∧ G W ∧ RV W (.slice aa ra.length ca) ra ∧ RV W (.slice ab rb.length cb) rb) → (W.cell? ⟨w2.heap.size, 0, none⟩ = some (.int .i64 i) ∧ W.cell? ⟨w2.heap.size, 1, none⟩ = some (.int .i64 256) ∧ W.cell? ⟨w2.heap.size, 2, none⟩ = some (.int .i64 1) ∧ W.cell? ⟨w2.heap.size, 3, none⟩ = some (.int .i64 0) ∧ W.cell? ⟨w2.heap.size, 4, none⟩ = some (.int .i64 0) ∧ W.cell? ⟨w2.heap.size, 5, none⟩ = some (.int .i64 xo) ∧ W.cell? ⟨w2.heap.size, 6, none⟩ = some (.string (B qs)) ∧ W.cell? ⟨w2.heap.size, 7, none⟩ = some (.string (B nm)) ∧ W.cell? ⟨w2.heap.size, 8, none⟩ = some (.int .i64 1) ∧ W.cell? ⟨w2.heap.size, 9, none⟩ = some (.int .i64 1) ∧ W.cell? ⟨w2.heap.size, 10, none⟩ = some (.bool op) ∧ W.cell? ⟨w2.heap.size, 11, none⟩ = some (.int .i64 sz) ∧ W.cell? ⟨w2.heap.size, 12, none⟩ = some (.int .i64 0)) → Calls Tryz.prog 73 #[(.agg #[.int .i64 i, .int .i64 256, .int .i64 1, .int .i64 0, .int .i64 0, .int .i64 xo, .string (B qs), .string (B nm), .int .i64 1, .int .i64 1, .bool op, .int .i64 sz, .int .i64 0]), .agg #[.int .i64 rc, .bool true, .slice aa ra.length ca, .slice ab rb.length cb, .slice none 0 0]] W fun e w' =>
      e = .returned (.string (B (R))) ∧ (w'.cell? ⟨w2.heap.size, 0, none⟩ = some (.int .i64 i) ∧ w'.cell? ⟨w2.heap.size, 1, none⟩ = some (.int .i64 256) ∧ w'.cell? ⟨w2.heap.size, 2, none⟩ = some (.int .i64 1) ∧ w'.cell? ⟨w2.heap.size, 3, none⟩ = some (.int .i64 0) ∧ w'.cell? ⟨w2.heap.size, 4, none⟩ = some (.int .i64 0) ∧ w'.cell? ⟨w2.heap.size, 5, none⟩ = some (.int .i64 xo) ∧ w'.cell? ⟨w2.heap.size, 6, none⟩ = some (.string (B qs)) ∧ w'.cell? ⟨w2.heap.size, 7, none⟩ = some (.string (B nm)) ∧ w'.cell? ⟨w2.heap.size, 8, none⟩ = some (.int .i64 1) ∧ w'.cell? ⟨w2.heap.size, 9, none⟩ = some (.int .i64 1) ∧ w'.cell? ⟨w2.heap.size, 10, none⟩ = some (.bool op) ∧ w'.cell? ⟨w2.heap.size, 11, none⟩ = some (.int .i64 sz) ∧ w'.cell? ⟨w2.heap.size, 12, none⟩ = some (.int .i64 0)) ∧ Hid (Below w.heap.size w w')) := by
    intro W aa ca ab cb hB hS
    obtain ⟨hb, hgW, ra', rb'⟩ := unhide hB
    refine (unhide HRP W _ _ hgW ra' rb').mono ?_
    rintro e w' ⟨rfl, hb'⟩
    exact ⟨rfl, kS W w' hb' hS, hb.trans (hb'.mono hb.size)⟩
  have hS : X.drew.cell? ⟨w2.heap.size, 0, none⟩ = some (.int .i64 i) ∧ X.drew.cell? ⟨w2.heap.size, 1, none⟩ = some (.int .i64 256) ∧ X.drew.cell? ⟨w2.heap.size, 2, none⟩ = some (.int .i64 1) ∧ X.drew.cell? ⟨w2.heap.size, 3, none⟩ = some (.int .i64 0) ∧ X.drew.cell? ⟨w2.heap.size, 4, none⟩ = some (.int .i64 0) ∧ X.drew.cell? ⟨w2.heap.size, 5, none⟩ = some (.int .i64 xo) ∧ X.drew.cell? ⟨w2.heap.size, 6, none⟩ = some (.string (B qs)) ∧ X.drew.cell? ⟨w2.heap.size, 7, none⟩ = some (.string (B nm)) ∧ X.drew.cell? ⟨w2.heap.size, 8, none⟩ = some (.int .i64 1) ∧ X.drew.cell? ⟨w2.heap.size, 9, none⟩ = some (.int .i64 1) ∧ X.drew.cell? ⟨w2.heap.size, 10, none⟩ = some (.bool op) ∧ X.drew.cell? ⟨w2.heap.size, 11, none⟩ = some (.int .i64 sz) ∧ X.drew.cell? ⟨w2.heap.size, 12, none⟩ = some (.int .i64 0) := hQ.cells
  have hBD : Below w.heap.size w X.drew := hBX.drew
  have HBD := hide hBD
  clear hQ hBX hBD HQA HRP kS
  go_region_held (fun w' => w'.cell? ⟨w2.heap.size, 0, none⟩ = some (.int .i64 i) ∧ w'.cell? ⟨w2.heap.size, 1, none⟩ = some (.int .i64 256) ∧ w'.cell? ⟨w2.heap.size, 2, none⟩ = some (.int .i64 1) ∧ w'.cell? ⟨w2.heap.size, 3, none⟩ = some (.int .i64 0) ∧ w'.cell? ⟨w2.heap.size, 4, none⟩ = some (.int .i64 0) ∧ w'.cell? ⟨w2.heap.size, 5, none⟩ = some (.int .i64 xo) ∧ w'.cell? ⟨w2.heap.size, 6, none⟩ = some (.string (B qs)) ∧ w'.cell? ⟨w2.heap.size, 7, none⟩ = some (.string (B nm)) ∧ w'.cell? ⟨w2.heap.size, 8, none⟩ = some (.int .i64 1) ∧ w'.cell? ⟨w2.heap.size, 9, none⟩ = some (.int .i64 1) ∧ w'.cell? ⟨w2.heap.size, 10, none⟩ = some (.bool op) ∧ w'.cell? ⟨w2.heap.size, 11, none⟩ = some (.int .i64 sz) ∧ w'.cell? ⟨w2.heap.size, 12, none⟩ = some (.int .i64 0)) (first | assumption | go_keep)
    (first
      | (go_at_call 74; go_loud (refine (unhide HQ2 _ (unhide HBD) ?_).mono ?_; assumption; rintro e w5 ⟨aa, ca, ab, cb, rfl, hS5, HB5⟩))
      | (go_at_call 73; go_loud (refine (unhide HR2 _ _ _ _ _ HB5 ?_).mono ?_; assumption; rintro e w6 ⟨rfl, hS6, HB6⟩)))
  rename_i hH
  clear hH hS hS5 hS6 HB5
  go_wp2_with fail
  go_ret
  exact ⟨rfl, unhide HB6⟩
end Mn
end Go.Proofs.YtkkpahmoljiepaaGreatDoor

/- Contract: wire's readOPT, where an OPT stands. -/
namespace Go.Proofs.YtkkpahmoljiepaaGreatDoor
open Go.RowKit
open Pu (Str hide unhide)

namespace Mj
open Ka Wa Wb Wc Wd We Wf Re

/-- what is left behind some bytes. -/
def skipP (n : Nat) (s : Str) (br : Bool) : Str × Bool := if n ≤ s.length then (s.drop n, br) else ([], true)
theorem skipP_len (n : Nat) (s : Str) (br : Bool) : (skipP n s br).1.length ≤ s.length := by unfold skipP; split <;> simp
theorem take_any (b n : Nat) (s : Str) (br : Bool) (w : World) (h : RdAt w b s br) (hn : n ≤ 100000) (hl : s.length ≤ 1000000000) :
    Calls Tryz.prog 148 #[.pointer (some ⟨b, 0, none⟩), .int .i64 n] w fun e w' =>
      (∃ x, e = .returned (.string x)) ∧ RdAt w' b (skipP n s br).1 (skipP n s br).2 ∧ It.Keeps b w w' ∧ w'.heap.size = w.heap.size := by
  unfold skipP
  split
  · refine (take_ok b n s br w h (by assumption) hl).mono ?_
    rintro e w' ⟨rfl, h⟩
    exact ⟨⟨_, rfl⟩, h⟩
  · refine (take_no b n s br w h (by omega) (by omega)).mono ?_
    rintro e w' ⟨rfl, h⟩
    exact ⟨⟨_, rfl⟩, h⟩
section
variable {w : World} {b : Nat} {h0 h1 h2 h3 h4 h5 : Int} {q n : Str} {k c : Int} {opt : Bool} {sz ver : Int}
theorem q11 (h : QAt w b h0 h1 h2 h3 h4 h5 q n k c opt sz ver) (x : Int) : QAt (w.setCell ⟨b, 11, none⟩ (.int .i64 x)) b h0 h1 h2 h3 h4 h5 q n k c opt x ver := by
  unfold QAt at *; simp only [World.setCell]; rw [Array.getElem?_modify, if_pos rfl, h]; rfl
theorem q12 (h : QAt w b h0 h1 h2 h3 h4 h5 q n k c opt sz ver) (x : Int) : QAt (w.setCell ⟨b, 12, none⟩ (.int .i64 x)) b h0 h1 h2 h3 h4 h5 q n k c opt sz x := by
  unfold QAt at *; simp only [World.setCell]; rw [Array.getElem?_modify, if_pos rfl, h]; rfl
end

set_option maxRecDepth 100000 in
set_option maxHeartbeats 1600000 in
theorem readOPT_ok (qb rb : Nat) (s0 : Str) (b0 : Bool) (w0 : World) {h0 h1 h2 h3 h4 h5 : Int} {q n : Str} {k c : Int} {opt : Bool} {sz ver : Int}
    (hq : QAt w0 qb h0 h1 h2 h3 h4 h5 q n k c opt sz ver) (hr : RdAt w0 rb s0 b0) (hne : qb ≠ rb) (hl : s0.length ≤ 1000000000)
    {x4 z ve nn : Nat} {s1 s2 s3 s4 s5 s6 s7 s8 : Str} {b1 b2 b3 b4 b5 b6 b7 b8 : Bool} (e1 : octP s0 b0 = (0, s1, b1)) (e2 : shortP s1 b1 = (41, s2, b2)) (e3 : shortP s2 b2 = (z, s3, b3)) (e4 : octP s3 b3 = (x4, s4, b4)) (e5 : octP s4 b4 = (ve, s5, b5))
    (e6 : skipP 2 s5 b5 = (s6, b6)) (e7 : shortP s6 b6 = (nn, s7, b7)) (e8 : skipP nn s7 b7 = (s8, b8)) (hnn : nn ≤ 65535) :
    Calls Tryz.prog 134 #[.pointer (some ⟨qb, 0, none⟩), .pointer (some ⟨rb, 0, none⟩)] w0 fun e w' =>
      e = .returned (.tuple #[]) ∧ QAt w' qb h0 h1 h2 h3 h4 h5 q n k c opt z ve ∧ RdAt w' rb s8 b8 ∧ Fr (fun i => i ≠ qb ∧ i ≠ rb) w0 w' := by
  have l1 := octP_len s0 b0
  have l2 := shortP_len s1 b1
  have l3 := shortP_len s2 b2
  have l4 := octP_len s3 b3
  have l5 := octP_len s4 b4
  have l6 := skipP_len 2 s5 b5
  have l7 := shortP_len s6 b6
  rw [e1] at l1
  rw [e2] at l2
  rw [e3] at l3
  rw [e4] at l4
  rw [e5] at l5
  rw [e6] at l6
  rw [e7] at l7
  simp only at l1 l2 l3 l4 l5 l6 l7
  have HE1 := hide e1
  have HE2 := hide e2
  have HE3 := hide e3
  have HE4 := hide e4
  have HE5 := hide e5
  have HE6 := hide e6
  have HE7 := hide e7
  have HE8 := hide e8
  have HQ0 := hide hq
  have HR0 := hide hr
  have hlt0 := hq.lt
  have HF0 : Hid (Fr (fun i => i ≠ qb ∧ i ≠ rb) w0 w0) := ⟨rfl, rfl, rfl, Nat.le_refl _, fun _ _ _ => rfl⟩
  clear hq hr e1 e2 e3 e4 e5 e6 e7 e8
  have HC0 := hide (octet_any rb s0 b0 w0 (unhide HR0) (by omega))
  rw [Hid, unhide HE1] at HC0
  simp only at HC0
  go_enter Tryz.func134, Tryz.ntmps134
  go_wp2_with fail
  refine HC0.mono ?_
  rintro e w0' ⟨rfl, hr, hk, hz⟩
  have HR1 := hide hr
  have HF1 : Hid (Fr (fun i => i ≠ qb ∧ i ≠ rb) w0 w0') := (unhide HF0).trans ((Fr.of_keeps hk).mono fun i _ h => h.2)
  have HQ1 := hide ((unhide HQ0).kept (hk.block qb hlt0 hne))
  have hlt1 : qb < w0'.heap.size := by omega
  clear hr hk hz HC0 HR0 HF0 HQ0
  have HC1 := hide (short_any rb s1 b1 w0' (unhide HR1) (by omega))
  rw [Hid, unhide HE2] at HC1
  simp only at HC1
  go_wp2_with fail
  refine HC1.mono ?_
  rintro e w1' ⟨rfl, hr, hk, hz⟩
  have HR2 := hide hr
  have HF2 : Hid (Fr (fun i => i ≠ qb ∧ i ≠ rb) w0 w1') := (unhide HF1).trans ((Fr.of_keeps hk).mono fun i _ h => h.2)
  have HQ2 := hide ((unhide HQ1).kept (hk.block qb hlt1 hne))
  have hlt2 : qb < w1'.heap.size := by omega
  clear hr hk hz HC1 HR1 HF1 HQ1
  have HC2 := hide (short_any rb s2 b2 w1' (unhide HR2) (by omega))
  rw [Hid, unhide HE3] at HC2
  simp only at HC2
  go_wp2_with fail
  refine HC2.mono ?_
  rintro e w2' ⟨rfl, hr, hk, hz⟩
  have HR3 := hide hr
  have HF3 : Hid (Fr (fun i => i ≠ qb ∧ i ≠ rb) w0 w2') := (unhide HF2).trans ((Fr.of_keeps hk).mono fun i _ h => h.2)
  have HQ3 := hide ((unhide HQ2).kept (hk.block qb hlt2 hne))
  have hlt3 : qb < w2'.heap.size := by omega
  clear hr hk hz HC2 HR2 HF2 HQ2
  have hfz := (unhide HQ3).frozen
  have hcl := (unhide HQ3).cells
  have HN : Hid (QAt (w2'.setCell ⟨qb, 11, none⟩ (.int .i64 z)) qb h0 h1 h2 h3 h4 h5 q n k c opt z ver ∧ RdAt (w2'.setCell ⟨qb, 11, none⟩ (.int .i64 z)) rb s3 b3 ∧ Fr (fun i => i ≠ qb ∧ i ≠ rb) w0 (w2'.setCell ⟨qb, 11, none⟩ (.int .i64 z)) ∧ qb < (w2'.setCell ⟨qb, 11, none⟩ (.int .i64 z)).heap.size) :=
    ⟨q11 (unhide HQ3) _, (Below.heap_setCell _ _ _ _ (Ne.symm hne)).trans (unhide HR3), (unhide HF3).trans (Fr.of_set _ fun i h => h.1), by simpa [World.setCell] using hlt3⟩
  obtain ⟨_, _, _, _, _, _, _, _, _, _, _, c11, c12⟩ := hcl
  obtain ⟨hQ, hR, hF, hlt3⟩ := unhide HN
  clear HQ3 HR3 HF3 HN
  have HQ3 := hide hQ
  have HR3 := hide hR
  have HF3 := hide hF
  clear hQ hR hF
  have HC3 := hide (octet_any rb s3 b3 (w2'.setCell ⟨qb, 11, none⟩ (.int .i64 z)) (unhide HR3) (by omega))
  rw [Hid, unhide HE4] at HC3
  simp only at HC3
  go_wp2_with fail
  refine HC3.mono ?_
  rintro e w3' ⟨rfl, hr, hk, hz⟩
  have HR4 := hide hr
  have HF4 : Hid (Fr (fun i => i ≠ qb ∧ i ≠ rb) w0 w3') := (unhide HF3).trans ((Fr.of_keeps hk).mono fun i _ h => h.2)
  have HQ4 := hide ((unhide HQ3).kept (hk.block qb hlt3 hne))
  have hlt4 : qb < w3'.heap.size := by omega
  clear hr hk hz HC3 HR3 HF3 HQ3
  have HC4 := hide (octet_any rb s4 b4 w3' (unhide HR4) (by omega))
  rw [Hid, unhide HE5] at HC4
  simp only at HC4
  go_wp2_with fail
  refine HC4.mono ?_
  rintro e w4' ⟨rfl, hr, hk, hz⟩
  have HR5 := hide hr
  have HF5 : Hid (Fr (fun i => i ≠ qb ∧ i ≠ rb) w0 w4') := (unhide HF4).trans ((Fr.of_keeps hk).mono fun i _ h => h.2)
  have HQ5 := hide ((unhide HQ4).kept (hk.block qb hlt4 hne))
  have hlt5 : qb < w4'.heap.size := by omega
  clear hr hk hz HC4 HR4 HF4 HQ4
  have hfz := (unhide HQ5).frozen
  have hcl := (unhide HQ5).cells
  have HN : Hid (QAt (w4'.setCell ⟨qb, 12, none⟩ (.int .i64 ve)) qb h0 h1 h2 h3 h4 h5 q n k c opt z ve ∧ RdAt (w4'.setCell ⟨qb, 12, none⟩ (.int .i64 ve)) rb s5 b5 ∧ Fr (fun i => i ≠ qb ∧ i ≠ rb) w0 (w4'.setCell ⟨qb, 12, none⟩ (.int .i64 ve)) ∧ qb < (w4'.setCell ⟨qb, 12, none⟩ (.int .i64 ve)).heap.size) :=
    ⟨q12 (unhide HQ5) _, (Below.heap_setCell _ _ _ _ (Ne.symm hne)).trans (unhide HR5), (unhide HF5).trans (Fr.of_set _ fun i h => h.1), by simpa [World.setCell] using hlt5⟩
  obtain ⟨_, _, _, _, _, _, _, _, _, _, _, c11, c12⟩ := hcl
  obtain ⟨hQ, hR, hF, hlt5⟩ := unhide HN
  clear HQ5 HR5 HF5 HN
  have HQ5 := hide hQ
  have HR5 := hide hR
  have HF5 := hide hF
  clear hQ hR hF
  have HC5 := hide (take_any rb 2 s5 b5 (w4'.setCell ⟨qb, 12, none⟩ (.int .i64 ve)) (unhide HR5) (by omega) (by omega))
  rw [Hid, unhide HE6] at HC5
  simp only at HC5
  go_wp2_with fail
  refine HC5.mono ?_
  rintro e w5' ⟨⟨_, rfl⟩, hr, hk, hz⟩
  have HR6 := hide hr
  have HF6 : Hid (Fr (fun i => i ≠ qb ∧ i ≠ rb) w0 w5') := (unhide HF5).trans ((Fr.of_keeps hk).mono fun i _ h => h.2)
  have HQ6 := hide ((unhide HQ5).kept (hk.block qb hlt5 hne))
  have hlt6 : qb < w5'.heap.size := by omega
  clear hr hk hz HC5 HR5 HF5 HQ5
  have HC6 := hide (short_any rb s6 b6 w5' (unhide HR6) (by omega))
  rw [Hid, unhide HE7] at HC6
  simp only at HC6
  go_wp2_with fail
  refine HC6.mono ?_
  rintro e w6' ⟨rfl, hr, hk, hz⟩
  have HR7 := hide hr
  have HF7 : Hid (Fr (fun i => i ≠ qb ∧ i ≠ rb) w0 w6') := (unhide HF6).trans ((Fr.of_keeps hk).mono fun i _ h => h.2)
  have HQ7 := hide ((unhide HQ6).kept (hk.block qb hlt6 hne))
  have hlt7 : qb < w6'.heap.size := by omega
  clear hr hk hz HC6 HR6 HF6 HQ6
  have HC7 := hide (take_any rb nn s7 b7 w6' (unhide HR7) (by omega) (by omega))
  rw [Hid, unhide HE8] at HC7
  simp only at HC7
  go_wp2_with fail
  refine HC7.mono ?_
  rintro e w7' ⟨⟨_, rfl⟩, hr, hk, hz⟩
  have HR8 := hide hr
  have HF8 : Hid (Fr (fun i => i ≠ qb ∧ i ≠ rb) w0 w7') := (unhide HF7).trans ((Fr.of_keeps hk).mono fun i _ h => h.2)
  have HQ8 := hide ((unhide HQ7).kept (hk.block qb hlt7 hne))
  have hlt8 : qb < w7'.heap.size := by omega
  clear hr hk hz HC7 HR7 HF7 HQ7
  go_wp2_with fail
  refine bodyPost_end (v := .tuple #[]) (by simp [results, Tryz.results134]) rfl ?_
  exact ⟨rfl, unhide HQ8, unhide HR8, unhide HF8⟩
end Mj
end Go.Proofs.YtkkpahmoljiepaaGreatDoor

/- Contract: wire's readQuery of a question and an OPT. -/
namespace Go.Proofs.YtkkpahmoljiepaaGreatDoor
open Go.RowKit
open Pu (Str hide unhide)

namespace Mk
open Ka Wa Wb Wc Wd We Wf Wg Mj Re

theorem equal4n (W : World) : (Op.equalIn 10000 131 (.agg #[.int .i64 1, .int .i64 0, .int .i64 0, .int .i64 1]) (.agg #[.int .i64 1, .int .i64 0, .int .i64 0, .int .i64 0])).run Tryz.prog W = .ok false W := by kernel_rfl
theorem equal4y (W : World) : (Op.equalIn 10000 131 (.agg #[.int .i64 1, .int .i64 0, .int .i64 0, .int .i64 1]) (.agg #[.int .i64 1, .int .i64 0, .int .i64 0, .int .i64 1])).run Tryz.prog W = .ok true W := by kernel_rfl

/-- the world in which the question is read. -/
def qX (w : World) (id bits : Int) (s : Str) : World :=
  (((w.alloc (.cells #[.int .i64 id, .int .i64 bits, .int .i64 1, .int .i64 0, .int .i64 0, .int .i64 1] 133)).alloc
    (.cells #[.int .i64 0, .int .i64 0, .int .i64 0, .int .i64 0, .int .i64 0, .int .i64 0, .string ⟨#[]⟩, .string ⟨#[]⟩, .int .i64 0, .int .i64 0, .bool false, .int .i64 0, .int .i64 0] 137)).alloc
    (.cells #[.int .i64 id, .int .i64 bits, .int .i64 1, .int .i64 0, .int .i64 0, .int .i64 1, .string ⟨#[]⟩, .string ⟨#[]⟩, .int .i64 0, .int .i64 0, .bool true, .int .i64 0, .int .i64 0] 137)).alloc
    (.cells #[.string (B s), .bool false] 215)
theorem qX_ok (w : World) (id bits : Int) (s : Str) : QAt (qX w id bits s) (w.heap.size + 1 + 1) id bits 1 0 0 1 [] [] 0 0 true 0 0 ∧ QAt (qX w id bits s) (w.heap.size + 1) 0 0 0 0 0 0 [] [] 0 0 false 0 0 ∧ RdAt (qX w id bits s) (w.heap.size + 1 + 1 + 1) s false ∧ Below w.heap.size w (qX w id bits s) := by
  refine ⟨?_, ?_, ?_, ?_⟩
  · refine (Below.heap_alloc _ _ _ (by simp)).trans ?_
    have := World.alloc_heap_new ((w.alloc (.cells #[.int .i64 id, .int .i64 bits, .int .i64 1, .int .i64 0, .int .i64 0, .int .i64 1] 133)).alloc (.cells #[.int .i64 0, .int .i64 0, .int .i64 0, .int .i64 0, .int .i64 0, .int .i64 0, .string ⟨#[]⟩, .string ⟨#[]⟩, .int .i64 0, .int .i64 0, .bool false, .int .i64 0, .int .i64 0] 137)) (.cells #[.int .i64 id, .int .i64 bits, .int .i64 1, .int .i64 0, .int .i64 0, .int .i64 1, .string ⟨#[]⟩, .string ⟨#[]⟩, .int .i64 0, .int .i64 0, .bool true, .int .i64 0, .int .i64 0] 137)
    simpa [B] using this
  · refine (Below.heap_alloc _ _ _ (by simp)).trans ((Below.heap_alloc _ _ _ (by simp)).trans ?_)
    have := World.alloc_heap_new (w.alloc (.cells #[.int .i64 id, .int .i64 bits, .int .i64 1, .int .i64 0, .int .i64 0, .int .i64 1] 133)) (.cells #[.int .i64 0, .int .i64 0, .int .i64 0, .int .i64 0, .int .i64 0, .int .i64 0, .string ⟨#[]⟩, .string ⟨#[]⟩, .int .i64 0, .int .i64 0, .bool false, .int .i64 0, .int .i64 0] 137)
    simpa [B] using this
  · have := World.alloc_heap_new (((w.alloc (.cells #[.int .i64 id, .int .i64 bits, .int .i64 1, .int .i64 0, .int .i64 0, .int .i64 1] 133)).alloc (.cells #[.int .i64 0, .int .i64 0, .int .i64 0, .int .i64 0, .int .i64 0, .int .i64 0, .string ⟨#[]⟩, .string ⟨#[]⟩, .int .i64 0, .int .i64 0, .bool false, .int .i64 0, .int .i64 0] 137)).alloc (.cells #[.int .i64 id, .int .i64 bits, .int .i64 1, .int .i64 0, .int .i64 0, .int .i64 1, .string ⟨#[]⟩, .string ⟨#[]⟩, .int .i64 0, .int .i64 0, .bool true, .int .i64 0, .int .i64 0] 137)) (.cells #[.string (B s), .bool false] 215)
    simpa [RdAt, qX] using this
  · exact ((((Below.refl _ _).alloc (Nat.le_refl _) _).alloc (by simp) _).alloc (by simp; omega) _).alloc (by simp; omega) _

set_option maxRecDepth 100000 in
set_option maxHeartbeats 3200000 in
theorem readQuery_opt (id bits : Int) (m : Str) (w : World) (hm : 12 ≤ m.length) (hl : m.length ≤ 1000000000)
    {ls : List Str} {k' c' : Nat} {s1 s2 s3 : Str} {br1 br2 br3 : Bool} (e1 : labP (m.drop 12) false = (ls, s1, br1)) (e2 : shortP s1 br1 = (k', s2, br2)) (e3 : shortP s2 br2 = (c', s3, br3))
    {x4 z ve nn : Nat} {t1 t2 t3 t4 t5 t6 t7 t8 : Str} {b1 b2 b3 b4 b5 b6 b7 b8 : Bool} (f1 : octP s3 br3 = (0, t1, b1)) (f2 : shortP t1 b1 = (41, t2, b2)) (f3 : shortP t2 b2 = (z, t3, b3)) (f4 : octP t3 b3 = (x4, t4, b4)) (f5 : octP t4 b4 = (ve, t5, b5))
    (f6 : skipP 2 t5 b5 = (t6, b6)) (f7 : shortP t6 b6 = (nn, t7, b7)) (f8 : skipP nn t7 b7 = (t8, b8)) (hnn : nn ≤ 65535) :
    Calls Tryz.prog 72 #[.agg #[.int .i64 id, .int .i64 bits, .int .i64 1, .int .i64 0, .int .i64 0, .int .i64 1], .string (B m)] w fun e w' =>
      e = .returned (.tuple #[qVal id bits 1 0 0 1 ((m.drop 12).take ((m.drop 12).length - s3.length)) (nameP ls) k' c' true z ve, .bool (!b8 && t8.isEmpty)]) ∧ Below w.heap.size w w' := by
  have hs : (B m).size = m.length := size_B m
  have HD := hide (B_drop m 12 _ rfl)
  have kq0 : ∀ W : World, (Op.equalIn 10000 131 (.agg #[.int .i64 1, .int .i64 0, .int .i64 0, .int .i64 1]) (.agg #[.int .i64 1, .int .i64 0, .int .i64 0, .int .i64 0])).run Tryz.prog W = .ok false W := equal4n
  have kq : ∀ W : World, (Op.equalIn 10000 131 (.agg #[.int .i64 1, .int .i64 0, .int .i64 0, .int .i64 1]) (.agg #[.int .i64 1, .int .i64 0, .int .i64 0, .int .i64 1])).run Tryz.prog W = .ok true W := equal4y
  have HFF := hide (fun (W : World) (n' : Str) (q' : Str) (hq : QAt W (w.heap.size + 1 + 1) id bits 1 0 0 1 q' n' k' c' true 0 0) (hr : RdAt W (w.heap.size + 1 + 1 + 1) s3 br3) (hl : s3.length ≤ 1000000000) => readOPT_ok (w.heap.size + 1 + 1) (w.heap.size + 1 + 1 + 1) s3 br3 W hq hr (by omega) hl f1 f2 f3 f4 f5 f6 f7 f8 hnn)
  have hl3 : s3.length ≤ 1000000000 := by
    have a1 := (labP_ok (m.drop 12) false)
    rw [e1] at a1
    have a2 := shortP_len s1 br1
    rw [e2] at a2
    have a3 := shortP_len s2 br2
    rw [e3] at a3
    obtain ⟨o1, o2, o3⟩ := a1
    simp only [List.length_drop] at o1 o2 o3 a2 a3
    omega
  clear f1 f2 f3 f4 f5 f6 f7 f8 hnn
  have HE1 := hide e1
  have HE2 := hide e2
  have HE3 := hide e3
  clear e1 e2 e3
  obtain ⟨hq0, ht0, hr0, hb0⟩ := qX_ok w id bits (m.drop 12)
  have HC := hide (readQuestion_any (w.heap.size + 1 + 1) (w.heap.size + 1 + 1 + 1) (m.drop 12) false (qX w id bits (m.drop 12)) hq0 hr0 (by omega) (by simp; omega) (unhide HE1) (unhide HE2) (unhide HE3))
  have HT0 := hide ht0
  have HB0 := hide hb0
  clear hq0 ht0 hr0 hb0
  go_enter Tryz.func72, Tryz.ntmps72
  go_wp2_with fail
  rw [unhide HD]
  refine (unhide HC).mono ?_
  rintro e w1 ⟨rfl, hq1, hr1, hf1⟩
  have HT1 := hide ((unhide HT0).kept (hf1.block _ (unhide HT0).lt ⟨by omega, by omega⟩))
  have HB1 : Hid (Below w.heap.size w w1) := (unhide HB0).trans (hf1.below (fun i hi => ⟨by omega, by omega⟩) (unhide HB0).size)
  have HQ1 := hide hq1
  have HR1 := hide hr1
  have HC2 := hide (unhide HFF w1 _ _ hq1 hr1 hl3)
  obtain ⟨_, _, _, _, _, _, _, _, _, _, c10, _, _⟩ := hq1.cells
  clear hq1 hr1 hf1 HC HT0 HB0 kq kq0 HFF
  go_wp2_with fail
  refine (unhide HC2).mono ?_
  rintro e w2 ⟨rfl, hq1, hr1, hf1⟩
  have HT1 := hide ((unhide HT1).kept (hf1.block _ (unhide HT1).lt ⟨by omega, by omega⟩))
  have HB1 : Hid (Below w.heap.size w w2) := (unhide HB1).trans (hf1.below (fun i hi => ⟨by omega, by omega⟩) (unhide HB1).size)
  have HQ1 := hide hq1
  have HR1 := hide hr1
  clear hq1 hr1 hf1 HC2 c10 hl3
  generalize hqe : (m.drop 12).take ((m.drop 12).length - s3.length) = q at *
  generalize hnm : nameP ls = nm at *
  have HQE := hide hqe
  have HNM := hide hnm
  clear hqe hnm
  obtain ⟨c0, c1, c2, c3, c4, c5, c6, c7, c8, c9, c10, c11, c12⟩ := (unhide HQ1).cells
  obtain ⟨d0, d1, d2, d3, d4, d5, d6, d7, d8, d9, d10, d11, d12⟩ := (unhide HT1).cells
  have hfz := (unhide HT1).frozen
  obtain ⟨r0, r1⟩ := (unhide HR1).cells
  go_wp2_with fail
  clear HE1 HE2 HE3 HD hm hl hs HQ1 HR1 HT1
  have ret : ∀ b : Bool, (!b8 && t8.isEmpty) = b → Ending.returned (.tuple #[qVal id bits 1 0 0 1 q nm k' c' true z ve, .bool b]) = .returned (.tuple #[qVal id bits 1 0 0 1 ((m.drop 12).take ((m.drop 12).length - s3.length)) (nameP ls) k' c' true z ve, .bool (!b8 && t8.isEmpty)]) := fun b hb => by
    rw [unhide HQE, unhide HNM, hb]
  have RET := hide ret
  clear ret HQE HNM
  have HBS := hide fun (W : World) (hW : Below w.heap.size w W) (o : Nat) (v : Value) => hW.setCell (p := ⟨w.heap.size + 1, o, none⟩) (by show w.heap.size ≤ w.heap.size + 1; omega) v
  cases b8
  · cases t8 with
    | nil =>
      have e1 : B [] = ⟨#[]⟩ := rfl
      rw [e1] at r0
      go_region
      all_goals
        go_wp2
        refine bodyPost_ret (v := .tuple #[qVal id bits 1 0 0 1 q nm k' c' true z ve, .bool true]) (by simp [results, Tryz.results72, go_sem, qVal, d0, d1, d2, d3, d4, d5, d6, d7, d8, d9, d10, d11, d12]) rfl ⟨unhide RET true rfl, ?_⟩
        first | exact (unhide HBS _ (unhide HBS _ (unhide HBS _ (unhide HBS _ (unhide HBS _ (unhide HBS _ (unhide HBS _ (unhide HBS _ (unhide HBS _ (unhide HBS _ (unhide HBS _ (unhide HBS _ (unhide HBS _ (unhide HB1) _ _) _ _) _ _) _ _) _ _) _ _) _ _) _ _) _ _) _ _) _ _) _ _) _ _).drew | exact (unhide HBS _ (unhide HBS _ (unhide HBS _ (unhide HBS _ (unhide HBS _ (unhide HBS _ (unhide HBS _ (unhide HBS _ (unhide HBS _ (unhide HBS _ (unhide HBS _ (unhide HBS _ (unhide HBS _ (unhide HB1).drew _ _) _ _) _ _) _ _) _ _) _ _) _ _) _ _) _ _) _ _) _ _) _ _) _ _)
    | cons x t =>
      have e1 : ((B (x :: t)).toList == (⟨#[]⟩ : ByteArray).toList) = false := by rw [Kd.str_eq]; rfl
      have e2 : (B (x :: t)).toList.isEmpty = false := by rw [ByteArray.toList_eq]; rfl
      have e3 : ¬ (B (x :: t)).size = 0 := by rw [size_B]; simp
      generalize B (x :: t) = bt at *
      go_region
      all_goals
        go_wp2
        refine bodyPost_ret (v := .tuple #[qVal id bits 1 0 0 1 q nm k' c' true z ve, .bool false]) (by simp [results, Tryz.results72, go_sem, qVal, d0, d1, d2, d3, d4, d5, d6, d7, d8, d9, d10, d11, d12]) rfl ⟨unhide RET false rfl, ?_⟩
        first | exact (unhide HBS _ (unhide HBS _ (unhide HBS _ (unhide HBS _ (unhide HBS _ (unhide HBS _ (unhide HBS _ (unhide HBS _ (unhide HBS _ (unhide HBS _ (unhide HBS _ (unhide HBS _ (unhide HBS _ (unhide HB1) _ _) _ _) _ _) _ _) _ _) _ _) _ _) _ _) _ _) _ _) _ _) _ _) _ _).drew | exact (unhide HBS _ (unhide HBS _ (unhide HBS _ (unhide HBS _ (unhide HBS _ (unhide HBS _ (unhide HBS _ (unhide HBS _ (unhide HBS _ (unhide HBS _ (unhide HBS _ (unhide HBS _ (unhide HBS _ (unhide HB1).drew _ _) _ _) _ _) _ _) _ _) _ _) _ _) _ _) _ _) _ _) _ _) _ _) _ _)
  · go_region
    all_goals
      go_wp2
      refine bodyPost_ret (v := .tuple #[qVal id bits 1 0 0 1 q nm k' c' true z ve, .bool false]) (by simp [results, Tryz.results72, go_sem, qVal, d0, d1, d2, d3, d4, d5, d6, d7, d8, d9, d10, d11, d12]) rfl ⟨unhide RET false rfl, ?_⟩
      first | exact (unhide HBS _ (unhide HBS _ (unhide HBS _ (unhide HBS _ (unhide HBS _ (unhide HBS _ (unhide HBS _ (unhide HBS _ (unhide HBS _ (unhide HBS _ (unhide HBS _ (unhide HBS _ (unhide HBS _ (unhide HB1) _ _) _ _) _ _) _ _) _ _) _ _) _ _) _ _) _ _) _ _) _ _) _ _) _ _).drew | exact (unhide HBS _ (unhide HBS _ (unhide HBS _ (unhide HBS _ (unhide HBS _ (unhide HBS _ (unhide HBS _ (unhide HBS _ (unhide HBS _ (unhide HBS _ (unhide HBS _ (unhide HBS _ (unhide HBS _ (unhide HB1).drew _ _) _ _) _ _) _ _) _ _) _ _) _ _) _ _) _ _) _ _) _ _) _ _) _ _)
end Mk
end Go.Proofs.YtkkpahmoljiepaaGreatDoor

/- Contract: (query).answer of a plain search, with an OPT. -/
namespace Go.Proofs.YtkkpahmoljiepaaGreatDoor
open Go.RowKit
open Pu (Str hide unhide)

namespace Ml
open Ka Kd Rf Rg Ia Iow Ie Zb Zc Za La Lb Re Lc Le Lf Lg Lh Li Ld Lj Wg Wh Wx

set_option maxRecDepth 100000 in
set_option maxHeartbeats 1600000 in
theorem qanswer_opt (zb b off cap : Nat) (k : Int) (o n q : Str) (h0 h1 h2 h3 h4 h5 : Int) (sz : Int) (rs : List Rec) (w : World) (hz : TableAt w zb o b off cap rs) (hg : G w) (hp : Plain o n rs k) (hk1 : (k != 0) = true) (hk2 : (k != 41) = true) (hk3 : k < 249) :
    Calls Tryz.prog 74 #[qVal h0 h1 h2 h3 h4 h5 q n k 1 true sz 0, .pointer (some ⟨zb, 0, none⟩)] w fun e w' =>
      (∃ va vb, e = .returned (.agg #[.int .i64 (stepRc o rs n), .bool (decide ((cutP o rs n).length = 0)), va, vb, .slice none 0 0]) ∧ OwnR w' w.heap.size va (stepAns o rs k n) ∧ OwnR w' w.heap.size vb (stepAuth o rs k n)) ∧ Below w.heap.size w w' := by
  have HA := hide (fun W (hb : Below w.heap.size w W) => answer_plain zb b off cap k o n rs W (hz.below hb) (hg.below hb) hp)
  have HK : Hid (∀ W : World, Calls Tryz.prog 140 #[.int .i64 k] W fun e w' => e = .returned (.bool true) ∧ w' = W) := fun W => isAskable_yes k W hk1 hk2 hk3
  have hb1 : Below w.heap.size w ((w.alloc (.cells #[.int .i64 h0, .int .i64 h1, .int .i64 h2, .int .i64 h3, .int .i64 h4, .int .i64 h5, .string (B q), .string (B n), .int .i64 k, .int .i64 1, .bool true, .int .i64 sz, .int .i64 0] 137)).alloc (.cells #[.int .i64 0, .bool false, .slice none 0 0, .slice none 0 0, .slice none 0 0] 43)) := ((Below.refl _ _).alloc (Nat.le_refl _) _).alloc (by simp) _
  have HB1 := hide hb1
  clear hz hg hp hk1 hk2 hk3 hb1
  unfold qVal
  go_enter Tryz.func74, Tryz.ntmps74
  go_wp2_with fail
  refine (unhide HK _).mono ?_
  rintro e w1 ⟨rfl, hw1⟩
  have hB1 : Below w.heap.size w w1 := by rw [hw1]; exact unhide HB1
  have r1 : AnsAt w1 (w.heap.size + 1) (.int .i64 0) (.bool false) (.slice none 0 0) (.slice none 0 0) (.slice none 0 0) := by
    rw [hw1]
    have := World.alloc_heap_new (w.alloc (.cells #[.int .i64 h0, .int .i64 h1, .int .i64 h2, .int .i64 h3, .int .i64 h4, .int .i64 h5, .string (B q), .string (B n), .int .i64 k, .int .i64 1, .bool true, .int .i64 sz, .int .i64 0] 137)) (.cells #[.int .i64 0, .bool false, .slice none 0 0, .slice none 0 0, .slice none 0 0] 43)
    simpa [AnsAt] using this
  have hq : w1.cell? ⟨w.heap.size, 7, none⟩ = some (.string (B n)) ∧ w1.cell? ⟨w.heap.size, 8, none⟩ = some (.int .i64 k) := by
    rw [hw1]; constructor <;> go_simp
  obtain ⟨q7, q8⟩ := hq
  have rl := (Array.getElem?_eq_some_iff.1 r1).1
  clear hw1 HK HB1
  go_wp2_with fail
  refine (unhide HA w1 hB1).mono ?_
  rintro e w7 ⟨⟨va, vb, rfl, hva, hvb⟩, hb7⟩
  have r7 : AnsAt w7 (w.heap.size + 1) (.int .i64 0) (.bool false) (.slice none 0 0) (.slice none 0 0) (.slice none 0 0) := (hb7.block (w.heap.size + 1) rl).trans r1
  obtain ⟨aa, ca, rfl⟩ := hva.slice
  obtain ⟨ab, cb', rfl⟩ := hvb.slice
  obtain ⟨k0, k1, k2, k3, k4⟩ := AnsAt.cells r7
  have kf0 := AnsAt.frozen r7 0
  have kf1 := AnsAt.frozen r7 1
  have kf2 := AnsAt.frozen r7 2
  have kf3 := AnsAt.frozen r7 3
  have kf4 := AnsAt.frozen r7 4
  have hRV := hide (And.intro hva hvb)
  have R7 := hide r7
  clear hva hvb r1 r7
  obtain ⟨au, hau⟩ : ∃ au : Bool, au = decide ((cutP o rs n).length = 0) := ⟨_, rfl⟩
  rw [← hau]
  have HAU := hide hau
  clear hau
  go_wp2_with fail
  have A9 := (((((unhide R7).set0 (.int .i64 (stepRc o rs n))).set1 (.bool au)).set2 (.slice aa (stepAns o rs k n).length ca)).set3 (.slice ab (stepAuth o rs k n).length cb')).set4 (.slice none 0 0)
  obtain ⟨n0, n1, n2, n3, n4⟩ := A9.cells
  have hB7 := hB1.trans (hb7.mono hB1.size)
  have hs2 := hB1.size
  have hrvs := unhide hRV
  refine bodyPost_ret (v := .agg #[.int .i64 (stepRc o rs n), .bool au, .slice aa (stepAns o rs k n).length ca, .slice ab (stepAuth o rs k n).length cb', .slice none 0 0]) ?_ rfl ?_
  · simp [results, Tryz.results74, go_sem, n0, n1, n2, n3, n4]
  · refine ⟨⟨_, _, by rw [unhide HAU], ?_, ?_⟩, ?_⟩
    · exact (((((hrvs.1.set_low (k := w.heap.size + 1) (i := 0) (by omega) _).set_low (k := w.heap.size + 1) (i := 1) (by omega) _).set_low (k := w.heap.size + 1) (i := 2) (by omega) _).set_low (k := w.heap.size + 1) (i := 3) (by omega) _).set_low (k := w.heap.size + 1) (i := 4) (by omega) _).base (by omega)
    · exact (((((hrvs.2.set_low (k := w.heap.size + 1) (i := 0) (by omega) _).set_low (k := w.heap.size + 1) (i := 1) (by omega) _).set_low (k := w.heap.size + 1) (i := 2) (by omega) _).set_low (k := w.heap.size + 1) (i := 3) (by omega) _).set_low (k := w.heap.size + 1) (i := 4) (by omega) _).base (by omega)
    · exact ((((hB7.setCell (p := ⟨w.heap.size + 1, 0, none⟩) (by show w.heap.size ≤ w.heap.size + 1; omega) _).setCell (p := ⟨w.heap.size + 1, 1, none⟩) (by show w.heap.size ≤ w.heap.size + 1; omega) _).setCell (p := ⟨w.heap.size + 1, 2, none⟩) (by show w.heap.size ≤ w.heap.size + 1; omega) _).setCell (p := ⟨w.heap.size + 1, 3, none⟩) (by show w.heap.size ≤ w.heap.size + 1; omega) _).setCell (p := ⟨w.heap.size + 1, 4, none⟩) (by show w.heap.size ≤ w.heap.size + 1; omega) _
end Ml
end Go.Proofs.YtkkpahmoljiepaaGreatDoor
