/- The statement's function: beaconkeep.Told. -/
import Derived.Test.YtkkpahmoljiepaaGreatDoorJ27
import Derived.Test.YtkkpahmoljiepaaGreatDoorJ21
import Derived.Test.YtkkpahmoljiepaaGreatDoorJ22
set_option linter.unusedSimpArgs false
set_option linter.unusedVariables false
namespace Go.Proofs.YtkkpahmoljiepaaGreatDoor
open Go.RowKit
open Pu (Str hide unhide)

namespace Xd
open Ka Kc Kd Wa Wb Wd We Wi Wl Wm Lc Lj Va Vb Vc Vd Xb Xc
open Ta (headS zz)

theorem pick_nat (c : Int) (m : Nat) (hm : 0 < m) : ∃ k : Nat, Pu.pick c m = k ∧ k < m := by
  have h : 0 ≤ Pu.pick c m ∧ Pu.pick c m < m := by
    unfold Pu.pick
    split
    · exact ⟨Int.emod_nonneg _ (by omega), Int.emod_lt_of_pos _ (by omega)⟩
    · exact ⟨Int.emod_nonneg _ (by omega), Int.emod_lt_of_pos _ (by omega)⟩
  exact ⟨(Pu.pick c m).toNat, by omega, by omega⟩

theorem fit0 : Fit zz recs0 := by
  refine ⟨by decide, by decide, ?_⟩
  intro r hr
  simp only [recs0, List.mem_cons, List.mem_nil_iff, or_false] at hr
  rcases hr with rfl | rfl | rfl | rfl | rfl <;> decide

set_option maxRecDepth 100000 in
set_option maxHeartbeats 800000 in
theorem made_told (s : ByteArray) (hd : s.data.toList = linesT) (w : World) (hg : G w) :
    Calls Tryz.prog 22 #[.string s] w fun e w' => ∃ zb g cap, e = .returned (.pointer (some ⟨zb, 0, none⟩)) ∧ TableAt w' zb zz g 0 cap recs ∧ Below w.heap.size w w' := by
  have hss : s.size = 57 := by rw [← Pu.len_eq, hd]; decide
  obtain ⟨hB, hhB⟩ : ∃ hB : ByteArray, hB = ⟨headS.toArray⟩ := ⟨_, rfl⟩
  have hhs : hB.size = 49 := by rw [hhB]; rfl
  have e1 : (hB ++ s).data.toList = headS ++ linesT := by rw [hhB, ← hd]; simp
  have e2 : (hB ++ s ++ ⟨#[10]⟩).data.toList = headS ++ linesT ++ [10] := by
    rw [show (hB ++ s ++ ⟨#[10]⟩ : ByteArray).data.toList = (hB ++ s).data.toList ++ [10] by simp, e1]
  have HP1 := hide (Pa.parse_any (hB ++ s) w hg (by simp; omega) (by
    rw [e1, read1]
    rintro o rs ⟨⟩
    exact ⟨by decide, fit0⟩))
  have HP2 := hide (fun W (hb : Below w.heap.size w W) => Pa.parse_any (hB ++ s ++ ⟨#[10]⟩) W (hg.below hb) (by have h1 : (⟨#[10]⟩ : ByteArray).size = 1 := rfl; simp; omega) (by
    rw [e2, read2]
    rintro o rs ⟨⟩))
  rw [e1, parse1] at HP1
  rw [e2, parse2] at HP2
  clear e1 e2 hd hg
  have hhd : (⟨#[111, 114, 105, 103, 105, 110, 32, 122, 122, 10, 122, 122, 32, 53, 48, 32, 83, 79, 65, 32, 97, 46, 122, 122, 32, 98, 46, 122, 122, 32, 57, 32, 52, 48, 10, 122, 122, 32, 53, 48, 32, 78, 83, 32, 97, 46, 122, 122, 10]⟩ : ByteArray) = hB := by rw [hhB]; rfl
  clear hhB
  go_enter Tryz.func22, Tryz.ntmps22
  go_wp2_with fail
  refine (unhide HP1).mono ?_
  rintro e w1 ⟨⟨zb, g, cap, rfl, hzb, hgb, ht1⟩, hb1⟩
  have HT1 := hide ht1
  clear ht1
  go_wp2_with fail
  refine (unhide HP2 w1 hb1).mono ?_
  rintro e w2 ⟨he, hb2⟩
  obtain rfl : e = .returned (.tuple #[.pointer none, .int .i64 1]) := he
  go_wp2_with fail
  go_ret
  exact ⟨zb, g, cap, rfl, (unhide HT1).below hb2, hb1.trans (hb2.mono hb1.size)⟩

theorem host_d (n : Nat) (w : World) (hn : n < 10) : Calls Tryz.prog 25 #[.int .i64 n] w fun e w' => e = .returned (.string (B [104, dg n])) ∧ Below w.heap.size w w' := by
  refine (host_any n w (by omega)).mono ?_
  rintro e w' ⟨rfl, hb⟩
  rw [digK n hn]
  exact ⟨rfl, hb⟩
theorem isK_dg (n : Nat) (h0 : 0 < n) (h1 : n < 4) : IsK (dg n) := by
  match n, h0, h1 with
  | 1, _, _ => exact .inl rfl
  | 2, _, _ => exact .inr (.inl rfl)
  | 3, _, _ => exact .inr (.inr rfl)
  | n + 4, _, h => omega
theorem capd_two {a b : UInt8} {t : Str} (h : Capd [a, b] t) : t.length = 2 ∧ ∃ c e, t = [c, e] ∧ (c = a ∨ (97 ≤ a.toNat ∧ a.toNat ≤ 122 ∧ c = UInt8.ofNat (a.toNat - 32))) ∧ (e = b ∨ (97 ≤ b.toNat ∧ b.toNat ≤ 122 ∧ e = UInt8.ofNat (b.toNat - 32))) := by
  have hl : t.length = 2 := h.1
  obtain ⟨c, e, rfl⟩ := two_of hl
  exact ⟨hl, c, e, rfl, h.2 0 (by simp) (by simp), h.2 1 (by simp) (by simp)⟩
theorem fold_h {n : Nat} {t : Str} (h0 : 0 < n) (h1 : n < 4) (h : Capd [104, dg n] t) : t.length = 2 ∧ foldL t = [104, dg n] := by
  obtain ⟨hl, c, e, rfl, hc, he⟩ := capd_two h
  refine ⟨hl, ?_⟩
  have he' : e = dg n := by
    rcases he with he | ⟨h2, _, _⟩
    · exact he
    · rcases isK_dg n h0 h1 with h | h | h <;> (rw [h] at h2; exact absurd h2 (by decide))
  subst he'
  rcases hc with rfl | ⟨_, _, rfl⟩ <;> rcases isK_dg n h0 h1 with h | h | h <;> (rw [h]; rfl)
theorem fold_z {t : Str} (h : Capd [122, 122] t) : t.length = 2 ∧ foldL t = [122, 122] := by
  obtain ⟨hl, c, e, rfl, hc, he⟩ := capd_two h
  refine ⟨hl, ?_⟩
  rcases hc with rfl | ⟨_, _, rfl⟩ <;> rcases he with rfl | ⟨_, _, rfl⟩ <;> rfl

theorem c4_run {W : World} {blk n : Nat} (hn : n < 4) (h : W.heap[blk]? = some (.cells #[.int .u8 10, .int .u8 0, .int .u8 n, .int .u8 7] 5)) : (convert 58 9 (.slice (some ⟨blk, 0, none⟩) 4 4)).run Tryz.prog W = .ok (.string ⟨#[10, 0, UInt8.ofNat n, 7]⟩) W := by
  have e : (n : Int) = ((UInt8.ofNat n).toNat : Int) := by rw [UInt8.toNat_ofNat']; omega
  rw [e] at h
  exact own_string (base := 0) (l := [10, 0, UInt8.ofNat n, 7]) ⟨by simp, .inr ⟨blk, 4, #[.int .u8 10, .int .u8 0, .int .u8 (UInt8.ofNat n).toNat, .int .u8 7], rfl, Nat.zero_le _, h, Nat.le_refl _, by simp [maxLen], by simp, by simp⟩⟩
set_option maxRecDepth 100000 in
set_option maxHeartbeats 3200000 in
theorem told_any (id raw k : Int) (w : World) (hg : G w) (h1 : -9223372036854775808 ≤ id) (h2 : id ≤ 9223372036854775807) (h3 : -9223372036854775808 ≤ k) (h4 : k ≤ 9223372036854775807) :
    Calls Tryz.prog 7 #[.int .i64 id, .int .i64 raw, .int .i64 k] w fun e w' => e = .returned (.bool true) ∧ Below w.heap.size w w' := by
  have HG := hide hg
  clear hg
  obtain ⟨i, hi, hil⟩ := pick_nat id 65536 (by decide)
  obtain ⟨kk, hk, hkl⟩ := pick_nat k 3 (by decide)
  have HI := hide (fun W => pick_any id 65536 W h1 h2 (by decide) (by decide))
  have HK := hide (fun W => pick_any k 3 W h3 h4 (by decide) (by decide))
  have hi' : Pu.pick id 65536 = i := hi
  have hk' : Pu.pick k 3 = kk := hk
  rw [hi'] at HI
  rw [hk'] at HK
  clear hi hk hi' hk'
  have HL1 : Hid (∀ W, Calls Tryz.prog 23 #[.int .i64 1] W fun e w' => e = .returned (.string (B (lineS 49))) ∧ Below W.heap.size W w') := fun W => line_any 1 W (by omega) (by omega)
  have HL2 : Hid (∀ W, Calls Tryz.prog 23 #[.int .i64 2] W fun e w' => e = .returned (.string (B (lineS 50))) ∧ Below W.heap.size W w') := fun W => line_any 2 W (by omega) (by omega)
  have HL3 : Hid (∀ W, Calls Tryz.prog 23 #[.int .i64 3] W fun e w' => e = .returned (.string (B (lineS 51))) ∧ Below W.heap.size W w') := fun W => line_any 3 W (by omega) (by omega)
  have z1 : (B (lineS 49)).size = 19 := rfl
  have z2 : (B (lineS 50)).size = 19 := rfl
  have z3 : (B (lineS 51)).size = 19 := rfl
  have hM : (B (lineS 49) ++ B (lineS 50) ++ B (lineS 51)).data.toList = linesT := by simp [B, linesT]
  have HM := hide (made_told _ hM)
  clear hM
  go_enter Tryz.func7, Tryz.ntmps7
  go_wp2_with fail
  refine (unhide HL1 _).mono ?_
  rintro e w1 ⟨rfl, hb1⟩
  generalize B (lineS 49) = L1 at *
  go_wp2_with fail
  refine (unhide HL2 _).mono ?_
  rintro e w2 ⟨rfl, hb2⟩
  generalize B (lineS 50) = L2 at *
  go_wp2_with fail
  refine (unhide HL3 _).mono ?_
  rintro e w3 ⟨rfl, hb3⟩
  generalize B (lineS 51) = L3 at *
  have hB3 : Below w.heap.size w w3 := (hb1.trans (hb2.mono hb1.size)).trans (hb3.mono (Nat.le_trans hb1.size hb2.size))
  clear hb1 hb2 hb3
  go_wp2_with fail
  refine (unhide HM w3 ((unhide HG).below hB3)).mono ?_
  rintro e w4 ⟨zb, g, cap, rfl, hz4, hb4⟩
  have hB4 : Below w.heap.size w w4 := hB3.trans (hb4.mono hB3.size)
  have HZ := hide (fun W (hb : Below w4.heap.size w4 W) => And.intro (hz4.below hb) (((unhide HG).below hB4).below hb))
  have HB4 := hide hB4
  clear hB3 hb4 hz4 hB4 HM HL1 HL2 HL3 z1 z2 z3 HG
  go_wp2_with fail
  refine (unhide HK w4).mono ?_
  rintro e w4 ⟨rfl, rfl⟩
  obtain ⟨n, hn⟩ : ∃ n : Nat, n = 1 + kk := ⟨_, rfl⟩
  have hnI : (1 : Int) + (kk : Int) = (n : Int) := by omega
  have n0 : 0 < n := by omega
  have n4 : n < 4 := by omega
  have HH := hide (host_d n w4 (by omega))
  clear hn HK hkl
  go_wp2_with fail
  refine (unhide HH).mono ?_
  rintro e w5 ⟨rfl, hb5⟩
  have HC0 := hide (capital_any [104, dg n] raw w5 (by simp))
  go_wp2_with fail
  refine (unhide HC0).mono ?_
  rintro e w6 ⟨⟨t0, rfl, hc0⟩, hb6⟩
  obtain ⟨l0, f0⟩ := fold_h n0 n4 hc0
  have hB6 : Below w4.heap.size w4 w6 := hb5.trans (hb6.mono hb5.size)
  clear hc0 HC0 HH hb5 hb6
  have HC1 : Hid (∀ r W, Calls Tryz.prog 30 #[.string ⟨#[122, 122]⟩, .int .i64 r] W fun e w' => (∃ t, e = .returned (.string (B t)) ∧ Capd [122, 122] t) ∧ Below W.heap.size W w') := fun r W => capital_any [122, 122] r W (by simp)
  have HF0 := hide f0
  clear f0
  go_wp2_with fail
  refine (unhide HC1 _ _).mono ?_
  rintro e w7 ⟨⟨t1, rfl, hc1⟩, hb7⟩
  obtain ⟨l1, f1⟩ := fold_z hc1
  have hB7 : Below w4.heap.size w4 w7 := hB6.trans (hb7.mono hB6.size)
  have HF1 := hide f1
  have HQ : Hid (Calls Tryz.prog 29 #[.slice (some ⟨w7.heap.size, 0, none⟩) 2 2, .int .i64 1] (w7.alloc (.cells #[.string (B t0), .string (B t1)] 9)) fun e w' => e = .returned (.string (B (quest t0 t1 1))) ∧ Below (w7.alloc (.cells #[.string (B t0), .string (B t1)] 9)).heap.size (w7.alloc (.cells #[.string (B t0), .string (B t1)] 9)) w') :=
    question_two w7.heap.size 1 t0 t1 (w7.alloc (.cells #[.string (B t0), .string (B t1)] 9)) (by unfold World.cell?; rw [World.alloc_heap_new]; rfl) (by unfold World.cell?; rw [World.alloc_heap_new]; rfl) (by omega) (by omega) (by omega)
  clear f1 hc1 hb7 hB6 HC1
  go_wp2_with fail
  refine (unhide HQ).mono ?_
  rintro e w8 ⟨rfl, hb8⟩
  have hB8 : Below w4.heap.size w4 w8 := (hB7.alloc hB7.size _).trans (hb8.mono (by have := hB7.size; simp; omega))
  have hql : (quest t0 t1 1).length = 11 := by obtain ⟨a, b, rfl⟩ := two_of l0; obtain ⟨c, e, rfl⟩ := two_of l1; rfl
  have HRT := hide (fun W (hb : Below w4.heap.size w4 W) => reply_told zb g cap i (dg n) (isK_dg n n0 n4) t0 t1 l0 l1 (unhide HF0) (unhide HF1) hil W (unhide HZ W hb).1 (unhide HZ W hb).2)
  clear hb8 hB7 HQ l0 l1 HF0 HF1 HZ
  generalize quest t0 t1 1 = qs at *
  have hB8' := hide hB8
  have hs8 := hB8.size
  clear hB8
  go_wp2_with fail
  refine (unhide HI w8).mono ?_
  rintro e w8 ⟨rfl, rfl⟩
  have HQY := hide (query_plain i qs w8 hil (by omega))
  clear HI
  go_wp2_with fail
  refine (unhide HQY).mono ?_
  rintro e w9 ⟨rfl, hb9⟩
  have hB9 : Below w4.heap.size w4 w9 := (unhide hB8').trans (hb9.mono hs8)
  have HRE := hide (unhide HRT w9 hB9)
  clear hb9 HQY HRT hB8'
  have hs9 := hB9.size
  have HB9 := hide hB9
  clear hB9
  go_wp2_with fail
  refine (unhide HRE).mono ?_
  rintro e w10 ⟨rfl, hb10⟩
  have hB10 : Below w4.heap.size w4 w10 := (unhide HB9).trans (hb10.mono hs9)
  have HB10 := hide hB10
  have hs10 := hB10.size
  have HAD := hide (address_any n w10 (by omega))
  clear hb10 hB10 HRE HB9
  go_wp2_with fail
  refine (unhide HAD).mono ?_
  rintro e w11 ⟨rfl, had, hsz, hb11⟩
  obtain ⟨ab, hab⟩ : ∃ ab, ab = w10.heap.size := ⟨_, rfl⟩
  rw [← hab] at had ⊢
  have HB11 : Hid (Below w4.heap.size w4 w11) := (unhide HB10).trans (hb11.mono hs10)
  clear hab hsz hb11 HAD HB10
  have hS : w11.drew.cell? ⟨ab, 0, none⟩ = some (.int .i64 10) ∧ w11.drew.cell? ⟨ab, 1, none⟩ = some (.int .i64 0) ∧ w11.drew.cell? ⟨ab, 2, none⟩ = some (.int .i64 n) ∧ w11.drew.cell? ⟨ab, 3, none⟩ = some (.int .i64 7) := had.cells
  obtain ⟨ad0, ad1, ad2, ad3⟩ := had.cells
  have KS : Hid (∀ W' : World, Below w11.heap.size w11 W' → (W'.cell? ⟨ab, 0, none⟩ = some (.int .i64 10) ∧ W'.cell? ⟨ab, 1, none⟩ = some (.int .i64 0) ∧ W'.cell? ⟨ab, 2, none⟩ = some (.int .i64 n) ∧ W'.cell? ⟨ab, 3, none⟩ = some (.int .i64 7))) := fun W' hb => by
    have kp : ∀ (a : Addr) (v : Value), w11.cell? a = some v → W'.cell? a = some v := fun a v h => (hb.cell (World.block_lt_of_cell? w11 a h)).trans h
    exact ⟨kp _ _ ad0, kp _ _ ad1, kp _ _ ad2, kp _ _ ad3⟩
  have x10 : IntKind.u8.wrap 10 = 10 := by decide
  have x00 : IntKind.u8.wrap 0 = 0 := by decide
  have x07 : IntKind.u8.wrap 7 = 7 := by decide
  have HTI := hide (fun W => two_exact i W hil)
  have HTN := hide (fun W => two_exact n W (by omega))
  have kXY : (convert 58 9 (.slice (some ⟨w11.heap.size, 0, none⟩) 4 4)).run Tryz.prog (w11.alloc (.cells #[.int .u8 10, .int .u8 0, .int .u8 n, .int .u8 7] 5)).drew = .ok (.string ⟨#[10, 0, UInt8.ofNat n, 7]⟩) (w11.alloc (.cells #[.int .u8 10, .int .u8 0, .int .u8 n, .int .u8 7] 5)).drew := c4_run n4 (W := (w11.alloc (.cells #[.int .u8 10, .int .u8 0, .int .u8 n, .int .u8 7] 5)).drew) (World.alloc_heap_new w11 _)
  have kXAY : (convert 58 9 (.slice (some ⟨w11.heap.size, 0, none⟩) 4 4)).run Tryz.prog ((w11.alloc (.cells #[.int .u8 10, .int .u8 0, .int .u8 n, .int .u8 7] 5)).alloc (.cells #[.int .u8 ((i : Int) / 256), .int .u8 ((i : Int) % 256)] 5)).drew = .ok (.string ⟨#[10, 0, UInt8.ofNat n, 7]⟩) ((w11.alloc (.cells #[.int .u8 10, .int .u8 0, .int .u8 n, .int .u8 7] 5)).alloc (.cells #[.int .u8 ((i : Int) / 256), .int .u8 ((i : Int) % 256)] 5)).drew := c4_run n4 (W := ((w11.alloc (.cells #[.int .u8 10, .int .u8 0, .int .u8 n, .int .u8 7] 5)).alloc (.cells #[.int .u8 ((i : Int) / 256), .int .u8 ((i : Int) % 256)] 5)).drew) ((Below.heap_alloc _ _ _ (by simp <;> omega)).trans (World.alloc_heap_new w11 _))
  have kXABY : (convert 58 9 (.slice (some ⟨w11.heap.size, 0, none⟩) 4 4)).run Tryz.prog (((w11.alloc (.cells #[.int .u8 10, .int .u8 0, .int .u8 n, .int .u8 7] 5)).alloc (.cells #[.int .u8 ((i : Int) / 256), .int .u8 ((i : Int) % 256)] 5)).alloc (.cells #[.int .u8 ((n : Int) / 256), .int .u8 ((n : Int) % 256)] 5)).drew = .ok (.string ⟨#[10, 0, UInt8.ofNat n, 7]⟩) (((w11.alloc (.cells #[.int .u8 10, .int .u8 0, .int .u8 n, .int .u8 7] 5)).alloc (.cells #[.int .u8 ((i : Int) / 256), .int .u8 ((i : Int) % 256)] 5)).alloc (.cells #[.int .u8 ((n : Int) / 256), .int .u8 ((n : Int) % 256)] 5)).drew := c4_run n4 (W := (((w11.alloc (.cells #[.int .u8 10, .int .u8 0, .int .u8 n, .int .u8 7] 5)).alloc (.cells #[.int .u8 ((i : Int) / 256), .int .u8 ((i : Int) % 256)] 5)).alloc (.cells #[.int .u8 ((n : Int) / 256), .int .u8 ((n : Int) % 256)] 5)).drew) ((Below.heap_alloc _ _ _ (by simp <;> omega)).trans ((Below.heap_alloc _ _ _ (by simp <;> omega)).trans (World.alloc_heap_new w11 _)))
  have kAXY : (convert 58 9 (.slice (some ⟨w11.heap.size + 1, 0, none⟩) 4 4)).run Tryz.prog ((w11.alloc (.cells #[.int .u8 ((i : Int) / 256), .int .u8 ((i : Int) % 256)] 5)).alloc (.cells #[.int .u8 10, .int .u8 0, .int .u8 n, .int .u8 7] 5)).drew = .ok (.string ⟨#[10, 0, UInt8.ofNat n, 7]⟩) ((w11.alloc (.cells #[.int .u8 ((i : Int) / 256), .int .u8 ((i : Int) % 256)] 5)).alloc (.cells #[.int .u8 10, .int .u8 0, .int .u8 n, .int .u8 7] 5)).drew := c4_run n4 (W := ((w11.alloc (.cells #[.int .u8 ((i : Int) / 256), .int .u8 ((i : Int) % 256)] 5)).alloc (.cells #[.int .u8 10, .int .u8 0, .int .u8 n, .int .u8 7] 5)).drew) (by have := World.alloc_heap_new (w11.alloc (.cells #[.int .u8 ((i : Int) / 256), .int .u8 ((i : Int) % 256)] 5)) (.cells #[.int .u8 10, .int .u8 0, .int .u8 n, .int .u8 7] 5); simp only [World.size_alloc] at this; exact this)
  have kAXBY : (convert 58 9 (.slice (some ⟨w11.heap.size + 1, 0, none⟩) 4 4)).run Tryz.prog (((w11.alloc (.cells #[.int .u8 ((i : Int) / 256), .int .u8 ((i : Int) % 256)] 5)).alloc (.cells #[.int .u8 10, .int .u8 0, .int .u8 n, .int .u8 7] 5)).alloc (.cells #[.int .u8 ((n : Int) / 256), .int .u8 ((n : Int) % 256)] 5)).drew = .ok (.string ⟨#[10, 0, UInt8.ofNat n, 7]⟩) (((w11.alloc (.cells #[.int .u8 ((i : Int) / 256), .int .u8 ((i : Int) % 256)] 5)).alloc (.cells #[.int .u8 10, .int .u8 0, .int .u8 n, .int .u8 7] 5)).alloc (.cells #[.int .u8 ((n : Int) / 256), .int .u8 ((n : Int) % 256)] 5)).drew := c4_run n4 (W := (((w11.alloc (.cells #[.int .u8 ((i : Int) / 256), .int .u8 ((i : Int) % 256)] 5)).alloc (.cells #[.int .u8 10, .int .u8 0, .int .u8 n, .int .u8 7] 5)).alloc (.cells #[.int .u8 ((n : Int) / 256), .int .u8 ((n : Int) % 256)] 5)).drew) ((Below.heap_alloc _ _ _ (by simp <;> omega)).trans (by have := World.alloc_heap_new (w11.alloc (.cells #[.int .u8 ((i : Int) / 256), .int .u8 ((i : Int) % 256)] 5)) (.cells #[.int .u8 10, .int .u8 0, .int .u8 n, .int .u8 7] 5); simp only [World.size_alloc] at this; exact this))
  have kABXY : (convert 58 9 (.slice (some ⟨w11.heap.size + 1 + 1, 0, none⟩) 4 4)).run Tryz.prog (((w11.alloc (.cells #[.int .u8 ((i : Int) / 256), .int .u8 ((i : Int) % 256)] 5)).alloc (.cells #[.int .u8 ((n : Int) / 256), .int .u8 ((n : Int) % 256)] 5)).alloc (.cells #[.int .u8 10, .int .u8 0, .int .u8 n, .int .u8 7] 5)).drew = .ok (.string ⟨#[10, 0, UInt8.ofNat n, 7]⟩) (((w11.alloc (.cells #[.int .u8 ((i : Int) / 256), .int .u8 ((i : Int) % 256)] 5)).alloc (.cells #[.int .u8 ((n : Int) / 256), .int .u8 ((n : Int) % 256)] 5)).alloc (.cells #[.int .u8 10, .int .u8 0, .int .u8 n, .int .u8 7] 5)).drew := c4_run n4 (W := (((w11.alloc (.cells #[.int .u8 ((i : Int) / 256), .int .u8 ((i : Int) % 256)] 5)).alloc (.cells #[.int .u8 ((n : Int) / 256), .int .u8 ((n : Int) % 256)] 5)).alloc (.cells #[.int .u8 10, .int .u8 0, .int .u8 n, .int .u8 7] 5)).drew) (by have := World.alloc_heap_new ((w11.alloc (.cells #[.int .u8 ((i : Int) / 256), .int .u8 ((i : Int) % 256)] 5)).alloc (.cells #[.int .u8 ((n : Int) / 256), .int .u8 ((n : Int) % 256)] 5)) (.cells #[.int .u8 10, .int .u8 0, .int .u8 n, .int .u8 7] 5); simp only [World.size_alloc] at this; exact this)
  have xn : IntKind.u8.wrap (n : Int) = (n : Int) := by rw [IntKind.wrap_u8]; omega
  have sI : (B [hi i, lo i]).size = 2 := rfl
  have sN : (B [hi n, lo n]).size = 2 := rfl
  have sQ : (B qs).size = 11 := by rw [size_B]; exact hql
  obtain ⟨want, hwant⟩ : ∃ x, x = tellS i qs (dg n) := ⟨_, rfl⟩
  have HWA := hide hwant
  rw [← hwant]
  have HE : Hid (B [hi i, lo i] ++ ⟨#[133, 0, 0, 1, 0, 1, 0, 0, 0, 0]⟩ ++ B qs ++ ⟨#[192, 12, 0, 1, 0, 1, 0, 0]⟩ ++ B [hi n, lo n] ++ ⟨#[0, 4]⟩ ++ ⟨#[10, 0, UInt8.ofNat n, 7]⟩ = B want) := by
    have hn' : hi n = 0 ∧ lo n = dg n - 48 ∧ UInt8.ofNat n = dg n - 48 := by
      match n, n0, n4 with
      | 1, _, _ => decide
      | 2, _, _ => decide
      | 3, _, _ => decide
      | n + 4, _, h => omega
    rw [Hid, hwant, hn'.1, hn'.2.1, hn'.2.2]
    exact ba_ext (by simp [B, tellS])
  have HBW : Hid (Below w.heap.size w w11) := (unhide HB4).trans ((unhide HB11).mono (unhide HB4).size)
  have hsw := (unhide HBW).size
  clear had hwant
  go_wp2_with fail
  go_region_held (fun w' => w'.cell? ⟨ab, 0, none⟩ = some (.int .i64 10) ∧ w'.cell? ⟨ab, 1, none⟩ = some (.int .i64 0) ∧ w'.cell? ⟨ab, 2, none⟩ = some (.int .i64 n) ∧ w'.cell? ⟨ab, 3, none⟩ = some (.int .i64 7)) (first | assumption | exact unhide KS _ ((Below.refl _ _).alloc (Nat.le_refl _) _).drew | exact unhide KS _ (((Below.refl _ _).alloc (Nat.le_refl _) _).alloc (by simp) _).drew | exact unhide KS _ ((((Below.refl _ _).alloc (Nat.le_refl _) _).alloc (by simp) _).alloc (by simp <;> omega) _).drew)
    (first
      | (go_at_call_of 33 (Value.int IntKind.i64 (i : Int)); go_loud (refine (unhide HTI _).mono ?_; rintro e w' ⟨rfl, rfl⟩))
      | (go_at_call_of 33 (Value.int IntKind.i64 (n : Int)); go_loud (refine (unhide HTN _).mono ?_; rintro e w' ⟨rfl, rfl⟩)))
  all_goals
    rw [unhide HE]
    rename_i hH
    clear hH hS ad0 ad1 ad2 ad3 kXY kXAY kXABY kAXY kAXBY kABXY KS HTI HTN HE
    go_wp2_with fail
    go_ret
    exact ⟨by simp, ((((unhide HBW).alloc hsw _).alloc (by simp; omega) _).alloc (by simp; omega) _).drew⟩
end Xd
end Go.Proofs.YtkkpahmoljiepaaGreatDoor

/- A message in general: its bytes and its places; what octets, raw texts and learn do to it; placeOf. -/
namespace Go.Proofs.YtkkpahmoljiepaaGreatDoor
open Go.RowKit
open Pu (Str hide unhide)

/-- Every block but one that is older than the base, or is neither a row of bytes nor of places, lies as it lay. -/
structure TG (mb base : Nat) (w w' : World) : Prop where
  os : w'.os = w.os
  tape : w'.tape = w.tape
  output : w'.output = w.output
  size : w.heap.size ≤ w'.heap.size
  block : ∀ i, i < w.heap.size → i ≠ mb → (i < base ∨ ((∀ cur, w.heap[i]? ≠ some (.cells cur 5 (0, 0))) ∧ ∀ cur, w.heap[i]? ≠ some (.cells cur 343 (0, 0)))) → w'.heap[i]? = w.heap[i]?
section
variable {mb base : Nat} {A B C : World}
theorem TG.refl (mb base : Nat) (w : World) : TG mb base w w := ⟨rfl, rfl, rfl, Nat.le_refl _, fun _ _ _ _ => rfl⟩
theorem TG.trans (h : TG mb base A B) (k : TG mb base B C) : TG mb base A C :=
  ⟨k.os.trans h.os, k.tape.trans h.tape, k.output.trans h.output, Nat.le_trans h.size k.size, fun i hi hm hp => by
    have e := h.block i hi hm hp
    refine (k.block i (Nat.lt_of_lt_of_le hi h.size) hm ?_).trans e
    rw [e]; exact hp⟩
theorem TG.of_below (h : Below A.heap.size A B) : TG mb base A B := ⟨h.os, h.tape, h.output, h.size, fun i hi _ _ => h.block i hi⟩
theorem TG.of_tf (h : TF mb base A B) : TG mb base A B := ⟨h.os, h.tape, h.output, h.size, fun i hi hm hp => h.block i hi hm (hp.imp id And.left)⟩
theorem TG.low (h : TG mb base A B) {i : Nat} (hi : i < base) (hs : base ≤ A.heap.size) (hm : i ≠ mb) : B.heap[i]? = A.heap[i]? := h.block i (by omega) hm (.inl hi)
theorem TG.below (h : TG mb base A B) {n : Nat} (hn : n ≤ base) (hs : base ≤ A.heap.size) (hm : n ≤ mb) : Below n A B := ⟨h.os, h.tape, h.output, h.size, fun i hi => h.low (by omega) hs (by omega)⟩
theorem TG.keeps {w : World} {d : Nat} (h : TG mb base w A) (hk : It.Keeps d A B) (hd : w.heap.size ≤ d) : TG mb base w B :=
  ⟨hk.os.trans h.os, hk.tape.trans h.tape, hk.output.trans h.output, Nat.le_trans h.size hk.size, fun i hi hm hp => (hk.block i (Nat.lt_of_lt_of_le hi h.size) (by omega)).trans (h.block i hi hm hp)⟩
theorem G.tg {w w' : World} (h : G w) (ht : TG mb base w w') (hb : 0 < base) (hm : 0 < mb) : G w' := by
  obtain ⟨h0, m, hc⟩ := h
  exact ⟨Nat.lt_of_lt_of_le h0 ht.size, m, (World.cell?_of_block (ht.block 0 h0 (by omega) (.inl hb))).trans hc⟩
/-- a block of another kind. -/
theorem TG.box {w w' : World} (ht : TG mb base w w') {k : Nat} {cs : Array Value} {t : TypeId} (h : w.heap[k]? = some (.cells cs t)) (hm : k ≠ mb) (h1 : t ≠ 5) (h2 : t ≠ 343) : w'.heap[k]? = some (.cells cs t) :=
  (ht.block k (Array.getElem?_eq_some_iff.1 h).1 hm (.inr ⟨fun c hc => by rw [h] at hc; simp at hc; exact h1 hc.2, fun c hc => by rw [h] at hc; simp at hc; exact h2 hc.2⟩)).trans h
end

theorem no_cells {w : World} {d : Nat} {o : Obj} (h : w.heap[d]? = some o) (ho : ∀ cs t f, o ≠ .cells cs t f) : (∀ cur, w.heap[d]? ≠ some (.cells cur 5 (0, 0))) ∧ ∀ cur, w.heap[d]? ≠ some (.cells cur 343 (0, 0)) :=
  ⟨fun c hc => by rw [h] at hc; exact ho _ _ _ (Option.some.inj hc), fun c hc => by rw [h] at hc; exact ho _ _ _ (Option.some.inj hc)⟩
theorem TG.other {mb base : Nat} {w w' : World} (ht : TG mb base w w') {d : Nat} {o : Obj} (h : w.heap[d]? = some o) (hm : d ≠ mb) (ho : ∀ cs t f, o ≠ .cells cs t f) : w'.heap[d]? = w.heap[d]? :=
  ht.block d (Array.getElem?_eq_some_iff.1 h).1 hm (.inr (no_cells h ho))

abbrev Pl := List (Str × Nat)
/-- a message in memory, its rows in none of the blocks d. -/
def MsgN (w : World) (mb base d : Nat) (l : Str) (ps : Pl) : Prop := ∃ vb vp, MsgAt w mb vb vp ∧ OwnB w base vb l ∧ OwnP w base vp ps ∧ (∀ g, vb.ownBlock = some g → g ≠ d) ∧ ∀ g, vp.ownBlock = some g → g ≠ d
/-- a message in memory. -/
def Msg (w : World) (mb base : Nat) (l : Str) (ps : Pl) : Prop := ∃ vb vp, MsgAt w mb vb vp ∧ OwnB w base vb l ∧ OwnP w base vp ps

theorem own_kindP {W : World} {base g : Nat} {v : Value} {ps : Pl} (h : OwnP W base v ps) (hg : v.ownBlock = some g) : ∃ cur, W.heap[g]? = some (.cells cur 343 (0, 0)) := by
  obtain ⟨_, ⟨rfl, _⟩ | ⟨g', cap, cur, rfl, _, hcur, _⟩⟩ := h
  · simp [Value.ownBlock] at hg
  · simp only [Value.ownBlock, Option.some.injEq] at hg
    subst hg
    exact ⟨cur, hcur⟩
section
variable {w w' : World} {mb base d : Nat} {l : Str} {ps : Pl}
theorem MsgN.msg (h : MsgN w mb base d l ps) : Msg w mb base l ps := by
  obtain ⟨vb, vp, h1, h2, h3, _⟩ := h
  exact ⟨vb, vp, h1, h2, h3⟩
theorem Msg.lt (h : Msg w mb base l ps) : mb < w.heap.size := by
  obtain ⟨vb, vp, h1, _⟩ := h
  exact h1.lt
theorem Msg.away (h : Msg w mb base l ps) (hd : (∀ cur, w.heap[d]? ≠ some (.cells cur 5 (0, 0))) ∧ ∀ cur, w.heap[d]? ≠ some (.cells cur 343 (0, 0))) : MsgN w mb base d l ps := by
  obtain ⟨vb, vp, h1, h2, h3⟩ := h
  refine ⟨vb, vp, h1, h2, h3, fun g hg e => ?_, fun g hg e => ?_⟩
  · obtain ⟨cur, hcur⟩ := own_kindB h2 hg
    rw [e] at hcur; exact hd.1 cur hcur
  · obtain ⟨cur, hcur⟩ := own_kindP h3 hg
    rw [e] at hcur; exact hd.2 cur hcur
theorem Msg.new (h : Msg w mb base l ps) (hd : w.heap.size ≤ d) : MsgN w mb base d l ps := h.away ⟨fun cur hc => by have := (Array.getElem?_eq_some_iff.1 hc).1; omega, fun cur hc => by have := (Array.getElem?_eq_some_iff.1 hc).1; omega⟩
theorem Msg.below (h : Msg w mb base l ps) (hb : Below w.heap.size w w') : Msg w' mb base l ps := by
  obtain ⟨vb, vp, h1, h2, h3⟩ := h
  exact ⟨vb, vp, h1.kept (hb.block mb h1.lt), own_below h2 hb, own_below h3 hb⟩
theorem MsgN.keeps (h : MsgN w mb base d l ps) (hk : It.Keeps d w w') (hm : mb ≠ d) : MsgN w' mb base d l ps := by
  obtain ⟨vb, vp, h1, h2, h3, h4, h5⟩ := h
  exact ⟨vb, vp, h1.kept (hk.block mb h1.lt hm), own_kept h2 fun g hg => hk.block g (World.ownsRow.lt h2 g hg).2 (h4 g hg), own_kept h3 fun g hg => hk.block g (World.ownsRow.lt h3 g hg).2 (h5 g hg), h4, h5⟩
theorem MsgN.put (h : MsgN w mb base d l ps) (o : Obj) (hm : mb ≠ d) : Msg (w.putObj d o) mb base l ps := (h.keeps (It.Keeps.put (d := d) w d o) hm).msg
end

namespace Ma
open Ka Kd Rg Ia Wa Wb Wc Wd We Wf Wg Wh Wi Wj Wk Wl Wm Wn Wo Wp Ws Re
theorem own_tfP {w w' : World} {mb base : Nat} {vb vp : Value} {ps : Pl} (h : OwnP w base vp ps) (hm : MsgAt w mb vb vp) (ht : TF mb base w w') : OwnP w' base vp ps :=
  own_kept h fun g hg => by
    obtain ⟨cur, hcur⟩ := own_kindP h hg
    refine ht.block g (World.ownsRow.lt h g hg).2 (fun e => ?_) (.inr fun c hc => ?_)
    · rw [e, hm] at hcur; simp at hcur
    · rw [hcur] at hc; simp at hc

/-- a list of plain fields. -/
theorem put_m (mb base g cap : Nat) (fs : List Fd) (l : Str) (ps : Pl) (w : World) (hm : Msg w mb base l ps) (hbs : base ≤ w.heap.size)
    (hok : ∀ f ∈ fs, f.Ok) (hlt : g < w.heap.size) (hgm : g ≠ mb) (hkeep : g < base ∨ ∀ cur, w.heap[g]? ≠ some (.cells cur 5 (0, 0))) (hcells : ∀ j (h : j < fs.length), w.cell? ⟨g, j, none⟩ = some (.iface fs[j].t fs[j].x))
    (hn : fs.length ≤ cap) (hc : fs.length ≤ 1000000) (hl : l.length + (outs fs).length ≤ 1000000) :
    Calls Tryz.prog 139 #[.pointer (some ⟨mb, 0, none⟩), .slice (some ⟨g, 0, none⟩) fs.length cap] w fun e w' =>
      e = .returned (.tuple #[]) ∧ Msg w' mb base (l ++ outs fs) ps ∧ TG mb base w w' := by
  obtain ⟨vb, vp, h1, h2, h3⟩ := hm
  refine (put_any mb base g cap fs vb vp l w h1 h2 hbs hok hlt hgm hkeep hcells hn hc hl).mono ?_
  rintro e w' ⟨rfl, ⟨vb', k1, k2⟩, k3⟩
  exact ⟨rfl, ⟨vb', vp, k1, k2, own_tfP h3 h1 k3⟩, TG.of_tf k3⟩

/-- where an end was written. -/
def learnP (ps : Pl) (x : Str) (n : Nat) : Pl := if n < 16384 then ps ++ [(x, n)] else ps
theorem learnP_len (ps : Pl) (x : Str) (n : Nat) : (learnP ps x n).length ≤ ps.length + 1 := by unfold learnP; split <;> simp
theorem learnP_ge (ps : Pl) (x : Str) (n : Nat) : ps.length ≤ (learnP ps x n).length := by unfold learnP; split <;> simp

set_option maxHeartbeats 400000 in
theorem learn_skip (mb : Nat) (x : Str) (n : Nat) (w : World) (hn : ¬ n < 16384) (hn2 : n ≤ 1000000) :
    Calls Tryz.prog 202 #[.pointer (some ⟨mb, 0, none⟩), .string (B x), .int .i64 (n : Int)] w fun e w' => e = .returned (.tuple #[]) ∧ w' = w := by
  have hnI : ¬ (n : Int) < 16384 := by omega
  go_enter Tryz.func202, Tryz.ntmps202
  go_wp2
  refine bodyPost_end (v := .tuple #[]) (by simp [results, Tryz.results202]) rfl ?_
  exact ⟨rfl, rfl⟩

theorem learn_m (mb base : Nat) (x : Str) (n : Nat) (l : Str) (ps : Pl) (w : World) (hm : Msg w mb base l ps) (hbs : base ≤ w.heap.size) (hl : ps.length ≤ 1000) (hn : n ≤ 1000000) :
    Calls Tryz.prog 202 #[.pointer (some ⟨mb, 0, none⟩), .string (B x), .int .i64 (n : Int)] w fun e w' =>
      e = .returned (.tuple #[]) ∧ Msg w' mb base l (learnP ps x n) ∧ TG mb base w w' := by
  unfold learnP
  split
  · rename_i hlt
    obtain ⟨vb, vp, h1, h2, h3⟩ := hm
    refine (learn_w mb base x n vb vp ps w h1 h3 hbs hl hlt).mono ?_
    rintro e w' ⟨rfl, vp', k1, k2, _, k4⟩
    refine ⟨rfl, ⟨vb, vp', k1, own_kept h2 fun g hg => ?_, k2⟩, k4.os, k4.tape, k4.output, k4.size, fun i hi hmi hp => ?_⟩
    · obtain ⟨cur, hcur⟩ := own_kindB h2 hg
      refine k4.block g (World.ownsRow.lt h2 g hg).2 ⟨fun e => ?_, fun e => ?_⟩
      · rw [e, h1] at hcur; simp at hcur
      · obtain ⟨cur', hcur'⟩ := own_kindP h3 e.symm
        rw [hcur] at hcur'; simp at hcur'
    · refine k4.block i hi ⟨hmi, fun e => ?_⟩
      rcases hp with hp | hp
      · have := (World.ownsRow.lt h3 i e.symm).1; omega
      · obtain ⟨cur', hcur'⟩ := own_kindP h3 e.symm
        exact hp.2 cur' hcur'
  · rename_i hlt
    refine (learn_skip mb x n w hlt hn).mono ?_
    rintro e w' ⟨rfl, rfl⟩
    exact ⟨rfl, hm, TG.refl _ _ _⟩

/-- the first place of an end. -/
def findP : Pl → Str → Option Nat
  | [], _ => none
  | p :: t, x => if p.1 == x then some p.2 else findP t x
theorem findP_miss : ∀ (ps : Pl) (x : Str), findP ps x = none → ∀ j (h : j < ps.length), (ps[j].1 == x) = false
  | [], _, _, j, h => by simp at h
  | p :: t, x, hf, j, h => by
    unfold findP at hf
    split at hf
    · cases hf
    · rename_i hp
      match j, h with
      | 0, _ => simpa using hp
      | j + 1, h => exact findP_miss t x hf j (by simpa using h)
theorem findP_hit : ∀ (ps : Pl) (x : Str) (n : Nat), findP ps x = some n → ∃ j, ∃ h : j < ps.length, ps[j].2 = n ∧ ps[j].1 = x ∧ ∀ i (hi : i < j), (ps[i].1 == x) = false
  | [], _, _, hf => by cases hf
  | p :: t, x, n, hf => by
    unfold findP at hf
    split at hf
    · rename_i hp
      exact ⟨0, by simp, by simpa using hf, by simpa using hp, fun i hi => by omega⟩
    · rename_i hp
      obtain ⟨j, hj, h1, h2, h3⟩ := findP_hit t x n hf
      refine ⟨j + 1, by simpa using hj, by simpa using h1, by simpa using h2, fun i hi => ?_⟩
      match i, hi with
      | 0, _ => simpa using hp
      | i + 1, hi => simpa using h3 i (by omega)

set_option maxRecDepth 100000 in
set_option maxHeartbeats 800000 in
theorem placeOf_miss (mb base : Nat) (x : Str) (vb vp : Value) (ps : Pl) (w : World) (hm : MsgAt w mb vb vp) (ho : OwnP w base vp ps) (hb : ∀ j (h : j < ps.length), (ps[j].1 == x) = false) (hl : ps.length ≤ 1000) :
    Calls Tryz.prog 339 #[.pointer (some ⟨mb, 0, none⟩), .string (B x)] w fun e w' =>
      e = .returned (.tuple #[.int .i64 0, .bool false]) ∧ Below w.heap.size w w' := by
  by_cases hne : ps = []
  · subst hne
    obtain ⟨a, n, c, rfl⟩ := own_slice ho
    obtain rfl : n = 0 := by
      obtain ⟨_, ⟨e, hz⟩ | ⟨g', cap', cur', e, _⟩⟩ := ho
      · cases e; rfl
      · cases e; rfl
    have hc0 := hm.cells.2
    clear hm ho hb
    go_enter Tryz.func339, Tryz.ntmps339
    go_wp2_with fail
    refine wp_loop_rounds 1 ?_
    rw [rounds_succ]
    go_wp2_with fail
    go_ret2
    exact ⟨rfl, Below.refl _ _⟩
  obtain ⟨g, cap, rfl, hg, hcap, hcell⟩ := place_at ho hne
  have hc0 := hm.cells.2
  have HC := hide hcell
  have HB := hide hb
  clear hm ho hcell hb hne
  go_enter Tryz.func339, Tryz.ntmps339
  go_wp2_with fail
  go_loopw [13] (fun i wr => ∃ k : Nat, i = .int .i64 k ∧ k ≤ ps.length ∧ Below w.heap.size w wr) (fun i _ => ps.length - (intOf i).toNat)
  case atStart => exact ⟨0, rfl, Nat.zero_le _, Below.refl _ _⟩
  case round =>
    obtain ⟨k, rfl, hk, hbr⟩ := hrel
    have HBR := hide hbr
    have hs := hbr.size
    by_cases hkl : k < ps.length
    · have hkI : (k : Int) < (ps.length : Int) := by omega
      obtain ⟨c0, c1⟩ := unhide HC k hkl
      have d0 := (hbr.cell (p := ⟨g, k * 2, none⟩) hg).trans c0
      have d1 := (hbr.cell (p := ⟨g, k * 2 + 1, none⟩) hg).trans c1
      have hBB : ((B ps[k].1).toList == (B x).toList) = (ps[k].1 == x) := B_inj
      clear c0 c1 hbr
      rw [unhide HB k hkl] at hBB
      generalize ps[k].2 = pn at *
      generalize B ps[k].1 = pb at *
      go_wp2_with fail
      go_roundw
      case rel => exact ⟨k + 1, by go_num, by omega, (unhide HBR).alloc hs _⟩
      case measure => simp [intOf]; omega
    · obtain rfl : k = ps.length := by omega
      clear hbr
      go_wp2_with fail
      go_ret2
      exact ⟨rfl, unhide HBR⟩

theorem placeOf_any (mb base : Nat) (x : Str) (l : Str) (ps : Pl) (w : World) (hm : Msg w mb base l ps) (hl : ps.length ≤ 1000) :
    Calls Tryz.prog 339 #[.pointer (some ⟨mb, 0, none⟩), .string (B x)] w fun e w' =>
      e = .returned (.tuple #[.int .i64 ((findP ps x).getD 0 : Nat), .bool (findP ps x).isSome]) ∧ Below w.heap.size w w' := by
  obtain ⟨vb, vp, h1, h2, h3⟩ := hm
  cases hf : findP ps x with
  | none => exact placeOf_miss mb base x vb vp ps w h1 h3 (findP_miss ps x hf) hl
  | some n =>
    obtain ⟨j, hj, e1, e2, e3⟩ := findP_hit ps x n hf
    have := placeOf_hit mb base j x vb vp ps w h1 h3 hj e2 e3 hl
    rw [e1] at this
    exact this
end Ma
end Go.Proofs.YtkkpahmoljiepaaGreatDoor
