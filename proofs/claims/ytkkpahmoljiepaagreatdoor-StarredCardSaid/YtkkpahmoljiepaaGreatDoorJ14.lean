/- The names that Starred asks for; beaconkeep.made at its zone. -/
import Derived.Test.YtkkpahmoljiepaaGreatDoorJ13
import Derived.Test.YtkkpahmoljiepaaGreatDoorJ01
import Derived.WalkKit
import Derived.ProofKit
import Derived.OpenShut
import Derived.HandedShaped
import Derived.Lay
import Derived.Stop.Joined
import Derived.MakeChecks
import Derived.Shelf.Vars
set_option linter.unusedSimpArgs false
set_option linter.unusedVariables false
namespace Go.Proofs.YtkkpahmoljiepaaGreatDoor
open Go.RowKit
open Pu (Str hide unhide)

namespace Tc
open Ta Tb Kc Ka

def pre : Nat → Str → Str
  | 0, n => n
  | i + 1, n => pre i (100 :: digitsI (i + 1) ++ 46 :: n)
def baseN (k : Nat) : Str := 104 :: digitsI k ++ tailS
/-- a right name of Starred's. -/
def Good (n : Str) : Prop := (∀ l ∈ Sp.spl 46 n, Pu.label l = true) ∧ (∃ c t, n = c :: t ∧ c ≠ 42) ∧ Bad n

theorem dig_last (k : Nat) : Dig (UInt8.ofNat (48 + k % 10)) := by
  have h : k % 10 < 10 := Nat.mod_lt _ (by decide)
  unfold Dig
  rw [UInt8.toNat_ofNat']
  omega
theorem dig_all : ∀ (f k : Nat), k ≤ f → ∀ c ∈ digitsI k, Dig c
  | 0, k, h, c, hc => by
    obtain rfl : k = 0 := by omega
    rw [digitsI_small 0 (by omega)] at hc
    simp only [List.mem_cons, List.mem_nil_iff, or_false] at hc
    subst hc; exact ⟨by decide, by decide⟩
  | f + 1, k, h, c, hc => by
    by_cases h10 : k < 10
    · rw [digitsI_small k h10] at hc
      simp only [List.mem_cons, List.mem_nil_iff, or_false] at hc
      subst hc
      have := dig_last k
      rwa [Nat.mod_eq_of_lt h10] at this
    · rw [digitsI_great k h10, List.mem_append] at hc
      rcases hc with hc | hc
      · exact dig_all f (k / 10) (by omega) c hc
      · simp only [List.mem_cons, List.mem_nil_iff, or_false] at hc
        subst hc; exact dig_last k
theorem dig_sign {c : UInt8} (h : Dig c) : Pu.sign c = true := by
  obtain ⟨h1, h2⟩ := h
  unfold Pu.sign Pu.signI
  have h3 : (decide ((48 : Int) ≤ c.toNat) && decide ((c.toNat : Int) ≤ 57)) = true := by simp; omega
  rw [h3]; simp
theorem dig_dot {c : UInt8} (h : Dig c) : (46 : UInt8) ≠ c := by
  rintro rfl
  exact absurd h.1 (by decide)
theorem no_dot (c : UInt8) (hc : c = 100 ∨ c = 104) (k : Nat) : (46 : UInt8) ∉ c :: digitsI k := by
  intro h
  rw [List.mem_cons] at h
  rcases h with h | h
  · rcases hc with rfl | rfl <;> exact absurd h (by decide)
  · exact dig_dot (dig_all _ k (Nat.le_refl _) _ h) rfl
theorem label_dig (c : UInt8) (hc : c = 100 ∨ c = 104) (k : Nat) (hk : k ≤ 1000000) : Pu.label (c :: digitsI k) = true := by
  have hl := digitsI_len 7 k (by omega)
  have hs : (c :: digitsI k).all Pu.sign = true := by
    rw [List.all_eq_true]
    intro x hx
    rw [List.mem_cons] at hx
    rcases hx with rfl | hx
    · rcases hc with rfl | rfl <;> decide
    · exact dig_sign (dig_all _ k (Nat.le_refl _) _ hx)
  unfold Pu.label
  rw [hs]
  simp; omega
theorem good_base (k : Nat) (hk : k ≤ 1000000) : Good (baseN k) := by
  refine ⟨?_, ⟨104, _, rfl, by decide⟩, ?_⟩
  · intro l hl
    unfold baseN tailS at hl
    rw [Sp.spl_some 46 _ _ (no_dot 104 (.inr rfl) k), show Sp.spl 46 wzz = [[119], [122, 122]] from by decide] at hl
    simp only [List.mem_cons, List.mem_nil_iff, or_false] at hl
    rcases hl with rfl | rfl | rfl
    · exact label_dig 104 (.inr rfl) k hk
    · decide
    · decide
  · unfold baseN
    rw [digitsI_hd k]
    exact ⟨104 :: hd k, _, dig_last k, by simp⟩
theorem good_step {n : Str} (h : Good n) (i : Nat) (hi : i ≤ 1000000) : Good (100 :: digitsI i ++ 46 :: n) := by
  obtain ⟨h1, _, p, d, hd, rfl⟩ := h
  refine ⟨?_, ⟨100, _, rfl, by decide⟩, ⟨100 :: digitsI i ++ 46 :: p, d, hd, by simp⟩⟩
  intro l hl
  rw [Sp.spl_some 46 _ _ (no_dot 100 (.inl rfl) i), List.mem_cons] at hl
  rcases hl with rfl | hl
  · exact label_dig 100 (.inl rfl) i hi
  · exact h1 l hl
theorem okAll_of : ∀ (ls : List Str) (i : Nat), (∀ l ∈ ls, Pu.label l = true) → Sp.okAll i ls = true
  | [], _, _ => rfl
  | l :: t, i, h => by
    unfold Sp.okAll Sp.okAt
    rw [h l (by simp), okAll_of t (i + 1) (fun x hx => h x (by simp [hx]))]; rfl
theorem good_plain {n : Str} (h : Good n) (hl : n.length ≤ 60) : Sp.plain n = true := by
  obtain ⟨h1, ⟨c, t, rfl, hc⟩, _⟩ := h
  unfold Sp.plain Sp.valid Sp.starred
  rw [okAll_of _ 0 h1]
  have : Lib.hasPrefix (c :: t) [42] = false := by
    unfold Lib.hasPrefix
    simp [List.isPrefixOf]
    exact fun h => hc h.symm
  rw [this]
  simp; simpa using hl

theorem fit0 : Fit zz recs0 := by
  refine ⟨by decide, by decide, ?_⟩
  intro r hr
  simp only [recs0, List.mem_cons, List.mem_nil_iff, or_false] at hr
  rcases hr with rfl | rfl | rfl | rfl | rfl <;> decide

set_option maxRecDepth 100000 in
set_option maxHeartbeats 800000 in
theorem made_any (s : ByteArray) (hd : s.data.toList = linesS) (w : World) (hg : G w) :
    Calls Tryz.prog 22 #[.string s] w fun e w' => ∃ zb g cap, e = .returned (.pointer (some ⟨zb, 0, none⟩)) ∧ TableAt w' zb zz g 0 cap recs ∧ Below w.heap.size w w' := by
  have hss : s.size = 66 := by rw [← Pu.len_eq, hd]; decide
  obtain ⟨hB, hhB⟩ : ∃ hB : ByteArray, hB = ⟨headS.toArray⟩ := ⟨_, rfl⟩
  have hhs : hB.size = 49 := by rw [hhB]; rfl
  have e1 : (hB ++ s).data.toList = headS ++ linesS := by rw [hhB, ← hd]; simp
  have e2 : (hB ++ s ++ ⟨#[10]⟩).data.toList = headS ++ linesS ++ [10] := by
    rw [show (hB ++ s ++ ⟨#[10]⟩ : ByteArray).data.toList = (hB ++ s).data.toList ++ [10] by simp, e1]
  have HP1 := hide (Pa.parse_any (hB ++ s) w hg (by simp; omega) (by
    rw [e1, read1]
    rintro o rs ⟨⟩
    exact ⟨by decide, fit0⟩))
  have HP2 := hide (fun W (hb : Below w.heap.size w W) => Pa.parse_any (hB ++ s ++ ⟨#[10]⟩) W (hg.below hb) (by have h1 : (⟨#[10]⟩ : ByteArray).size = 1 := rfl; simp; omega) (by
    rw [e2, read2]
    rintro o rs ⟨⟩))
  rw [e1, parse1] at HP1
  rw [e2, parse2] at HP2
  clear e1 e2 hd hg
  have hhd : (⟨#[111, 114, 105, 103, 105, 110, 32, 122, 122, 10, 122, 122, 32, 53, 48, 32, 83, 79, 65, 32, 97, 46, 122, 122, 32, 98, 46, 122, 122, 32, 57, 32, 52, 48, 10, 122, 122, 32, 53, 48, 32, 78, 83, 32, 97, 46, 122, 122, 10]⟩ : ByteArray) = hB := by rw [hhB]; rfl
  clear hhB
  go_enter Tryz.func22, Tryz.ntmps22
  go_wp2_with fail
  refine (unhide HP1).mono ?_
  rintro e w1 ⟨⟨zb, g, cap, rfl, hzb, hgb, ht1⟩, hb1⟩
  have HT1 := hide ht1
  clear ht1
  go_wp2_with fail
  refine (unhide HP2 w1 hb1).mono ?_
  rintro e w2 ⟨he, hb2⟩
  obtain rfl : e = .returned (.tuple #[.pointer none, .int .i64 1]) := he
  go_wp2_with fail
  go_ret
  exact ⟨zb, g, cap, rfl, (unhide HT1).below hb2, hb1.trans (hb2.mono hb1.size)⟩
end Tc
end Go.Proofs.YtkkpahmoljiepaaGreatDoor

/- The statement's function: beaconkeep.Starred. -/
namespace Go.Proofs.YtkkpahmoljiepaaGreatDoor
open Go.RowKit
open Pu (Str hide unhide)

namespace Td
open Ta Tb Tc Kc Ka Lc Lj Lk

theorem pick_nat (c : Int) (m : Nat) (hm : 0 < m) : ∃ k : Nat, Pu.pick c m = k ∧ k < m := by
  have h : 0 ≤ Pu.pick c m ∧ Pu.pick c m < m := by
    unfold Pu.pick
    split
    · exact ⟨Int.emod_nonneg _ (by omega), Int.emod_lt_of_pos _ (by omega)⟩
    · exact ⟨Int.emod_nonneg _ (by omega), Int.emod_lt_of_pos _ (by omega)⟩
  exact ⟨(Pu.pick c m).toNat, by omega, by omega⟩

theorem ba_ext {a b : ByteArray} (h : a.data.toList = b.data.toList) : a = b := by
  cases a; cases b; simp at h; rw [h]

theorem len_base (k : Nat) (h : k < 100000) : (baseN k).length ≤ 12 := by
  have := digitsI_len 5 k (by omega)
  unfold baseN tailS wzz
  simp; omega
theorem len_step (i : Nat) (n : Str) (h : i < 10) : (100 :: digitsI i ++ 46 :: n).length ≤ n.length + 4 := by
  have := digitsI_len 1 i (by omega)
  simp; omega

theorem look (zb g cap : Nat) (k rc : Int) (n : Str) (ans : List Rec) (w : World) (hz : TableAt w zb zz g 0 cap recs) (hg : G w) (hp : Plain zz n recs k) (hpl : Sp.plain n = true) (hk1 : 1 ≤ k) (hk2 : k ≤ 65535) (hrc : stepRc zz recs n = rc) (hans : stepAns zz recs k n = ans) :
    Calls Tryz.prog 24 #[.pointer (some ⟨zb, 0, none⟩), .string (B n), .int .i64 k] w fun e w' =>
      (∃ (au : Bool) (a : Option Addr) (c : Nat) (b : Option Addr) (m d : Nat), e = .returned (.tuple #[.agg #[.int .i64 rc, .bool au, .slice a ans.length c, .slice b m d, .slice none 0 0], .int .i64 0]) ∧ RV w' (.slice a ans.length c) ans) ∧ Below w.heap.size w w' := by
  refine (lookup_plain zb g 0 cap k zz n recs w hz hg hp hpl hk1 hk2).mono ?_
  rw [hrc, hans]
  rintro e w' ⟨⟨va, vb, rfl, hva, hvb⟩, hb⟩
  have hr := hva.rv
  obtain ⟨a, c, rfl⟩ := hva.slice
  obtain ⟨b, d, rfl⟩ := hvb.slice
  exact ⟨⟨_, a, c, b, _, d, rfl, hr⟩, hb⟩

set_option maxRecDepth 100000 in
set_option maxHeartbeats 3200000 in
theorem starred_any (raw deep : Int) (w : World) (hg : G w) (h1 : -9223372036854775808 ≤ raw) (h2 : raw ≤ 9223372036854775807) (h3 : -9223372036854775808 ≤ deep) (h4 : deep ≤ 9223372036854775807) :
    Calls Tryz.prog 5 #[.int .i64 raw, .int .i64 deep] w fun e w' => e = .returned (.bool true) ∧ Below w.heap.size w w' := by
  have HM := hide (made_any ⟨linesS.toArray⟩ rfl w hg)
  have HG := hide hg
  clear hg
  obtain ⟨k, hk, hkl⟩ := pick_nat raw 100000 (by decide)
  obtain ⟨d, hd, hdl⟩ := pick_nat deep 5 (by decide)
  have HK := hide (fun W => pick_any raw 100000 W h1 h2 (by decide) (by decide))
  have HD := hide (fun W => pick_any deep 5 W h3 h4 (by decide) (by decide))
  have hk' : Pu.pick raw 100000 = k := hk
  have hd' : Pu.pick deep 5 = d := hd
  rw [hk'] at HK
  rw [hd'] at HD
  clear hk hd hk' hd'
  go_enter Tryz.func5, Tryz.ntmps5
  go_wp2_with fail
  refine (unhide HM).mono ?_
  rintro e w1 ⟨zb, g, cap, rfl, ht1, hb1⟩
  have HT := hide (fun W (hb : Below w1.heap.size w1 W) => ht1.below hb)
  have HG1 := hide (fun W (hb : Below w1.heap.size w1 W) => ((unhide HG).below hb1).below hb)
  clear ht1 HM HG
  go_wp2_with fail
  refine (unhide HK w1).mono ?_
  rintro e w1 ⟨rfl, rfl⟩
  go_wp2_with fail
  refine (host_any k w1 (by omega)).mono ?_
  rintro e w2 ⟨rfl, hb2⟩
  have hsz : (⟨(104 :: digitsI k).toArray⟩ : ByteArray).size ≤ 8 := by
    have := digitsI_len 5 k (by omega)
    simp [ByteArray.size]; omega
  have hbn : (⟨(104 :: digitsI k).toArray⟩ ++ ⟨#[46, 119, 46, 122, 122]⟩ : ByteArray) = B (baseN k) := ba_ext (by simp [baseN, tailS, wzz, B])
  generalize (⟨(104 :: digitsI k).toArray⟩ : ByteArray) = hb at *
  go_wp2_with fail
  refine (unhide HD w2).mono ?_
  rintro e w2 ⟨rfl, rfl⟩
  have hgood := good_base k (by omega)
  have hlb := len_base k hkl
  have HGB := hide hgood
  clear hgood
  go_wp2_with fail
  go_loopw [6, 7] (fun nm ix wr => ∃ (i : Nat) (n : Str), nm = .string (B n) ∧ ix = .int .i64 i ∧ i ≤ 4 ∧ Tc.Good n ∧ n.length + 4 * i ≤ 60 ∧ Below w1.heap.size w1 wr) (fun _ ix _ => (intOf ix).toNat)
  case atStart => exact ⟨d, baseN k, rfl, rfl, by omega, unhide HGB, by omega, hb2⟩
  case round =>
    clear HGB hbn hb2 hlb hsz
    obtain ⟨i, n, rfl, rfl, hi, hgood, hl, hbr⟩ := hrel
    have HGB := hide hgood
    clear hgood
    by_cases hi0 : i = 0
    · subst hi0
      have hgood := unhide HGB
      have HL0 := hide (fun W (hb : Below w1.heap.size w1 W) => look zb g cap 16 0 n [starR n] W (unhide HT W hb) (unhide HG1 W hb) (plain16 hgood.2.2 (by omega)) (good_plain hgood (by omega)) (by decide) (by decide) (bad_rc hgood.2.2) (bad_ans16 hgood.2.2))
      have HL1 := hide (fun W (hb : Below w1.heap.size w1 W) => look zb g cap 15 0 n [] W (unhide HT W hb) (unhide HG1 W hb) (plain15 hgood.2.2 (by omega)) (good_plain hgood (by omega)) (by decide) (by decide) (bad_rc hgood.2.2) (bad_ans15 hgood.2.2))
      have HL2 := hide (fun W (hb : Below w1.heap.size w1 W) => look zb g cap 16 0 thereS [] W (unhide HT W hb) (unhide HG1 W hb) (there_plain) there_name (by decide) (by decide) (there_rc) (there_ans))
      have HL3 := hide (fun W (hb : Below w1.heap.size w1 W) => look zb g cap 16 0 innerS [] W (unhide HT W hb) (unhide HG1 W hb) (inner_plain) inner_name (by decide) (by decide) (inner_rc) (inner_ans))
      have HL4 := hide (fun W (hb : Below w1.heap.size w1 W) => look zb g cap 16 3 yinnerS [] W (unhide HT W hb) (unhide HG1 W hb) (yinner_plain) yinner_name (by decide) (by decide) (yinner_rc) (yinner_ans))
      have HL5 := hide (fun W (hb : Below w1.heap.size w1 W) => look zb g cap 16 3 ythereS [] W (unhide HT W hb) (unhide HG1 W hb) (ythere_plain) ythere_name (by decide) (by decide) (ythere_rc) (ythere_ans))
      clear HT HG1 HK HD HGB hgood
      go_wp2_with fail
      refine (unhide HL0 _ hbr).mono ?_
      rintro e v0 ⟨⟨au0, pa0, pc0, qa0, qm0, qd0, rfl, hp0⟩, hc0⟩
      clear HL0
      have hB0 : Below w1.heap.size w1 v0 := hbr.trans (hc0.mono hbr.size)
      have HP0 := hide hp0
      clear hp0
      go_wp2_with fail
      refine (unhide HL1 _ (hB0.trans (((Below.refl v0.heap.size v0).alloc (Nat.le_refl _) _).mono hB0.size))).mono ?_
      rintro e v1 ⟨⟨au1, pa1, pc1, qa1, qm1, qd1, rfl, hp1⟩, hc1⟩
      clear HL1
      have hX1 : Below v0.heap.size v0 v1 := ((Below.refl v0.heap.size v0).alloc (Nat.le_refl _) _).trans (hc1.mono (by simp <;> omega))
      have hB1 : Below w1.heap.size w1 v1 := hB0.trans (hX1.mono hB0.size)
      have A0 : AnsAt v1 v0.heap.size _ _ _ _ _ := (hc1.block v0.heap.size (by simp)).trans (heap_alloc_new v0 _)
      have s1 : v0.heap.size < v1.heap.size := (Array.getElem?_eq_some_iff.1 A0).1
      replace HP0 := hide ((unhide HP0).below hX1)
      clear hp1 hc1
      go_wp2_with fail
      refine (unhide HL2 _ (hB1.trans (((Below.refl v1.heap.size v1).alloc (Nat.le_refl _) _).mono hB1.size))).mono ?_
      rintro e v2 ⟨⟨au2, pa2, pc2, qa2, qm2, qd2, rfl, hp2⟩, hc2⟩
      clear HL2
      have hX2 : Below v1.heap.size v1 v2 := ((Below.refl v1.heap.size v1).alloc (Nat.le_refl _) _).trans (hc2.mono (by simp <;> omega))
      have hB2 : Below w1.heap.size w1 v2 := hB1.trans (hX2.mono hB1.size)
      have A1 : AnsAt v2 v1.heap.size _ _ _ _ _ := (hc2.block v1.heap.size (by simp)).trans (heap_alloc_new v1 _)
      have s2 : v1.heap.size < v2.heap.size := (Array.getElem?_eq_some_iff.1 A1).1
      replace A0 := (hX2.block v0.heap.size (by omega)).trans A0
      replace HP0 := hide ((unhide HP0).below hX2)
      clear hp2 hc2
      go_wp2_with fail
      refine (unhide HL3 _ (hB2.trans (((Below.refl v2.heap.size v2).alloc (Nat.le_refl _) _).mono hB2.size))).mono ?_
      rintro e v3 ⟨⟨au3, pa3, pc3, qa3, qm3, qd3, rfl, hp3⟩, hc3⟩
      clear HL3
      have hX3 : Below v2.heap.size v2 v3 := ((Below.refl v2.heap.size v2).alloc (Nat.le_refl _) _).trans (hc3.mono (by simp <;> omega))
      have hB3 : Below w1.heap.size w1 v3 := hB2.trans (hX3.mono hB2.size)
      have A2 : AnsAt v3 v2.heap.size _ _ _ _ _ := (hc3.block v2.heap.size (by simp)).trans (heap_alloc_new v2 _)
      have s3 : v2.heap.size < v3.heap.size := (Array.getElem?_eq_some_iff.1 A2).1
      replace A0 := (hX3.block v0.heap.size (by omega)).trans A0
      replace A1 := (hX3.block v1.heap.size (by omega)).trans A1
      replace HP0 := hide ((unhide HP0).below hX3)
      clear hp3 hc3
      go_wp2_with fail
      refine (unhide HL4 _ (hB3.trans (((Below.refl v3.heap.size v3).alloc (Nat.le_refl _) _).mono hB3.size))).mono ?_
      rintro e v4 ⟨⟨au4, pa4, pc4, qa4, qm4, qd4, rfl, hp4⟩, hc4⟩
      clear HL4
      have hX4 : Below v3.heap.size v3 v4 := ((Below.refl v3.heap.size v3).alloc (Nat.le_refl _) _).trans (hc4.mono (by simp <;> omega))
      have hB4 : Below w1.heap.size w1 v4 := hB3.trans (hX4.mono hB3.size)
      have A3 : AnsAt v4 v3.heap.size _ _ _ _ _ := (hc4.block v3.heap.size (by simp)).trans (heap_alloc_new v3 _)
      have s4 : v3.heap.size < v4.heap.size := (Array.getElem?_eq_some_iff.1 A3).1
      replace A0 := (hX4.block v0.heap.size (by omega)).trans A0
      replace A1 := (hX4.block v1.heap.size (by omega)).trans A1
      replace A2 := (hX4.block v2.heap.size (by omega)).trans A2
      replace HP0 := hide ((unhide HP0).below hX4)
      clear hp4 hc4
      go_wp2_with fail
      refine (unhide HL5 _ (hB4.trans (((Below.refl v4.heap.size v4).alloc (Nat.le_refl _) _).mono hB4.size))).mono ?_
      rintro e v5 ⟨⟨au5, pa5, pc5, qa5, qm5, qd5, rfl, hp5⟩, hc5⟩
      clear HL5
      have hX5 : Below v4.heap.size v4 v5 := ((Below.refl v4.heap.size v4).alloc (Nat.le_refl _) _).trans (hc5.mono (by simp <;> omega))
      have hB5 : Below w1.heap.size w1 v5 := hB4.trans (hX5.mono hB4.size)
      have A4 : AnsAt v5 v4.heap.size _ _ _ _ _ := (hc5.block v4.heap.size (by simp)).trans (heap_alloc_new v4 _)
      have s5 : v4.heap.size < v5.heap.size := (Array.getElem?_eq_some_iff.1 A4).1
      replace A0 := (hX5.block v0.heap.size (by omega)).trans A0
      replace A1 := (hX5.block v1.heap.size (by omega)).trans A1
      replace A2 := (hX5.block v2.heap.size (by omega)).trans A2
      replace A3 := (hX5.block v3.heap.size (by omega)).trans A3
      replace HP0 := hide ((unhide HP0).below hX5)
      clear hp5 hc5
      have hX6 : Below v5.heap.size v5 (v5.alloc (.cells #[.int .i64 3, .bool au5, .slice pa5 0 pc5, .slice qa5 qm5 qd5, .slice none 0 0] 43)) := (Below.refl _ _).alloc (Nat.le_refl _) _
      obtain ⟨b00, c01, b02, c03, c04⟩ := AnsAt.cells A0
      have n0 : v0.heap.size < v5.heap.size := by omega
      clear c01 c03 c04
      obtain ⟨b10, c11, b12, c13, c14⟩ := AnsAt.cells A1
      have n1 : v1.heap.size < v5.heap.size := by omega
      clear c11 c13 c14
      obtain ⟨b20, c21, b22, c23, c24⟩ := AnsAt.cells A2
      have n2 : v2.heap.size < v5.heap.size := by omega
      clear c21 c23 c24
      obtain ⟨b30, c31, b32, c33, c34⟩ := AnsAt.cells A3
      have n3 : v3.heap.size < v5.heap.size := by omega
      clear c31 c33 c34
      obtain ⟨b40, c41, b42, c43, c44⟩ := AnsAt.cells A4
      have n4 : v4.heap.size < v5.heap.size := by omega
      clear c41 c43 c44
      have hB6 : Below w1.heap.size w1 (v5.alloc (.cells #[.int .i64 3, .bool au5, .slice pa5 0 pc5, .slice qa5 qm5 qd5, .slice none 0 0] 43)) := hB5.trans (hX6.mono hB5.size)
      have hrv := unhide HP0
      rcases hrv with ⟨ee, _⟩ | ⟨bb, oo, cc, ee, hcc, hra⟩
      · cases ee
      · cases ee
        obtain ⟨r0, r1, r2, r3⟩ := hra.four 0 (by simp)
        simp only [Nat.zero_mul, Nat.add_zero, List.getElem_cons_zero] at r0 r1 r2 r3
        have nb : bb < v5.heap.size := hra.1
        replace r0 : v5.cell? ⟨bb, oo, none⟩ = some (.string (B n)) := r0
        replace r1 : v5.cell? ⟨bb, oo + 1, none⟩ = some (.int .i64 3) := r1
        replace r2 : v5.cell? ⟨bb, oo + 2, none⟩ = some (.int .i64 16) := r2
        replace r3 : v5.cell? ⟨bb, oo + 3, none⟩ = some (.string ⟨#[115, 116, 97, 114]⟩) := r3
        have HB6 := hide hB6
        clear A0 A1 A2 A3 A4 hra HP0 hX6 hX1 hX2 hX3 hX4 hX5 hB0 hB1 hB2 hB3 hB4 hB5 hc0 hB6 s1 s2 s3 s4 s5
        go_wp2_with fail
        go_ret
        exact ⟨rfl, hb1.trans ((unhide HB6).mono hb1.size)⟩
    · have hiI : (0 : Int) < i := by omega
      have hns : (B n).size ≤ 60 := by rw [size_B]; omega
      have hds : (⟨(digitsI i).toArray⟩ : ByteArray).size ≤ 2 := by
        have := digitsI_len 1 i (by omega)
        simp [ByteArray.size]; omega
      have hcat : (⟨#[100]⟩ ++ ⟨(digitsI i).toArray⟩ ++ ⟨#[46]⟩ ++ B n : ByteArray) = B (100 :: digitsI i ++ 46 :: n) := ba_ext (by simp [B])
      have hls := len_step i n (by omega)
      go_wp2_with fail
      refine (digits_any i wr (by omega)).mono ?_
      rintro e w3 ⟨rfl, hb3⟩
      generalize (⟨(digitsI i).toArray⟩ : ByteArray) = D at *
      have z1 : (⟨#[100]⟩ : ByteArray).size = 1 := rfl
      have z2 : (⟨#[46]⟩ : ByteArray).size = 1 := rfl
      go_wp2_with fail
      go_roundw
      case rel => exact ⟨i - 1, 100 :: digitsI i ++ 46 :: n, rfl, by go_num, by omega, good_step (unhide HGB) i (by omega), by omega, hbr.trans (hb3.mono hbr.size)⟩
      case measure => simp [intOf]; omega
end Td
end Go.Proofs.YtkkpahmoljiepaaGreatDoor

/- What rows share that list variables and lean on the world's shape. -/
namespace Go.Proofs.YtkkpahmoljiepaaGreatDoor
open Go.ChangeShapes Go.WideShapes Go.ChangeAt Go.RowKit

namespace Uw
variable {H : Type} {enc : TypeId × Value → H}

/-- The plain wrap for a row that lists variables, the world's shape kept. -/
theorem wrap {a : Assume} {C : Checked} {os : Os} {f : FuncId} {fn : Func} {s : ChangeSpec} {conds : List PathCond} {apart fresh handsOn again : Bool} {X : World → Array Value → Prop}
    (hX : ∀ (w w' : World) (args : Array Value), w.heap = w'.heap → X w args → X w' args)
    (own : ownKnob C.prog.godebug = none) (started : os.Started) (noInit : C.prog.inits.idxOf? f = none) (hfn : C.prog.funcs[f]? = some fn)
    (witness : ∃ (w : World) (tape : Tape) (i : Input), w.os = os ∧ (w.forCall tape i).Shaped C.prog ∧ i.vars = [] ∧ Input.okWide C.prog (w.forCall tape i) .any w.heap.size f i ∧
      ((s.pre enc C.prog fn conds apart (w.forCall tape i).memory i.args ∧ X (w.forCall tape i).memory i.args) ∧ sizedMet enc C.prog fn (OpenSpec.ofChange s) apart (w.forCall tape i).memory i.args) ∧ a.holds C.prog (lone (Frame.enter C.prog f i.args .normal) [] (w.forCall tape i)))
    (contract : ∀ (W : World) (base : Nat) (args : Array Value) (ds gs : List (DataW H)) (before : List MemPlace),
      (∀ (j : Nat) t v, fn.params[j]? = some t → args[j]? = some v → Value.okWide C.prog W .any base t v) →
      DataW.Whole enc C.prog fn.params.toList s.vars apart W args.toList ds gs before →
      W.ShapedOpen C.prog → X W args →
      Calls C.prog f args W fun e W' => ∃ v, e = .returned v ∧ s.post enc C.prog fn apart fresh handsOn again W args v W') :
    ReturnsInHanded a C os f .any (fun w args => (s.pre enc C.prog fn conds apart w args ∧ X w args) ∧ sizedMet enc C.prog fn (OpenSpec.ofChange s) apart w args) (s.post enc C.prog fn apart fresh handsOn again) := by
  refine returnsInHanded_of_calls own started noInit witness ?_
  intro w tape i _ hsh _ hok hpre hholds
  obtain ⟨_, _, _, fn', hfn', _, _, _, _, hval⟩ := hok
  have e : fn' = fn := Option.some.inj (hfn'.symm.trans hfn)
  subst e
  obtain ⟨⟨⟨ds, gs, before, hw, hc⟩, hx⟩, hz⟩ := hpre
  have hw' := DataW.Whole.of_heap (w' := w.forCall tape i) (by rfl) hw
  refine (contract (w.forCall tape i) w.heap.size i.args ds gs before hval hw' hsh (hX _ _ _ (by rfl) hx)).mono fun e W' ⟨v, he, hp⟩ => ?_
  subst he
  exact ChangeSpec.post_blind hp

theorem own : ownKnob Tryz.prog.godebug = none := by kernel_rfl

theorem g_of_shaped {W : World} (h : W.ShapedOpen Tryz.prog) : G W := by
  have hc : ∃ m, W.cell? ⟨0, 0, none⟩ = some (.int .i64 m) :=
    cell_of_shapedOpen_int (zero := #[.int .i64 0]) (t := 3) h (of_decide_eq_true (by kernel_rfl)) (by kernel_rfl) rfl (by kernel_rfl) (by kernel_rfl) Tryz.underlying3
  refine ⟨?_, hc⟩
  obtain ⟨m, hm⟩ := hc
  rcases Nat.eq_zero_or_pos W.heap.size with h0 | h0
  · simp [World.cell?, Array.getElem?_eq_none (show W.heap.size ≤ 0 by omega)] at hm
  · exact h0

end Uw
end Go.Proofs.YtkkpahmoljiepaaGreatDoor
