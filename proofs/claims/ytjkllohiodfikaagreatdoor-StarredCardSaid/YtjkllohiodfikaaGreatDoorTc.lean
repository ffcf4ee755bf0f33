/- The names that Starred asks for; beaconkeep.made at its zone. -/
import Derived.Test.YtjkllohiodfikaaGreatDoorTb
set_option linter.unusedSimpArgs false
set_option linter.unusedVariables false
namespace Go.Proofs.YtjkllohiodfikaaGreatDoor
open Go.RowKit
open Pu (Str hide unhide)

namespace Tc
open Ta Tb Kc Ka

def pre : Nat → Str → Str
  | 0, n => n
  | i + 1, n => pre i (100 :: digitsI (i + 1) ++ 46 :: n)
def baseN (k : Nat) : Str := 104 :: digitsI k ++ tailS
/-- a right name of Starred's. -/
def Good (n : Str) : Prop := (∀ l ∈ Sp.spl 46 n, Pu.label l = true) ∧ (∃ c t, n = c :: t ∧ c ≠ 42) ∧ Bad n

theorem dig_last (k : Nat) : Dig (UInt8.ofNat (48 + k % 10)) := by
  have h : k % 10 < 10 := Nat.mod_lt _ (by decide)
  unfold Dig
  rw [UInt8.toNat_ofNat']
  omega
theorem dig_all : ∀ (f k : Nat), k ≤ f → ∀ c ∈ digitsI k, Dig c
  | 0, k, h, c, hc => by
    obtain rfl : k = 0 := by omega
    rw [digitsI_small 0 (by omega)] at hc
    simp only [List.mem_cons, List.mem_nil_iff, or_false] at hc
    subst hc; exact ⟨by decide, by decide⟩
  | f + 1, k, h, c, hc => by
    by_cases h10 : k < 10
    · rw [digitsI_small k h10] at hc
      simp only [List.mem_cons, List.mem_nil_iff, or_false] at hc
      subst hc
      have := dig_last k
      rwa [Nat.mod_eq_of_lt h10] at this
    · rw [digitsI_great k h10, List.mem_append] at hc
      rcases hc with hc | hc
      · exact dig_all f (k / 10) (by omega) c hc
      · simp only [List.mem_cons, List.mem_nil_iff, or_false] at hc
        subst hc; exact dig_last k
theorem dig_sign {c : UInt8} (h : Dig c) : Pu.sign c = true := by
  obtain ⟨h1, h2⟩ := h
  unfold Pu.sign Pu.signI
  have h3 : (decide ((48 : Int) ≤ c.toNat) && decide ((c.toNat : Int) ≤ 57)) = true := by simp; omega
  rw [h3]; simp
theorem dig_dot {c : UInt8} (h : Dig c) : (46 : UInt8) ≠ c := by
  rintro rfl
  exact absurd h.1 (by decide)
theorem no_dot (c : UInt8) (hc : c = 100 ∨ c = 104) (k : Nat) : (46 : UInt8) ∉ c :: digitsI k := by
  intro h
  rw [List.mem_cons] at h
  rcases h with h | h
  · rcases hc with rfl | rfl <;> exact absurd h (by decide)
  · exact dig_dot (dig_all _ k (Nat.le_refl _) _ h) rfl
theorem label_dig (c : UInt8) (hc : c = 100 ∨ c = 104) (k : Nat) (hk : k ≤ 1000000) : Pu.label (c :: digitsI k) = true := by
  have hl := digitsI_len 7 k (by omega)
  have hs : (c :: digitsI k).all Pu.sign = true := by
    rw [List.all_eq_true]
    intro x hx
    rw [List.mem_cons] at hx
    rcases hx with rfl | hx
    · rcases hc with rfl | rfl <;> decide
    · exact dig_sign (dig_all _ k (Nat.le_refl _) _ hx)
  unfold Pu.label
  rw [hs]
  simp; omega
theorem good_base (k : Nat) (hk : k ≤ 1000000) : Good (baseN k) := by
  refine ⟨?_, ⟨104, _, rfl, by decide⟩, ?_⟩
  · intro l hl
    unfold baseN tailS at hl
    rw [Sp.spl_some 46 _ _ (no_dot 104 (.inr rfl) k), show Sp.spl 46 wzz = [[119], [122, 122]] from by decide] at hl
    simp only [List.mem_cons, List.mem_nil_iff, or_false] at hl
    rcases hl with rfl | rfl | rfl
    · exact label_dig 104 (.inr rfl) k hk
    · decide
    · decide
  · unfold baseN
    rw [digitsI_hd k]
    exact ⟨104 :: hd k, _, dig_last k, by simp⟩
theorem good_step {n : Str} (h : Good n) (i : Nat) (hi : i ≤ 1000000) : Good (100 :: digitsI i ++ 46 :: n) := by
  obtain ⟨h1, _, p, d, hd, rfl⟩ := h
  refine ⟨?_, ⟨100, _, rfl, by decide⟩, ⟨100 :: digitsI i ++ 46 :: p, d, hd, by simp⟩⟩
  intro l hl
  rw [Sp.spl_some 46 _ _ (no_dot 100 (.inl rfl) i), List.mem_cons] at hl
  rcases hl with rfl | hl
  · exact label_dig 100 (.inl rfl) i hi
  · exact h1 l hl
theorem okAll_of : ∀ (ls : List Str) (i : Nat), (∀ l ∈ ls, Pu.label l = true) → Sp.okAll i ls = true
  | [], _, _ => rfl
  | l :: t, i, h => by
    unfold Sp.okAll Sp.okAt
    rw [h l (by simp), okAll_of t (i + 1) (fun x hx => h x (by simp [hx]))]; rfl
theorem good_plain {n : Str} (h : Good n) (hl : n.length ≤ 60) : Sp.plain n = true := by
  obtain ⟨h1, ⟨c, t, rfl, hc⟩, _⟩ := h
  unfold Sp.plain Sp.valid Sp.starred
  rw [okAll_of _ 0 h1]
  have : Lib.hasPrefix (c :: t) [42] = false := by
    unfold Lib.hasPrefix
    simp [List.isPrefixOf]
    exact fun h => hc h.symm
  rw [this]
  simp; simpa using hl

theorem fit0 : Fit zz recs0 := by
  refine ⟨by decide, by decide, ?_⟩
  intro r hr
  simp only [recs0, List.mem_cons, List.mem_nil_iff, or_false] at hr
  rcases hr with rfl | rfl | rfl | rfl | rfl <;> decide

set_option maxRecDepth 100000 in
set_option maxHeartbeats 800000 in
theorem made_any (s : ByteArray) (hd : s.data.toList = linesS) (w : World) (hg : G w) :
    Calls Tryz.prog 18 #[.string s] w fun e w' => ∃ zb g cap, e = .returned (.pointer (some ⟨zb, 0, none⟩)) ∧ TableAt w' zb zz g 0 cap recs ∧ Below w.heap.size w w' := by
  have hss : s.size = 66 := by rw [← Pu.len_eq, hd]; decide
  obtain ⟨hB, hhB⟩ : ∃ hB : ByteArray, hB = ⟨headS.toArray⟩ := ⟨_, rfl⟩
  have hhs : hB.size = 49 := by rw [hhB]; rfl
  have e1 : (hB ++ s).data.toList = headS ++ linesS := by rw [hhB, ← hd]; simp
  have e2 : (hB ++ s ++ ⟨#[10]⟩).data.toList = headS ++ linesS ++ [10] := by
    rw [show (hB ++ s ++ ⟨#[10]⟩ : ByteArray).data.toList = (hB ++ s).data.toList ++ [10] by simp, e1]
  have HP1 := hide (Pa.parse_any (hB ++ s) w hg (by simp; omega) (by
    rw [e1, read1]
    rintro o rs ⟨⟩
    exact ⟨by decide, fit0⟩))
  have HP2 := hide (fun W (hb : Below w.heap.size w W) => Pa.parse_any (hB ++ s ++ ⟨#[10]⟩) W (hg.below hb) (by have h1 : (⟨#[10]⟩ : ByteArray).size = 1 := rfl; simp; omega) (by
    rw [e2, read2]
    rintro o rs ⟨⟩))
  rw [e1, parse1] at HP1
  rw [e2, parse2] at HP2
  clear e1 e2 hd hg
  have hhd : (⟨#[111, 114, 105, 103, 105, 110, 32, 122, 122, 10, 122, 122, 32, 53, 48, 32, 83, 79, 65, 32, 97, 46, 122, 122, 32, 98, 46, 122, 122, 32, 57, 32, 52, 48, 10, 122, 122, 32, 53, 48, 32, 78, 83, 32, 97, 46, 122, 122, 10]⟩ : ByteArray) = hB := by rw [hhB]; rfl
  clear hhB
  go_enter Tryz.func18, Tryz.ntmps18
  go_wp2_with fail
  refine (unhide HP1).mono ?_
  rintro e w1 ⟨⟨zb, g, cap, rfl, hzb, hgb, ht1⟩, hb1⟩
  have HT1 := hide ht1
  clear ht1
  go_wp2_with fail
  refine (unhide HP2 w1 hb1).mono ?_
  rintro e w2 ⟨he, hb2⟩
  obtain rfl : e = .returned (.tuple #[.pointer none, .int .i64 1]) := he
  go_wp2_with fail
  go_ret
  exact ⟨zb, g, cap, rfl, (unhide HT1).below hb2, hb1.trans (hb2.mono hb1.size)⟩
end Tc
end Go.Proofs.YtjkllohiodfikaaGreatDoor
