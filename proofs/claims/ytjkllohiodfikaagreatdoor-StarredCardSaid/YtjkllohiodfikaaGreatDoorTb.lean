/- What the zone of Starred answers. -/
import Derived.Test.YtjkllohiodfikaaGreatDoorTa
import Derived.Test.YtjkllohiodfikaaGreatDoorLk
import Derived.Test.YtjkllohiodfikaaGreatDoorKc
set_option linter.unusedSimpArgs false
set_option linter.unusedVariables false
namespace Go.Proofs.YtjkllohiodfikaaGreatDoor
open Go.RowKit
open Pu (Str hide unhide)

namespace Tb
open Ta Kc

def wzz : Str := [119, 46, 122, 122]
def tailS : Str := 46 :: wzz
def Dig (d : UInt8) : Prop := 48 ≤ d.toNat ∧ d.toNat ≤ 57
/-- a name that ends with a digit and .w.zz -/
def Bad (n : Str) : Prop := ∃ p d, Dig d ∧ n = p ++ d :: tailS
def starR (n : Str) : Rec := (n, 3, 16, [115, 116, 97, 114])
def soaR : Rec := ([122, 122], 40, 6, [97, 46, 122, 122, 32, 98, 46, 122, 122, 32, 57, 32, 52, 48])

theorem mem_tw {p : Str → Bool} : ∀ (l : List Str) (x : Str), x ∈ l.takeWhile p → p x = true
  | [], x, h => by simp at h
  | y :: t, x, h => by
    by_cases hp : p y = true
    · rw [List.takeWhile_cons_of_pos hp, List.mem_cons] at h
      rcases h with rfl | h
      · exact hp
      · exact mem_tw t x h
    · rw [List.takeWhile_cons_of_neg hp] at h; simp at h
theorem suffix_iff (l s : Str) : Lib.hasSuffix l s = true ↔ ∃ p, l = p ++ s := by
  unfold Lib.hasSuffix
  rw [List.isSuffixOf_iff_suffix]
  constructor
  · rintro ⟨p, h⟩; exact ⟨p, h.symm⟩
  · rintro ⟨p, h⟩; exact ⟨p, h.symm⟩

theorem bad_under {n : Str} (h : Bad n) : ∀ r ∈ recs, Sp.under r.owner n = false := by
  obtain ⟨p, d, ⟨h1, h2⟩, rfl⟩ := h
  have key : ∀ l : Str, Sp.under l (p ++ d :: tailS) = true → l.reverse[5]? = some d := by
    intro l hl
    have hx : ∃ q, l = q ++ (d :: tailS) := by
      unfold Sp.under at hl
      rw [Bool.or_eq_true] at hl
      rcases hl with hl | hl
      · exact ⟨p, by simpa using hl⟩
      · obtain ⟨q, hq⟩ := (suffix_iff _ _).1 hl
        exact ⟨q ++ 46 :: p, by rw [hq]; simp⟩
    obtain ⟨q, rfl⟩ := hx
    simp [tailS, wzz]
  intro r hr
  cases hu : Sp.under r.owner (p ++ d :: tailS) with
  | false => rfl
  | true =>
    exfalso
    have hk := key _ hu
    simp only [recs, List.mem_cons, List.mem_nil_iff, or_false] at hr
    rcases hr with rfl | rfl | rfl | rfl | rfl
    all_goals
      simp [Rec.owner] at hk
      try (subst hk; revert h1 h2; decide)

theorem bad_there {n : Str} (h : Bad n) : there recs n = false := by
  unfold there
  have : underRuns n recs = [] := by
    unfold underRuns
    rw [List.filter_eq_nil_iff]
    intro x hx
    obtain ⟨r, hr, he⟩ := Ie.owner_mem hx
    rw [← he, bad_under h r hr]; simp
  rw [this]; rfl
theorem bad_of {n : Str} (h : Bad n) : ofP recs n = [] := by
  unfold ofP
  have : (runs sameOwner recs).find? (fun x => ownerOf x == n) = none := by
    rw [List.find?_eq_none]
    intro x hx
    obtain ⟨r, hr, he⟩ := Ie.owner_mem hx
    have := bad_under h r hr
    unfold Sp.under at this
    rw [Bool.or_eq_false_iff] at this
    rw [← he, this.1]; simp
  rw [this]
theorem bad_after {n : Str} (h : Bad n) : Bad (after n) ∨ after n = wzz := by
  obtain ⟨p, d, hd, rfl⟩ := h
  by_cases hc : (46 : UInt8) ∈ p
  · obtain ⟨a, b, rfl, ha⟩ := List.eq_append_cons_of_mem hc
    left
    rw [show a ++ 46 :: b ++ d :: tailS = a ++ 46 :: (b ++ d :: tailS) by simp, after_some a _ ha]
    exact ⟨b, d, hd, rfl⟩
  · right
    have hne : (46 : UInt8) ≠ d := by
      rintro rfl
      exact absurd hd.1 (by decide)
    rw [show p ++ d :: tailS = (p ++ [d]) ++ 46 :: wzz by simp [tailS], after_some _ _ (by simp [hc, hne])]
theorem bad_ne {n : Str} (h : Bad n) : n ≠ [] := by
  obtain ⟨p, d, hd, rfl⟩ := h
  simp
theorem wzz_find : (ends wzz).find? (there recs) = some wzz := by kernel_rfl
theorem bad_find : ∀ (f : Nat) (n : Str), n.length ≤ f → Bad n → (ends (after n)).find? (there recs) = some wzz
  | 0, n, hl, h => absurd (List.eq_nil_of_length_eq_zero (by omega)) (bad_ne h)
  | f + 1, n, hl, h => by
    have hal := after_len n (bad_ne h)
    rcases bad_after h with h' | h'
    · rw [ends_cons _ (bad_ne h'), List.find?_cons, bad_there h']
      exact bad_find f (after n) (by omega) h'
    · rw [h']; exact wzz_find
theorem bad_ends : ∀ (f : Nat) (n : Str), n.length ≤ f → Bad n → ∀ e ∈ ends n, Bad e ∨ e = wzz ∨ e = zz
  | 0, n, hl, h => absurd (List.eq_nil_of_length_eq_zero (by omega)) (bad_ne h)
  | f + 1, n, hl, h => by
    have hal := after_len n (bad_ne h)
    intro e he
    rw [ends_cons _ (bad_ne h), List.mem_cons] at he
    rcases he with rfl | he
    · exact .inl h
    · rcases bad_after h with h' | h'
      · exact bad_ends f (after n) (by omega) h' e he
      · rw [h', show ends wzz = [wzz, zz] from by kernel_rfl] at he
        simp at he
        exact .inr he
theorem bad_cut {n : Str} (h : Bad n) : cutP zz recs n = [] := by
  unfold cutP
  have hall : ∀ e ∈ (ends n).takeWhile (fun e => !(e == zz)), setP (ofP recs e) 2 = [] := by
    intro e he
    have h1 := mem_tw _ _ he
    have h2 := bad_ends _ n (Nat.le_refl _) h e (List.takeWhile_sublist _ |>.subset he)
    rcases h2 with h2 | rfl | rfl
    · rw [bad_of h2]; rfl
    · exact show setP (ofP recs wzz) 2 = [] by kernel_rfl
    · simp at h1
  generalize (ends n).takeWhile (fun e => !(e == zz)) = es at *
  induction es with
  | nil => rfl
  | cons e t ih =>
    rw [List.foldl_cons, show cutStep recs [] e = [] by unfold cutStep; rw [hall e (by simp)]; rfl]
    exact ih (fun x hx => hall x (by simp [hx]))
theorem star_of : ofP recs (42 :: 46 :: wzz) = [starR (42 :: 46 :: wzz)] := by kernel_rfl
theorem bad_match {n : Str} (h : Bad n) : matchP recs n = ([starR n], true) := by
  unfold matchP
  rw [bad_there h, bad_find _ n (Nat.le_refl _) h]
  show ((ofP recs (42 :: 46 :: wzz)).map (setOwner n), decide (0 < (ofP recs (42 :: 46 :: wzz)).length)) = _
  rw [star_of]; rfl
theorem deny1 : denyP zz recs = [soaR] := by kernel_rfl
theorem bad_rc {n : Str} (h : Bad n) : stepRc zz recs n = 0 := by
  unfold stepRc; rw [bad_cut h, bad_match h]; rfl
theorem bad_ans16 {n : Str} (h : Bad n) : stepAns zz recs 16 n = [starR n] := by
  unfold stepAns; rw [bad_cut h, bad_match h]; rfl
theorem bad_ans15 {n : Str} (h : Bad n) : stepAns zz recs 15 n = [] := by
  unfold stepAns; rw [bad_cut h, bad_match h]; rfl
theorem bad_auth16 {n : Str} (h : Bad n) : stepAuth zz recs 16 n = [] := by
  unfold stepAuth; rw [bad_cut h, bad_match h]; rfl
theorem bad_auth15 {n : Str} (h : Bad n) : stepAuth zz recs 15 n = [soaR] := by
  unfold stepAuth; rw [bad_cut h, bad_match h, deny1]; rfl
theorem bad_zz {n : Str} (h : Bad n) : Sp.under n zz = true := by
  obtain ⟨p, d, hd, rfl⟩ := h
  unfold Sp.under
  rw [Bool.or_eq_true]
  right
  rw [suffix_iff]
  exact ⟨p ++ d :: [46, 119], by simp [tailS, wzz, zz]⟩

theorem fit1 : Fit zz recs := by
  refine ⟨by decide, by decide, ?_⟩
  intro r hr
  simp only [recs, List.mem_cons, List.mem_nil_iff, or_false] at hr
  rcases hr with rfl | rfl | rfl | rfl | rfl <;> decide
theorem soa1 : ∀ r ∈ setP (ofP recs zz) 6, soaOk r ∧ r.data.length ≤ 3000 ∧ r.ttl ≤ 1000000000 := by
  rw [show setP (ofP recs zz) 6 = [([122, 122], 50, 6, [97, 46, 122, 122, 32, 98, 46, 122, 122, 32, 57, 32, 52, 48])] from by kernel_rfl]
  intro r hr
  simp only [List.mem_cons, List.mem_nil_iff, or_false] at hr
  subst hr
  refine ⟨⟨?_, 40, ?_, by omega⟩, by decide, by decide⟩
  · have : (lastW (Rec.data ([122, 122], 50, 6, [97, 46, 122, 122, 32, 98, 46, 122, 122, 32, 57, 32, 52, 48]))).length = 2 := by kernel_rfl
    omega
  · kernel_rfl

theorem plain16 {n : Str} (h : Bad n) (hl : n.length ≤ 2900) : Plain zz n recs 16 where
  fit := fit1
  len := hl
  soa := soa1
  ne5 := rfl
  ne255 := rfl
  alias := by rw [bad_match h]; rfl
  mlen := by rw [bad_match h]; simp
  under := bad_zz h
  names := by
    rw [bad_ans16 h, bad_auth16 h]
    intro r hr
    simp only [List.mem_append, List.mem_cons, List.mem_nil_iff, or_false] at hr
    subst hr
    exact ⟨rfl, rfl, by simp [starR, Rec.data]⟩
  alen := by rw [bad_ans16 h]; simp
  blen := by rw [bad_auth16 h]; simp
theorem plain15 {n : Str} (h : Bad n) (hl : n.length ≤ 2900) : Plain zz n recs 15 where
  fit := fit1
  len := hl
  soa := soa1
  ne5 := rfl
  ne255 := rfl
  alias := by rw [bad_match h]; rfl
  mlen := by rw [bad_match h]; simp
  under := bad_zz h
  names := by
    rw [bad_ans15 h, bad_auth15 h]
    intro r hr
    simp only [List.nil_append, List.mem_cons, List.mem_nil_iff, or_false] at hr
    subst hr
    exact ⟨rfl, rfl, by decide⟩
  alen := by rw [bad_ans15 h]; simp
  blen := by rw [bad_auth15 h]; simp

def thereS : Str := [116, 104, 101, 114, 101, 46, 119, 46, 122, 122]
theorem there_ans : stepAns zz recs 16 thereS = [] := by kernel_rfl
theorem there_auth : stepAuth zz recs 16 thereS = [soaR] := by kernel_rfl
theorem there_rc : stepRc zz recs thereS = 0 := by kernel_rfl
theorem there_plain : Plain zz thereS recs 16 where
  fit := fit1
  len := by decide
  soa := soa1
  ne5 := rfl
  ne255 := rfl
  alias := by kernel_rfl
  mlen := by
    have : (matchP recs thereS).1.length ≤ 1 := of_decide_eq_true (by kernel_rfl)
    omega
  under := by kernel_rfl
  names := by
    rw [there_ans, there_auth]
    intro r hr
    simp only [List.nil_append, List.mem_cons, List.mem_nil_iff, or_false] at hr
    subst hr
    exact ⟨rfl, rfl, by decide⟩
  alen := by rw [there_ans]; simp
  blen := by rw [there_auth]; simp
theorem there_name : Sp.plain thereS = true := by kernel_rfl

def innerS : Str := [105, 110, 110, 101, 114, 46, 119, 46, 122, 122]
theorem inner_ans : stepAns zz recs 16 innerS = [] := by kernel_rfl
theorem inner_auth : stepAuth zz recs 16 innerS = [soaR] := by kernel_rfl
theorem inner_rc : stepRc zz recs innerS = 0 := by kernel_rfl
theorem inner_plain : Plain zz innerS recs 16 where
  fit := fit1
  len := by decide
  soa := soa1
  ne5 := rfl
  ne255 := rfl
  alias := by kernel_rfl
  mlen := by
    have : (matchP recs innerS).1.length ≤ 1 := of_decide_eq_true (by kernel_rfl)
    omega
  under := by kernel_rfl
  names := by
    rw [inner_ans, inner_auth]
    intro r hr
    simp only [List.nil_append, List.mem_cons, List.mem_nil_iff, or_false] at hr
    subst hr
    exact ⟨rfl, rfl, by decide⟩
  alen := by rw [inner_ans]; simp
  blen := by rw [inner_auth]; simp
theorem inner_name : Sp.plain innerS = true := by kernel_rfl

def yinnerS : Str := [121, 46, 105, 110, 110, 101, 114, 46, 119, 46, 122, 122]
theorem yinner_ans : stepAns zz recs 16 yinnerS = [] := by kernel_rfl
theorem yinner_auth : stepAuth zz recs 16 yinnerS = [soaR] := by kernel_rfl
theorem yinner_rc : stepRc zz recs yinnerS = 3 := by kernel_rfl
theorem yinner_plain : Plain zz yinnerS recs 16 where
  fit := fit1
  len := by decide
  soa := soa1
  ne5 := rfl
  ne255 := rfl
  alias := by kernel_rfl
  mlen := by
    have : (matchP recs yinnerS).1.length ≤ 1 := of_decide_eq_true (by kernel_rfl)
    omega
  under := by kernel_rfl
  names := by
    rw [yinner_ans, yinner_auth]
    intro r hr
    simp only [List.nil_append, List.mem_cons, List.mem_nil_iff, or_false] at hr
    subst hr
    exact ⟨rfl, rfl, by decide⟩
  alen := by rw [yinner_ans]; simp
  blen := by rw [yinner_auth]; simp
theorem yinner_name : Sp.plain yinnerS = true := by kernel_rfl

def ythereS : Str := [121, 46, 116, 104, 101, 114, 101, 46, 119, 46, 122, 122]
theorem ythere_ans : stepAns zz recs 16 ythereS = [] := by kernel_rfl
theorem ythere_auth : stepAuth zz recs 16 ythereS = [soaR] := by kernel_rfl
theorem ythere_rc : stepRc zz recs ythereS = 3 := by kernel_rfl
theorem ythere_plain : Plain zz ythereS recs 16 where
  fit := fit1
  len := by decide
  soa := soa1
  ne5 := rfl
  ne255 := rfl
  alias := by kernel_rfl
  mlen := by
    have : (matchP recs ythereS).1.length ≤ 1 := of_decide_eq_true (by kernel_rfl)
    omega
  under := by kernel_rfl
  names := by
    rw [ythere_ans, ythere_auth]
    intro r hr
    simp only [List.nil_append, List.mem_cons, List.mem_nil_iff, or_false] at hr
    subst hr
    exact ⟨rfl, rfl, by decide⟩
  alen := by rw [ythere_ans]; simp
  blen := by rw [ythere_auth]; simp
theorem ythere_name : Sp.plain ythereS = true := by kernel_rfl

end Tb
end Go.Proofs.YtjkllohiodfikaaGreatDoor
