/- What the zone of Starred answers. -/
import Derived.Test.YtkkpahmoljiepaaGreatDoorJ15
import Derived.Test.YtkkpahmoljiepaaGreatDoorJ16
import Derived.Test.YtkkpahmoljiepaaGreatDoorJ13
import Derived.Deep.RegionHeld
set_option linter.unusedSimpArgs false
set_option linter.unusedVariables false
namespace Go.Proofs.YtkkpahmoljiepaaGreatDoor
open Go.RowKit
open Pu (Str hide unhide)

namespace Tb
open Ta Kc

def wzz : Str := [119, 46, 122, 122]
def tailS : Str := 46 :: wzz
def Dig (d : UInt8) : Prop := 48 ≤ d.toNat ∧ d.toNat ≤ 57
/-- a name that ends with a digit and .w.zz -/
def Bad (n : Str) : Prop := ∃ p d, Dig d ∧ n = p ++ d :: tailS
def starR (n : Str) : Rec := (n, 3, 16, [115, 116, 97, 114])
def soaR : Rec := ([122, 122], 40, 6, [97, 46, 122, 122, 32, 98, 46, 122, 122, 32, 57, 32, 52, 48])

theorem mem_tw {p : Str → Bool} : ∀ (l : List Str) (x : Str), x ∈ l.takeWhile p → p x = true
  | [], x, h => by simp at h
  | y :: t, x, h => by
    by_cases hp : p y = true
    · rw [List.takeWhile_cons_of_pos hp, List.mem_cons] at h
      rcases h with rfl | h
      · exact hp
      · exact mem_tw t x h
    · rw [List.takeWhile_cons_of_neg hp] at h; simp at h
theorem suffix_iff (l s : Str) : Lib.hasSuffix l s = true ↔ ∃ p, l = p ++ s := by
  unfold Lib.hasSuffix
  rw [List.isSuffixOf_iff_suffix]
  constructor
  · rintro ⟨p, h⟩; exact ⟨p, h.symm⟩
  · rintro ⟨p, h⟩; exact ⟨p, h.symm⟩

theorem bad_under {n : Str} (h : Bad n) : ∀ r ∈ recs, Sp.under r.owner n = false := by
  obtain ⟨p, d, ⟨h1, h2⟩, rfl⟩ := h
  have key : ∀ l : Str, Sp.under l (p ++ d :: tailS) = true → l.reverse[5]? = some d := by
    intro l hl
    have hx : ∃ q, l = q ++ (d :: tailS) := by
      unfold Sp.under at hl
      rw [Bool.or_eq_true] at hl
      rcases hl with hl | hl
      · exact ⟨p, by simpa using hl⟩
      · obtain ⟨q, hq⟩ := (suffix_iff _ _).1 hl
        exact ⟨q ++ 46 :: p, by rw [hq]; simp⟩
    obtain ⟨q, rfl⟩ := hx
    simp [tailS, wzz]
  intro r hr
  cases hu : Sp.under r.owner (p ++ d :: tailS) with
  | false => rfl
  | true =>
    exfalso
    have hk := key _ hu
    simp only [recs, List.mem_cons, List.mem_nil_iff, or_false] at hr
    rcases hr with rfl | rfl | rfl | rfl | rfl
    all_goals
      simp [Rec.owner] at hk
      try (subst hk; revert h1 h2; decide)

theorem bad_there {n : Str} (h : Bad n) : there recs n = false := by
  unfold there
  have : underRuns n recs = [] := by
    unfold underRuns
    rw [List.filter_eq_nil_iff]
    intro x hx
    obtain ⟨r, hr, he⟩ := Ie.owner_mem hx
    rw [← he, bad_under h r hr]; simp
  rw [this]; rfl
theorem bad_of {n : Str} (h : Bad n) : ofP recs n = [] := by
  unfold ofP
  have : (runs sameOwner recs).find? (fun x => ownerOf x == n) = none := by
    rw [List.find?_eq_none]
    intro x hx
    obtain ⟨r, hr, he⟩ := Ie.owner_mem hx
    have := bad_under h r hr
    unfold Sp.under at this
    rw [Bool.or_eq_false_iff] at this
    rw [← he, this.1]; simp
  rw [this]
theorem bad_after {n : Str} (h : Bad n) : Bad (after n) ∨ after n = wzz := by
  obtain ⟨p, d, hd, rfl⟩ := h
  by_cases hc : (46 : UInt8) ∈ p
  · obtain ⟨a, b, rfl, ha⟩ := List.eq_append_cons_of_mem hc
    left
    rw [show a ++ 46 :: b ++ d :: tailS = a ++ 46 :: (b ++ d :: tailS) by simp, after_some a _ ha]
    exact ⟨b, d, hd, rfl⟩
  · right
    have hne : (46 : UInt8) ≠ d := by
      rintro rfl
      exact absurd hd.1 (by decide)
    rw [show p ++ d :: tailS = (p ++ [d]) ++ 46 :: wzz by simp [tailS], after_some _ _ (by simp [hc, hne])]
theorem bad_ne {n : Str} (h : Bad n) : n ≠ [] := by
  obtain ⟨p, d, hd, rfl⟩ := h
  simp
theorem wzz_find : (ends wzz).find? (there recs) = some wzz := by kernel_rfl
theorem bad_find : ∀ (f : Nat) (n : Str), n.length ≤ f → Bad n → (ends (after n)).find? (there recs) = some wzz
  | 0, n, hl, h => absurd (List.eq_nil_of_length_eq_zero (by omega)) (bad_ne h)
  | f + 1, n, hl, h => by
    have hal := after_len n (bad_ne h)
    rcases bad_after h with h' | h'
    · rw [ends_cons _ (bad_ne h'), List.find?_cons, bad_there h']
      exact bad_find f (after n) (by omega) h'
    · rw [h']; exact wzz_find
theorem bad_ends : ∀ (f : Nat) (n : Str), n.length ≤ f → Bad n → ∀ e ∈ ends n, Bad e ∨ e = wzz ∨ e = zz
  | 0, n, hl, h => absurd (List.eq_nil_of_length_eq_zero (by omega)) (bad_ne h)
  | f + 1, n, hl, h => by
    have hal := after_len n (bad_ne h)
    intro e he
    rw [ends_cons _ (bad_ne h), List.mem_cons] at he
    rcases he with rfl | he
    · exact .inl h
    · rcases bad_after h with h' | h'
      · exact bad_ends f (after n) (by omega) h' e he
      · rw [h', show ends wzz = [wzz, zz] from by kernel_rfl] at he
        simp at he
        exact .inr he
theorem bad_cut {n : Str} (h : Bad n) : cutP zz recs n = [] := by
  unfold cutP
  have hall : ∀ e ∈ (ends n).takeWhile (fun e => !(e == zz)), setP (ofP recs e) 2 = [] := by
    intro e he
    have h1 := mem_tw _ _ he
    have h2 := bad_ends _ n (Nat.le_refl _) h e (List.takeWhile_sublist _ |>.subset he)
    rcases h2 with h2 | rfl | rfl
    · rw [bad_of h2]; rfl
    · exact show setP (ofP recs wzz) 2 = [] by kernel_rfl
    · simp at h1
  generalize (ends n).takeWhile (fun e => !(e == zz)) = es at *
  induction es with
  | nil => rfl
  | cons e t ih =>
    rw [List.foldl_cons, show cutStep recs [] e = [] by unfold cutStep; rw [hall e (by simp)]; rfl]
    exact ih (fun x hx => hall x (by simp [hx]))
theorem star_of : ofP recs (42 :: 46 :: wzz) = [starR (42 :: 46 :: wzz)] := by kernel_rfl
theorem bad_match {n : Str} (h : Bad n) : matchP recs n = ([starR n], true) := by
  unfold matchP
  rw [bad_there h, bad_find _ n (Nat.le_refl _) h]
  show ((ofP recs (42 :: 46 :: wzz)).map (setOwner n), decide (0 < (ofP recs (42 :: 46 :: wzz)).length)) = _
  rw [star_of]; rfl
theorem deny1 : denyP zz recs = [soaR] := by kernel_rfl
theorem bad_rc {n : Str} (h : Bad n) : stepRc zz recs n = 0 := by
  unfold stepRc; rw [bad_cut h, bad_match h]; rfl
theorem bad_ans16 {n : Str} (h : Bad n) : stepAns zz recs 16 n = [starR n] := by
  unfold stepAns; rw [bad_cut h, bad_match h]; rfl
theorem bad_ans15 {n : Str} (h : Bad n) : stepAns zz recs 15 n = [] := by
  unfold stepAns; rw [bad_cut h, bad_match h]; rfl
theorem bad_auth16 {n : Str} (h : Bad n) : stepAuth zz recs 16 n = [] := by
  unfold stepAuth; rw [bad_cut h, bad_match h]; rfl
theorem bad_auth15 {n : Str} (h : Bad n) : stepAuth zz recs 15 n = [soaR] := by
  unfold stepAuth; rw [bad_cut h, bad_match h, deny1]; rfl
theorem bad_zz {n : Str} (h : Bad n) : Sp.under n zz = true := by
  obtain ⟨p, d, hd, rfl⟩ := h
  unfold Sp.under
  rw [Bool.or_eq_true]
  right
  rw [suffix_iff]
  exact ⟨p ++ d :: [46, 119], by simp [tailS, wzz, zz]⟩

theorem fit1 : Fit zz recs := by
  refine ⟨by decide, by decide, ?_⟩
  intro r hr
  simp only [recs, List.mem_cons, List.mem_nil_iff, or_false] at hr
  rcases hr with rfl | rfl | rfl | rfl | rfl <;> decide
theorem soa1 : ∀ r ∈ setP (ofP recs zz) 6, soaOk r ∧ r.data.length ≤ 3000 ∧ r.ttl ≤ 1000000000 := by
  rw [show setP (ofP recs zz) 6 = [([122, 122], 50, 6, [97, 46, 122, 122, 32, 98, 46, 122, 122, 32, 57, 32, 52, 48])] from by kernel_rfl]
  intro r hr
  simp only [List.mem_cons, List.mem_nil_iff, or_false] at hr
  subst hr
  refine ⟨⟨?_, 40, ?_, by omega⟩, by decide, by decide⟩
  · have : (lastW (Rec.data ([122, 122], 50, 6, [97, 46, 122, 122, 32, 98, 46, 122, 122, 32, 57, 32, 52, 48]))).length = 2 := by kernel_rfl
    omega
  · kernel_rfl

theorem plain16 {n : Str} (h : Bad n) (hl : n.length ≤ 2900) : Plain zz n recs 16 where
  fit := fit1
  len := hl
  soa := soa1
  ne5 := rfl
  ne255 := rfl
  alias := by rw [bad_match h]; rfl
  mlen := by rw [bad_match h]; simp
  under := bad_zz h
  names := by
    rw [bad_ans16 h, bad_auth16 h]
    intro r hr
    simp only [List.mem_append, List.mem_cons, List.mem_nil_iff, or_false] at hr
    subst hr
    exact ⟨rfl, rfl, by simp [starR, Rec.data]⟩
  alen := by rw [bad_ans16 h]; simp
  blen := by rw [bad_auth16 h]; simp
theorem plain15 {n : Str} (h : Bad n) (hl : n.length ≤ 2900) : Plain zz n recs 15 where
  fit := fit1
  len := hl
  soa := soa1
  ne5 := rfl
  ne255 := rfl
  alias := by rw [bad_match h]; rfl
  mlen := by rw [bad_match h]; simp
  under := bad_zz h
  names := by
    rw [bad_ans15 h, bad_auth15 h]
    intro r hr
    simp only [List.nil_append, List.mem_cons, List.mem_nil_iff, or_false] at hr
    subst hr
    exact ⟨rfl, rfl, by decide⟩
  alen := by rw [bad_ans15 h]; simp
  blen := by rw [bad_auth15 h]; simp

def thereS : Str := [116, 104, 101, 114, 101, 46, 119, 46, 122, 122]
theorem there_ans : stepAns zz recs 16 thereS = [] := by kernel_rfl
theorem there_auth : stepAuth zz recs 16 thereS = [soaR] := by kernel_rfl
theorem there_rc : stepRc zz recs thereS = 0 := by kernel_rfl
theorem there_plain : Plain zz thereS recs 16 where
  fit := fit1
  len := by decide
  soa := soa1
  ne5 := rfl
  ne255 := rfl
  alias := by kernel_rfl
  mlen := by
    have : (matchP recs thereS).1.length ≤ 1 := of_decide_eq_true (by kernel_rfl)
    omega
  under := by kernel_rfl
  names := by
    rw [there_ans, there_auth]
    intro r hr
    simp only [List.nil_append, List.mem_cons, List.mem_nil_iff, or_false] at hr
    subst hr
    exact ⟨rfl, rfl, by decide⟩
  alen := by rw [there_ans]; simp
  blen := by rw [there_auth]; simp
theorem there_name : Sp.plain thereS = true := by kernel_rfl

def innerS : Str := [105, 110, 110, 101, 114, 46, 119, 46, 122, 122]
theorem inner_ans : stepAns zz recs 16 innerS = [] := by kernel_rfl
theorem inner_auth : stepAuth zz recs 16 innerS = [soaR] := by kernel_rfl
theorem inner_rc : stepRc zz recs innerS = 0 := by kernel_rfl
theorem inner_plain : Plain zz innerS recs 16 where
  fit := fit1
  len := by decide
  soa := soa1
  ne5 := rfl
  ne255 := rfl
  alias := by kernel_rfl
  mlen := by
    have : (matchP recs innerS).1.length ≤ 1 := of_decide_eq_true (by kernel_rfl)
    omega
  under := by kernel_rfl
  names := by
    rw [inner_ans, inner_auth]
    intro r hr
    simp only [List.nil_append, List.mem_cons, List.mem_nil_iff, or_false] at hr
    subst hr
    exact ⟨rfl, rfl, by decide⟩
  alen := by rw [inner_ans]; simp
  blen := by rw [inner_auth]; simp
theorem inner_name : Sp.plain innerS = true := by kernel_rfl

def yinnerS : Str := [121, 46, 105, 110, 110, 101, 114, 46, 119, 46, 122, 122]
theorem yinner_ans : stepAns zz recs 16 yinnerS = [] := by kernel_rfl
theorem yinner_auth : stepAuth zz recs 16 yinnerS = [soaR] := by kernel_rfl
theorem yinner_rc : stepRc zz recs yinnerS = 3 := by kernel_rfl
theorem yinner_plain : Plain zz yinnerS recs 16 where
  fit := fit1
  len := by decide
  soa := soa1
  ne5 := rfl
  ne255 := rfl
  alias := by kernel_rfl
  mlen := by
    have : (matchP recs yinnerS).1.length ≤ 1 := of_decide_eq_true (by kernel_rfl)
    omega
  under := by kernel_rfl
  names := by
    rw [yinner_ans, yinner_auth]
    intro r hr
    simp only [List.nil_append, List.mem_cons, List.mem_nil_iff, or_false] at hr
    subst hr
    exact ⟨rfl, rfl, by decide⟩
  alen := by rw [yinner_ans]; simp
  blen := by rw [yinner_auth]; simp
theorem yinner_name : Sp.plain yinnerS = true := by kernel_rfl

def ythereS : Str := [121, 46, 116, 104, 101, 114, 101, 46, 119, 46, 122, 122]
theorem ythere_ans : stepAns zz recs 16 ythereS = [] := by kernel_rfl
theorem ythere_auth : stepAuth zz recs 16 ythereS = [soaR] := by kernel_rfl
theorem ythere_rc : stepRc zz recs ythereS = 3 := by kernel_rfl
theorem ythere_plain : Plain zz ythereS recs 16 where
  fit := fit1
  len := by decide
  soa := soa1
  ne5 := rfl
  ne255 := rfl
  alias := by kernel_rfl
  mlen := by
    have : (matchP recs ythereS).1.length ≤ 1 := of_decide_eq_true (by kernel_rfl)
    omega
  under := by kernel_rfl
  names := by
    rw [ythere_ans, ythere_auth]
    intro r hr
    simp only [List.nil_append, List.mem_cons, List.mem_nil_iff, or_false] at hr
    subst hr
    exact ⟨rfl, rfl, by decide⟩
  alen := by rw [ythere_ans]; simp
  blen := by rw [ythere_auth]; simp
theorem ythere_name : Sp.plain ythereS = true := by kernel_rfl

end Tb
end Go.Proofs.YtkkpahmoljiepaaGreatDoor

/- The zone of the statement Told: what its text reads as, and what it answers. -/
namespace Go.Proofs.YtkkpahmoljiepaaGreatDoor
open Go.RowKit
open Pu (Str hide unhide)

namespace Va
open Go.Sort
open Ta (headS zz)
/-- a host's line. -/
def lineS (k : UInt8) : Str := [104, k, 46, 122, 122, 32, k, 32, 65, 32, 49, 48, 46, 48, 46, k, 46, 55, 10]
def linesT : Str := lineS 49 ++ lineS 50 ++ lineS 51
def hostN (k : UInt8) : Str := [104, k, 46, 122, 122]
def dataN (k : UInt8) : Str := [49, 48, 46, 48, 46, k, 46, 55]
def recs0 : List Rec := [([122, 122], 50, 6, [97, 46, 122, 122, 32, 98, 46, 122, 122, 32, 57, 32, 52, 48]), ([122, 122], 50, 2, [97, 46, 122, 122]), ([104, 49, 46, 122, 122], 1, 1, [49, 48, 46, 48, 46, 49, 46, 55]), ([104, 50, 46, 122, 122], 2, 1, [49, 48, 46, 48, 46, 50, 46, 55]), ([104, 51, 46, 122, 122], 3, 1, [49, 48, 46, 48, 46, 51, 46, 55])]
def recs : List Rec := [([104, 49, 46, 122, 122], 1, 1, [49, 48, 46, 48, 46, 49, 46, 55]), ([104, 50, 46, 122, 122], 2, 1, [49, 48, 46, 48, 46, 50, 46, 55]), ([104, 51, 46, 122, 122], 3, 1, [49, 48, 46, 48, 46, 51, 46, 55]), ([122, 122], 50, 2, [97, 46, 122, 122]), ([122, 122], 50, 6, [97, 46, 122, 122, 32, 98, 46, 122, 122, 32, 57, 32, 52, 48])]

theorem read1 : readZ (headS ++ linesT) = some (zz, recs0) := by kernel_rfl
theorem read2 : readZ (headS ++ linesT ++ [10]) = none := by kernel_rfl
theorem sort1 : sortL recs0 = recs := by
  unfold sortL Sort.insertionSort
  simp only [show recs0.length = 5 from rfl]
  rw [insOuter_go _ _ _ _ _ (by decide), insOuter_go _ _ _ _ _ (by decide), insOuter_go _ _ _ _ _ (by decide), insOuter_go _ _ _ _ _ (by decide), insOuter_stop _ _ _ _ _ (by decide)]
  kernel_rfl
theorem starts1 : Rf.startsR zz recs0 = true := by kernel_rfl
theorem right1 : rightP zz recs = true := by kernel_rfl
theorem parse1 : parseP (headS ++ linesT) = some (zz, recs) := by
  unfold parseP
  rw [read1]
  show (if Rf.startsR zz recs0 && rightP zz (sortL recs0) then some (zz, sortL recs0) else none) = _
  rw [sort1, starts1, right1]; rfl
theorem parse2 : parseP (headS ++ linesT ++ [10]) = none := by
  unfold parseP
  rw [read2]; rfl
theorem fit1 : Fit zz recs := by
  refine ⟨by decide, by decide, ?_⟩
  intro r hr
  simp only [recs, List.mem_cons, List.mem_nil_iff, or_false] at hr
  rcases hr with rfl | rfl | rfl | rfl | rfl <;> decide
theorem soa1 : ∀ r ∈ setP (ofP recs zz) 6, soaOk r ∧ r.data.length ≤ 3000 ∧ r.ttl ≤ 1000000000 := by
  rw [show setP (ofP recs zz) 6 = [([122, 122], 50, 6, [97, 46, 122, 122, 32, 98, 46, 122, 122, 32, 57, 32, 52, 48])] from by kernel_rfl]
  intro r hr
  simp only [List.mem_cons, List.mem_nil_iff, or_false] at hr
  subst hr
  refine ⟨⟨?_, 40, ?_, by omega⟩, by decide, by decide⟩
  · have : (lastW (Rec.data ([122, 122], 50, 6, [97, 46, 122, 122, 32, 98, 46, 122, 122, 32, 57, 32, 52, 48]))).length = 2 := by kernel_rfl
    omega
  · kernel_rfl
/-- the address of a host. -/
def recN (k : UInt8) : Rec := (hostN k, k.toNat - 48, 1, dataN k)

theorem ans1 : stepAns zz recs 1 (hostN 49) = [recN 49] := by kernel_rfl
theorem auth1 : stepAuth zz recs 1 (hostN 49) = [] := by kernel_rfl
theorem rc1 : stepRc zz recs (hostN 49) = 0 := by kernel_rfl
theorem cut1 : cutP zz recs (hostN 49) = [] := by kernel_rfl
theorem plain1 : Plain zz (hostN 49) recs 1 where
  fit := fit1
  len := by decide
  soa := soa1
  ne5 := rfl
  ne255 := rfl
  alias := by kernel_rfl
  mlen := by
    have : (matchP recs (hostN 49)).1.length ≤ 1 := of_decide_eq_true (by kernel_rfl)
    omega
  under := by kernel_rfl
  names := by
    rw [ans1, auth1]
    intro r hr
    simp only [List.append_nil, List.mem_cons, List.mem_nil_iff, or_false] at hr
    subst hr
    exact ⟨rfl, rfl, by decide⟩
  alen := by rw [ans1]; simp
  blen := by rw [auth1]; simp
theorem ans2 : stepAns zz recs 1 (hostN 50) = [recN 50] := by kernel_rfl
theorem auth2 : stepAuth zz recs 1 (hostN 50) = [] := by kernel_rfl
theorem rc2 : stepRc zz recs (hostN 50) = 0 := by kernel_rfl
theorem cut2 : cutP zz recs (hostN 50) = [] := by kernel_rfl
theorem plain2 : Plain zz (hostN 50) recs 1 where
  fit := fit1
  len := by decide
  soa := soa1
  ne5 := rfl
  ne255 := rfl
  alias := by kernel_rfl
  mlen := by
    have : (matchP recs (hostN 50)).1.length ≤ 1 := of_decide_eq_true (by kernel_rfl)
    omega
  under := by kernel_rfl
  names := by
    rw [ans2, auth2]
    intro r hr
    simp only [List.append_nil, List.mem_cons, List.mem_nil_iff, or_false] at hr
    subst hr
    exact ⟨rfl, rfl, by decide⟩
  alen := by rw [ans2]; simp
  blen := by rw [auth2]; simp
theorem ans3 : stepAns zz recs 1 (hostN 51) = [recN 51] := by kernel_rfl
theorem auth3 : stepAuth zz recs 1 (hostN 51) = [] := by kernel_rfl
theorem rc3 : stepRc zz recs (hostN 51) = 0 := by kernel_rfl
theorem cut3 : cutP zz recs (hostN 51) = [] := by kernel_rfl
theorem plain3 : Plain zz (hostN 51) recs 1 where
  fit := fit1
  len := by decide
  soa := soa1
  ne5 := rfl
  ne255 := rfl
  alias := by kernel_rfl
  mlen := by
    have : (matchP recs (hostN 51)).1.length ≤ 1 := of_decide_eq_true (by kernel_rfl)
    omega
  under := by kernel_rfl
  names := by
    rw [ans3, auth3]
    intro r hr
    simp only [List.append_nil, List.mem_cons, List.mem_nil_iff, or_false] at hr
    subst hr
    exact ⟨rfl, rfl, by decide⟩
  alen := by rw [ans3]; simp
  blen := by rw [auth3]; simp
/-- the numbers of the three hosts, as digits. -/
def IsK (k : UInt8) : Prop := k = 49 ∨ k = 50 ∨ k = 51
theorem ansK {k : UInt8} (h : IsK k) : stepAns zz recs 1 (hostN k) = [recN k] := by
  rcases h with rfl | rfl | rfl
  · exact ans1
  · exact ans2
  · exact ans3
theorem authK {k : UInt8} (h : IsK k) : stepAuth zz recs 1 (hostN k) = [] := by
  rcases h with rfl | rfl | rfl
  · exact auth1
  · exact auth2
  · exact auth3
theorem rcK {k : UInt8} (h : IsK k) : stepRc zz recs (hostN k) = 0 := by
  rcases h with rfl | rfl | rfl
  · exact rc1
  · exact rc2
  · exact rc3
theorem cutK {k : UInt8} (h : IsK k) : cutP zz recs (hostN k) = [] := by
  rcases h with rfl | rfl | rfl
  · exact cut1
  · exact cut2
  · exact cut3
theorem plainK {k : UInt8} (h : IsK k) : Plain zz (hostN k) recs 1 := by
  rcases h with rfl | rfl | rfl
  · exact plain1
  · exact plain2
  · exact plain3
end Va
end Go.Proofs.YtkkpahmoljiepaaGreatDoor

/- Contracts: beaconkeep's two, question, query without an OPT, capital, address, line. -/
namespace Go.Proofs.YtkkpahmoljiepaaGreatDoor
open Go.RowKit
open Pu (Str hide unhide)

namespace Vb
open Ka Kc Wa Wb Wd Wi Wl Wm Va

theorem ba_ext {a b : ByteArray} (h : a.data.toList = b.data.toList) : a = b := by
  cases a; cases b; simp at h; rw [h]

/-- bytes that were just laid, read as a text. -/
theorem conv_new (w : World) (l : Str) (n : Nat) (hn : n = l.length) (hl : l.length ≤ maxLen) : (convert 58 9 (.slice (some ⟨w.heap.size, 0, none⟩) n n)).run Tryz.prog (w.alloc (.cells (l.map fun c => Value.int .u8 c.toNat).toArray 5)) = .ok (.string (B l)) (w.alloc (.cells (l.map fun c => Value.int .u8 c.toNat).toArray 5)) := by
  subst hn
  refine own_string (base := 0) ⟨by simp, .inr ⟨w.heap.size, l.length, (l.map fun c => Value.int .u8 c.toNat).toArray, rfl, Nat.zero_le _, World.alloc_heap_new w _, Nat.le_refl _, hl, by simp, by rw [Nat.mul_one]; exact List.take_of_length_le (by simp)⟩⟩

set_option maxHeartbeats 400000 in
theorem two_any (n : Nat) (w : World) (hn : n < 65536) :
    Calls Tryz.prog 33 #[.int .i64 n] w fun e w' => e = .returned (.string (B [hi n, lo n])) ∧ Below w.heap.size w w' := by
  have kc := conv_new w [hi n, lo n] 2 rfl (by simp [maxLen])
  have eh : ((hi n).toNat : Int) = (n : Int) / 256 := by unfold hi; rw [UInt8.toNat_ofNat']; omega
  have el : ((lo n).toNat : Int) = (n : Int) % 256 := by unfold lo; rw [UInt8.toNat_ofNat']; omega
  simp only [List.map_cons, List.map_nil, eh, el] at kc
  go_enter Tryz.func33, Tryz.ntmps33
  go_wp2
  go_ret
  exact ⟨rfl, (Below.refl _ _).alloc (Nat.le_refl _) _⟩

set_option maxHeartbeats 400000 in
theorem two_exact (n : Nat) (w : World) (hn : n < 65536) :
    Calls Tryz.prog 33 #[.int .i64 n] w fun e w' => e = .returned (.string (B [hi n, lo n])) ∧ w' = w.alloc (.cells #[.int .u8 ((n : Int) / 256), .int .u8 ((n : Int) % 256)] 5) := by
  have kc := conv_new w [hi n, lo n] 2 rfl (by simp [maxLen])
  have eh : ((hi n).toNat : Int) = (n : Int) / 256 := by unfold hi; rw [UInt8.toNat_ofNat']; omega
  have el : ((lo n).toNat : Int) = (n : Int) % 256 := by unfold lo; rw [UInt8.toNat_ofNat']; omega
  simp only [List.map_cons, List.map_nil, eh, el] at kc
  go_enter Tryz.func33, Tryz.ntmps33
  go_wp2
  go_ret
  exact ⟨rfl, rfl⟩

/-- the row of an address. -/
def AdAt (w : World) (b : Nat) (k : Nat) : Prop := w.heap[b]? = some (.cells #[.int .i64 10, .int .i64 0, .int .i64 k, .int .i64 7] 3)
theorem AdAt.cells {w : World} {b k : Nat} (h : AdAt w b k) : w.cell? ⟨b, 0, none⟩ = some (.int .i64 10) ∧ w.cell? ⟨b, 1, none⟩ = some (.int .i64 0) ∧ w.cell? ⟨b, 2, none⟩ = some (.int .i64 k) ∧ w.cell? ⟨b, 3, none⟩ = some (.int .i64 7) := by
  unfold AdAt at h
  refine ⟨?_, ?_, ?_, ?_⟩ <;> simp [World.cell?, h]

set_option maxHeartbeats 400000 in
theorem address_any (k : Nat) (w : World) (hk : k < 250) :
    Calls Tryz.prog 32 #[.int .i64 k] w fun e w' => e = .returned (.slice (some ⟨w.heap.size, 0, none⟩) 4 4) ∧ AdAt w' w.heap.size k ∧ w'.heap.size = w.heap.size + 1 ∧ Below w.heap.size w w' := by
  have e1 : (k : Int) / 250 = 0 := by omega
  have e2 : (k : Int) % 250 = k := by omega
  go_enter Tryz.func32, Tryz.ntmps32
  go_wp2
  go_ret
  refine ⟨rfl, ?_, by simp, (Below.refl _ _).alloc (Nat.le_refl _) _⟩
  have := World.alloc_heap_new w (.cells #[.int .i64 10, .int .i64 0, .int .i64 k, .int .i64 7] 3)
  first | exact this | simpa [AdAt, e1, e2] using this
theorem dig10 : digitsI 10 = [49, 48] := by rw [digitsI_great 10 (by omega), digitsI_small _ (by omega)]; rfl
theorem dig0 : digitsI 0 = [48] := by rw [digitsI_small _ (by omega)]; rfl
theorem dig7 : digitsI 7 = [55] := by rw [digitsI_small _ (by omega)]; rfl
theorem digK (k : Nat) (hk : k < 10) : digitsI k = [UInt8.ofNat (48 + k)] := digitsI_small k hk
/-- a number's digit. -/
def dg (k : Nat) : UInt8 := UInt8.ofNat (48 + k)

theorem s_below {w : World} {b k : Nat} {A B : World} (h : (A.cell? ⟨b, 0, none⟩ = some (.int .i64 10) ∧ A.cell? ⟨b, 1, none⟩ = some (.int .i64 0) ∧ A.cell? ⟨b, 2, none⟩ = some (.int .i64 k) ∧ A.cell? ⟨b, 3, none⟩ = some (.int .i64 7) ∧ Below w.heap.size w A)) (hlt : b < A.heap.size) (hb : Below A.heap.size A B) (hs : w.heap.size ≤ A.heap.size) : (B.cell? ⟨b, 0, none⟩ = some (.int .i64 10) ∧ B.cell? ⟨b, 1, none⟩ = some (.int .i64 0) ∧ B.cell? ⟨b, 2, none⟩ = some (.int .i64 k) ∧ B.cell? ⟨b, 3, none⟩ = some (.int .i64 7) ∧ Below w.heap.size w B) :=
  ⟨(hb.cell (p := ⟨b, 0, none⟩) hlt).trans h.1, (hb.cell (p := ⟨b, 1, none⟩) hlt).trans h.2.1, (hb.cell (p := ⟨b, 2, none⟩) hlt).trans h.2.2.1, (hb.cell (p := ⟨b, 3, none⟩) hlt).trans h.2.2.2.1, h.2.2.2.2.trans (hb.mono hs)⟩

set_option maxRecDepth 100000 in
set_option maxHeartbeats 1600000 in
theorem line_any (k : Nat) (w : World) (hk : k < 10) (hk1 : 0 < k) :
    Calls Tryz.prog 23 #[.int .i64 k] w fun e w' => e = .returned (.string (B (lineS (dg k)))) ∧ Below w.heap.size w w' := by
  have HD : Hid (∀ (b : Nat) (n : Nat) (l : Str), n ≤ 1000000 → digitsI n = l → ∀ W, (W.cell? ⟨b, 0, none⟩ = some (.int .i64 10) ∧ W.cell? ⟨b, 1, none⟩ = some (.int .i64 0) ∧ W.cell? ⟨b, 2, none⟩ = some (.int .i64 k) ∧ W.cell? ⟨b, 3, none⟩ = some (.int .i64 7) ∧ Below w.heap.size w W) → Calls Tryz.prog 21 #[.int .i64 n] W fun e w' => e = .returned (.string ⟨l.toArray⟩) ∧ (w'.cell? ⟨b, 0, none⟩ = some (.int .i64 10) ∧ w'.cell? ⟨b, 1, none⟩ = some (.int .i64 0) ∧ w'.cell? ⟨b, 2, none⟩ = some (.int .i64 k) ∧ w'.cell? ⟨b, 3, none⟩ = some (.int .i64 7) ∧ Below w.heap.size w w')) := fun b n l hn hl W hS => by
    refine (digits_any n W hn).mono ?_
    rintro e w' ⟨rfl, hb⟩
    rw [hl]
    exact ⟨rfl, s_below hS (World.block_lt_of_cell? W ⟨b, 0, none⟩ hS.1) hb hS.2.2.2.2.size⟩
  have HH : Hid (∀ (b : Nat), ∀ W, (W.cell? ⟨b, 0, none⟩ = some (.int .i64 10) ∧ W.cell? ⟨b, 1, none⟩ = some (.int .i64 0) ∧ W.cell? ⟨b, 2, none⟩ = some (.int .i64 k) ∧ W.cell? ⟨b, 3, none⟩ = some (.int .i64 7) ∧ Below w.heap.size w W) → Calls Tryz.prog 25 #[.int .i64 k] W fun e w' => e = .returned (.string ⟨#[104, dg k]⟩) ∧ (w'.cell? ⟨b, 0, none⟩ = some (.int .i64 10) ∧ w'.cell? ⟨b, 1, none⟩ = some (.int .i64 0) ∧ w'.cell? ⟨b, 2, none⟩ = some (.int .i64 k) ∧ w'.cell? ⟨b, 3, none⟩ = some (.int .i64 7) ∧ Below w.heap.size w w')) := fun b W hS => by
    refine (host_any k W (by omega)).mono ?_
    rintro e w' ⟨rfl, hb⟩
    rw [digK k hk]
    exact ⟨rfl, s_below hS (World.block_lt_of_cell? W ⟨b, 0, none⟩ hS.1) hb hS.2.2.2.2.size⟩
  have HA := hide (address_any k w (by omega))
  go_enter Tryz.func23, Tryz.ntmps23
  go_wp2_with fail
  refine (unhide HA).mono ?_
  rintro e w1 ⟨rfl, had, hsz, hb1⟩
  obtain ⟨b, hbe⟩ : ∃ b, b = w.heap.size := ⟨_, rfl⟩
  have hS0 : (w1.drew.cell? ⟨b, 0, none⟩ = some (.int .i64 10) ∧ w1.drew.cell? ⟨b, 1, none⟩ = some (.int .i64 0) ∧ w1.drew.cell? ⟨b, 2, none⟩ = some (.int .i64 k) ∧ w1.drew.cell? ⟨b, 3, none⟩ = some (.int .i64 7) ∧ Below w.heap.size w w1.drew) := by
    rw [hbe]
    exact ⟨had.cells.1, had.cells.2.1, had.cells.2.2.1, had.cells.2.2.2, hb1.drew⟩
  rw [← hbe]
  have HBE := hide hbe
  have HS0 := hide hS0
  have H10 := hide (unhide HD b 10 _ (by omega) dig10)
  have H0 := hide (unhide HD b 0 _ (by omega) dig0)
  have H7 := hide (unhide HD b 7 _ (by omega) dig7)
  have HK := hide (unhide HD b k [dg k] (by omega) (digK k hk))
  have HHB := hide (unhide HH b)
  clear HA had hsz hbe hS0 HD HH hb1
  obtain ⟨hS1, hS2, hS3, hS4, hS5⟩ := unhide HS0
  go_wp2_with fail
  go_region_held (fun w' => w'.cell? ⟨b, 0, none⟩ = some (.int .i64 10) ∧ w'.cell? ⟨b, 1, none⟩ = some (.int .i64 0) ∧ w'.cell? ⟨b, 2, none⟩ = some (.int .i64 k) ∧ w'.cell? ⟨b, 3, none⟩ = some (.int .i64 7) ∧ Below w.heap.size w w') (first | assumption | go_keep)
    (first
      | (go_at_call 25; go_loud (refine (unhide HHB _ ?_).mono ?_; assumption; rintro e w' ⟨rfl, hq⟩))
      | (go_at_call_of 21 (Value.int IntKind.i64 10); go_loud (refine (unhide H10 _ ?_).mono ?_; assumption; rintro e w' ⟨rfl, hq⟩))
      | (go_at_call_of 21 (Value.int IntKind.i64 0); go_loud (refine (unhide H0 _ ?_).mono ?_; assumption; rintro e w' ⟨rfl, hq⟩))
      | (go_at_call_of 21 (Value.int IntKind.i64 7); go_loud (refine (unhide H7 _ ?_).mono ?_; assumption; rintro e w' ⟨rfl, hq⟩))
      | (go_at_call_of 21 (Value.int IntKind.i64 (k : Int)); go_loud (refine (unhide HK _ ?_).mono ?_; assumption; rintro e w' ⟨rfl, hq⟩)))
  rename_i hH
  have HFIN := hide hH.2.2.2.2
  clear hH hq
  go_wp2_with fail
  go_ret
  refine ⟨congrArg (fun x => Ending.returned (.string x)) (ba_ext (by simp [B, lineS])), unhide HFIN⟩
end Vb
end Go.Proofs.YtkkpahmoljiepaaGreatDoor

/- Contracts: wire's sum; beaconkeep's at, sum. -/
namespace Go.Proofs.YtkkpahmoljiepaaGreatDoor
open Go.RowKit
open Pu (Str hide unhide)

namespace Hb
open Ka Kc Wa Wb Wc Wd We Wf Wg Wh Wi Wj Wk Wl Wm Ha Re

theorem i64_and_ffff (n : Nat) (h : n < 9223372036854775808) : bits .and .i64 (n : Int) 65535 = (n : Int) % 65536 := by
  have e : bits .and .i64 (n : Int) 65535 = ((n % 65536 : Nat) : Int) := by
    show IntKind.i64.wrap ((BitVec.ofInt 64 (n : Int) &&& BitVec.ofInt 64 65535).toNat : Int) = _
    rw [BitVec.toNat_and, ofInt_u64 n (by omega), show (65535 : Int) = ((65535 : Nat) : Int) from rfl, ofInt_u64 65535 (by omega), show (65535 : Nat) = 2 ^ 16 - 1 from rfl, Nat.and_two_pow_sub_one_eq_mod]
    rw [IntKind.wrap_i64]
    first | omega | (unfold wrap64; omega)
  rw [e]; omega

set_option maxRecDepth 100000 in
set_option maxHeartbeats 1600000 in
theorem sum_any (g cap : Nat) (fs : List Fd) (w : World) (hok : ∀ f ∈ fs, f.Ok) (hlt : g < w.heap.size) (hcells : ∀ j (h : j < fs.length), w.cell? ⟨g, j, none⟩ = some (.iface fs[j].t fs[j].x))
    (hn : fs.length ≤ cap) (hc : fs.length ≤ 1000000) (hl : (outs fs).length ≤ 1000000) :
    Calls Tryz.prog 256 #[.slice (some ⟨g, 0, none⟩) fs.length cap] w fun e w' => e = .returned (.int .i64 (fold (ws true (outs fs)))) ∧ Below w.heap.size w w' := by
  have HW := hide (written_any g cap fs w hok hlt hcells hn hc hl)
  clear hok hcells
  generalize outs fs = l at *
  go_enter Tryz.func256, Tryz.ntmps256
  go_wp2_with fail
  refine (unhide HW).mono ?_
  rintro e w1 ⟨rfl, hb1⟩
  have kb := run_bytes_of_string (P := Tryz.prog) w1 9 58 5 (B l) Tryz.underlying9 Tryz.underlying58 Tryz.underlying5
  have HA := hide (bytes_new w1 l (grownCap w1 (B l).size 0 5))
  have HB : Hid (Below w.heap.size w _) := hb1.trans ((((Below.refl w1.heap.size w1).drew.alloc (Nat.le_refl w1.heap.size) (.cells (bytesRow (B l) (grownCap w1 (B l).size 0 5)) 5 ((bytesRow (B l) (grownCap w1 (B l).size 0 5)).size, (bytesRow (B l) (grownCap w1 (B l).size 0 5)).size + 1))).mono hb1.size))
  have hcap : l.length ≤ grownCap w1 (B l).size 0 5 := by
    have := grownCap_ge w1 (B l).size 0 5
    rw [size_B] at this ⊢
    exact this
  generalize grownCap w1 (B l).size 0 5 = cap1 at *
  generalize w1.drew.alloc (.cells (bytesRow (B l) cap1) 5 ((bytesRow (B l) cap1).size, (bytesRow (B l) cap1).size + 1)) = W at *
  generalize hbq : w1.heap.size = bq at *
  have hs : (B l).size = l.length := size_B l
  clear hb1 HW hbq
  go_wp2_with fail
  go_loopw [3, 10] (fun t i wr => ∃ k : Nat, t = .int .i64 (fold (ws true (l.take k)) : Nat) ∧ i = .int .i64 k ∧ k ≤ l.length ∧ wr = W) (fun _ i _ => l.length - (intOf i).toNat)
  case atStart => exact ⟨0, rfl, rfl, Nat.zero_le _, rfl⟩
  case round =>
    obtain ⟨k, rfl, rfl, hk, rfl⟩ := hrel
    by_cases hlk : k < l.length
    · have hcell : wr.cell? ⟨bq, k, none⟩ = some (.int .u8 l[k].toNat) := (unhide HA).2.1 k hlk
      have HE := hide (ws_take l k hlk)
      generalize l[k] = c at *
      have hc := UInt8.toNat_lt c
      generalize c.toNat = n at *
      have HS := hide (fun x hx => fold_step (ws true (l.take k)) x hx)
      have hfl := fold_le (ws true (l.take k))
      generalize ws true (l.take k) = a at *
      generalize fold a = f at *
      by_cases he : k % 2 = 0
      · have he' : (k : Int) % 2 = 0 := by omega
        rw [if_pos he] at HE
        have e1 : bits .and .i64 ((f : Int) + (n : Int) * 256) 65535 = ((f : Int) + (n : Int) * 256) % 65536 := by
          rw [show (f : Int) + (n : Int) * 256 = ((f + n * 256 : Nat) : Int) by omega, i64_and_ffff _ (by omega)]
        have HX : Hid (((f : Int) + (n : Int) * 256) % 65536 + ((f : Int) + (n : Int) * 256) / 65536 = ((fold (ws true (l.take (k + 1))) : Nat) : Int)) := by
          have := unhide HS (n * 256) (by omega)
          rw [← unhide HE] at this
          rw [Hid]; omega
        clear HE HS
        go_wp2
        rw [unhide HX]
        exact ⟨⟨k + 1, rfl, by go_num, by omega, trivial⟩, by simp [intOf]; omega⟩
      · have he' : ¬ (k : Int) % 2 = 0 := by omega
        rw [if_neg he] at HE
        have e1 : bits .and .i64 ((f : Int) + (n : Int)) 65535 = ((f : Int) + (n : Int)) % 65536 := by
          rw [show (f : Int) + (n : Int) = ((f + n : Nat) : Int) by omega, i64_and_ffff _ (by omega)]
        have HX : Hid (((f : Int) + (n : Int)) % 65536 + ((f : Int) + (n : Int)) / 65536 = ((fold (ws true (l.take (k + 1))) : Nat) : Int)) := by
          have := unhide HS n (by omega)
          rw [← unhide HE] at this
          rw [Hid]; omega
        clear HE HS
        go_wp2
        rw [unhide HX]
        exact ⟨⟨k + 1, rfl, by go_num, by omega, trivial⟩, by simp [intOf]; omega⟩
    · have hkl : k = l.length := by omega
      subst hkl
      have HE := hide (congrArg (fun x => fold (ws true x)) (List.take_length (l := l)))
      generalize fold (ws true (l.take l.length)) = f at *
      go_wp2
      go_ret
      refine ⟨?_, unhide HB⟩
      rw [unhide HE]; rfl

set_option maxHeartbeats 400000 in
theorem at_any (s : Str) (i : Nat) (w : World) (h : i + 1 < s.length) (hl : s.length ≤ 1000000) :
    Calls Tryz.prog 34 #[.string (B s), .int .i64 i] w fun e w' => e = .returned (.int .i64 ((256 * s[i].toNat + s[i + 1].toNat : Nat) : Int)) ∧ Below w.heap.size w w' := by
  have hs : (B s).size = s.length := size_B s
  obtain ⟨j, hj⟩ : ∃ j, j = i + 1 := ⟨_, rfl⟩
  have kj : (i : Int) + 1 = (j : Int) := by omega
  have hi' : i < s.length := by omega
  have hj' : j < s.length := by omega
  have g1 : ∀ h : i < (B s).size, (B s)[i] = s[i] := fun h => rfl
  have g2 : ∀ h : j < (B s).size, (B s)[j] = s[j] := fun h => rfl
  have c1 := UInt8.toNat_lt s[i]
  have c2 := UInt8.toNat_lt s[j]
  have HG : Hid ((256 : Int) * (s[i].toNat : Int) + (s[j].toNat : Int) = ((256 * s[i].toNat + s[i + 1].toNat : Nat) : Int)) := by subst hj; rw [Hid]; omega
  generalize ((256 * s[i].toNat + s[i + 1].toNat : Nat) : Int) = R at *
  clear h hj
  go_enter Tryz.func34, Tryz.ntmps34
  go_wp2_with fail
  go_region
  all_goals
    go_wp2
    go_ret
    refine ⟨?_, (Below.refl _ _).drew⟩
    rw [← unhide HG]; rfl
end Hb
end Go.Proofs.YtkkpahmoljiepaaGreatDoor
