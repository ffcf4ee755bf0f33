/- Contracts: records.Sort, at fewer than twenty records. -/
import Derived.Test.YtkkpahmoljiepaaGreatDoorJ14
import Derived.Test.YtkkpahmoljiepaaGreatDoorJLg
import Derived.Shelf.Spec.SlicesGrow
import Derived.Ground.Names8Prog
import Derived.Test.YtkkpahmoljiepaaGreatDoorProg
set_option linter.unusedSimpArgs false
set_option linter.unusedVariables false
namespace Go.Proofs.YtkkpahmoljiepaaGreatDoor
open Go.RowKit Go.Sort
open Pu (Str hide unhide)

/-- the records in their order, as the insertion sort lays them. -/
def sortL (rs : List Rec) : List Rec := (Sort.insertionSort (ltOf Sa.cmpR) rs.toArray 0 rs.length).toList

namespace Sb
open Ka Kd Sa

theorem holdsK_of {w : World} {g : Nat} {cur : Array Value} {e : TypeId} {rs : List Rec} (hg : w.heap[g]? = some (.cells cur e)) (hr : RecsAt w g 0 rs) : HoldsK Rec.enc 4 w g 0 rs.toArray := by
  intro j hj
  rw [size_flatK] at hj
  simp only [List.size_toArray] at hj
  rw [get_flatK _ _ _ _ (by simpa using hj)]
  refine ⟨?_, by simp [World.frozen?, hg]⟩
  have hj4 : j / 4 < rs.length := by omega
  have hlen : (Rec.enc rs[j / 4]!).length = 4 := rfl
  have h1 : (Rec.enc rs[j / 4]!)[j % 4]? = some (Rec.enc rs[j / 4]!)[j % 4]! := by
    have hk : j % 4 < (Rec.enc rs[j / 4]!).length := by rw [hlen]; omega
    rw [List.getElem?_eq_getElem hk, getElem!_pos (Rec.enc rs[j / 4]!) (j % 4) hk]
  have := hr.2 (j / 4) hj4 (j % 4) _ h1
  rw [show 0 + j / 4 * 4 + j % 4 = 0 + j from by omega] at this
  rw [this]
  simp

theorem recsAt_of_holds {w : World} {g : Nat} {rs : List Rec} (hg : g < w.heap.size) (h : HoldsK Rec.enc 4 w g 0 rs.toArray) : RecsAt w g 0 rs := by
  refine ⟨hg, fun j hj i u hu => ?_⟩
  have hi : i < 4 := by have := (List.getElem?_eq_some_iff.1 hu).1; exact this
  have hc := (h.cell (i := j) (c := i) (by simpa using hj) hi).1
  rw [hc]
  have e : rs.toArray[j]! = rs[j]! := by simp
  rw [e]
  rw [List.getElem?_eq_some_iff] at hu
  obtain ⟨h1, h2⟩ := hu
  rw [getElem!_pos (Rec.enc rs[j]!) i h1, h2]

theorem cmpLays (blk off size : Nat) (w : World) : CmpLays Tryz.prog 103 #[] Rec.enc 4 cmpR blk off size w :=
  fun _ _ _ _ x y => sorted1 x y _

theorem insertion (g cap : Nat) (rs : List Rec) (w : World) (hH : HoldsK Rec.enc 4 w g 0 rs.toArray) (hg : g < w.heap.size) (hl : rs.length ≤ 3001) :
    Calls Tryz.prog 231 #[.slice (some ⟨g, 0, none⟩) rs.length cap, .int .i64 0, .int .i64 rs.length, .func (.func 103) #[] #[]] w fun e w' =>
      e = .returned (.tuple #[]) ∧ ∃ n os, w' = sortWorldK Rec.enc 4 w g 0 n (Sort.insertionSort (ltOf cmpR) rs.toArray 0 rs.length) os :=
  AnyQ.insertionSortCmpFunc Tryz.lInsertion 4 Tryz.isAgg47 Tryz.sizeOf47 Rec.enc (fun _ => rfl) (fun x v hv => by simp [Rec.enc] at hv; rcases hv with rfl | rfl | rfl | rfl <;> rfl) cmpR 103 #[] g 0 cap 0 rs.length rs.toArray w (enters_of Tryz.func103 (by kernel_rfl) rfl) (cmpLays _ _ _ _) hH hg (Nat.zero_le _) (by simp) (by simp; omega)

set_option maxHeartbeats 800000 in
theorem stable_any (g cap : Nat) (rs : List Rec) (w : World) (hH : HoldsK Rec.enc 4 w g 0 rs.toArray) (hg : g < w.heap.size) (hl : rs.length < 20) :
    Calls Tryz.prog 173 #[.slice (some ⟨g, 0, none⟩) rs.length cap, .int .i64 rs.length, .func (.func 103) #[] #[]] w fun e w' =>
      e = .returned (.tuple #[]) ∧ ∃ n os, w' = sortWorldK Rec.enc 4 w g 0 n (Sort.insertionSort (ltOf cmpR) rs.toArray 0 rs.length) os := by
  have HI := hide (insertion g cap rs w hH hg (by omega))
  have hlI : (rs.length : Int) < 20 := by omega
  clear hH
  go_enter Tryz.func173, Tryz.ntmps173
  go_wp2_with fail
  go_loop [7, 8] (fun a b => a = .int .i64 0 ∧ b = .int .i64 20) (fun _ _ => 0)
  case atStart => exact ⟨rfl, rfl⟩
  case round =>
    obtain ⟨rfl, rfl⟩ := hrel
    go_wp2_with fail
    refine (unhide HI).mono ?_
    rintro e w1 ⟨rfl, hw⟩
    have HW := hide hw
    clear hw
    go_wp2_with fail
    go_loop [6] (fun a => a = .int .i64 20) (fun _ => 0)
    case atStart => rfl
    case round =>
      obtain rfl := hrel
      go_wp2_with fail
      go_end0
      exact ⟨rfl, unhide HW⟩

set_option maxHeartbeats 800000 in
theorem sortStable_any (g cap : Nat) (rs : List Rec) (w : World) (hH : HoldsK Rec.enc 4 w g 0 rs.toArray) (hg : g < w.heap.size) (hl : rs.length < 20) :
    Calls Tryz.prog 102 #[.slice (some ⟨g, 0, none⟩) rs.length cap, .func (.func 103) #[] #[]] w fun e w' =>
      e = .returned (.tuple #[]) ∧ ∃ n os, w' = sortWorldK Rec.enc 4 w g 0 n (Sort.insertionSort (ltOf cmpR) rs.toArray 0 rs.length) os := by
  have HI := hide (stable_any g cap rs w hH hg hl)
  clear hH
  go_enter Tryz.func102, Tryz.ntmps102
  go_wp2_with fail
  refine (unhide HI).mono ?_
  rintro e w1 ⟨rfl, hw⟩
  have HW := hide hw
  clear hw
  go_wp2_with fail
  go_end0
  exact ⟨rfl, unhide HW⟩

set_option maxHeartbeats 800000 in
theorem sort0 (g cap : Nat) (rs : List Rec) (w : World) (hH : HoldsK Rec.enc 4 w g 0 rs.toArray) (hg : g < w.heap.size) (hl : rs.length < 20) :
    Calls Tryz.prog 59 #[.slice (some ⟨g, 0, none⟩) rs.length cap] w fun e w' =>
      e = .returned (.tuple #[]) ∧ ∃ n os, w' = sortWorldK Rec.enc 4 w g 0 n (Sort.insertionSort (ltOf cmpR) rs.toArray 0 rs.length) os := by
  have HI := hide (sortStable_any g cap rs w hH hg hl)
  clear hH
  go_enter Tryz.func59, Tryz.ntmps59
  go_wp2_with fail
  refine (unhide HI).mono ?_
  rintro e w1 ⟨rfl, hw⟩
  have HW := hide hw
  clear hw
  go_wp2_with fail
  go_end0
  exact ⟨rfl, unhide HW⟩

theorem size_ins (lt : Rec → Rec → Bool) (a : Nat) : ∀ (j : Nat) (d : Array Rec), (insInner lt a j d).size = d.size
  | 0, d => rfl
  | j + 1, d => by
    rw [insInner]
    split
    · rw [size_ins lt a j, size_swp]
    · rfl
theorem size_out (lt : Rec → Rec → Bool) (a b : Nat) : ∀ (f i : Nat) (d : Array Rec), b - i ≤ f → (insOuter lt a b i d).size = d.size
  | 0, i, d, h => by rw [insOuter, if_neg (by omega)]
  | f + 1, i, d, h => by
    rw [insOuter]
    split
    · rw [size_out lt a b f _ _ (by omega), size_ins]
    · rfl
theorem size_sort (lt : Rec → Rec → Bool) (d : Array Rec) (a b : Nat) : (Sort.insertionSort lt d a b).size = d.size := size_out lt a b _ _ d (Nat.le_refl _)

theorem sortL_len (rs : List Rec) : (sortL rs).length = rs.length := by
  unfold sortL; rw [Array.length_toList, size_sort]; simp

theorem all_swp {p : Rec → Prop} {d : Array Rec} (h : ∀ k, k < d.size → p d[k]!) {i j : Nat} (hi : i < d.size) (hj : j < d.size) : ∀ k, k < (swp d i j).size → p (swp d i j)[k]! := by
  intro k hk
  rw [size_swp] at hk
  unfold swp
  have hk1 : k < (d.setIfInBounds i d[j]!).size := by simpa using hk
  have hk2 : k < ((d.setIfInBounds i d[j]!).setIfInBounds j d[i]!).size := by simpa using hk
  rw [getElem!_pos _ k hk2, Array.getElem_setIfInBounds hk1]
  split
  · exact h i hi
  · rw [Array.getElem_setIfInBounds hk]
    split
    · exact h j hj
    · rw [← getElem!_pos d k hk]; exact h k hk
theorem all_ins {p : Rec → Prop} (lt : Rec → Rec → Bool) (a : Nat) : ∀ (j : Nat) (d : Array Rec), j < d.size → (∀ k, k < d.size → p d[k]!) → ∀ k, k < (insInner lt a j d).size → p (insInner lt a j d)[k]!
  | 0, d, _, h => h
  | j + 1, d, hj, h => by
    rw [insInner]
    split
    · exact all_ins lt a j _ (by rw [size_swp]; omega) (all_swp h hj (by omega))
    · exact h
theorem all_out {p : Rec → Prop} (lt : Rec → Rec → Bool) (a b : Nat) : ∀ (f i : Nat) (d : Array Rec), b - i ≤ f → b ≤ d.size → (∀ k, k < d.size → p d[k]!) → ∀ k, k < (insOuter lt a b i d).size → p (insOuter lt a b i d)[k]!
  | 0, i, d, hf, hb, h => by rw [insOuter, if_neg (by omega)]; exact h
  | f + 1, i, d, hf, hb, h => by
    rw [insOuter]
    split
    · exact all_out lt a b f _ _ (by omega) (by rw [size_ins]; exact hb) (all_ins lt a i d (by omega) h)
    · exact h
theorem sortL_all {p : Rec → Prop} {rs : List Rec} (h : ∀ r ∈ rs, p r) : ∀ r ∈ sortL rs, p r := by
  intro r hr
  obtain ⟨k, hk, rfl⟩ := List.getElem_of_mem hr
  have hk' : k < (Sort.insertionSort (ltOf cmpR) rs.toArray 0 rs.length).size := by unfold sortL at hk; simpa using hk
  have := all_out (p := p) (ltOf cmpR) 0 rs.length _ 1 rs.toArray (Nat.le_refl _) (by simp) (fun k hk => by
    have hk2 : k < rs.length := by simpa using hk
    have e : rs.toArray[k]! = rs[k] := by simp [hk2]
    rw [e]; exact h _ (List.getElem_mem _)) k hk'
  have e : (sortL rs)[k] = (Sort.insertionSort (ltOf cmpR) rs.toArray 0 rs.length)[k]! := by
    unfold sortL
    rw [getElem!_pos _ k hk']; simp
  exact e ▸ this

theorem below_sort {B g n : Nat} {a w : World} {dk : Array Rec} {os : Array Obj} (h : Below B a w) (hg : B ≤ g) (hB : B ≤ w.heap.size) : Below B a (sortWorldK Rec.enc 4 w g 0 n dk os) := by
  refine h.trans ⟨rfl, rfl, rfl, ?_, fun k hk => ?_⟩
  · exact size_sortWorldK_c Rec.enc 4 w g 0 n dk os
  · unfold sortWorldK putRowK putRow mapBlock Sort.grow Sort.ahead
    show ((w.heap.modify g _) ++ os)[k]? = w.heap[k]?
    rw [Array.getElem?_append_left (by rw [Array.size_modify]; omega), Array.getElem?_modify, if_neg (by omega)]

/-- records.Sort of fewer than twenty records. -/
theorem sort_any (g cap : Nat) (rs : List Rec) (w : World) (cur : Array Value) (e : TypeId) (hc : w.heap[g]? = some (.cells cur e)) (hr : RecsAt w g 0 rs) (hl : rs.length < 20) :
    Calls Tryz.prog 59 #[.slice (some ⟨g, 0, none⟩) rs.length cap] w fun e w' =>
      e = .returned (.tuple #[]) ∧ RecsAt w' g 0 (sortL rs) ∧ ∀ B a, B ≤ g → B ≤ w.heap.size → Below B a w → Below B a w' := by
  refine (sort0 g cap rs w (holdsK_of hc hr) hr.1 hl).mono ?_
  rintro e w' ⟨rfl, n, os, rfl⟩
  have hs : (Sort.insertionSort (ltOf cmpR) rs.toArray 0 rs.length).size = rs.toArray.size := size_sort _ _ _ _
  refine ⟨rfl, recsAt_of_holds (Nat.lt_of_lt_of_le hr.1 (size_sortWorldK_c Rec.enc 4 w g 0 n _ os)) ?_, fun B a h1 h2 h3 => below_sort h3 h1 h2⟩
  have := holdsK_sortWorldK_c Rec.enc 4 w g 0 rs.toArray (Sort.insertionSort (ltOf cmpR) rs.toArray 0 rs.length) n os (holdsK_of hc hr) hr.1 hs
  unfold sortL
  simpa using this
end Sb
end Go.Proofs.YtkkpahmoljiepaaGreatDoor

/- Contract: zone.Parse, of texts whose zone has fewer than twenty records. -/
namespace Go.Proofs.YtkkpahmoljiepaaGreatDoor
open Go.RowKit
open Pu (Str hide unhide)

/-- a right zone's origin and its records in their order; none: it is none. -/
def parseP (t : Str) : Option (Str × List Rec) :=
  (readZ t).bind fun x => if Rf.startsR x.1 x.2 && rightP x.1 (sortL x.2) then some (x.1, sortL x.2) else none

/-- what Parse hands back. -/
def parseR (o : Option (Str × List Rec)) (base : Nat) (e : Ending) (w' : World) : Prop :=
  match o with
  | none => e = .returned (.tuple #[.pointer none, .int .i64 1])
  | some (o, rs) => ∃ zb g cap, e = .returned (.tuple #[.pointer (some ⟨zb, 0, none⟩), .int .i64 0]) ∧ base ≤ zb ∧ base ≤ g ∧ TableAt w' zb o g 0 cap rs

namespace Pa
open Ka Kd Rf Rg Ia Iow Ie Zb Zc Za Ze Zg Re Sb

set_option maxHeartbeats 400000 in
theorem clone_any (s : ByteArray) (w : World) (hs : s.size ≤ 281474976710656) :
    Calls Tryz.prog 57 #[.string s] w fun e w' => e = .returned (.string s) ∧ Below w.heap.size w w' := by
  go_enter Tryz.func57, Tryz.ntmps57
  go_wp2_with fail
  refine (Tryz.stringslite_Clone s w hs).mono ?_
  rintro e w1 ⟨rfl, hb⟩
  go_wp2_with fail
  go_ret
  exact ⟨rfl, hb⟩

set_option maxHeartbeats 400000 in
theorem new_any (o : Str) (b off n cap : Nat) (w : World) :
    Calls Tryz.prog 61 #[.string (B o), .slice (some ⟨b, off, none⟩) n cap] w fun e w' => e = .returned (.pointer (some ⟨w.heap.size, 0, none⟩)) ∧ Below w.heap.size w w' ∧ w.heap.size < w'.heap.size ∧
      w'.cell? ⟨w.heap.size, 0, none⟩ = some (.string (B o)) ∧ w'.cell? ⟨w.heap.size, 1, none⟩ = some (.slice (some ⟨b, off, none⟩) n cap) := by
  go_enter Tryz.func61, Tryz.ntmps61
  go_wp2_with fail
  go_ret
  exact ⟨rfl, (Below.refl _ _).alloc (Nat.le_refl _) _, by simp, by go_simp, by go_simp⟩

theorem own_some {w : World} {base : Nat} {v : Value} {rs : List Rec} (h : RecsOwn w base v rs) (hne : rs ≠ []) :
    ∃ g cap cur, v = .slice (some ⟨g, 0, none⟩) rs.length cap ∧ base ≤ g ∧ w.heap[g]? = some (.cells cur 47) ∧ rs.length ≤ cap ∧ RecsAt w g 0 rs := by
  have hrv := h.rv
  obtain ⟨⟨hlen, hv⟩, hnil⟩ := h
  rcases hv with ⟨rfl, h0⟩ | ⟨g, cap, cur, rfl, hb, hcur, hc, hm, hsz, htk⟩
  · exact absurd (hnil.1 rfl) hne
  · refine ⟨g, cap, cur, rfl, hb, hcur, hc, ?_⟩
    rcases hrv with ⟨e, _⟩ | ⟨b', off', cap', e, _, hr⟩
    · cases e
    · cases e; exact hr

set_option maxHeartbeats 1600000 in
theorem parse_any (s : ByteArray) (w : World) (hg : G w) (hs : s.size ≤ 3000) (hfit : ∀ o rs, readZ s.data.toList = some (o, rs) → rs.length < 20 ∧ Fit o rs) :
    Calls Tryz.prog 16 #[.string s] w fun e w' => parseR (parseP s.data.toList) w.heap.size e w' ∧ Below w.heap.size w w' := by
  have HC := hide (clone_any s w (by omega))
  have hsI : ¬ (3000 : Int) < (s.size : Int) := by omega
  have HRZ := hide (fun w1 (h : Below w.heap.size w w1) => readZone_any s w1 (hg.below h) hs)
  clear hg
  cases hz : readZ s.data.toList with
  | none =>
    have hfin : Hid (parseP s.data.toList = none) := by unfold parseP; rw [Hid, hz]; rfl
    go_enter Tryz.func16, Tryz.ntmps16
    go_wp2_with fail
    refine (unhide HC).mono ?_
    rintro e w1 ⟨rfl, hb1⟩
    go_wp2_with fail
    refine (unhide HRZ w1 hb1).mono ?_
    rintro e w2 ⟨hr2, hb2⟩
    rw [hz] at hr2
    obtain rfl : e = .returned noneV := hr2
    unfold noneV
    go_wp2_with fail
    go_ret2
    rw [unhide hfin]
    exact ⟨rfl, hb1.trans (hb2.mono hb1.size)⟩
  | some x =>
    obtain ⟨o, rs⟩ := x
    obtain ⟨h20, hlen, hol, hrl⟩ := hfit o rs hz
    have HRL := hide hrl
    clear hfit hrl
    have hP : Hid (parseP s.data.toList = if startsR o rs && rightP o (sortL rs) then some (o, sortL rs) else none) := by unfold parseP; rw [Hid, hz]; rfl
    cases hst : startsR o rs
    · have hfin : Hid (parseP s.data.toList = none) := by rw [Hid, unhide hP, hst]; rfl
      go_enter Tryz.func16, Tryz.ntmps16
      go_wp2_with fail
      refine (unhide HC).mono ?_
      rintro e w1 ⟨rfl, hb1⟩
      go_wp2_with fail
      refine (unhide HRZ w1 hb1).mono ?_
      rintro e w2 ⟨hr2, hb2⟩
      rw [hz] at hr2
      obtain ⟨v, rfl, hown⟩ := hr2
      have HS := hide (startsRight_any o v rs w2 hown.rv (by omega))
      clear hown
      go_wp2_with fail
      refine (unhide HS).mono ?_
      rintro e w3 ⟨rfl, hb3⟩
      go_wp2_with fail
      go_ret2
      rw [unhide hfin]
      exact ⟨rfl, (hb1.trans (hb2.mono hb1.size)).trans (hb3.mono (Nat.le_trans hb1.size hb2.size))⟩
    · have hne : rs ≠ [] := by intro h; rw [h] at hst; cases hst
      have HSL : Hid (∀ r ∈ sortL rs, r.owner.length ≤ 3000 ∧ r.data.length ≤ 3000) := sortL_all (unhide HRL)
      have hsl := sortL_len rs
      cases hrt : rightP o (sortL rs)
      · have hfin : Hid (parseP s.data.toList = none) := by rw [Hid, unhide hP, hst, hrt]; rfl
        go_enter Tryz.func16, Tryz.ntmps16
        go_wp2_with fail
        refine (unhide HC).mono ?_
        rintro e w1 ⟨rfl, hb1⟩
        go_wp2_with fail
        refine (unhide HRZ w1 hb1).mono ?_
        rintro e w2 ⟨hr2, hb2⟩
        rw [hz] at hr2
        obtain ⟨v, rfl, hown⟩ := hr2
        have HS := hide (startsRight_any o v rs w2 hown.rv (by omega))
        obtain ⟨g, cap, cur, rfl, hg, hcur, hcap, hra⟩ := own_some hown hne
        have HCUR := hide hcur
        have HRA := hide hra
        clear hown hcur hra
        have hb12 := hb1.trans (hb2.mono hb1.size)
        go_wp2_with fail
        refine (unhide HS).mono ?_
        rintro e w3 ⟨rfl, hb3⟩
        have hb13 := hb12.trans (hb3.mono hb12.size)
        have hglt := (unhide HRA).1
        go_wp2_with fail
        refine (sort_any g cap rs w3 cur _ ((hb3.block g hglt).trans (unhide HCUR)) ((unhide HRA).below hb3) h20).mono ?_
        rintro e w4 ⟨rfl, hr4, hb4⟩
        have hb14 := hb4 w.heap.size w (Nat.le_trans hb1.size hg) hb13.size hb13
        have HI := hide (isRight_any g 0 cap o (sortL rs) w4 hr4 (by omega) (by omega) hol (fun r hr => (unhide HSL r hr).1))
        rw [hsl] at HI
        clear hr4 hb4
        go_wp2_with fail
        refine (unhide HI).mono ?_
        rintro e w5 ⟨rfl, hb5⟩
        go_wp2_with fail
        go_ret2
        rw [unhide hfin]
        exact ⟨rfl, hb14.trans (hb5.mono hb14.size)⟩
      · have hfin : Hid (parseP s.data.toList = some (o, sortL rs)) := by rw [Hid, unhide hP, hst, hrt]; rfl
        go_enter Tryz.func16, Tryz.ntmps16
        go_wp2_with fail
        refine (unhide HC).mono ?_
        rintro e w1 ⟨rfl, hb1⟩
        go_wp2_with fail
        refine (unhide HRZ w1 hb1).mono ?_
        rintro e w2 ⟨hr2, hb2⟩
        rw [hz] at hr2
        obtain ⟨v, rfl, hown⟩ := hr2
        have HS := hide (startsRight_any o v rs w2 hown.rv (by omega))
        obtain ⟨g, cap, cur, rfl, hg, hcur, hcap, hra⟩ := own_some hown hne
        have HCUR := hide hcur
        have HRA := hide hra
        clear hown hcur hra
        have hb12 := hb1.trans (hb2.mono hb1.size)
        go_wp2_with fail
        refine (unhide HS).mono ?_
        rintro e w3 ⟨rfl, hb3⟩
        have hb13 := hb12.trans (hb3.mono hb12.size)
        have hglt := (unhide HRA).1
        go_wp2_with fail
        refine (sort_any g cap rs w3 cur _ ((hb3.block g hglt).trans (unhide HCUR)) ((unhide HRA).below hb3) h20).mono ?_
        rintro e w4 ⟨rfl, hr4, hb4⟩
        have hb14 := hb4 w.heap.size w (Nat.le_trans hb1.size hg) hb13.size hb13
        have HI := hide (isRight_any g 0 cap o (sortL rs) w4 hr4 (by omega) (by omega) hol (fun r hr => (unhide HSL r hr).1))
        rw [hsl] at HI
        have HR4 := hide hr4
        clear hr4 hb4
        go_wp2_with fail
        refine (unhide HI).mono ?_
        rintro e w5 ⟨rfl, hb5⟩
        have hb15 := hb14.trans (hb5.mono hb14.size)
        have HR5 := hide ((unhide HR4).below hb5)
        go_wp2_with fail
        refine (new_any o g 0 rs.length cap w5).mono ?_
        rintro e w6 ⟨rfl, hb6, hlt6, c60, c61⟩
        have HT : Hid (TableAt w6 w5.heap.size o g 0 cap (sortL rs)) := ⟨hlt6, c60, by rw [hsl]; exact c61, by omega, (unhide HR5).below hb6⟩
        clear c60 c61
        go_wp2_with fail
        go_ret2
        rw [unhide hfin]
        exact ⟨⟨_, _, _, rfl, hb15.size, Nat.le_trans hb1.size hg, unhide HT⟩, hb15.trans (hb6.mono hb15.size)⟩
end Pa
end Go.Proofs.YtkkpahmoljiepaaGreatDoor

/- The zone of the statement Starred: what its text reads as. -/
namespace Go.Proofs.YtkkpahmoljiepaaGreatDoor
open Go.RowKit
open Pu (Str hide unhide)

namespace Ta
open Go.Sort
def headS : Str := [111, 114, 105, 103, 105, 110, 32, 122, 122, 10, 122, 122, 32, 53, 48, 32, 83, 79, 65, 32, 97, 46, 122, 122, 32, 98, 46, 122, 122, 32, 57, 32, 52, 48, 10, 122, 122, 32, 53, 48, 32, 78, 83, 32, 97, 46, 122, 122, 10]
def linesS : Str := [42, 46, 119, 46, 122, 122, 32, 51, 32, 84, 88, 84, 32, 115, 116, 97, 114, 10, 116, 104, 101, 114, 101, 46, 119, 46, 122, 122, 32, 51, 32, 65, 32, 49, 46, 49, 46, 49, 46, 49, 10, 120, 46, 105, 110, 110, 101, 114, 46, 119, 46, 122, 122, 32, 51, 32, 65, 32, 50, 46, 50, 46, 50, 46, 50, 10]
def zz : Str := [122, 122]
def recs0 : List Rec := [([122, 122], 50, 6, [97, 46, 122, 122, 32, 98, 46, 122, 122, 32, 57, 32, 52, 48]), ([122, 122], 50, 2, [97, 46, 122, 122]), ([42, 46, 119, 46, 122, 122], 3, 16, [115, 116, 97, 114]), ([116, 104, 101, 114, 101, 46, 119, 46, 122, 122], 3, 1, [49, 46, 49, 46, 49, 46, 49]), ([120, 46, 105, 110, 110, 101, 114, 46, 119, 46, 122, 122], 3, 1, [50, 46, 50, 46, 50, 46, 50])]
def recs : List Rec := [([42, 46, 119, 46, 122, 122], 3, 16, [115, 116, 97, 114]), ([116, 104, 101, 114, 101, 46, 119, 46, 122, 122], 3, 1, [49, 46, 49, 46, 49, 46, 49]), ([120, 46, 105, 110, 110, 101, 114, 46, 119, 46, 122, 122], 3, 1, [50, 46, 50, 46, 50, 46, 50]), ([122, 122], 50, 2, [97, 46, 122, 122]), ([122, 122], 50, 6, [97, 46, 122, 122, 32, 98, 46, 122, 122, 32, 57, 32, 52, 48])]

theorem read1 : readZ (headS ++ linesS) = some (zz, recs0) := by kernel_rfl
theorem read2 : readZ (headS ++ linesS ++ [10]) = none := by kernel_rfl
theorem sort1 : sortL recs0 = recs := by
  unfold sortL Sort.insertionSort
  simp only [show recs0.length = 5 from rfl]
  rw [insOuter_go _ _ _ _ _ (by decide), insOuter_go _ _ _ _ _ (by decide), insOuter_go _ _ _ _ _ (by decide), insOuter_go _ _ _ _ _ (by decide), insOuter_stop _ _ _ _ _ (by decide)]
  kernel_rfl
theorem starts1 : Rf.startsR zz recs0 = true := by kernel_rfl
theorem right1 : rightP zz recs = true := by kernel_rfl
theorem parse1 : parseP (headS ++ linesS) = some (zz, recs) := by
  unfold parseP
  rw [read1]
  show (if Rf.startsR zz recs0 && rightP zz (sortL recs0) then some (zz, sortL recs0) else none) = _
  rw [sort1, starts1, right1]; rfl
theorem parse2 : parseP (headS ++ linesS ++ [10]) = none := by
  unfold parseP
  rw [read2]; rfl
end Ta
end Go.Proofs.YtkkpahmoljiepaaGreatDoor

/- Contracts: lookup.isAlias; (*search).step of a name whose records are no CNAME. -/
namespace Go.Proofs.YtkkpahmoljiepaaGreatDoor
open Go.RowKit
open Pu (Str hide unhide)

/-- a name's records are a CNAME. -/
def aliasP (l : List Rec) : Bool := l.length == 1 && (l.headD Rec.zero).type == 5
def stepRc (o : Str) (rs : List Rec) (n : Str) : Int := if (cutP o rs n).length = 0 then (if (matchP rs n).2 then 0 else 3) else 0
def stepAns (o : Str) (rs : List Rec) (k : Int) (n : Str) : List Rec := if (cutP o rs n).length = 0 then (if (matchP rs n).2 then takeP k (matchP rs n).1 else []) else []
def stepAuth (o : Str) (rs : List Rec) (k : Int) (n : Str) : List Rec :=
  if (cutP o rs n).length = 0 then (if (matchP rs n).2 then (if takenP k (matchP rs n).1 then [] else denyP o rs) else denyP o rs) else cutP o rs n

namespace Lh
open Ka Kd Rf Rg Ia Iow Ie Zb Zc Za La Lb Re Lc Le Lf Lg

set_option maxHeartbeats 400000 in
theorem isAlias_any (v : Value) (l : List Rec) (w : World) (hv : RV w v l) (hl : l.length ≤ 3001) :
    Calls Tryz.prog 246 #[v] w fun e w' => e = .returned (.bool (aliasP l)) ∧ w' = w := by
  rcases hv with ⟨rfl, rfl⟩ | ⟨b, off, cap, rfl, hc, hr⟩
  · go_enter Tryz.func246, Tryz.ntmps246
    go_wp2
    go_ret
    exact ⟨rfl, rfl⟩
  · by_cases h1 : l.length = 1
    · obtain ⟨r, rfl⟩ := List.length_eq_one_iff.1 h1
      obtain ⟨c0, c1, c2, c3⟩ := hr.four 0 (by simp)
      simp only [Nat.zero_mul, Nat.add_zero, List.getElem_cons_zero] at c2
      have hfin : Hid (aliasP [r] = (r.type == 5)) := by unfold aliasP; rw [Hid]; simp
      clear hr c0 c1 c3 h1
      simp only [List.length_cons, List.length_nil] at hc ⊢
      go_enter Tryz.func246, Tryz.ntmps246
      go_wp2
      go_ret
      exact ⟨ret_bool (unhide hfin).symm, rfl⟩
    · have hfin : Hid (aliasP l = false) := by unfold aliasP; rw [Hid, beq_eq_false_iff_ne.2 h1]; rfl
      have h1I : ((l.length : Int) == 1) = false := by rw [beq_eq_false_iff_ne]; omega
      clear hr h1
      go_enter Tryz.func246, Tryz.ntmps246
      go_wp2
      go_ret
      exact ⟨ret_bool (unhide hfin).symm, rfl⟩

theorem cutP_len (o : Str) (rs : List Rec) (n : Str) : (cutP o rs n).length ≤ rs.length := by
  unfold cutP
  generalize (ends n).takeWhile (fun e => !(e == o)) = es
  have : ∀ (es : List Str) (acc : List Rec), acc.length ≤ rs.length → (es.foldl (cutStep rs) acc).length ≤ rs.length := by
    intro es
    induction es with
    | nil => intro acc h; exact h
    | cons e t ih =>
      intro acc h
      rw [List.foldl_cons]
      refine ih _ ?_
      unfold cutStep
      split
      · exact h
      · exact Nat.le_trans (setP_len _ _) (ofP_len _ _)
  exact this es [] (by simp)

set_option maxRecDepth 100000 in
set_option maxHeartbeats 1600000 in
theorem step_plain (sb zb cb b off cap : Nat) (k : Int) (au : Bool) (va vb vc : Value) (o n : Str) (rs ans : List Rec) (w : World) (hs : SearchAt w sb zb k 0 au va vb vc cb) (ho : OwnR w (sb + 1) va ans) (hvb : vb = .slice none 0 0)
    (hz : TableAt w zb o b off cap rs) (hg : G w) (hzs : zb < sb) (hbs : b < sb) (h0 : 0 < sb) (hfit : Fit o rs) (hn : n.length ≤ 2900) (ha : ans.length ≤ 90000)
    (hok : ∀ r ∈ setP (ofP rs o) 6, soaOk r ∧ r.data.length ≤ 3000 ∧ r.ttl ≤ 1000000000) (h5 : (k == 5) = false) (h255 : (k == 255) = false) (hal : aliasP (matchP rs n).1 = false) (hml : (matchP rs n).1.length ≤ 3001) :
    Calls Tryz.prog 194 #[.pointer (some ⟨sb, 0, none⟩), .string (B n)] w fun e w' => e = .returned (.tuple #[.string ⟨#[]⟩, .bool false]) ∧ (∃ va' vb', SearchAt w' sb zb k (stepRc o rs n) au va' vb' vc cb ∧ OwnR w' (sb + 1) va' (ans ++ stepAns o rs k n) ∧ OwnR w' (sb + 1) vb' (stepAuth o rs k n)) ∧ Below sb w w' := by
  subst hvb
  obtain ⟨hlen, hol, hrl⟩ := hfit
  have h5b : (k != 5) = true := by unfold bne; rw [h5]; rfl
  have h255b : (k != 255) = true := by unfold bne; rw [h255]; rfl
  clear h5 h255
  have hslt := hs.lt
  have hown := ho.own_lt
  obtain ⟨s0, s1, _⟩ := hs.cells
  have HS := hide hs
  have HO := hide ho
  have HZ := hide hz
  have HG := hide hg
  have HOK := hide hok
  have HC := hide (cutOver_any zb b off cap o n rs w hz hg hlen (by omega) hol)
  have HKS : Hid (∀ W, Below w.heap.size w W → SearchAt W sb zb k 0 au va (.slice none 0 0) vc cb) := fun W hb => hs.kept (hb.block sb hslt)
  have HOL := hide hown
  clear hs ho hz hg hok hown
  have hcl : (cutP o rs n).length ≤ 3001 := Nat.le_trans (cutP_len o rs n) hlen
  by_cases hc : (cutP o rs n).length = 0
  · have hcI : ¬ (0 : Int) < ((cutP o rs n).length : Int) := by omega
    have e1 : Hid (stepRc o rs n = if (matchP rs n).2 then 0 else 3) := by unfold stepRc; rw [Hid, if_pos hc]
    have e2 : Hid (stepAns o rs k n = if (matchP rs n).2 then takeP k (matchP rs n).1 else []) := by unfold stepAns; rw [Hid, if_pos hc]
    have e3 : Hid (stepAuth o rs k n = if (matchP rs n).2 then (if takenP k (matchP rs n).1 then [] else denyP o rs) else denyP o rs) := by unfold stepAuth; rw [Hid, if_pos hc]
    clear hc
    have HM := hide (fun W (hb : Below w.heap.size w W) => match_any zb b off cap o n rs W ((unhide HZ).below hb) ((unhide HG).below hb) hlen hn (fun r hr => (hrl r hr).1))
    cases hm : (matchP rs n).2
    · rw [hm] at e1 e2 e3
      go_enter Tryz.func194, Tryz.ntmps194
      go_wp2_with fail
      refine (unhide HC).mono ?_
      rintro e w1 ⟨⟨v1, rfl, hv1⟩, hb1⟩
      obtain ⟨a1, c1, rfl⟩ := hv1.slice
      clear hv1
      obtain ⟨t0, t1, _⟩ := (unhide HKS w1 hb1).cells
      go_wp2_with fail
      refine (unhide HM w1 hb1).mono ?_
      rintro e w2 ⟨⟨v2, rfl, hv2⟩, hb2⟩
      rw [hm]
      clear hv2
      have hb12 := hb1.trans (hb2.mono hb1.size)
      have hs2 := unhide HKS w2 hb12
      obtain ⟨u0, u1, u2, u3, u4, u5, u6, u7⟩ := hs2.cells
      have f2 := hs2.frozen 2
      have S3 := hide (hs2.set2 3)
      have hs3 := hs2.set2 3
      obtain ⟨y0, _⟩ := hs3.cells
      have hb3 : Below sb w (w2.setCell ⟨sb, 2, none⟩ (.int .i64 3)) := (hb12.mono (show sb ≤ w.heap.size by omega)).setCell (p := ⟨sb, 2, none⟩) (Nat.le_refl sb) _
      have hz3 : TableAt (w2.setCell ⟨sb, 2, none⟩ (.int .i64 3)) zb o b off cap rs := (unhide HZ).low hb3 hzs hbs
      have HD := hide (denial_any zb b off cap o rs _ hz3 hlen (unhide HOK))
      have HO3 := hide (((unhide HO).below hb12).set_low (k := sb) (i := 2) (by omega) (.int .i64 3))
      have hsz3 : (w2.setCell ⟨sb, 2, none⟩ (.int .i64 3)).heap.size = w2.heap.size := by simp [World.setCell]
      clear hs2 hs3 u0 u1 u3 u4 u6 u7
      go_wp2_with fail
      refine (unhide HD).mono ?_
      rintro e w4 ⟨v4, rfl, ho4, hb4⟩
      obtain ⟨a4, c4, rfl⟩ := ho4.slice
      have hs4 := (unhide S3).kept (hb4.block sb (by rw [hsz3]; exact Nat.lt_of_lt_of_le hslt hb12.size))
      obtain ⟨z0, z1, z2, z3, z4, z5, z6, z7⟩ := hs4.cells
      have g5 := hs4.frozen 5
      have S5 := hide (hs4.set5 (.slice a4 (denyP o rs).length c4))
      have HO5 := hide (((unhide HO3).below hb4).set_low (k := sb) (i := 5) (by omega) (.slice a4 (denyP o rs).length c4))
      have HA5 := hide (ho4.set_low (k := sb) (i := 5) (by rw [hsz3]; exact Nat.lt_of_lt_of_le hslt hb12.size) (.slice a4 (denyP o rs).length c4))
      have hb5 : Below sb w (w4.setCell ⟨sb, 5, none⟩ (.slice a4 (denyP o rs).length c4)) := (hb3.trans (hb4.mono (show sb ≤ _ by rw [hsz3]; have := hb12.size; omega))).setCell (p := ⟨sb, 5, none⟩) (Nat.le_refl sb) _
      clear hs4 ho4 z0 z1 z2 z3 z4 z6 z7
      go_wp2_with fail
      go_ret2
      refine ⟨rfl, ⟨va, .slice a4 (denyP o rs).length c4, ?_, ?_, ?_⟩, hb5⟩
      · rw [unhide e1]; exact unhide S5
      · rw [unhide e2]; simpa using unhide HO5
      · rw [unhide e3]; exact (unhide HA5).base (by rw [hsz3]; have := hb12.size; omega)
    · rw [hm] at e1 e2 e3
      go_enter Tryz.func194, Tryz.ntmps194
      go_wp2_with fail
      refine (unhide HC).mono ?_
      rintro e w1 ⟨⟨v1, rfl, hv1⟩, hb1⟩
      obtain ⟨a1, c1, rfl⟩ := hv1.slice
      clear hv1
      obtain ⟨t0, t1, _⟩ := (unhide HKS w1 hb1).cells
      go_wp2_with fail
      refine (unhide HM w1 hb1).mono ?_
      rintro e w2 ⟨⟨v2, rfl, hv2⟩, hb2⟩
      rw [hm]
      have hb12 := hb1.trans (hb2.mono hb1.size)
      have hs2 := unhide HKS w2 hb12
      obtain ⟨u0, u1, u2, u3, u4, u5, u6, u7⟩ := hs2.cells
      have HAL := hide (isAlias_any v2 _ w2 hv2.rv hml)
      obtain ⟨b', off', hL2, hr2, hn2⟩ := hv2
      have hs1 := hb1.size
      have hb'1 : b' ≠ sb := by rcases hn2 with h | h <;> omega
      have hb'2 : va.ownBlock ≠ some b' := by
        intro h
        have := unhide HOL b' h
        rcases hn2 with h | h <;> omega
      have HT := hide (take_any sb zb cb b' off' k 0 au va (.slice none 0 0) vc v2 ans _ w2 hs2 ((unhide HO).below hb12) hL2 hr2 hb'1 hb'2 hml ha)
      clear hs2 hL2 hr2 hn2 u0 u2 u3 u4 u5 u6 u7
      rw [hal] at HAL
      go_wp2_with fail
      refine (unhide HAL).mono ?_
      rintro e w2 ⟨rfl, rfl⟩
      go_wp2_with fail
      refine (unhide HT).mono ?_
      rintro e w3 ⟨rfl, ⟨va', hs3, ho3⟩, hf3⟩
      have hb3 : Below sb w w3 := (hb12.mono (show sb ≤ w.heap.size by omega)).trans (hf3.below (fun j hj => ⟨by omega, fun h => by have := unhide HOL j h.symm; omega⟩) (by have := hb12.size; omega))
      have HS3 := hide hs3
      have HO3 := hide ho3
      obtain ⟨y0, _, _, _, _, y5, _, _⟩ := hs3.cells
      have hslt3 := hs3.lt
      have hz3 : TableAt w3 zb o b off cap rs := (unhide HZ).low hb3 hzs hbs
      have HD := hide (denial_any zb b off cap o rs w3 hz3 hlen (unhide HOK))
      clear hs3 ho3 hz3 hf3
      cases ht : takenP k (matchP rs n).1
      · rw [ht] at e3
        go_wp2_with fail
        refine (unhide HD).mono ?_
        rintro e w4 ⟨v4, rfl, ho4, hb4⟩
        obtain ⟨a4, c4, rfl⟩ := ho4.slice
        have hs4 := (unhide HS3).kept (hb4.block sb hslt3)
        obtain ⟨z0, z1, z2, z3, z4, z5, z6, z7⟩ := hs4.cells
        have g5 := hs4.frozen 5
        have S5 := hide (hs4.set5 (.slice a4 (denyP o rs).length c4))
        have HO5 := hide (((unhide HO3).below hb4).set_low (k := sb) (i := 5) (by omega) (.slice a4 (denyP o rs).length c4))
        have HA5 := hide (ho4.set_low (k := sb) (i := 5) hslt3 (.slice a4 (denyP o rs).length c4))
        have hb5 : Below sb w (w4.setCell ⟨sb, 5, none⟩ (.slice a4 (denyP o rs).length c4)) := (hb3.trans (hb4.mono (show sb ≤ _ by omega))).setCell (p := ⟨sb, 5, none⟩) (Nat.le_refl sb) _
        clear hs4 ho4 z0 z1 z2 z3 z4 z6 z7
        go_wp2_with fail
        go_ret2
        refine ⟨rfl, ⟨va', .slice a4 (denyP o rs).length c4, ?_, ?_, ?_⟩, hb5⟩
        · rw [unhide e1]; exact unhide S5
        · rw [unhide e2]; exact unhide HO5
        · rw [unhide e3]; exact (unhide HA5).base (by omega)
      · rw [ht] at e3
        go_wp2_with fail
        go_ret2
        refine ⟨rfl, ⟨va', .slice none 0 0, ?_, ?_, ?_⟩, hb3⟩
        · rw [unhide e1]; exact unhide HS3
        · rw [unhide e2]; exact unhide HO3
        · rw [unhide e3]; exact World.ownsRow_nil _ _ _ _
  · have hcI : (0 : Int) < ((cutP o rs n).length : Int) := by omega
    have e1 : Hid (stepRc o rs n = 0) := by unfold stepRc; rw [Hid, if_neg hc]
    have e2 : Hid (stepAns o rs k n = []) := by unfold stepAns; rw [Hid, if_neg hc]
    have e3 : Hid (stepAuth o rs k n = cutP o rs n) := by unfold stepAuth; rw [Hid, if_neg hc]
    clear hc
    go_enter Tryz.func194, Tryz.ntmps194
    go_wp2_with fail
    refine (unhide HC).mono ?_
    rintro e w1 ⟨⟨v1, rfl, hv1⟩, hb1⟩
    have HCL := hide (clone_any v1 _ w1 (hv1.rv ((unhide HZ).below hb1).2.2.2.2) hcl)
    obtain ⟨a1, c1, rfl⟩ := hv1.slice
    clear hv1
    go_wp2_with fail
    refine (unhide HCL).mono ?_
    rintro e w4 ⟨v4, rfl, ho4, hb4⟩
    obtain ⟨a4, c4, rfl⟩ := ho4.slice
    have hb14 := hb1.trans (hb4.mono hb1.size)
    have hs4 := unhide HKS w4 hb14
    obtain ⟨z0, z1, z2, z3, z4, z5, z6, z7⟩ := hs4.cells
    have g5 := hs4.frozen 5
    have S5 := hide (hs4.set5 (.slice a4 (cutP o rs n).length c4))
    have HO5 := hide (((unhide HO).below hb14).set_low (k := sb) (i := 5) (by omega) (.slice a4 (cutP o rs n).length c4))
    have HA5 := hide (ho4.set_low (k := sb) (i := 5) (by have := hb1.size; omega) (.slice a4 (cutP o rs n).length c4))
    have hb5 : Below sb w (w4.setCell ⟨sb, 5, none⟩ (.slice a4 (cutP o rs n).length c4)) := (hb14.mono (show sb ≤ _ by omega)).setCell (p := ⟨sb, 5, none⟩) (Nat.le_refl sb) _
    clear hs4 ho4 z0 z1 z2 z3 z4 z6 z7
    go_wp2_with fail
    go_ret2
    refine ⟨rfl, ⟨va, .slice a4 (cutP o rs n).length c4, ?_, ?_, ?_⟩, hb5⟩
    · rw [unhide e1]; exact unhide S5
    · rw [unhide e2]; simpa using unhide HO5
    · rw [unhide e3]; exact (unhide HA5).base (by have := hb1.size; omega)
end Lh
end Go.Proofs.YtkkpahmoljiepaaGreatDoor

/- The contracts of library functions that the proof uses, laid at this program: tables of numbers and closed facts. -/
namespace Go.Proofs
open Go.Shelf
def Tryz.lGrow_ren : Go.Shelf.Ren := ⟨fun | 4 => 249 | n => n, fun | 22 => 41 | 25 => 47 | 3 => 3 | 4 => 4 | 9 => 9 | 20 => 20 | 0 => 0 | n => n, fun | n => n⟩
theorem Tryz.lGrow : Go.Proofs.Lays8.n4 Tryz.prog Tryz.lGrow_ren := {
  mixed := by kernel_rfl
  f4 := ⟨Tryz.f249.name, by decide, Tryz.func249.trans (congrArg some (by kernel_rfl))⟩
  t0 := Tryz.underlying0
  a0 := Tryz.isAgg0
  z0 := Tryz.sizeOf0
  v0 := Tryz.zeroValue0
  t3 := Tryz.underlying3
  a3 := Tryz.isAgg3
  z3 := Tryz.sizeOf3
  v3 := Tryz.zeroValue3
  t4 := Tryz.underlying4
  a4 := Tryz.isAgg4
  z4 := Tryz.sizeOf4
  v4 := Tryz.zeroValue4
  t9 := Tryz.underlying9
  a9 := Tryz.isAgg9
  z9 := Tryz.sizeOf9
  v9 := Tryz.zeroValue9
  t20 := Tryz.underlying20
  a20 := Tryz.isAgg20
  z20 := Tryz.sizeOf20
  v20 := Tryz.zeroValue20
  t22 := Tryz.underlying41
  a22 := Tryz.isAgg41
  z22 := Tryz.sizeOf41
  v22 := Tryz.zeroValue41 }
end Go.Proofs
