/- Contracts: records.Sort, at fewer than twenty records. -/
import Derived.Test.YtkkpahmoljiepaaGreatDoorJ08
import Derived.Test.YtkkpahmoljiepaaGreatDoorJ07
set_option linter.unusedSimpArgs false
set_option linter.unusedVariables false
namespace Go.Proofs.YtkkpahmoljiepaaGreatDoor
open Go.RowKit Go.Sort
open Pu (Str hide unhide)

/-- the records in their order, as the insertion sort lays them. -/
def sortL (rs : List Rec) : List Rec := (Sort.insertionSort (ltOf Sa.cmpR) rs.toArray 0 rs.length).toList

namespace Sb
open Ka Kd Sa

theorem holdsK_of {w : World} {g : Nat} {cur : Array Value} {e : TypeId} {rs : List Rec} (hg : w.heap[g]? = some (.cells cur e)) (hr : RecsAt w g 0 rs) : HoldsK Rec.enc 4 w g 0 rs.toArray := by
  intro j hj
  rw [size_flatK] at hj
  simp only [List.size_toArray] at hj
  rw [get_flatK _ _ _ _ (by simpa using hj)]
  refine ⟨?_, by simp [World.frozen?, hg]⟩
  have hj4 : j / 4 < rs.length := by omega
  have hlen : (Rec.enc rs[j / 4]!).length = 4 := rfl
  have h1 : (Rec.enc rs[j / 4]!)[j % 4]? = some (Rec.enc rs[j / 4]!)[j % 4]! := by
    have hk : j % 4 < (Rec.enc rs[j / 4]!).length := by rw [hlen]; omega
    rw [List.getElem?_eq_getElem hk, getElem!_pos (Rec.enc rs[j / 4]!) (j % 4) hk]
  have := hr.2 (j / 4) hj4 (j % 4) _ h1
  rw [show 0 + j / 4 * 4 + j % 4 = 0 + j from by omega] at this
  rw [this]
  simp

theorem recsAt_of_holds {w : World} {g : Nat} {rs : List Rec} (hg : g < w.heap.size) (h : HoldsK Rec.enc 4 w g 0 rs.toArray) : RecsAt w g 0 rs := by
  refine ⟨hg, fun j hj i u hu => ?_⟩
  have hi : i < 4 := by have := (List.getElem?_eq_some_iff.1 hu).1; exact this
  have hc := (h.cell (i := j) (c := i) (by simpa using hj) hi).1
  rw [hc]
  have e : rs.toArray[j]! = rs[j]! := by simp
  rw [e]
  rw [List.getElem?_eq_some_iff] at hu
  obtain ⟨h1, h2⟩ := hu
  rw [getElem!_pos (Rec.enc rs[j]!) i h1, h2]

theorem cmpLays (blk off size : Nat) (w : World) : CmpLays Tryz.prog 103 #[] Rec.enc 4 cmpR blk off size w :=
  fun _ _ _ _ x y => sorted1 x y _

theorem insertion (g cap : Nat) (rs : List Rec) (w : World) (hH : HoldsK Rec.enc 4 w g 0 rs.toArray) (hg : g < w.heap.size) (hl : rs.length ≤ 3001) :
    Calls Tryz.prog 231 #[.slice (some ⟨g, 0, none⟩) rs.length cap, .int .i64 0, .int .i64 rs.length, .func (.func 103) #[] #[]] w fun e w' =>
      e = .returned (.tuple #[]) ∧ ∃ n os, w' = sortWorldK Rec.enc 4 w g 0 n (Sort.insertionSort (ltOf cmpR) rs.toArray 0 rs.length) os :=
  AnyQ.insertionSortCmpFunc Tryz.lInsertion 4 Tryz.isAgg47 Tryz.sizeOf47 Rec.enc (fun _ => rfl) (fun x v hv => by simp [Rec.enc] at hv; rcases hv with rfl | rfl | rfl | rfl <;> rfl) cmpR 103 #[] g 0 cap 0 rs.length rs.toArray w (enters_of Tryz.func103 (by kernel_rfl) rfl) (cmpLays _ _ _ _) hH hg (Nat.zero_le _) (by simp) (by simp; omega)

set_option maxHeartbeats 800000 in
theorem stable_any (g cap : Nat) (rs : List Rec) (w : World) (hH : HoldsK Rec.enc 4 w g 0 rs.toArray) (hg : g < w.heap.size) (hl : rs.length < 20) :
    Calls Tryz.prog 173 #[.slice (some ⟨g, 0, none⟩) rs.length cap, .int .i64 rs.length, .func (.func 103) #[] #[]] w fun e w' =>
      e = .returned (.tuple #[]) ∧ ∃ n os, w' = sortWorldK Rec.enc 4 w g 0 n (Sort.insertionSort (ltOf cmpR) rs.toArray 0 rs.length) os := by
  have HI := hide (insertion g cap rs w hH hg (by omega))
  have hlI : (rs.length : Int) < 20 := by omega
  clear hH
  go_enter Tryz.func173, Tryz.ntmps173
  go_wp2_with fail
  go_loop [7, 8] (fun a b => a = .int .i64 0 ∧ b = .int .i64 20) (fun _ _ => 0)
  case atStart => exact ⟨rfl, rfl⟩
  case round =>
    obtain ⟨rfl, rfl⟩ := hrel
    go_wp2_with fail
    refine (unhide HI).mono ?_
    rintro e w1 ⟨rfl, hw⟩
    have HW := hide hw
    clear hw
    go_wp2_with fail
    go_loop [6] (fun a => a = .int .i64 20) (fun _ => 0)
    case atStart => rfl
    case round =>
      obtain rfl := hrel
      go_wp2_with fail
      go_end0
      exact ⟨rfl, unhide HW⟩

set_option maxHeartbeats 800000 in
theorem sortStable_any (g cap : Nat) (rs : List Rec) (w : World) (hH : HoldsK Rec.enc 4 w g 0 rs.toArray) (hg : g < w.heap.size) (hl : rs.length < 20) :
    Calls Tryz.prog 102 #[.slice (some ⟨g, 0, none⟩) rs.length cap, .func (.func 103) #[] #[]] w fun e w' =>
      e = .returned (.tuple #[]) ∧ ∃ n os, w' = sortWorldK Rec.enc 4 w g 0 n (Sort.insertionSort (ltOf cmpR) rs.toArray 0 rs.length) os := by
  have HI := hide (stable_any g cap rs w hH hg hl)
  clear hH
  go_enter Tryz.func102, Tryz.ntmps102
  go_wp2_with fail
  refine (unhide HI).mono ?_
  rintro e w1 ⟨rfl, hw⟩
  have HW := hide hw
  clear hw
  go_wp2_with fail
  go_end0
  exact ⟨rfl, unhide HW⟩

set_option maxHeartbeats 800000 in
theorem sort0 (g cap : Nat) (rs : List Rec) (w : World) (hH : HoldsK Rec.enc 4 w g 0 rs.toArray) (hg : g < w.heap.size) (hl : rs.length < 20) :
    Calls Tryz.prog 59 #[.slice (some ⟨g, 0, none⟩) rs.length cap] w fun e w' =>
      e = .returned (.tuple #[]) ∧ ∃ n os, w' = sortWorldK Rec.enc 4 w g 0 n (Sort.insertionSort (ltOf cmpR) rs.toArray 0 rs.length) os := by
  have HI := hide (sortStable_any g cap rs w hH hg hl)
  clear hH
  go_enter Tryz.func59, Tryz.ntmps59
  go_wp2_with fail
  refine (unhide HI).mono ?_
  rintro e w1 ⟨rfl, hw⟩
  have HW := hide hw
  clear hw
  go_wp2_with fail
  go_end0
  exact ⟨rfl, unhide HW⟩

theorem size_ins (lt : Rec → Rec → Bool) (a : Nat) : ∀ (j : Nat) (d : Array Rec), (insInner lt a j d).size = d.size
  | 0, d => rfl
  | j + 1, d => by
    rw [insInner]
    split
    · rw [size_ins lt a j, size_swp]
    · rfl
theorem size_out (lt : Rec → Rec → Bool) (a b : Nat) : ∀ (f i : Nat) (d : Array Rec), b - i ≤ f → (insOuter lt a b i d).size = d.size
  | 0, i, d, h => by rw [insOuter, if_neg (by omega)]
  | f + 1, i, d, h => by
    rw [insOuter]
    split
    · rw [size_out lt a b f _ _ (by omega), size_ins]
    · rfl
theorem size_sort (lt : Rec → Rec → Bool) (d : Array Rec) (a b : Nat) : (Sort.insertionSort lt d a b).size = d.size := size_out lt a b _ _ d (Nat.le_refl _)

theorem sortL_len (rs : List Rec) : (sortL rs).length = rs.length := by
  unfold sortL; rw [Array.length_toList, size_sort]; simp

theorem all_swp {p : Rec → Prop} {d : Array Rec} (h : ∀ k, k < d.size → p d[k]!) {i j : Nat} (hi : i < d.size) (hj : j < d.size) : ∀ k, k < (swp d i j).size → p (swp d i j)[k]! := by
  intro k hk
  rw [size_swp] at hk
  unfold swp
  have hk1 : k < (d.setIfInBounds i d[j]!).size := by simpa using hk
  have hk2 : k < ((d.setIfInBounds i d[j]!).setIfInBounds j d[i]!).size := by simpa using hk
  rw [getElem!_pos _ k hk2, Array.getElem_setIfInBounds hk1]
  split
  · exact h i hi
  · rw [Array.getElem_setIfInBounds hk]
    split
    · exact h j hj
    · rw [← getElem!_pos d k hk]; exact h k hk
theorem all_ins {p : Rec → Prop} (lt : Rec → Rec → Bool) (a : Nat) : ∀ (j : Nat) (d : Array Rec), j < d.size → (∀ k, k < d.size → p d[k]!) → ∀ k, k < (insInner lt a j d).size → p (insInner lt a j d)[k]!
  | 0, d, _, h => h
  | j + 1, d, hj, h => by
    rw [insInner]
    split
    · exact all_ins lt a j _ (by rw [size_swp]; omega) (all_swp h hj (by omega))
    · exact h
theorem all_out {p : Rec → Prop} (lt : Rec → Rec → Bool) (a b : Nat) : ∀ (f i : Nat) (d : Array Rec), b - i ≤ f → b ≤ d.size → (∀ k, k < d.size → p d[k]!) → ∀ k, k < (insOuter lt a b i d).size → p (insOuter lt a b i d)[k]!
  | 0, i, d, hf, hb, h => by rw [insOuter, if_neg (by omega)]; exact h
  | f + 1, i, d, hf, hb, h => by
    rw [insOuter]
    split
    · exact all_out lt a b f _ _ (by omega) (by rw [size_ins]; exact hb) (all_ins lt a i d (by omega) h)
    · exact h
theorem sortL_all {p : Rec → Prop} {rs : List Rec} (h : ∀ r ∈ rs, p r) : ∀ r ∈ sortL rs, p r := by
  intro r hr
  obtain ⟨k, hk, rfl⟩ := List.getElem_of_mem hr
  have hk' : k < (Sort.insertionSort (ltOf cmpR) rs.toArray 0 rs.length).size := by unfold sortL at hk; simpa using hk
  have := all_out (p := p) (ltOf cmpR) 0 rs.length _ 1 rs.toArray (Nat.le_refl _) (by simp) (fun k hk => by
    have hk2 : k < rs.length := by simpa using hk
    have e : rs.toArray[k]! = rs[k] := by simp [hk2]
    rw [e]; exact h _ (List.getElem_mem _)) k hk'
  have e : (sortL rs)[k] = (Sort.insertionSort (ltOf cmpR) rs.toArray 0 rs.length)[k]! := by
    unfold sortL
    rw [getElem!_pos _ k hk']; simp
  exact e ▸ this

theorem below_sort {B g n : Nat} {a w : World} {dk : Array Rec} {os : Array Obj} (h : Below B a w) (hg : B ≤ g) (hB : B ≤ w.heap.size) : Below B a (sortWorldK Rec.enc 4 w g 0 n dk os) := by
  refine h.trans ⟨rfl, rfl, rfl, ?_, fun k hk => ?_⟩
  · exact size_sortWorldK_c Rec.enc 4 w g 0 n dk os
  · unfold sortWorldK putRowK putRow mapBlock Sort.grow Sort.ahead
    show ((w.heap.modify g _) ++ os)[k]? = w.heap[k]?
    rw [Array.getElem?_append_left (by rw [Array.size_modify]; omega), Array.getElem?_modify, if_neg (by omega)]

/-- records.Sort of fewer than twenty records. -/
theorem sort_any (g cap : Nat) (rs : List Rec) (w : World) (cur : Array Value) (e : TypeId) (hc : w.heap[g]? = some (.cells cur e)) (hr : RecsAt w g 0 rs) (hl : rs.length < 20) :
    Calls Tryz.prog 59 #[.slice (some ⟨g, 0, none⟩) rs.length cap] w fun e w' =>
      e = .returned (.tuple #[]) ∧ RecsAt w' g 0 (sortL rs) ∧ ∀ B a, B ≤ g → B ≤ w.heap.size → Below B a w → Below B a w' := by
  refine (sort0 g cap rs w (holdsK_of hc hr) hr.1 hl).mono ?_
  rintro e w' ⟨rfl, n, os, rfl⟩
  have hs : (Sort.insertionSort (ltOf cmpR) rs.toArray 0 rs.length).size = rs.toArray.size := size_sort _ _ _ _
  refine ⟨rfl, recsAt_of_holds (Nat.lt_of_lt_of_le hr.1 (size_sortWorldK_c Rec.enc 4 w g 0 n _ os)) ?_, fun B a h1 h2 h3 => below_sort h3 h1 h2⟩
  have := holdsK_sortWorldK_c Rec.enc 4 w g 0 rs.toArray (Sort.insertionSort (ltOf cmpR) rs.toArray 0 rs.length) n os (holdsK_of hc hr) hr.1 hs
  unfold sortL
  simpa using this
end Sb
end Go.Proofs.YtkkpahmoljiepaaGreatDoor

/- Contract: zone.Parse, of texts whose zone has fewer than twenty records. -/
namespace Go.Proofs.YtkkpahmoljiepaaGreatDoor
open Go.RowKit
open Pu (Str hide unhide)

/-- a right zone's origin and its records in their order; none: it is none. -/
def parseP (t : Str) : Option (Str × List Rec) :=
  (readZ t).bind fun x => if Rf.startsR x.1 x.2 && rightP x.1 (sortL x.2) then some (x.1, sortL x.2) else none

/-- what Parse hands back. -/
def parseR (o : Option (Str × List Rec)) (base : Nat) (e : Ending) (w' : World) : Prop :=
  match o with
  | none => e = .returned (.tuple #[.pointer none, .int .i64 1])
  | some (o, rs) => ∃ zb g cap, e = .returned (.tuple #[.pointer (some ⟨zb, 0, none⟩), .int .i64 0]) ∧ base ≤ zb ∧ base ≤ g ∧ TableAt w' zb o g 0 cap rs

namespace Pa
open Ka Kd Rf Rg Ia Iow Ie Zb Zc Za Ze Zg Re Sb

set_option maxHeartbeats 400000 in
theorem clone_any (s : ByteArray) (w : World) (hs : s.size ≤ 281474976710656) :
    Calls Tryz.prog 57 #[.string s] w fun e w' => e = .returned (.string s) ∧ Below w.heap.size w w' := by
  go_enter Tryz.func57, Tryz.ntmps57
  go_wp2_with fail
  refine (Tryz.stringslite_Clone s w hs).mono ?_
  rintro e w1 ⟨rfl, hb⟩
  go_wp2_with fail
  go_ret
  exact ⟨rfl, hb⟩

set_option maxHeartbeats 400000 in
theorem new_any (o : Str) (b off n cap : Nat) (w : World) :
    Calls Tryz.prog 61 #[.string (B o), .slice (some ⟨b, off, none⟩) n cap] w fun e w' => e = .returned (.pointer (some ⟨w.heap.size, 0, none⟩)) ∧ Below w.heap.size w w' ∧ w.heap.size < w'.heap.size ∧
      w'.cell? ⟨w.heap.size, 0, none⟩ = some (.string (B o)) ∧ w'.cell? ⟨w.heap.size, 1, none⟩ = some (.slice (some ⟨b, off, none⟩) n cap) := by
  go_enter Tryz.func61, Tryz.ntmps61
  go_wp2_with fail
  go_ret
  exact ⟨rfl, (Below.refl _ _).alloc (Nat.le_refl _) _, by simp, by go_simp, by go_simp⟩

theorem own_some {w : World} {base : Nat} {v : Value} {rs : List Rec} (h : RecsOwn w base v rs) (hne : rs ≠ []) :
    ∃ g cap cur, v = .slice (some ⟨g, 0, none⟩) rs.length cap ∧ base ≤ g ∧ w.heap[g]? = some (.cells cur 47) ∧ rs.length ≤ cap ∧ RecsAt w g 0 rs := by
  have hrv := h.rv
  obtain ⟨⟨hlen, hv⟩, hnil⟩ := h
  rcases hv with ⟨rfl, h0⟩ | ⟨g, cap, cur, rfl, hb, hcur, hc, hm, hsz, htk⟩
  · exact absurd (hnil.1 rfl) hne
  · refine ⟨g, cap, cur, rfl, hb, hcur, hc, ?_⟩
    rcases hrv with ⟨e, _⟩ | ⟨b', off', cap', e, _, hr⟩
    · cases e
    · cases e; exact hr

set_option maxHeartbeats 1600000 in
theorem parse_any (s : ByteArray) (w : World) (hg : G w) (hs : s.size ≤ 3000) (hfit : ∀ o rs, readZ s.data.toList = some (o, rs) → rs.length < 20 ∧ Fit o rs) :
    Calls Tryz.prog 16 #[.string s] w fun e w' => parseR (parseP s.data.toList) w.heap.size e w' ∧ Below w.heap.size w w' := by
  have HC := hide (clone_any s w (by omega))
  have hsI : ¬ (3000 : Int) < (s.size : Int) := by omega
  have HRZ := hide (fun w1 (h : Below w.heap.size w w1) => readZone_any s w1 (hg.below h) hs)
  clear hg
  cases hz : readZ s.data.toList with
  | none =>
    have hfin : Hid (parseP s.data.toList = none) := by unfold parseP; rw [Hid, hz]; rfl
    go_enter Tryz.func16, Tryz.ntmps16
    go_wp2_with fail
    refine (unhide HC).mono ?_
    rintro e w1 ⟨rfl, hb1⟩
    go_wp2_with fail
    refine (unhide HRZ w1 hb1).mono ?_
    rintro e w2 ⟨hr2, hb2⟩
    rw [hz] at hr2
    obtain rfl : e = .returned noneV := hr2
    unfold noneV
    go_wp2_with fail
    go_ret2
    rw [unhide hfin]
    exact ⟨rfl, hb1.trans (hb2.mono hb1.size)⟩
  | some x =>
    obtain ⟨o, rs⟩ := x
    obtain ⟨h20, hlen, hol, hrl⟩ := hfit o rs hz
    have HRL := hide hrl
    clear hfit hrl
    have hP : Hid (parseP s.data.toList = if startsR o rs && rightP o (sortL rs) then some (o, sortL rs) else none) := by unfold parseP; rw [Hid, hz]; rfl
    cases hst : startsR o rs
    · have hfin : Hid (parseP s.data.toList = none) := by rw [Hid, unhide hP, hst]; rfl
      go_enter Tryz.func16, Tryz.ntmps16
      go_wp2_with fail
      refine (unhide HC).mono ?_
      rintro e w1 ⟨rfl, hb1⟩
      go_wp2_with fail
      refine (unhide HRZ w1 hb1).mono ?_
      rintro e w2 ⟨hr2, hb2⟩
      rw [hz] at hr2
      obtain ⟨v, rfl, hown⟩ := hr2
      have HS := hide (startsRight_any o v rs w2 hown.rv (by omega))
      clear hown
      go_wp2_with fail
      refine (unhide HS).mono ?_
      rintro e w3 ⟨rfl, hb3⟩
      go_wp2_with fail
      go_ret2
      rw [unhide hfin]
      exact ⟨rfl, (hb1.trans (hb2.mono hb1.size)).trans (hb3.mono (Nat.le_trans hb1.size hb2.size))⟩
    · have hne : rs ≠ [] := by intro h; rw [h] at hst; cases hst
      have HSL : Hid (∀ r ∈ sortL rs, r.owner.length ≤ 3000 ∧ r.data.length ≤ 3000) := sortL_all (unhide HRL)
      have hsl := sortL_len rs
      cases hrt : rightP o (sortL rs)
      · have hfin : Hid (parseP s.data.toList = none) := by rw [Hid, unhide hP, hst, hrt]; rfl
        go_enter Tryz.func16, Tryz.ntmps16
        go_wp2_with fail
        refine (unhide HC).mono ?_
        rintro e w1 ⟨rfl, hb1⟩
        go_wp2_with fail
        refine (unhide HRZ w1 hb1).mono ?_
        rintro e w2 ⟨hr2, hb2⟩
        rw [hz] at hr2
        obtain ⟨v, rfl, hown⟩ := hr2
        have HS := hide (startsRight_any o v rs w2 hown.rv (by omega))
        obtain ⟨g, cap, cur, rfl, hg, hcur, hcap, hra⟩ := own_some hown hne
        have HCUR := hide hcur
        have HRA := hide hra
        clear hown hcur hra
        have hb12 := hb1.trans (hb2.mono hb1.size)
        go_wp2_with fail
        refine (unhide HS).mono ?_
        rintro e w3 ⟨rfl, hb3⟩
        have hb13 := hb12.trans (hb3.mono hb12.size)
        have hglt := (unhide HRA).1
        go_wp2_with fail
        refine (sort_any g cap rs w3 cur _ ((hb3.block g hglt).trans (unhide HCUR)) ((unhide HRA).below hb3) h20).mono ?_
        rintro e w4 ⟨rfl, hr4, hb4⟩
        have hb14 := hb4 w.heap.size w (Nat.le_trans hb1.size hg) hb13.size hb13
        have HI := hide (isRight_any g 0 cap o (sortL rs) w4 hr4 (by omega) (by omega) hol (fun r hr => (unhide HSL r hr).1))
        rw [hsl] at HI
        clear hr4 hb4
        go_wp2_with fail
        refine (unhide HI).mono ?_
        rintro e w5 ⟨rfl, hb5⟩
        go_wp2_with fail
        go_ret2
        rw [unhide hfin]
        exact ⟨rfl, hb14.trans (hb5.mono hb14.size)⟩
      · have hfin : Hid (parseP s.data.toList = some (o, sortL rs)) := by rw [Hid, unhide hP, hst, hrt]; rfl
        go_enter Tryz.func16, Tryz.ntmps16
        go_wp2_with fail
        refine (unhide HC).mono ?_
        rintro e w1 ⟨rfl, hb1⟩
        go_wp2_with fail
        refine (unhide HRZ w1 hb1).mono ?_
        rintro e w2 ⟨hr2, hb2⟩
        rw [hz] at hr2
        obtain ⟨v, rfl, hown⟩ := hr2
        have HS := hide (startsRight_any o v rs w2 hown.rv (by omega))
        obtain ⟨g, cap, cur, rfl, hg, hcur, hcap, hra⟩ := own_some hown hne
        have HCUR := hide hcur
        have HRA := hide hra
        clear hown hcur hra
        have hb12 := hb1.trans (hb2.mono hb1.size)
        go_wp2_with fail
        refine (unhide HS).mono ?_
        rintro e w3 ⟨rfl, hb3⟩
        have hb13 := hb12.trans (hb3.mono hb12.size)
        have hglt := (unhide HRA).1
        go_wp2_with fail
        refine (sort_any g cap rs w3 cur _ ((hb3.block g hglt).trans (unhide HCUR)) ((unhide HRA).below hb3) h20).mono ?_
        rintro e w4 ⟨rfl, hr4, hb4⟩
        have hb14 := hb4 w.heap.size w (Nat.le_trans hb1.size hg) hb13.size hb13
        have HI := hide (isRight_any g 0 cap o (sortL rs) w4 hr4 (by omega) (by omega) hol (fun r hr => (unhide HSL r hr).1))
        rw [hsl] at HI
        have HR4 := hide hr4
        clear hr4 hb4
        go_wp2_with fail
        refine (unhide HI).mono ?_
        rintro e w5 ⟨rfl, hb5⟩
        have hb15 := hb14.trans (hb5.mono hb14.size)
        have HR5 := hide ((unhide HR4).below hb5)
        go_wp2_with fail
        refine (new_any o g 0 rs.length cap w5).mono ?_
        rintro e w6 ⟨rfl, hb6, hlt6, c60, c61⟩
        have HT : Hid (TableAt w6 w5.heap.size o g 0 cap (sortL rs)) := ⟨hlt6, c60, by rw [hsl]; exact c61, by omega, (unhide HR5).below hb6⟩
        clear c60 c61
        go_wp2_with fail
        go_ret2
        rw [unhide hfin]
        exact ⟨⟨_, _, _, rfl, hb15.size, Nat.le_trans hb1.size hg, unhide HT⟩, hb15.trans (hb6.mono hb15.size)⟩
end Pa
end Go.Proofs.YtkkpahmoljiepaaGreatDoor

/- The zone of the statement Starred: what its text reads as. -/
namespace Go.Proofs.YtkkpahmoljiepaaGreatDoor
open Go.RowKit
open Pu (Str hide unhide)

namespace Ta
open Go.Sort
def headS : Str := [111, 114, 105, 103, 105, 110, 32, 122, 122, 10, 122, 122, 32, 53, 48, 32, 83, 79, 65, 32, 97, 46, 122, 122, 32, 98, 46, 122, 122, 32, 57, 32, 52, 48, 10, 122, 122, 32, 53, 48, 32, 78, 83, 32, 97, 46, 122, 122, 10]
def linesS : Str := [42, 46, 119, 46, 122, 122, 32, 51, 32, 84, 88, 84, 32, 115, 116, 97, 114, 10, 116, 104, 101, 114, 101, 46, 119, 46, 122, 122, 32, 51, 32, 65, 32, 49, 46, 49, 46, 49, 46, 49, 10, 120, 46, 105, 110, 110, 101, 114, 46, 119, 46, 122, 122, 32, 51, 32, 65, 32, 50, 46, 50, 46, 50, 46, 50, 10]
def zz : Str := [122, 122]
def recs0 : List Rec := [([122, 122], 50, 6, [97, 46, 122, 122, 32, 98, 46, 122, 122, 32, 57, 32, 52, 48]), ([122, 122], 50, 2, [97, 46, 122, 122]), ([42, 46, 119, 46, 122, 122], 3, 16, [115, 116, 97, 114]), ([116, 104, 101, 114, 101, 46, 119, 46, 122, 122], 3, 1, [49, 46, 49, 46, 49, 46, 49]), ([120, 46, 105, 110, 110, 101, 114, 46, 119, 46, 122, 122], 3, 1, [50, 46, 50, 46, 50, 46, 50])]
def recs : List Rec := [([42, 46, 119, 46, 122, 122], 3, 16, [115, 116, 97, 114]), ([116, 104, 101, 114, 101, 46, 119, 46, 122, 122], 3, 1, [49, 46, 49, 46, 49, 46, 49]), ([120, 46, 105, 110, 110, 101, 114, 46, 119, 46, 122, 122], 3, 1, [50, 46, 50, 46, 50, 46, 50]), ([122, 122], 50, 2, [97, 46, 122, 122]), ([122, 122], 50, 6, [97, 46, 122, 122, 32, 98, 46, 122, 122, 32, 57, 32, 52, 48])]

theorem read1 : readZ (headS ++ linesS) = some (zz, recs0) := by kernel_rfl
theorem read2 : readZ (headS ++ linesS ++ [10]) = none := by kernel_rfl
theorem sort1 : sortL recs0 = recs := by
  unfold sortL Sort.insertionSort
  simp only [show recs0.length = 5 from rfl]
  rw [insOuter_go _ _ _ _ _ (by decide), insOuter_go _ _ _ _ _ (by decide), insOuter_go _ _ _ _ _ (by decide), insOuter_go _ _ _ _ _ (by decide), insOuter_stop _ _ _ _ _ (by decide)]
  kernel_rfl
theorem starts1 : Rf.startsR zz recs0 = true := by kernel_rfl
theorem right1 : rightP zz recs = true := by kernel_rfl
theorem parse1 : parseP (headS ++ linesS) = some (zz, recs) := by
  unfold parseP
  rw [read1]
  show (if Rf.startsR zz recs0 && rightP zz (sortL recs0) then some (zz, sortL recs0) else none) = _
  rw [sort1, starts1, right1]; rfl
theorem parse2 : parseP (headS ++ linesS ++ [10]) = none := by
  unfold parseP
  rw [read2]; rfl
end Ta
end Go.Proofs.YtkkpahmoljiepaaGreatDoor

/- Contracts: names.Ends and what it gives, names.Ancestors. -/
namespace Go.Proofs.YtkkpahmoljiepaaGreatDoor
open Go.RowKit
open Pu (Str hide unhide)
attribute [local go_sem] Oper.semAt_some

/-- what stands behind a name's first point. -/
def after (l : Str) : Str := (Lib.cut l [46]).2.1
def endsF : Nat → Str → List Str
  | 0, _ => []
  | f + 1, l => if l = [] then [] else l :: endsF f (after l)
/-- all ends of a name. -/
def ends (l : Str) : List Str := endsF l.length l

theorem after_some (a b : Str) (h : (46 : UInt8) ∉ a) : after (a ++ 46 :: b) = b := by
  unfold after Lib.cut
  rw [Lib.index_one, Sp.indexByte_some 46 a b h, if_pos (by omega)]
  simp [Int.toNat_natCast]
theorem after_none (l : Str) (h : (46 : UInt8) ∉ l) : after l = [] := by
  unfold after Lib.cut
  rw [Lib.index_one, Sp.indexByte_none 46 l h, if_neg (by decide)]
theorem after_len (l : Str) (h : l ≠ []) : (after l).length < l.length := by
  by_cases hc : (46 : UInt8) ∈ l
  · obtain ⟨a, b, rfl, ha⟩ := List.eq_append_cons_of_mem hc
    rw [after_some a b ha]; simp; omega
  · rw [after_none l hc]
    cases l with
    | nil => exact absurd rfl h
    | cons x t => simp
theorem endsF_fuel : ∀ (f : Nat) (l : Str), l.length ≤ f → endsF f l = endsF l.length l
  | 0, l, h => by
    obtain rfl : l = [] := List.eq_nil_of_length_eq_zero (by omega)
    rfl
  | f + 1, l, h => by
    by_cases hl : l = []
    · subst hl; rfl
    · have h1 := after_len l hl
      obtain ⟨k, hk⟩ : ∃ k, l.length = k + 1 := ⟨l.length - 1, by cases l with | nil => exact absurd rfl hl | cons x t => simp⟩
      rw [hk, endsF, endsF, if_neg hl, if_neg hl, endsF_fuel f _ (by omega), endsF_fuel k _ (by omega)]
theorem ends_nil : ends [] = [] := rfl
theorem ends_cons (l : Str) (h : l ≠ []) : ends l = l :: ends (after l) := by
  have h1 := after_len l h
  unfold ends
  obtain ⟨k, hk⟩ : ∃ k, l.length = k + 1 := ⟨l.length - 1, by cases l with | nil => exact absurd rfl h | cons x t => simp⟩
  rw [hk, endsF, if_neg h, endsF_fuel k _ (by omega)]
theorem ends_len : ∀ (f : Nat) (l : Str), l.length ≤ f → ∀ x ∈ ends l, x.length ≤ l.length
  | 0, l, h, x, hx => by
    obtain rfl : l = [] := List.eq_nil_of_length_eq_zero (by omega)
    simp [ends_nil] at hx
  | f + 1, l, h, x, hx => by
    by_cases hl : l = []
    · subst hl; simp [ends_nil] at hx
    · rw [ends_cons l hl, List.mem_cons] at hx
      have h1 := after_len l hl
      rcases hx with rfl | hx
      · exact Nat.le_refl _
      · have := ends_len f (after l) (by omega) x hx; omega
theorem ends_mem_len {l x : Str} (hx : x ∈ ends l) : x.length ≤ l.length := ends_len _ _ (Nat.le_refl _) x hx

/-- the two values of a text's length. -/
def strLen : Value → Nat
  | .string s => s.size
  | _ => 0

namespace La
open Ka Kd Rg Ia Iow Ie Zb Zc Za

set_option maxHeartbeats 400000 in
theorem ends_o (n : Str) (w : World) :
    Calls Tryz.prog 191 #[.string (B n)] w fun e w' => e = .returned (.func (.func 241) #[] #[.pointer (some ⟨w.heap.size, 0, none⟩)]) ∧ w'.heap.size = w.heap.size + 1 ∧ Below w.heap.size w w' ∧ w'.cell? ⟨w.heap.size, 0, none⟩ = some (.string (B n)) := by
  go_enter Tryz.func191, Tryz.ntmps191
  go_wp2
  go_ret
  exact ⟨rfl, by simp, (Below.refl _ _).alloc (Nat.le_refl _) _, by go_simp⟩

theorem cut_any (e : Str) (w : World) (hg : G w) (he : e.length ≤ 3000) :
    Calls Tryz.prog 242 #[.string (B e), .string ⟨#[46]⟩] w fun x w' => (∃ b c, x = .returned (.tuple #[.string (B b), .string (B (after e)), .bool c])) ∧ Below w.heap.size w w' := by
  obtain ⟨_, m, hm⟩ := hg
  refine (Tryz.strings_Cut (B e) ⟨#[46]⟩ m w (by rw [size_B]; omega) hm).mono ?_
  rintro x w' ⟨rfl, k, rfl⟩
  exact ⟨⟨_, _, rfl⟩, Rg.below_drewN (Below.refl _ w) k⟩

set_option maxHeartbeats 400000 in
theorem ancestors_o (n : Str) (w : World) (hg : G w) (hn : n.length ≤ 3000) :
    Calls Tryz.prog 271 #[.string (B n)] w fun e w' => ∃ bn, e = .returned (.func (.func 241) #[] #[.pointer (some ⟨bn, 0, none⟩)]) ∧ bn < w'.heap.size ∧ w.heap.size ≤ bn ∧ Below w.heap.size w w' ∧ w'.cell? ⟨bn, 0, none⟩ = some (.string (B (after n))) := by
  have HC := hide (cut_any n w hg hn)
  clear hg
  go_enter Tryz.func271, Tryz.ntmps271
  go_wp2_with fail
  refine (unhide HC).mono ?_
  rintro e w1 ⟨⟨b, c, rfl⟩, hb1⟩
  go_wp2_with fail
  refine (ends_o (after n) w1).mono ?_
  rintro e w2 ⟨rfl, hs2, hb2, c2⟩
  have C2 := hide c2
  clear c2
  go_wp2_with fail
  go_ret
  have := hb1.size
  exact ⟨_, rfl, by omega, by omega, hb1.trans (hb2.mono hb1.size), unhide C2⟩

set_option maxHeartbeats 1600000 in
theorem ends_seq (bn : Nat) (n : Str) (W0 : World) (hc : W0.cell? ⟨bn, 0, none⟩ = some (.string (B n))) (hg : G W0) (hn : n.length ≤ 3000) :
    It.Seq Tryz.prog 241 #[.pointer (some ⟨bn, 0, none⟩)] (fun e : Str => #[.string (B e)]) (ends n)
      (fun A B => Below A.heap.size A B) (fun A B => A.heap.size ≤ B.heap.size ∧ B.heap[0]? = A.heap[0]?) (fun _ _ => True) W0 := by
  intro l J Jx hJ hJx hY h0
  have HY := hide hY
  have HJ := hide hJ
  have HG := hide hg
  clear hY hJ hJx hg
  refine callsIn_of_wp Tryz.func241 rfl trivial ?_
  simp only [Tryz.ntmps241, List.size_toArray, List.length_cons, List.length_nil, Nat.reduceAdd, Nat.reduceSub, Array.replicate_succ, Array.replicate_zero, List.push_toArray, List.append_toArray, List.nil_append, List.cons_append]
  gi_wp2
  gi_loopw [3] (fun s wr => ∃ (i : Nat) (e : Str), s = .string (B e) ∧ e.length ≤ n.length ∧ i ≤ (ends n).length ∧ (ends n).drop i = ends e ∧ J i wr ∧ (W0.heap.size ≤ wr.heap.size ∧ wr.heap[0]? = W0.heap[0]?)) (fun s _ => strLen s)
  case atStart => exact ⟨0, n, rfl, Nat.le_refl _, Nat.zero_le _, rfl, h0, Nat.le_refl _, rfl⟩
  case round =>
    obtain ⟨i, e, rfl, hel, hi, hdr, hJi, hB⟩ := hrel
    have HD := hide hdr
    have HJi := hide hJi
    clear hdr hJi
    by_cases he : e = []
    · have hne : ((B e).toList == []) = true := by rw [he, ByteArray.toList_eq]; rfl
      have hfin : Hid (i = (ends n).length) := by
        have := congrArg List.length (unhide HD)
        rw [List.length_drop, he, ends_nil, List.length_nil] at this
        rw [Hid]; omega
      clear hc HY HJ HG HD hel hi hB he
      gi_wp2
      go_end0
      exact ⟨⟨_, rfl⟩, .inl (by rw [← unhide hfin]; exact unhide HJi)⟩
    · have hne : ((B e).toList == []) = false := by
        rw [beq_eq_false_iff_ne, ByteArray.toList_eq]; exact he
      have HIX : Hid ((ends n)[i]? = some e) := by
        have := congrArg (fun l : List Str => l[0]?) (unhide HD)
        rw [ends_cons e he] at this
        rw [Hid]
        simpa using this
      have HNX : Hid ((ends n).drop (i + 1) = ends (after e)) := by
        rw [Hid, ← List.drop_drop, unhide HD, ends_cons e he]; rfl
      have HI1 : Hid (i + 1 ≤ (ends n).length) := (List.getElem?_eq_some_iff.1 (unhide HIX)).1
      have hal := after_len e he
      have hyi := unhide HY i e wr (unhide HIX) (unhide HJi)
      obtain ⟨fn, tmps, assign, body, hy, hR⟩ := hyi
      gi_wp2_with fail
      refine ⟨rfl, hR.mono ?_⟩
      rintro x W3 (⟨rfl, hJ4, hk4⟩ | ⟨rfl, hJx4, _⟩)
      · have HJ4 := hide hJ4
        have hB4 : W0.heap.size ≤ W3.heap.size ∧ W3.heap[0]? = W0.heap[0]? := ⟨Nat.le_trans hB.1 hk4.1, hk4.2.trans hB.2⟩
        have HG3 : G W3 := by
          obtain ⟨g0, m, hm⟩ := unhide HG
          exact ⟨Nat.lt_of_lt_of_le g0 hB4.1, m, (World.cell?_of_block hB4.2).trans hm⟩
        have HC := hide (cut_any e W3 HG3 (by omega))
        have h03 := HG3.1
        clear hJ4 hk4 HG3
        gi_wp2_with fail
        refine ⟨trivial, rfl, ?_⟩
        refine (callsIn_wide.2 (unhide HC)).mono ?_
        rintro x W5 ⟨⟨b, c, rfl⟩, hb5⟩
        have HE := hide (unhide HJ _ _ _ (unhide HJ4) hb5)
        have hB5 : W0.heap.size ≤ W5.heap.size ∧ W5.heap[0]? = W0.heap[0]? := ⟨Nat.le_trans hB4.1 hb5.size, (hb5.block 0 h03).trans hB4.2⟩
        gi_wp2_with fail
        exact ⟨⟨i + 1, after e, rfl, by omega, unhide HI1, unhide HNX, unhide HE, hB5⟩, by simp only [strLen, size_B]; omega⟩
      · gi_wp2
        refine bodyPost_ret (results_none rfl _ _ _) rfl ?_
        exact ⟨⟨_, rfl⟩, .inr hJx4⟩
end La
end Go.Proofs.YtkkpahmoljiepaaGreatDoor

/- Contract: (*lookup.Table).cutOver. -/
namespace Go.Proofs.YtkkpahmoljiepaaGreatDoor
open Go.RowKit
open Pu (Str hide unhide)
attribute [local go_sem] Oper.semAt_some undef

def cutStep (rs : List Rec) (acc : List Rec) (e : Str) : List Rec := if (setP (ofP rs e) 2).length = 0 then acc else setP (ofP rs e) 2
/-- the NS of the cut that a name is under, the one nearest to the origin. -/
def cutP (o : Str) (rs : List Rec) (n : Str) : List Rec := ((ends n).takeWhile (fun e => !(e == o))).foldl (cutStep rs) []

namespace Lb
open Ka Kd Rg Ia Iow Ie Zb Zc Za La

theorem takeWhile_all {α : Type} (p : α → Bool) : ∀ (l : List α), l.all p = true → l.takeWhile p = l
  | [], _ => rfl
  | x :: t, h => by
    rw [List.all_cons, Bool.and_eq_true] at h
    rw [List.takeWhile_cons_of_pos h.1, takeWhile_all p t h.2]
theorem takeWhile_stop {α : Type} (p : α → Bool) : ∀ (l : List α) (i : Nat) (x : α), l[i]? = some x → (l.take i).all p = true → p x = false → l.takeWhile p = l.take i
  | [], i, x, h, _, _ => by simp at h
  | y :: t, 0, x, h, _, hp => by
    simp at h; subst h
    rw [List.takeWhile_cons_of_neg (by simp [hp])]; rfl
  | y :: t, i + 1, x, h, ha, hp => by
    rw [List.take_succ_cons, List.all_cons, Bool.and_eq_true] at ha
    rw [List.takeWhile_cons_of_pos ha.1, List.take_succ_cons, takeWhile_stop p t i x (by simpa using h) ha.2 hp]
theorem take_one {α : Type} {l : List α} {i : Nat} {x : α} (h : l[i]? = some x) : l.take (i + 1) = l.take i ++ [x] := by
  obtain ⟨hi, rfl⟩ := List.getElem?_eq_some_iff.1 h
  exact List.take_succ_eq_append_getElem hi

set_option maxRecDepth 100000 in
set_option maxHeartbeats 1600000 in
theorem cutOver_any (zb b off cap : Nat) (o n : Str) (rs : List Rec) (w : World) (hz : TableAt w zb o b off cap rs) (hg : G w) (hlen : rs.length ≤ 3001) (hn : n.length ≤ 3000) (hol : o.length ≤ 3000) :
    Calls Tryz.prog 126 #[.pointer (some ⟨zb, 0, none⟩), .string (B n)] w fun e w' => (∃ v, e = .returned v ∧ Piece b off rs v (cutP o rs n)) ∧ Below w.heap.size w w' := by
  refine (callsIn_wide (n := 0)).1 ?_
  refine callsIn_of_wp_marks Tryz.func126 rfl trivial ?_
  simp only [Tryz.ntmps126, List.size_toArray, List.length_cons, List.length_nil, Nat.reduceAdd, Nat.reduceSub, Array.replicate_succ, Array.replicate_zero, List.push_toArray, List.append_toArray, List.nil_append, List.cons_append]
  have HZ := hide hz
  have HG := hide hg
  have hzb := hz.1
  have hg0 := hg.1
  clear hz hg
  gi_wp2_with fail
  refine ⟨trivial, rfl, ?_⟩
  refine (callsIn_wide.2 (ends_o _ _)).mono ?_
  rintro e W2 ⟨rfl, e4, hb2, e2⟩
  have e0 : It.Box W2 w.heap.size (.pointer (some ⟨zb, 0, none⟩)) 110 := ((It.Box.new _ _ _).alloc _).below hb2 (by simp <;> omega)
  have e1 : It.Box W2 (w.heap.size + 1) (.slice none 0 0) 41 := by
    have := (It.Box.new (w.alloc (.cells #[.pointer (some ⟨zb, 0, none⟩)] 110)) (.slice none 0 0) 41).below hb2 (by simp <;> omega)
    rwa [World.size_alloc] at this
  have e5 : Below w.heap.size w W2 := (((Below.refl _ _).alloc (Nat.le_refl _) _).alloc (by simp) _).trans (hb2.mono (by simp <;> omega))
  simp only [World.size_alloc] at e4 e2
  gi_wp2_with fail
  have hgrow : ∀ r, Below W2.heap.size W2 ((W2.alloc (.deferred (some []))).alloc (.loop r)) := fun r => ((Below.refl _ _).alloc (Nat.le_refl _) _).alloc (by simp) _
  refine It.rangeB (xs := ends n) (encs := fun e : Str => #[.string (B e)]) (St := fun A B => Below A.heap.size A B) (Kp := fun A B => A.heap.size ≤ B.heap.size ∧ B.heap[0]? = A.heap[0]?) (Kx := fun _ _ => True)
    (gf := 241) (lb := #[.pointer (some ⟨w.heap.size + 1 + 1, 0, none⟩)]) rfl (enters_of Tryz.func241 (by kernel_rfl) rfl) (fun _ => rfl) ?seq
    [0] (by simp; omega) (fun A B hA h => h.mono hA) (fun A B h h' => ⟨h'.1, h _ (by simp)⟩) (fun _ _ _ => trivial)
    (fun i W => ((ends n).take i).all (fun e => !(e == o)) = true ∧ Below w.heap.size w W ∧ It.Box W w.heap.size (.pointer (some ⟨zb, 0, none⟩)) 110 ∧ ∃ v, Piece b off rs v (((ends n).take i).foldl (cutStep rs) []) ∧ It.Box W (w.heap.size + 1) v 41)
    (fun c W => c = .exit 0 ∧ Below w.heap.size w W ∧ ∃ v, Piece b off rs v (cutP o rs n) ∧ It.Box W (w.heap.size + 1) v 41)
    (fun i A B h hb => ⟨h.1, h.2.1.trans (hb.mono (by omega)), h.2.2.1.below hb (by omega), by obtain ⟨v, h1, h2⟩ := h.2.2.2; exact ⟨v, h1, h2.below hb (by omega)⟩⟩)
    (fun c A B h hb => ⟨h.1, h.2.1.trans (hb.mono (by omega)), by obtain ⟨v, h1, h2⟩ := h.2.2; exact ⟨v, h1, h2.below hb (by omega)⟩⟩)
    ⟨rfl, e5, e0, _, .inl ⟨rfl, rfl⟩, e1⟩
    ?round ?done ?stop
  case seq =>
    intro r
    have hg := hgrow r
    exact ends_seq _ n _ ((hg.cell (p := ⟨w.heap.size + 1 + 1, 0, none⟩) (by show w.heap.size + 1 + 1 < W2.heap.size; omega)).trans e2) (((unhide HG).below e5).below hg) hn
  case round =>
    intro l' i x V W hx hI hsz
    gi_wp2_with fail
    refine ⟨trivial, ?_⟩
    obtain ⟨hall, hB, hn0, v, hv, hc⟩ := hI
    have hxl := ends_mem_len (List.mem_of_getElem? hx)
    have hzW := (unhide HZ).below hB
    have z0 := hzW.2.1
    have HZW := hide hzW
    have cn := hn0.cell
    have hBB : ((B x).toList == (B o).toList) = (x == o) := B_inj
    have HN0 := hide hn0
    have HCB := hide hc
    have HX := hide hx
    have HALL := hide hall
    have HV := hide hv
    have hclt := hc.lt
    have hnlt := hn0.lt
    have hzlt := hzW.1
    clear hn0 hc hx hall hv hzW
    cases ho : x == o
    · rw [ho] at hBB
      have HA1 : Hid (((ends n).take (i + 1)).all (fun e => !(e == o)) = true) := by
        rw [Hid, take_one (unhide HX), List.all_append, unhide HALL]; simp [ho]
      have HF1 : Hid (((ends n).take (i + 1)).foldl (cutStep rs) [] = cutStep rs (((ends n).take i).foldl (cutStep rs) []) x) := by
        rw [Hid, take_one (unhide HX), List.foldl_append]; rfl
      have HCS := hide (set_t zb b off cap o x 2 rs W (unhide HZW) hlen)
      gi_wp2_with fail
      refine ⟨trivial, rfl, ?_⟩
      refine (CallsIn.inRound l' (callsIn_wide.2 (unhide HCS))).mono ?_
      rintro e W4 ⟨⟨v4, rfl, hv4⟩, hb4⟩
      obtain ⟨a4, c4, rfl⟩ := hv4.slice
      have HV4 := hide hv4
      have b4 := (unhide HCB).below hb4 hclt
      have cb4 := b4.cell
      have cf4 := b4.frozen
      have HB4 := hide b4
      have HN4 := hide ((unhide HN0).below hb4 hnlt)
      have hb4s := hb4.size
      clear hv4 b4
      by_cases hm : (setP (ofP rs x) 2).length = 0
      · have HE : Hid (((ends n).take (i + 1)).foldl (cutStep rs) [] = ((ends n).take i).foldl (cutStep rs) []) := by rw [Hid, unhide HF1, cutStep, if_pos hm]
        have hmI : ¬ (0 : Int) < ((setP (ofP rs x) 2).length : Int) := by omega
        gi_wp2_with fail
        exact ⟨It.Above.of_grown hb4, fun k hk => hb4.block k (by simp at hk; omega), unhide HA1, hB.trans (hb4.mono hB.size), unhide HN4, v, by rw [unhide HE]; exact unhide HV, unhide HB4⟩
      · have HE : Hid (((ends n).take (i + 1)).foldl (cutStep rs) [] = setP (ofP rs x) 2) := by rw [Hid, unhide HF1, cutStep, if_neg hm]
        have hmI : (0 : Int) < ((setP (ofP rs x) 2).length : Int) := by omega
        clear hm
        gi_wp2_with fail
        refine ⟨(It.Above.of_grown hb4).trans (It.Above.setCell W4 _ _ (by omega)), fun k hk => ?_, unhide HA1, (hB.trans (hb4.mono hB.size)).setCell (by show w.heap.size ≤ w.heap.size + 1; omega) _, ?_, _, by rw [unhide HE]; exact unhide HV4, (unhide HB4).set _⟩
        · obtain rfl : k = 0 := by simpa using hk
          exact (Below.heap_setCell _ _ _ _ (by show 0 ≠ w.heap.size + 1; omega)).trans (hb4.block 0 (by omega))
        · exact (Below.heap_setCell _ _ _ _ (by show w.heap.size ≠ w.heap.size + 1; omega)).trans (unhide HN4)
    · rw [ho] at hBB
      have HE : Hid (cutP o rs n = ((ends n).take i).foldl (cutStep rs) []) := by
        rw [Hid, cutP, takeWhile_stop _ _ i x (unhide HX) (unhide HALL) (by simp [ho])]
      gi_wp2_with fail
      exact ⟨It.Above.refl _ _, rfl, hB, v, by rw [unhide HE]; exact unhide HV, unhide HCB⟩
  case done =>
    intro W hI hdef hsz
    obtain ⟨hall, hB, hn0, v, hv, hc⟩ := hI
    rw [List.take_length] at hall hv
    have HE : Hid (cutP o rs n = (ends n).foldl (cutStep rs) []) := by rw [Hid, cutP, takeWhile_all _ _ hall]
    have HV := hide hv
    clear hall hv hn0
    have cb := hc.cell
    gi_wp2_with fail
    refine ⟨by simp, .inl ⟨_, _, rfl, run_takeDeferred hdef, ?_⟩⟩
    have hB' := hB.trans (belowK_b (w := W2) (show w.heap.size ≤ W2.heap.size by omega) W _ _ (.deferred none) (Nat.le_refl _) hdef rfl rfl)
    refine ⟨v, by simp [results, Tryz.results126, go_sem], ⟨v, rfl, ?_⟩, hB'⟩
    rw [unhide HE]; exact unhide HV
  case stop =>
    intro c W hI hdef hsz
    obtain ⟨rfl, hB, v, hv, hc⟩ := hI
    have HV := hide hv
    clear hv
    have cb := hc.cell
    gi_wp2_with fail
    refine ⟨by simp, .inl ⟨_, _, rfl, run_takeDeferred hdef, ?_⟩⟩
    have hB' := hB.trans (belowK_b (w := W2) (show w.heap.size ≤ W2.heap.size by omega) W _ _ (.deferred none) (Nat.le_refl _) hdef rfl rfl)
    exact ⟨v, by simp [results, Tryz.results126, go_sem], ⟨v, rfl, unhide HV⟩, hB'⟩
end Lb
end Go.Proofs.YtkkpahmoljiepaaGreatDoor
