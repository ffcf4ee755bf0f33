/- Contracts: records.Sort, at fewer than twenty records. -/
import Derived.Test.YtkkpahmoljiepaaGreatDoorJ15
import Derived.Test.YtkkpahmoljiepaaGreatDoorJ14
set_option linter.unusedSimpArgs false
set_option linter.unusedVariables false
namespace Go.Proofs.YtkkpahmoljiepaaGreatDoor
open Go.RowKit Go.Sort
open Pu (Str hide unhide)

/-- the records in their order, as the insertion sort lays them. -/
def sortL (rs : List Rec) : List Rec := (Sort.insertionSort (ltOf Sa.cmpR) rs.toArray 0 rs.length).toList

namespace Sb
open Ka Kd Sa

theorem holdsK_of {w : World} {g : Nat} {cur : Array Value} {e : TypeId} {rs : List Rec} (hg : w.heap[g]? = some (.cells cur e)) (hr : RecsAt w g 0 rs) : HoldsK Rec.enc 4 w g 0 rs.toArray := by
  intro j hj
  rw [size_flatK] at hj
  simp only [List.size_toArray] at hj
  rw [get_flatK _ _ _ _ (by simpa using hj)]
  refine ⟨?_, by simp [World.frozen?, hg]⟩
  have hj4 : j / 4 < rs.length := by omega
  have hlen : (Rec.enc rs[j / 4]!).length = 4 := rfl
  have h1 : (Rec.enc rs[j / 4]!)[j % 4]? = some (Rec.enc rs[j / 4]!)[j % 4]! := by
    have hk : j % 4 < (Rec.enc rs[j / 4]!).length := by rw [hlen]; omega
    rw [List.getElem?_eq_getElem hk, getElem!_pos (Rec.enc rs[j / 4]!) (j % 4) hk]
  have := hr.2 (j / 4) hj4 (j % 4) _ h1
  rw [show 0 + j / 4 * 4 + j % 4 = 0 + j from by omega] at this
  rw [this]
  simp

theorem recsAt_of_holds {w : World} {g : Nat} {rs : List Rec} (hg : g < w.heap.size) (h : HoldsK Rec.enc 4 w g 0 rs.toArray) : RecsAt w g 0 rs := by
  refine ⟨hg, fun j hj i u hu => ?_⟩
  have hi : i < 4 := by have := (List.getElem?_eq_some_iff.1 hu).1; exact this
  have hc := (h.cell (i := j) (c := i) (by simpa using hj) hi).1
  rw [hc]
  have e : rs.toArray[j]! = rs[j]! := by simp
  rw [e]
  rw [List.getElem?_eq_some_iff] at hu
  obtain ⟨h1, h2⟩ := hu
  rw [getElem!_pos (Rec.enc rs[j]!) i h1, h2]

theorem cmpLays (blk off size : Nat) (w : World) : CmpLays Tryz.prog 103 #[] Rec.enc 4 cmpR blk off size w :=
  fun _ _ _ _ x y => sorted1 x y _

theorem insertion (g cap : Nat) (rs : List Rec) (w : World) (hH : HoldsK Rec.enc 4 w g 0 rs.toArray) (hg : g < w.heap.size) (hl : rs.length ≤ 3001) :
    Calls Tryz.prog 231 #[.slice (some ⟨g, 0, none⟩) rs.length cap, .int .i64 0, .int .i64 rs.length, .func (.func 103) #[] #[]] w fun e w' =>
      e = .returned (.tuple #[]) ∧ ∃ n os, w' = sortWorldK Rec.enc 4 w g 0 n (Sort.insertionSort (ltOf cmpR) rs.toArray 0 rs.length) os :=
  AnyQ.insertionSortCmpFunc Tryz.lInsertion 4 Tryz.isAgg47 Tryz.sizeOf47 Rec.enc (fun _ => rfl) (fun x v hv => by simp [Rec.enc] at hv; rcases hv with rfl | rfl | rfl | rfl <;> rfl) cmpR 103 #[] g 0 cap 0 rs.length rs.toArray w (enters_of Tryz.func103 (by kernel_rfl) rfl) (cmpLays _ _ _ _) hH hg (Nat.zero_le _) (by simp) (by simp; omega)

set_option maxHeartbeats 800000 in
theorem stable_any (g cap : Nat) (rs : List Rec) (w : World) (hH : HoldsK Rec.enc 4 w g 0 rs.toArray) (hg : g < w.heap.size) (hl : rs.length < 20) :
    Calls Tryz.prog 173 #[.slice (some ⟨g, 0, none⟩) rs.length cap, .int .i64 rs.length, .func (.func 103) #[] #[]] w fun e w' =>
      e = .returned (.tuple #[]) ∧ ∃ n os, w' = sortWorldK Rec.enc 4 w g 0 n (Sort.insertionSort (ltOf cmpR) rs.toArray 0 rs.length) os := by
  have HI := hide (insertion g cap rs w hH hg (by omega))
  have hlI : (rs.length : Int) < 20 := by omega
  clear hH
  go_enter Tryz.func173, Tryz.ntmps173
  go_wp2_with fail
  go_loop [7, 8] (fun a b => a = .int .i64 0 ∧ b = .int .i64 20) (fun _ _ => 0)
  case atStart => exact ⟨rfl, rfl⟩
  case round =>
    obtain ⟨rfl, rfl⟩ := hrel
    go_wp2_with fail
    refine (unhide HI).mono ?_
    rintro e w1 ⟨rfl, hw⟩
    have HW := hide hw
    clear hw
    go_wp2_with fail
    go_loop [6] (fun a => a = .int .i64 20) (fun _ => 0)
    case atStart => rfl
    case round =>
      obtain rfl := hrel
      go_wp2_with fail
      go_end0
      exact ⟨rfl, unhide HW⟩

set_option maxHeartbeats 800000 in
theorem sortStable_any (g cap : Nat) (rs : List Rec) (w : World) (hH : HoldsK Rec.enc 4 w g 0 rs.toArray) (hg : g < w.heap.size) (hl : rs.length < 20) :
    Calls Tryz.prog 102 #[.slice (some ⟨g, 0, none⟩) rs.length cap, .func (.func 103) #[] #[]] w fun e w' =>
      e = .returned (.tuple #[]) ∧ ∃ n os, w' = sortWorldK Rec.enc 4 w g 0 n (Sort.insertionSort (ltOf cmpR) rs.toArray 0 rs.length) os := by
  have HI := hide (stable_any g cap rs w hH hg hl)
  clear hH
  go_enter Tryz.func102, Tryz.ntmps102
  go_wp2_with fail
  refine (unhide HI).mono ?_
  rintro e w1 ⟨rfl, hw⟩
  have HW := hide hw
  clear hw
  go_wp2_with fail
  go_end0
  exact ⟨rfl, unhide HW⟩

set_option maxHeartbeats 800000 in
theorem sort0 (g cap : Nat) (rs : List Rec) (w : World) (hH : HoldsK Rec.enc 4 w g 0 rs.toArray) (hg : g < w.heap.size) (hl : rs.length < 20) :
    Calls Tryz.prog 59 #[.slice (some ⟨g, 0, none⟩) rs.length cap] w fun e w' =>
      e = .returned (.tuple #[]) ∧ ∃ n os, w' = sortWorldK Rec.enc 4 w g 0 n (Sort.insertionSort (ltOf cmpR) rs.toArray 0 rs.length) os := by
  have HI := hide (sortStable_any g cap rs w hH hg hl)
  clear hH
  go_enter Tryz.func59, Tryz.ntmps59
  go_wp2_with fail
  refine (unhide HI).mono ?_
  rintro e w1 ⟨rfl, hw⟩
  have HW := hide hw
  clear hw
  go_wp2_with fail
  go_end0
  exact ⟨rfl, unhide HW⟩

theorem size_ins (lt : Rec → Rec → Bool) (a : Nat) : ∀ (j : Nat) (d : Array Rec), (insInner lt a j d).size = d.size
  | 0, d => rfl
  | j + 1, d => by
    rw [insInner]
    split
    · rw [size_ins lt a j, size_swp]
    · rfl
theorem size_out (lt : Rec → Rec → Bool) (a b : Nat) : ∀ (f i : Nat) (d : Array Rec), b - i ≤ f → (insOuter lt a b i d).size = d.size
  | 0, i, d, h => by rw [insOuter, if_neg (by omega)]
  | f + 1, i, d, h => by
    rw [insOuter]
    split
    · rw [size_out lt a b f _ _ (by omega), size_ins]
    · rfl
theorem size_sort (lt : Rec → Rec → Bool) (d : Array Rec) (a b : Nat) : (Sort.insertionSort lt d a b).size = d.size := size_out lt a b _ _ d (Nat.le_refl _)

theorem sortL_len (rs : List Rec) : (sortL rs).length = rs.length := by
  unfold sortL; rw [Array.length_toList, size_sort]; simp

theorem all_swp {p : Rec → Prop} {d : Array Rec} (h : ∀ k, k < d.size → p d[k]!) {i j : Nat} (hi : i < d.size) (hj : j < d.size) : ∀ k, k < (swp d i j).size → p (swp d i j)[k]! := by
  intro k hk
  rw [size_swp] at hk
  unfold swp
  have hk1 : k < (d.setIfInBounds i d[j]!).size := by simpa using hk
  have hk2 : k < ((d.setIfInBounds i d[j]!).setIfInBounds j d[i]!).size := by simpa using hk
  rw [getElem!_pos _ k hk2, Array.getElem_setIfInBounds hk1]
  split
  · exact h i hi
  · rw [Array.getElem_setIfInBounds hk]
    split
    · exact h j hj
    · rw [← getElem!_pos d k hk]; exact h k hk
theorem all_ins {p : Rec → Prop} (lt : Rec → Rec → Bool) (a : Nat) : ∀ (j : Nat) (d : Array Rec), j < d.size → (∀ k, k < d.size → p d[k]!) → ∀ k, k < (insInner lt a j d).size → p (insInner lt a j d)[k]!
  | 0, d, _, h => h
  | j + 1, d, hj, h => by
    rw [insInner]
    split
    · exact all_ins lt a j _ (by rw [size_swp]; omega) (all_swp h hj (by omega))
    · exact h
theorem all_out {p : Rec → Prop} (lt : Rec → Rec → Bool) (a b : Nat) : ∀ (f i : Nat) (d : Array Rec), b - i ≤ f → b ≤ d.size → (∀ k, k < d.size → p d[k]!) → ∀ k, k < (insOuter lt a b i d).size → p (insOuter lt a b i d)[k]!
  | 0, i, d, hf, hb, h => by rw [insOuter, if_neg (by omega)]; exact h
  | f + 1, i, d, hf, hb, h => by
    rw [insOuter]
    split
    · exact all_out lt a b f _ _ (by omega) (by rw [size_ins]; exact hb) (all_ins lt a i d (by omega) h)
    · exact h
theorem sortL_all {p : Rec → Prop} {rs : List Rec} (h : ∀ r ∈ rs, p r) : ∀ r ∈ sortL rs, p r := by
  intro r hr
  obtain ⟨k, hk, rfl⟩ := List.getElem_of_mem hr
  have hk' : k < (Sort.insertionSort (ltOf cmpR) rs.toArray 0 rs.length).size := by unfold sortL at hk; simpa using hk
  have := all_out (p := p) (ltOf cmpR) 0 rs.length _ 1 rs.toArray (Nat.le_refl _) (by simp) (fun k hk => by
    have hk2 : k < rs.length := by simpa using hk
    have e : rs.toArray[k]! = rs[k] := by simp [hk2]
    rw [e]; exact h _ (List.getElem_mem _)) k hk'
  have e : (sortL rs)[k] = (Sort.insertionSort (ltOf cmpR) rs.toArray 0 rs.length)[k]! := by
    unfold sortL
    rw [getElem!_pos _ k hk']; simp
  exact e ▸ this

theorem below_sort {B g n : Nat} {a w : World} {dk : Array Rec} {os : Array Obj} (h : Below B a w) (hg : B ≤ g) (hB : B ≤ w.heap.size) : Below B a (sortWorldK Rec.enc 4 w g 0 n dk os) := by
  refine h.trans ⟨rfl, rfl, rfl, ?_, fun k hk => ?_⟩
  · exact size_sortWorldK_c Rec.enc 4 w g 0 n dk os
  · unfold sortWorldK putRowK putRow mapBlock Sort.grow Sort.ahead
    show ((w.heap.modify g _) ++ os)[k]? = w.heap[k]?
    rw [Array.getElem?_append_left (by rw [Array.size_modify]; omega), Array.getElem?_modify, if_neg (by omega)]

/-- records.Sort of fewer than twenty records. -/
theorem sort_any (g cap : Nat) (rs : List Rec) (w : World) (cur : Array Value) (e : TypeId) (hc : w.heap[g]? = some (.cells cur e)) (hr : RecsAt w g 0 rs) (hl : rs.length < 20) :
    Calls Tryz.prog 59 #[.slice (some ⟨g, 0, none⟩) rs.length cap] w fun e w' =>
      e = .returned (.tuple #[]) ∧ RecsAt w' g 0 (sortL rs) ∧ ∀ B a, B ≤ g → B ≤ w.heap.size → Below B a w → Below B a w' := by
  refine (sort0 g cap rs w (holdsK_of hc hr) hr.1 hl).mono ?_
  rintro e w' ⟨rfl, n, os, rfl⟩
  have hs : (Sort.insertionSort (ltOf cmpR) rs.toArray 0 rs.length).size = rs.toArray.size := size_sort _ _ _ _
  refine ⟨rfl, recsAt_of_holds (Nat.lt_of_lt_of_le hr.1 (size_sortWorldK_c Rec.enc 4 w g 0 n _ os)) ?_, fun B a h1 h2 h3 => below_sort h3 h1 h2⟩
  have := holdsK_sortWorldK_c Rec.enc 4 w g 0 rs.toArray (Sort.insertionSort (ltOf cmpR) rs.toArray 0 rs.length) n os (holdsK_of hc hr) hr.1 hs
  unfold sortL
  simpa using this
end Sb
end Go.Proofs.YtkkpahmoljiepaaGreatDoor

/- Contract: zone.Parse, of texts whose zone has fewer than twenty records. -/
namespace Go.Proofs.YtkkpahmoljiepaaGreatDoor
open Go.RowKit
open Pu (Str hide unhide)

/-- a right zone's origin and its records in their order; none: it is none. -/
def parseP (t : Str) : Option (Str × List Rec) :=
  (readZ t).bind fun x => if Rf.startsR x.1 x.2 && rightP x.1 (sortL x.2) then some (x.1, sortL x.2) else none

/-- what Parse hands back. -/
def parseR (o : Option (Str × List Rec)) (base : Nat) (e : Ending) (w' : World) : Prop :=
  match o with
  | none => e = .returned (.tuple #[.pointer none, .int .i64 1])
  | some (o, rs) => ∃ zb g cap, e = .returned (.tuple #[.pointer (some ⟨zb, 0, none⟩), .int .i64 0]) ∧ base ≤ zb ∧ base ≤ g ∧ TableAt w' zb o g 0 cap rs

namespace Pa
open Ka Kd Rf Rg Ia Iow Ie Zb Zc Za Ze Zg Re Sb

set_option maxHeartbeats 400000 in
theorem clone_any (s : ByteArray) (w : World) (hs : s.size ≤ 281474976710656) :
    Calls Tryz.prog 57 #[.string s] w fun e w' => e = .returned (.string s) ∧ Below w.heap.size w w' := by
  go_enter Tryz.func57, Tryz.ntmps57
  go_wp2_with fail
  refine (Tryz.stringslite_Clone s w hs).mono ?_
  rintro e w1 ⟨rfl, hb⟩
  go_wp2_with fail
  go_ret
  exact ⟨rfl, hb⟩

set_option maxHeartbeats 400000 in
theorem new_any (o : Str) (b off n cap : Nat) (w : World) :
    Calls Tryz.prog 61 #[.string (B o), .slice (some ⟨b, off, none⟩) n cap] w fun e w' => e = .returned (.pointer (some ⟨w.heap.size, 0, none⟩)) ∧ Below w.heap.size w w' ∧ w.heap.size < w'.heap.size ∧
      w'.cell? ⟨w.heap.size, 0, none⟩ = some (.string (B o)) ∧ w'.cell? ⟨w.heap.size, 1, none⟩ = some (.slice (some ⟨b, off, none⟩) n cap) := by
  go_enter Tryz.func61, Tryz.ntmps61
  go_wp2_with fail
  go_ret
  exact ⟨rfl, (Below.refl _ _).alloc (Nat.le_refl _) _, by simp, by go_simp, by go_simp⟩

theorem own_some {w : World} {base : Nat} {v : Value} {rs : List Rec} (h : RecsOwn w base v rs) (hne : rs ≠ []) :
    ∃ g cap cur, v = .slice (some ⟨g, 0, none⟩) rs.length cap ∧ base ≤ g ∧ w.heap[g]? = some (.cells cur 47) ∧ rs.length ≤ cap ∧ RecsAt w g 0 rs := by
  have hrv := h.rv
  obtain ⟨⟨hlen, hv⟩, hnil⟩ := h
  rcases hv with ⟨rfl, h0⟩ | ⟨g, cap, cur, rfl, hb, hcur, hc, hm, hsz, htk⟩
  · exact absurd (hnil.1 rfl) hne
  · refine ⟨g, cap, cur, rfl, hb, hcur, hc, ?_⟩
    rcases hrv with ⟨e, _⟩ | ⟨b', off', cap', e, _, hr⟩
    · cases e
    · cases e; exact hr

set_option maxHeartbeats 1600000 in
theorem parse_any (s : ByteArray) (w : World) (hg : G w) (hs : s.size ≤ 3000) (hfit : ∀ o rs, readZ s.data.toList = some (o, rs) → rs.length < 20 ∧ Fit o rs) :
    Calls Tryz.prog 16 #[.string s] w fun e w' => parseR (parseP s.data.toList) w.heap.size e w' ∧ Below w.heap.size w w' := by
  have HC := hide (clone_any s w (by omega))
  have hsI : ¬ (3000 : Int) < (s.size : Int) := by omega
  have HRZ := hide (fun w1 (h : Below w.heap.size w w1) => readZone_any s w1 (hg.below h) hs)
  clear hg
  cases hz : readZ s.data.toList with
  | none =>
    have hfin : Hid (parseP s.data.toList = none) := by unfold parseP; rw [Hid, hz]; rfl
    go_enter Tryz.func16, Tryz.ntmps16
    go_wp2_with fail
    refine (unhide HC).mono ?_
    rintro e w1 ⟨rfl, hb1⟩
    go_wp2_with fail
    refine (unhide HRZ w1 hb1).mono ?_
    rintro e w2 ⟨hr2, hb2⟩
    rw [hz] at hr2
    obtain rfl : e = .returned noneV := hr2
    unfold noneV
    go_wp2_with fail
    go_ret2
    rw [unhide hfin]
    exact ⟨rfl, hb1.trans (hb2.mono hb1.size)⟩
  | some x =>
    obtain ⟨o, rs⟩ := x
    obtain ⟨h20, hlen, hol, hrl⟩ := hfit o rs hz
    have HRL := hide hrl
    clear hfit hrl
    have hP : Hid (parseP s.data.toList = if startsR o rs && rightP o (sortL rs) then some (o, sortL rs) else none) := by unfold parseP; rw [Hid, hz]; rfl
    cases hst : startsR o rs
    · have hfin : Hid (parseP s.data.toList = none) := by rw [Hid, unhide hP, hst]; rfl
      go_enter Tryz.func16, Tryz.ntmps16
      go_wp2_with fail
      refine (unhide HC).mono ?_
      rintro e w1 ⟨rfl, hb1⟩
      go_wp2_with fail
      refine (unhide HRZ w1 hb1).mono ?_
      rintro e w2 ⟨hr2, hb2⟩
      rw [hz] at hr2
      obtain ⟨v, rfl, hown⟩ := hr2
      have HS := hide (startsRight_any o v rs w2 hown.rv (by omega))
      clear hown
      go_wp2_with fail
      refine (unhide HS).mono ?_
      rintro e w3 ⟨rfl, hb3⟩
      go_wp2_with fail
      go_ret2
      rw [unhide hfin]
      exact ⟨rfl, (hb1.trans (hb2.mono hb1.size)).trans (hb3.mono (Nat.le_trans hb1.size hb2.size))⟩
    · have hne : rs ≠ [] := by intro h; rw [h] at hst; cases hst
      have HSL : Hid (∀ r ∈ sortL rs, r.owner.length ≤ 3000 ∧ r.data.length ≤ 3000) := sortL_all (unhide HRL)
      have hsl := sortL_len rs
      cases hrt : rightP o (sortL rs)
      · have hfin : Hid (parseP s.data.toList = none) := by rw [Hid, unhide hP, hst, hrt]; rfl
        go_enter Tryz.func16, Tryz.ntmps16
        go_wp2_with fail
        refine (unhide HC).mono ?_
        rintro e w1 ⟨rfl, hb1⟩
        go_wp2_with fail
        refine (unhide HRZ w1 hb1).mono ?_
        rintro e w2 ⟨hr2, hb2⟩
        rw [hz] at hr2
        obtain ⟨v, rfl, hown⟩ := hr2
        have HS := hide (startsRight_any o v rs w2 hown.rv (by omega))
        obtain ⟨g, cap, cur, rfl, hg, hcur, hcap, hra⟩ := own_some hown hne
        have HCUR := hide hcur
        have HRA := hide hra
        clear hown hcur hra
        have hb12 := hb1.trans (hb2.mono hb1.size)
        go_wp2_with fail
        refine (unhide HS).mono ?_
        rintro e w3 ⟨rfl, hb3⟩
        have hb13 := hb12.trans (hb3.mono hb12.size)
        have hglt := (unhide HRA).1
        go_wp2_with fail
        refine (sort_any g cap rs w3 cur _ ((hb3.block g hglt).trans (unhide HCUR)) ((unhide HRA).below hb3) h20).mono ?_
        rintro e w4 ⟨rfl, hr4, hb4⟩
        have hb14 := hb4 w.heap.size w (Nat.le_trans hb1.size hg) hb13.size hb13
        have HI := hide (isRight_any g 0 cap o (sortL rs) w4 hr4 (by omega) (by omega) hol (fun r hr => (unhide HSL r hr).1))
        rw [hsl] at HI
        clear hr4 hb4
        go_wp2_with fail
        refine (unhide HI).mono ?_
        rintro e w5 ⟨rfl, hb5⟩
        go_wp2_with fail
        go_ret2
        rw [unhide hfin]
        exact ⟨rfl, hb14.trans (hb5.mono hb14.size)⟩
      · have hfin : Hid (parseP s.data.toList = some (o, sortL rs)) := by rw [Hid, unhide hP, hst, hrt]; rfl
        go_enter Tryz.func16, Tryz.ntmps16
        go_wp2_with fail
        refine (unhide HC).mono ?_
        rintro e w1 ⟨rfl, hb1⟩
        go_wp2_with fail
        refine (unhide HRZ w1 hb1).mono ?_
        rintro e w2 ⟨hr2, hb2⟩
        rw [hz] at hr2
        obtain ⟨v, rfl, hown⟩ := hr2
        have HS := hide (startsRight_any o v rs w2 hown.rv (by omega))
        obtain ⟨g, cap, cur, rfl, hg, hcur, hcap, hra⟩ := own_some hown hne
        have HCUR := hide hcur
        have HRA := hide hra
        clear hown hcur hra
        have hb12 := hb1.trans (hb2.mono hb1.size)
        go_wp2_with fail
        refine (unhide HS).mono ?_
        rintro e w3 ⟨rfl, hb3⟩
        have hb13 := hb12.trans (hb3.mono hb12.size)
        have hglt := (unhide HRA).1
        go_wp2_with fail
        refine (sort_any g cap rs w3 cur _ ((hb3.block g hglt).trans (unhide HCUR)) ((unhide HRA).below hb3) h20).mono ?_
        rintro e w4 ⟨rfl, hr4, hb4⟩
        have hb14 := hb4 w.heap.size w (Nat.le_trans hb1.size hg) hb13.size hb13
        have HI := hide (isRight_any g 0 cap o (sortL rs) w4 hr4 (by omega) (by omega) hol (fun r hr => (unhide HSL r hr).1))
        rw [hsl] at HI
        have HR4 := hide hr4
        clear hr4 hb4
        go_wp2_with fail
        refine (unhide HI).mono ?_
        rintro e w5 ⟨rfl, hb5⟩
        have hb15 := hb14.trans (hb5.mono hb14.size)
        have HR5 := hide ((unhide HR4).below hb5)
        go_wp2_with fail
        refine (new_any o g 0 rs.length cap w5).mono ?_
        rintro e w6 ⟨rfl, hb6, hlt6, c60, c61⟩
        have HT : Hid (TableAt w6 w5.heap.size o g 0 cap (sortL rs)) := ⟨hlt6, c60, by rw [hsl]; exact c61, by omega, (unhide HR5).below hb6⟩
        clear c60 c61
        go_wp2_with fail
        go_ret2
        rw [unhide hfin]
        exact ⟨⟨_, _, _, rfl, hb15.size, Nat.le_trans hb1.size hg, unhide HT⟩, hb15.trans (hb6.mono hb15.size)⟩
end Pa
end Go.Proofs.YtkkpahmoljiepaaGreatDoor

/- Contracts: (*search).follow, (*Table).Answer, (*Zone).Lookup of a name whose records are no CNAME, where no record names another. -/
namespace Go.Proofs.YtkkpahmoljiepaaGreatDoor
open Go.RowKit
open Pu (Str hide unhide)

def boolN : Value → Nat
  | .bool true => 1
  | _ => 0

/-- what is asked of a zone and a name, that a search is a plain one. -/
structure Plain (o n : Str) (rs : List Rec) (k : Int) : Prop where
  fit : Fit o rs
  len : n.length ≤ 2900
  soa : ∀ r ∈ setP (ofP rs o) 6, soaOk r ∧ r.data.length ≤ 3000 ∧ r.ttl ≤ 1000000000
  ne5 : (k == 5) = false
  ne255 : (k == 255) = false
  alias : aliasP (matchP rs n).1 = false
  mlen : (matchP rs n).1.length ≤ 3001
  under : Sp.under n o = true
  names : ∀ r ∈ stepAns o rs k n ++ stepAuth o rs k n, (r.type != 2) = true ∧ (r.type != 15) = true ∧ r.data.length ≤ 3000
  alen : (stepAns o rs k n).length ≤ 4000
  blen : (stepAuth o rs k n).length ≤ 4000

/-- an answer in memory. -/
def AnsAt (w : World) (rb : Nat) (c0 c1 c2 c3 c4 : Value) : Prop := w.heap[rb]? = some (.cells #[c0, c1, c2, c3, c4] 43)
theorem AnsAt.cells {w : World} {rb : Nat} {c0 c1 c2 c3 c4 : Value} (h : AnsAt w rb c0 c1 c2 c3 c4) : w.cell? ⟨rb, 0, none⟩ = some c0 ∧ w.cell? ⟨rb, 1, none⟩ = some c1 ∧ w.cell? ⟨rb, 2, none⟩ = some c2 ∧ w.cell? ⟨rb, 3, none⟩ = some c3 ∧ w.cell? ⟨rb, 4, none⟩ = some c4 := by
  unfold AnsAt at h
  refine ⟨?_, ?_, ?_, ?_, ?_⟩ <;> simp [World.cell?, h]
theorem AnsAt.frozen {w : World} {rb : Nat} {c0 c1 c2 c3 c4 : Value} (h : AnsAt w rb c0 c1 c2 c3 c4) (i : Nat) : w.frozen? ⟨rb, i, none⟩ = false := by
  unfold AnsAt at h; simp [World.frozen?, h]
theorem AnsAt.set0 {w : World} {rb : Nat} {c0 c1 c2 c3 c4 : Value} (h : AnsAt w rb c0 c1 c2 c3 c4) (x : Value) : AnsAt (w.setCell ⟨rb, 0, none⟩ x) rb x c1 c2 c3 c4 := by
  unfold AnsAt at *; simp only [World.setCell]; rw [Array.getElem?_modify, if_pos rfl, h]; rfl
theorem AnsAt.set1 {w : World} {rb : Nat} {c0 c1 c2 c3 c4 : Value} (h : AnsAt w rb c0 c1 c2 c3 c4) (x : Value) : AnsAt (w.setCell ⟨rb, 1, none⟩ x) rb c0 x c2 c3 c4 := by
  unfold AnsAt at *; simp only [World.setCell]; rw [Array.getElem?_modify, if_pos rfl, h]; rfl
theorem AnsAt.set2 {w : World} {rb : Nat} {c0 c1 c2 c3 c4 : Value} (h : AnsAt w rb c0 c1 c2 c3 c4) (x : Value) : AnsAt (w.setCell ⟨rb, 2, none⟩ x) rb c0 c1 x c3 c4 := by
  unfold AnsAt at *; simp only [World.setCell]; rw [Array.getElem?_modify, if_pos rfl, h]; rfl
theorem AnsAt.set3 {w : World} {rb : Nat} {c0 c1 c2 c3 c4 : Value} (h : AnsAt w rb c0 c1 c2 c3 c4) (x : Value) : AnsAt (w.setCell ⟨rb, 3, none⟩ x) rb c0 c1 c2 x c4 := by
  unfold AnsAt at *; simp only [World.setCell]; rw [Array.getElem?_modify, if_pos rfl, h]; rfl
theorem AnsAt.set4 {w : World} {rb : Nat} {c0 c1 c2 c3 c4 : Value} (h : AnsAt w rb c0 c1 c2 c3 c4) (x : Value) : AnsAt (w.setCell ⟨rb, 4, none⟩ x) rb c0 c1 c2 c3 x := by
  unfold AnsAt at *; simp only [World.setCell]; rw [Array.getElem?_modify, if_pos rfl, h]; rfl

namespace Lj
open Ka Kd Rf Rg Ia Iow Ie Zb Zc Za La Lb Re Lc Le Lf Lg Lh Li Ld

set_option maxHeartbeats 800000 in
theorem follow_plain (sb zb cb c b off cap : Nat) (k : Int) (au : Bool) (va vb vc : Value) (o n : Str) (rs : List Rec) (w : World) (hs : SearchAt w sb zb k 0 au va vb vc cb) (hva : va = .slice none 0 0) (hvb : vb = .slice none 0 0)
    (hz : TableAt w zb o b off cap rs) (hg : G w) (hzs : zb < sb) (hbs : b < sb) (h0 : 0 < sb) (hc : CancelAt w cb c false) (hp : Plain o n rs k) :
    Calls Tryz.prog 127 #[.pointer (some ⟨sb, 0, none⟩), .string (B n)] w fun e w' => e = .returned (.bool true) ∧ (∃ va' vb', SearchAt w' sb zb k (stepRc o rs n) au va' vb' vc cb ∧ OwnR w' (sb + 1) va' (stepAns o rs k n) ∧ OwnR w' (sb + 1) vb' (stepAuth o rs k n)) ∧ Below sb w w' := by
  have HST := hide (step_plain sb zb cb b off cap k au va vb vc o n rs [] w hs (by subst hva; exact World.ownsRow_nil _ _ _ _) hvb hz hg hzs hbs h0 hp.fit hp.len (by simp) hp.soa hp.ne5 hp.ne255 hp.alias hp.mlen)
  have HAS := hide (asked_any cb c false w hc)
  obtain ⟨s0, s1, s2, s3, s4, s5, s6, s7⟩ := hs.cells
  clear hs hz hg hc hp s0 s1 s2 s3 s4 s5 s6
  go_enter Tryz.func127, Tryz.ntmps127
  go_wp2_with fail
  go_loopw [1, 5] (fun nm mr wr => (nm = .string (B n) ∧ mr = .bool true ∧ wr = w) ∨ (mr = .bool false ∧ (∃ va' vb', SearchAt wr sb zb k (stepRc o rs n) au va' vb' vc cb ∧ OwnR wr (sb + 1) va' (stepAns o rs k n) ∧ OwnR wr (sb + 1) vb' (stepAuth o rs k n)) ∧ Below sb w wr)) (fun _ mr _ => boolN mr)
  case atStart => exact .inl ⟨rfl, rfl, rfl⟩
  case round =>
    rcases hrel with ⟨rfl, rfl, rfl⟩ | ⟨rfl, hpost⟩
    · go_wp2_with fail
      refine (unhide HAS).mono ?_
      rintro e w ⟨rfl, rfl⟩
      go_wp2_with fail
      refine (unhide HST).mono ?_
      rintro e w1 ⟨rfl, hpost⟩
      rw [List.nil_append] at hpost
      have HP := hide hpost
      clear hpost
      go_wp2_with fail
      go_roundw
      case rel => exact .inr ⟨rfl, unhide HP⟩
      case measure => simp [boolN]
    · have HP := hide hpost
      clear hpost
      go_wp2_with fail
      go_ret
      exact ⟨rfl, unhide HP⟩

set_option maxRecDepth 100000 in
set_option maxHeartbeats 1600000 in
theorem answer_plain (zb b off cap : Nat) (k : Int) (o n : Str) (rs : List Rec) (w : World) (hz : TableAt w zb o b off cap rs) (hg : G w) (hp : Plain o n rs k) :
    Calls Tryz.prog 69 #[.pointer (some ⟨zb, 0, none⟩), .string (B n), .int .i64 k] w fun e w' =>
      (∃ va vb, e = .returned (.agg #[.int .i64 (stepRc o rs n), .bool (decide ((cutP o rs n).length = 0)), va, vb, .slice none 0 0]) ∧ OwnR w' w.heap.size va (stepAns o rs k n) ∧ OwnR w' w.heap.size vb (stepAuth o rs k n)) ∧ Below w.heap.size w w' := by
  have hzb := hz.1
  have hblt := hz.2.2.2.2.1
  have hz0 := hz.2.1
  have hg0 := hg.1
  have HZ := hide hz
  have HG := hide hg
  have HP := hide hp
  have hu := hp.under
  have hol := hp.fit.2.1
  have hnl := hp.len
  have hlen := hp.fit.1
  have hbx : Below w.heap.size w (w.alloc (.cells #[.int .i64 0, .bool false, .slice none 0 0, .slice none 0 0, .slice none 0 0] 43)) := (Below.refl _ _).alloc (Nat.le_refl _) _
  have HU : Hid (∀ W, Calls Tryz.prog 110 #[.string (B n), .string (B o)] W fun e w' => e = .returned (.bool true) ∧ w' = W) := fun W => by
    have := under_any (B n) (B o) W (by rw [size_B]; omega) (by rw [size_B]; omega)
    rw [data_B, data_B, hu] at this
    exact this
  clear hz hg hp hu
  go_enter Tryz.func69, Tryz.ntmps69
  go_wp2_with fail
  refine (unhide HU _).mono ?_
  rintro e w1 ⟨rfl, hw1⟩
  have hb1 : Below w.heap.size w w1 := by rw [hw1]; exact hbx
  have r1 : w1.heap[w.heap.size]? = some (.cells #[.int .i64 0, .bool false, .slice none 0 0, .slice none 0 0, .slice none 0 0] 43) := by rw [hw1]; exact heap_alloc_new w _
  clear hw1 hbx HU
  go_wp2_with fail
  refine (newCancel_any w1).mono ?_
  rintro e w2 ⟨cb, c, rfl, hc2, hcb, hcc, hne, hb2⟩
  have HC2 := hide hc2
  have hcl := hc2.lt
  have hcbl := hc2.1
  have hb12 := hb1.trans (hb2.mono hb1.size)
  have r2 := (hb2.block w.heap.size (Array.getElem?_eq_some_iff.1 r1).1).trans r1
  clear hc2 r1
  go_wp2_with fail
  have hb3 : Below w2.heap.size w2 (w2.alloc (.cells #[.pointer (some ⟨zb, 0, none⟩), .int .i64 k, .int .i64 0, .bool false, .slice none 0 0, .slice none 0 0, .slice none 0 0, .pointer (some ⟨cb, 0, none⟩)] 210)) := (Below.refl _ _).alloc (Nat.le_refl _) _
  have S3 : SearchAt (w2.alloc (.cells #[.pointer (some ⟨zb, 0, none⟩), .int .i64 k, .int .i64 0, .bool false, .slice none 0 0, .slice none 0 0, .slice none 0 0, .pointer (some ⟨cb, 0, none⟩)] 210)) w2.heap.size zb k 0 false (.slice none 0 0) (.slice none 0 0) (.slice none 0 0) cb := heap_alloc_new w2 _
  have hs2 := hb2.size
  have hs1 := hb1.size
  refine (cutOver_any zb b off cap o n rs _ (((unhide HZ).below hb12).below hb3) (((unhide HG).below hb12).below hb3) hlen (by omega) hol).mono ?_
  rintro e w4 ⟨⟨v4, rfl, hv4⟩, hb4⟩
  obtain ⟨a4, c4, rfl⟩ := hv4.slice
  have S4 := S3.kept (hb4.block w2.heap.size (by simp))
  have hb24 : Below w2.heap.size w2 w4 := hb3.trans (hb4.mono (by simp <;> omega))
  have hs4 : w2.heap.size < w4.heap.size := S4.lt
  clear S3 hv4 hb3 hb4
  obtain ⟨x0, x1, x2, x3, x4, x5, x6, x7⟩ := S4.cells
  have xf := S4.frozen 3
  have H4 := hide S4
  clear S4 x0 x1 x2 x4 x5 x6 x7
  obtain ⟨au, hcI, hau⟩ : ∃ au : Bool, (((cutP o rs n).length : Int) == 0) = au ∧ decide ((cutP o rs n).length = 0) = au := ⟨_, rfl, by
    by_cases h : (cutP o rs n).length = 0
    · rw [h]; rfl
    · rw [decide_eq_false h, eq_comm, beq_eq_false_iff_ne]; omega⟩
  have HAU := hide hau
  clear hau
  have S5 := (unhide H4).set3 au
  have hb45 : Below w2.heap.size w2 (w4.setCell ⟨w2.heap.size, 3, none⟩ (.bool au)) := hb24.setCell (p := ⟨w2.heap.size, 3, none⟩) (Nat.le_refl _) _
  have hs5 : (w4.setCell ⟨w2.heap.size, 3, none⟩ (.bool au)).heap.size = w4.heap.size := by simp [World.setCell]
  have HF := hide (follow_plain w2.heap.size zb cb c b off cap k au _ _ _ o n rs _ S5 rfl rfl ((unhide HZ).below (hb12.trans (hb45.mono hb12.size))) ((unhide HG).below (hb12.trans (hb45.mono hb12.size))) (by omega) (by omega) (by omega) ((unhide HC2).below hb45 hcbl hcl) (unhide HP))
  clear S5 H4
  go_wp2_with fail
  refine (unhide HF).mono ?_
  rintro e w6 ⟨rfl, ⟨va, vb, hs6, hov, hrv⟩, hb6⟩
  have hB6 : Below w2.heap.size w2 w6 := hb45.trans hb6
  have r6 := (hB6.block w.heap.size (by omega)).trans r2
  obtain ⟨y0, y1, y2, y3, y4, y5, y6, y7⟩ := hs6.cells
  obtain ⟨aa, ca, rfl⟩ := hov.slice
  obtain ⟨ab, cb', rfl⟩ := hrv.slice
  have HAD := hide (additional_plain zb (stepRc o rs n) au _ _ (.slice none 0 0) _ _ w6 hov.rv hrv.rv (unhide HP).alen (unhide HP).blen (unhide HP).names)
  have HS6 := hide hs6
  have HOV := hide hov
  have HRV := hide hrv
  have hs6l := hs6.lt
  clear HF hs6 hov hrv
  go_wp2_with fail
  refine (unhide HAD).mono ?_
  rintro e w7 ⟨rfl, hb7⟩
  have hs7 := (unhide HS6).kept (hb7.block w2.heap.size hs6l)
  obtain ⟨z0, z1, z2, z3, z4, z5, z6, z7⟩ := hs7.cells
  have zf := hs7.frozen 6
  have hs8 := hs7.set6 (.slice none 0 0)
  obtain ⟨p0, p1, p2, p3, p4, p5, p6, p7⟩ := hs8.cells
  have r7 := (hb7.block w.heap.size (by have := hb6.size; rw [hs5] at this; omega)).trans r6
  have hRV7 := hide (And.intro ((unhide HOV).below hb7) ((unhide HRV).below hb7))
  obtain ⟨k0, k1, k2, k3, k4⟩ := AnsAt.cells r7
  have kf0 := AnsAt.frozen r7 0
  have kf1 := AnsAt.frozen r7 1
  have kf2 := AnsAt.frozen r7 2
  have kf3 := AnsAt.frozen r7 3
  have kf4 := AnsAt.frozen r7 4
  clear hs7 hs8 y0 y1 y2 y3 y4 y5 y6 y7 x3 xf r2 r6
  go_wp2_with fail
  have A9 := ((((AnsAt.set0 (show AnsAt (w7.setCell ⟨w2.heap.size, 6, none⟩ (.slice none 0 0)) w.heap.size _ _ _ _ _ from (Below.heap_setCell _ _ _ _ (by show w.heap.size ≠ w2.heap.size; omega)).trans r7) (.int .i64 (stepRc o rs n))).set1 (.bool au)).set2 (.slice aa (stepAns o rs k n).length ca)).set3 (.slice ab (stepAuth o rs k n).length cb')).set4 (.slice none 0 0)
  obtain ⟨n0, n1, n2, n3, n4⟩ := A9.cells
  have hB7 : Below w2.heap.size w2 w7 := hB6.trans (hb7.mono (by omega))
  have hrvs := unhide hRV7
  refine bodyPost_ret (v := .agg #[.int .i64 (stepRc o rs n), .bool au, .slice aa (stepAns o rs k n).length ca, .slice ab (stepAuth o rs k n).length cb', .slice none 0 0]) ?_ rfl ?_
  · simp [results, Tryz.results69, go_sem, n0, n1, n2, n3, n4]
  · refine ⟨⟨_, _, by rw [unhide HAU], ?_, ?_⟩, ?_⟩
    · exact (((((((hrvs.1.set_low (k := w2.heap.size) (i := 6) (by omega) _).set_low (k := w.heap.size) (i := 0) (by omega) _).set_low (k := w.heap.size) (i := 1) (by omega) _).set_low (k := w.heap.size) (i := 2) (by omega) _).set_low (k := w.heap.size) (i := 3) (by omega) _).set_low (k := w.heap.size) (i := 4) (by omega) _)).base (by omega)
    · exact (((((((hrvs.2.set_low (k := w2.heap.size) (i := 6) (by omega) _).set_low (k := w.heap.size) (i := 0) (by omega) _).set_low (k := w.heap.size) (i := 1) (by omega) _).set_low (k := w.heap.size) (i := 2) (by omega) _).set_low (k := w.heap.size) (i := 3) (by omega) _).set_low (k := w.heap.size) (i := 4) (by omega) _)).base (by omega)
    · have h7 := hb12.trans (hB7.mono hb12.size)
      exact (((((h7.setCell (p := ⟨w2.heap.size, 6, none⟩) (by show w.heap.size ≤ w2.heap.size; omega) _).setCell (p := ⟨w.heap.size, 0, none⟩) (Nat.le_refl _) _).setCell (p := ⟨w.heap.size, 1, none⟩) (Nat.le_refl _) _).setCell (p := ⟨w.heap.size, 2, none⟩) (Nat.le_refl _) _).setCell (p := ⟨w.heap.size, 3, none⟩) (Nat.le_refl _) _).setCell (p := ⟨w.heap.size, 4, none⟩) (Nat.le_refl _) _
end Lj
end Go.Proofs.YtkkpahmoljiepaaGreatDoor
