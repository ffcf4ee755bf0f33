/- Contracts: records.Sort, at fewer than twenty records. -/
import Derived.Test.YtjkllohiodfikaaGreatDoorSa
set_option linter.unusedSimpArgs false
set_option linter.unusedVariables false
namespace Go.Proofs.YtjkllohiodfikaaGreatDoor
open Go.RowKit Go.Sort
open Pu (Str hide unhide)

/-- the records in their order, as the insertion sort lays them. -/
def sortL (rs : List Rec) : List Rec := (Sort.insertionSort (ltOf Sa.cmpR) rs.toArray 0 rs.length).toList

namespace Sb
open Ka Kd Sa

theorem holdsK_of {w : World} {g : Nat} {cur : Array Value} {e : TypeId} {rs : List Rec} (hg : w.heap[g]? = some (.cells cur e)) (hr : RecsAt w g 0 rs) : HoldsK Rec.enc 4 w g 0 rs.toArray := by
  intro j hj
  rw [size_flatK] at hj
  simp only [List.size_toArray] at hj
  rw [get_flatK _ _ _ _ (by simpa using hj)]
  refine ⟨?_, by simp [World.frozen?, hg]⟩
  have hj4 : j / 4 < rs.length := by omega
  have hlen : (Rec.enc rs[j / 4]!).length = 4 := rfl
  have h1 : (Rec.enc rs[j / 4]!)[j % 4]? = some (Rec.enc rs[j / 4]!)[j % 4]! := by
    have hk : j % 4 < (Rec.enc rs[j / 4]!).length := by rw [hlen]; omega
    rw [List.getElem?_eq_getElem hk, getElem!_pos (Rec.enc rs[j / 4]!) (j % 4) hk]
  have := hr.2 (j / 4) hj4 (j % 4) _ h1
  rw [show 0 + j / 4 * 4 + j % 4 = 0 + j from by omega] at this
  rw [this]
  simp

theorem recsAt_of_holds {w : World} {g : Nat} {rs : List Rec} (hg : g < w.heap.size) (h : HoldsK Rec.enc 4 w g 0 rs.toArray) : RecsAt w g 0 rs := by
  refine ⟨hg, fun j hj i u hu => ?_⟩
  have hi : i < 4 := by have := (List.getElem?_eq_some_iff.1 hu).1; exact this
  have hc := (h.cell (i := j) (c := i) (by simpa using hj) hi).1
  rw [hc]
  have e : rs.toArray[j]! = rs[j]! := by simp
  rw [e]
  rw [List.getElem?_eq_some_iff] at hu
  obtain ⟨h1, h2⟩ := hu
  rw [getElem!_pos (Rec.enc rs[j]!) i h1, h2]

theorem cmpLays (blk off size : Nat) (w : World) : CmpLays Tryz.prog 76 #[] Rec.enc 4 cmpR blk off size w :=
  fun _ _ _ _ x y => sorted1 x y _

theorem insertion (g cap : Nat) (rs : List Rec) (w : World) (hH : HoldsK Rec.enc 4 w g 0 rs.toArray) (hg : g < w.heap.size) (hl : rs.length ≤ 3001) :
    Calls Tryz.prog 182 #[.slice (some ⟨g, 0, none⟩) rs.length cap, .int .i64 0, .int .i64 rs.length, .func (.func 76) #[] #[]] w fun e w' =>
      e = .returned (.tuple #[]) ∧ ∃ n os, w' = sortWorldK Rec.enc 4 w g 0 n (Sort.insertionSort (ltOf cmpR) rs.toArray 0 rs.length) os :=
  AnyQ.insertionSortCmpFunc Tryz.lInsertion 4 Tryz.isAgg47 Tryz.sizeOf47 Rec.enc (fun _ => rfl) (fun x v hv => by simp [Rec.enc] at hv; rcases hv with rfl | rfl | rfl | rfl <;> rfl) cmpR 76 #[] g 0 cap 0 rs.length rs.toArray w (enters_of Tryz.func76 (by kernel_rfl) rfl) (cmpLays _ _ _ _) hH hg (Nat.zero_le _) (by simp) (by simp; omega)

set_option maxHeartbeats 800000 in
theorem stable_any (g cap : Nat) (rs : List Rec) (w : World) (hH : HoldsK Rec.enc 4 w g 0 rs.toArray) (hg : g < w.heap.size) (hl : rs.length < 20) :
    Calls Tryz.prog 133 #[.slice (some ⟨g, 0, none⟩) rs.length cap, .int .i64 rs.length, .func (.func 76) #[] #[]] w fun e w' =>
      e = .returned (.tuple #[]) ∧ ∃ n os, w' = sortWorldK Rec.enc 4 w g 0 n (Sort.insertionSort (ltOf cmpR) rs.toArray 0 rs.length) os := by
  have HI := hide (insertion g cap rs w hH hg (by omega))
  have hlI : (rs.length : Int) < 20 := by omega
  clear hH
  go_enter Tryz.func133, Tryz.ntmps133
  go_wp2_with fail
  go_loop [7, 8] (fun a b => a = .int .i64 0 ∧ b = .int .i64 20) (fun _ _ => 0)
  case atStart => exact ⟨rfl, rfl⟩
  case round =>
    obtain ⟨rfl, rfl⟩ := hrel
    go_wp2_with fail
    refine (unhide HI).mono ?_
    rintro e w1 ⟨rfl, hw⟩
    have HW := hide hw
    clear hw
    go_wp2_with fail
    go_loop [6] (fun a => a = .int .i64 20) (fun _ => 0)
    case atStart => rfl
    case round =>
      obtain rfl := hrel
      go_wp2_with fail
      go_end0
      exact ⟨rfl, unhide HW⟩

set_option maxHeartbeats 800000 in
theorem sortStable_any (g cap : Nat) (rs : List Rec) (w : World) (hH : HoldsK Rec.enc 4 w g 0 rs.toArray) (hg : g < w.heap.size) (hl : rs.length < 20) :
    Calls Tryz.prog 75 #[.slice (some ⟨g, 0, none⟩) rs.length cap, .func (.func 76) #[] #[]] w fun e w' =>
      e = .returned (.tuple #[]) ∧ ∃ n os, w' = sortWorldK Rec.enc 4 w g 0 n (Sort.insertionSort (ltOf cmpR) rs.toArray 0 rs.length) os := by
  have HI := hide (stable_any g cap rs w hH hg hl)
  clear hH
  go_enter Tryz.func75, Tryz.ntmps75
  go_wp2_with fail
  refine (unhide HI).mono ?_
  rintro e w1 ⟨rfl, hw⟩
  have HW := hide hw
  clear hw
  go_wp2_with fail
  go_end0
  exact ⟨rfl, unhide HW⟩

set_option maxHeartbeats 800000 in
theorem sort0 (g cap : Nat) (rs : List Rec) (w : World) (hH : HoldsK Rec.enc 4 w g 0 rs.toArray) (hg : g < w.heap.size) (hl : rs.length < 20) :
    Calls Tryz.prog 40 #[.slice (some ⟨g, 0, none⟩) rs.length cap] w fun e w' =>
      e = .returned (.tuple #[]) ∧ ∃ n os, w' = sortWorldK Rec.enc 4 w g 0 n (Sort.insertionSort (ltOf cmpR) rs.toArray 0 rs.length) os := by
  have HI := hide (sortStable_any g cap rs w hH hg hl)
  clear hH
  go_enter Tryz.func40, Tryz.ntmps40
  go_wp2_with fail
  refine (unhide HI).mono ?_
  rintro e w1 ⟨rfl, hw⟩
  have HW := hide hw
  clear hw
  go_wp2_with fail
  go_end0
  exact ⟨rfl, unhide HW⟩

theorem size_ins (lt : Rec → Rec → Bool) (a : Nat) : ∀ (j : Nat) (d : Array Rec), (insInner lt a j d).size = d.size
  | 0, d => rfl
  | j + 1, d => by
    rw [insInner]
    split
    · rw [size_ins lt a j, size_swp]
    · rfl
theorem size_out (lt : Rec → Rec → Bool) (a b : Nat) : ∀ (f i : Nat) (d : Array Rec), b - i ≤ f → (insOuter lt a b i d).size = d.size
  | 0, i, d, h => by rw [insOuter, if_neg (by omega)]
  | f + 1, i, d, h => by
    rw [insOuter]
    split
    · rw [size_out lt a b f _ _ (by omega), size_ins]
    · rfl
theorem size_sort (lt : Rec → Rec → Bool) (d : Array Rec) (a b : Nat) : (Sort.insertionSort lt d a b).size = d.size := size_out lt a b _ _ d (Nat.le_refl _)

theorem sortL_len (rs : List Rec) : (sortL rs).length = rs.length := by
  unfold sortL; rw [Array.length_toList, size_sort]; simp

theorem all_swp {p : Rec → Prop} {d : Array Rec} (h : ∀ k, k < d.size → p d[k]!) {i j : Nat} (hi : i < d.size) (hj : j < d.size) : ∀ k, k < (swp d i j).size → p (swp d i j)[k]! := by
  intro k hk
  rw [size_swp] at hk
  unfold swp
  have hk1 : k < (d.setIfInBounds i d[j]!).size := by simpa using hk
  have hk2 : k < ((d.setIfInBounds i d[j]!).setIfInBounds j d[i]!).size := by simpa using hk
  rw [getElem!_pos _ k hk2, Array.getElem_setIfInBounds hk1]
  split
  · exact h i hi
  · rw [Array.getElem_setIfInBounds hk]
    split
    · exact h j hj
    · rw [← getElem!_pos d k hk]; exact h k hk
theorem all_ins {p : Rec → Prop} (lt : Rec → Rec → Bool) (a : Nat) : ∀ (j : Nat) (d : Array Rec), j < d.size → (∀ k, k < d.size → p d[k]!) → ∀ k, k < (insInner lt a j d).size → p (insInner lt a j d)[k]!
  | 0, d, _, h => h
  | j + 1, d, hj, h => by
    rw [insInner]
    split
    · exact all_ins lt a j _ (by rw [size_swp]; omega) (all_swp h hj (by omega))
    · exact h
theorem all_out {p : Rec → Prop} (lt : Rec → Rec → Bool) (a b : Nat) : ∀ (f i : Nat) (d : Array Rec), b - i ≤ f → b ≤ d.size → (∀ k, k < d.size → p d[k]!) → ∀ k, k < (insOuter lt a b i d).size → p (insOuter lt a b i d)[k]!
  | 0, i, d, hf, hb, h => by rw [insOuter, if_neg (by omega)]; exact h
  | f + 1, i, d, hf, hb, h => by
    rw [insOuter]
    split
    · exact all_out lt a b f _ _ (by omega) (by rw [size_ins]; exact hb) (all_ins lt a i d (by omega) h)
    · exact h
theorem sortL_all {p : Rec → Prop} {rs : List Rec} (h : ∀ r ∈ rs, p r) : ∀ r ∈ sortL rs, p r := by
  intro r hr
  obtain ⟨k, hk, rfl⟩ := List.getElem_of_mem hr
  have hk' : k < (Sort.insertionSort (ltOf cmpR) rs.toArray 0 rs.length).size := by unfold sortL at hk; simpa using hk
  have := all_out (p := p) (ltOf cmpR) 0 rs.length _ 1 rs.toArray (Nat.le_refl _) (by simp) (fun k hk => by
    have hk2 : k < rs.length := by simpa using hk
    have e : rs.toArray[k]! = rs[k] := by simp [hk2]
    rw [e]; exact h _ (List.getElem_mem _)) k hk'
  have e : (sortL rs)[k] = (Sort.insertionSort (ltOf cmpR) rs.toArray 0 rs.length)[k]! := by
    unfold sortL
    rw [getElem!_pos _ k hk']; simp
  exact e ▸ this

theorem below_sort {B g n : Nat} {a w : World} {dk : Array Rec} {os : Array Obj} (h : Below B a w) (hg : B ≤ g) (hB : B ≤ w.heap.size) : Below B a (sortWorldK Rec.enc 4 w g 0 n dk os) := by
  refine h.trans ⟨rfl, rfl, rfl, ?_, fun k hk => ?_⟩
  · exact size_sortWorldK_c Rec.enc 4 w g 0 n dk os
  · unfold sortWorldK putRowK putRow mapBlock Sort.grow Sort.ahead
    show ((w.heap.modify g _) ++ os)[k]? = w.heap[k]?
    rw [Array.getElem?_append_left (by rw [Array.size_modify]; omega), Array.getElem?_modify, if_neg (by omega)]

/-- records.Sort of fewer than twenty records. -/
theorem sort_any (g cap : Nat) (rs : List Rec) (w : World) (cur : Array Value) (e : TypeId) (hc : w.heap[g]? = some (.cells cur e)) (hr : RecsAt w g 0 rs) (hl : rs.length < 20) :
    Calls Tryz.prog 40 #[.slice (some ⟨g, 0, none⟩) rs.length cap] w fun e w' =>
      e = .returned (.tuple #[]) ∧ RecsAt w' g 0 (sortL rs) ∧ ∀ B a, B ≤ g → B ≤ w.heap.size → Below B a w → Below B a w' := by
  refine (sort0 g cap rs w (holdsK_of hc hr) hr.1 hl).mono ?_
  rintro e w' ⟨rfl, n, os, rfl⟩
  have hs : (Sort.insertionSort (ltOf cmpR) rs.toArray 0 rs.length).size = rs.toArray.size := size_sort _ _ _ _
  refine ⟨rfl, recsAt_of_holds (Nat.lt_of_lt_of_le hr.1 (size_sortWorldK_c Rec.enc 4 w g 0 n _ os)) ?_, fun B a h1 h2 h3 => below_sort h3 h1 h2⟩
  have := holdsK_sortWorldK_c Rec.enc 4 w g 0 rs.toArray (Sort.insertionSort (ltOf cmpR) rs.toArray 0 rs.length) n os (holdsK_of hc hr) hr.1 hs
  unfold sortL
  simpa using this
end Sb
end Go.Proofs.YtjkllohiodfikaaGreatDoor
