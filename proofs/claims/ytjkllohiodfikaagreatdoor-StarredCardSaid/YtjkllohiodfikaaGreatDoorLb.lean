/- Contract: (*lookup.Table).cutOver. -/
import Derived.Test.YtjkllohiodfikaaGreatDoorLa
set_option linter.unusedSimpArgs false
set_option linter.unusedVariables false
namespace Go.Proofs.YtjkllohiodfikaaGreatDoor
open Go.RowKit
open Pu (Str hide unhide)
attribute [local go_sem] Oper.semAt_some undef

def cutStep (rs : List Rec) (acc : List Rec) (e : Str) : List Rec := if (setP (ofP rs e) 2).length = 0 then acc else setP (ofP rs e) 2
/-- the NS of the cut that a name is under, the one nearest to the origin. -/
def cutP (o : Str) (rs : List Rec) (n : Str) : List Rec := ((ends n).takeWhile (fun e => !(e == o))).foldl (cutStep rs) []

namespace Lb
open Ka Kd Rg Ia Iow Ie Zb Zc Za La

theorem takeWhile_all {α : Type} (p : α → Bool) : ∀ (l : List α), l.all p = true → l.takeWhile p = l
  | [], _ => rfl
  | x :: t, h => by
    rw [List.all_cons, Bool.and_eq_true] at h
    rw [List.takeWhile_cons_of_pos h.1, takeWhile_all p t h.2]
theorem takeWhile_stop {α : Type} (p : α → Bool) : ∀ (l : List α) (i : Nat) (x : α), l[i]? = some x → (l.take i).all p = true → p x = false → l.takeWhile p = l.take i
  | [], i, x, h, _, _ => by simp at h
  | y :: t, 0, x, h, _, hp => by
    simp at h; subst h
    rw [List.takeWhile_cons_of_neg (by simp [hp])]; rfl
  | y :: t, i + 1, x, h, ha, hp => by
    rw [List.take_succ_cons, List.all_cons, Bool.and_eq_true] at ha
    rw [List.takeWhile_cons_of_pos ha.1, List.take_succ_cons, takeWhile_stop p t i x (by simpa using h) ha.2 hp]
theorem take_one {α : Type} {l : List α} {i : Nat} {x : α} (h : l[i]? = some x) : l.take (i + 1) = l.take i ++ [x] := by
  obtain ⟨hi, rfl⟩ := List.getElem?_eq_some_iff.1 h
  exact List.take_succ_eq_append_getElem hi

set_option maxRecDepth 100000 in
set_option maxHeartbeats 1600000 in
theorem cutOver_any (zb b off cap : Nat) (o n : Str) (rs : List Rec) (w : World) (hz : TableAt w zb o b off cap rs) (hg : G w) (hlen : rs.length ≤ 3001) (hn : n.length ≤ 3000) (hol : o.length ≤ 3000) :
    Calls Tryz.prog 99 #[.pointer (some ⟨zb, 0, none⟩), .string (B n)] w fun e w' => (∃ v, e = .returned v ∧ Piece b off rs v (cutP o rs n)) ∧ Below w.heap.size w w' := by
  refine (callsIn_wide (n := 0)).1 ?_
  refine callsIn_of_wp_marks Tryz.func99 rfl trivial ?_
  simp only [Tryz.ntmps99, List.size_toArray, List.length_cons, List.length_nil, Nat.reduceAdd, Nat.reduceSub, Array.replicate_succ, Array.replicate_zero, List.push_toArray, List.append_toArray, List.nil_append, List.cons_append]
  have HZ := hide hz
  have HG := hide hg
  have hzb := hz.1
  have hg0 := hg.1
  clear hz hg
  gi_wp2_with fail
  refine ⟨trivial, rfl, ?_⟩
  refine (callsIn_wide.2 (ends_o _ _)).mono ?_
  rintro e W2 ⟨rfl, e4, hb2, e2⟩
  have e0 : It.Box W2 w.heap.size (.pointer (some ⟨zb, 0, none⟩)) 76 := ((It.Box.new _ _ _).alloc _).below hb2 (by simp <;> omega)
  have e1 : It.Box W2 (w.heap.size + 1) (.slice none 0 0) 41 := by
    have := (It.Box.new (w.alloc (.cells #[.pointer (some ⟨zb, 0, none⟩)] 76)) (.slice none 0 0) 41).below hb2 (by simp <;> omega)
    rwa [World.size_alloc] at this
  have e5 : Below w.heap.size w W2 := (((Below.refl _ _).alloc (Nat.le_refl _) _).alloc (by simp) _).trans (hb2.mono (by simp <;> omega))
  simp only [World.size_alloc] at e4 e2
  gi_wp2_with fail
  have hgrow : ∀ r, Below W2.heap.size W2 ((W2.alloc (.deferred (some []))).alloc (.loop r)) := fun r => ((Below.refl _ _).alloc (Nat.le_refl _) _).alloc (by simp) _
  refine It.rangeB (xs := ends n) (encs := fun e : Str => #[.string (B e)]) (St := fun A B => Below A.heap.size A B) (Kp := fun A B => A.heap.size ≤ B.heap.size ∧ B.heap[0]? = A.heap[0]?) (Kx := fun _ _ => True)
    (gf := 192) (lb := #[.pointer (some ⟨w.heap.size + 1 + 1, 0, none⟩)]) rfl (enters_of Tryz.func192 (by kernel_rfl) rfl) (fun _ => rfl) ?seq
    [0] (by simp; omega) (fun A B hA h => h.mono hA) (fun A B h h' => ⟨h'.1, h _ (by simp)⟩) (fun _ _ _ => trivial)
    (fun i W => ((ends n).take i).all (fun e => !(e == o)) = true ∧ Below w.heap.size w W ∧ It.Box W w.heap.size (.pointer (some ⟨zb, 0, none⟩)) 76 ∧ ∃ v, Piece b off rs v (((ends n).take i).foldl (cutStep rs) []) ∧ It.Box W (w.heap.size + 1) v 41)
    (fun c W => c = .exit 0 ∧ Below w.heap.size w W ∧ ∃ v, Piece b off rs v (cutP o rs n) ∧ It.Box W (w.heap.size + 1) v 41)
    (fun i A B h hb => ⟨h.1, h.2.1.trans (hb.mono (by omega)), h.2.2.1.below hb (by omega), by obtain ⟨v, h1, h2⟩ := h.2.2.2; exact ⟨v, h1, h2.below hb (by omega)⟩⟩)
    (fun c A B h hb => ⟨h.1, h.2.1.trans (hb.mono (by omega)), by obtain ⟨v, h1, h2⟩ := h.2.2; exact ⟨v, h1, h2.below hb (by omega)⟩⟩)
    ⟨rfl, e5, e0, _, .inl ⟨rfl, rfl⟩, e1⟩
    ?round ?done ?stop
  case seq =>
    intro r
    have hg := hgrow r
    exact ends_seq _ n _ ((hg.cell (p := ⟨w.heap.size + 1 + 1, 0, none⟩) (by show w.heap.size + 1 + 1 < W2.heap.size; omega)).trans e2) (((unhide HG).below e5).below hg) hn
  case round =>
    intro l' i x V W hx hI hsz
    gi_wp2_with fail
    refine ⟨trivial, ?_⟩
    obtain ⟨hall, hB, hn0, v, hv, hc⟩ := hI
    have hxl := ends_mem_len (List.mem_of_getElem? hx)
    have hzW := (unhide HZ).below hB
    have z0 := hzW.2.1
    have HZW := hide hzW
    have cn := hn0.cell
    have hBB : ((B x).toList == (B o).toList) = (x == o) := B_inj
    have HN0 := hide hn0
    have HCB := hide hc
    have HX := hide hx
    have HALL := hide hall
    have HV := hide hv
    have hclt := hc.lt
    have hnlt := hn0.lt
    have hzlt := hzW.1
    clear hn0 hc hx hall hv hzW
    cases ho : x == o
    · rw [ho] at hBB
      have HA1 : Hid (((ends n).take (i + 1)).all (fun e => !(e == o)) = true) := by
        rw [Hid, take_one (unhide HX), List.all_append, unhide HALL]; simp [ho]
      have HF1 : Hid (((ends n).take (i + 1)).foldl (cutStep rs) [] = cutStep rs (((ends n).take i).foldl (cutStep rs) []) x) := by
        rw [Hid, take_one (unhide HX), List.foldl_append]; rfl
      have HCS := hide (set_t zb b off cap o x 2 rs W (unhide HZW) hlen)
      gi_wp2_with fail
      refine ⟨trivial, rfl, ?_⟩
      refine (CallsIn.inRound l' (callsIn_wide.2 (unhide HCS))).mono ?_
      rintro e W4 ⟨⟨v4, rfl, hv4⟩, hb4⟩
      obtain ⟨a4, c4, rfl⟩ := hv4.slice
      have HV4 := hide hv4
      have b4 := (unhide HCB).below hb4 hclt
      have cb4 := b4.cell
      have cf4 := b4.frozen
      have HB4 := hide b4
      have HN4 := hide ((unhide HN0).below hb4 hnlt)
      have hb4s := hb4.size
      clear hv4 b4
      by_cases hm : (setP (ofP rs x) 2).length = 0
      · have HE : Hid (((ends n).take (i + 1)).foldl (cutStep rs) [] = ((ends n).take i).foldl (cutStep rs) []) := by rw [Hid, unhide HF1, cutStep, if_pos hm]
        have hmI : ¬ (0 : Int) < ((setP (ofP rs x) 2).length : Int) := by omega
        gi_wp2_with fail
        exact ⟨It.Above.of_grown hb4, fun k hk => hb4.block k (by simp at hk; omega), unhide HA1, hB.trans (hb4.mono hB.size), unhide HN4, v, by rw [unhide HE]; exact unhide HV, unhide HB4⟩
      · have HE : Hid (((ends n).take (i + 1)).foldl (cutStep rs) [] = setP (ofP rs x) 2) := by rw [Hid, unhide HF1, cutStep, if_neg hm]
        have hmI : (0 : Int) < ((setP (ofP rs x) 2).length : Int) := by omega
        clear hm
        gi_wp2_with fail
        refine ⟨(It.Above.of_grown hb4).trans (It.Above.setCell W4 _ _ (by omega)), fun k hk => ?_, unhide HA1, (hB.trans (hb4.mono hB.size)).setCell (by show w.heap.size ≤ w.heap.size + 1; omega) _, ?_, _, by rw [unhide HE]; exact unhide HV4, (unhide HB4).set _⟩
        · obtain rfl : k = 0 := by simpa using hk
          exact (Below.heap_setCell _ _ _ _ (by show 0 ≠ w.heap.size + 1; omega)).trans (hb4.block 0 (by omega))
        · exact (Below.heap_setCell _ _ _ _ (by show w.heap.size ≠ w.heap.size + 1; omega)).trans (unhide HN4)
    · rw [ho] at hBB
      have HE : Hid (cutP o rs n = ((ends n).take i).foldl (cutStep rs) []) := by
        rw [Hid, cutP, takeWhile_stop _ _ i x (unhide HX) (unhide HALL) (by simp [ho])]
      gi_wp2_with fail
      exact ⟨It.Above.refl _ _, rfl, hB, v, by rw [unhide HE]; exact unhide HV, unhide HCB⟩
  case done =>
    intro W hI hdef hsz
    obtain ⟨hall, hB, hn0, v, hv, hc⟩ := hI
    rw [List.take_length] at hall hv
    have HE : Hid (cutP o rs n = (ends n).foldl (cutStep rs) []) := by rw [Hid, cutP, takeWhile_all _ _ hall]
    have HV := hide hv
    clear hall hv hn0
    have cb := hc.cell
    gi_wp2_with fail
    refine ⟨by simp, .inl ⟨_, _, rfl, run_takeDeferred hdef, ?_⟩⟩
    have hB' := hB.trans (belowK_b (w := W2) (show w.heap.size ≤ W2.heap.size by omega) W _ _ (.deferred none) (Nat.le_refl _) hdef rfl rfl)
    refine ⟨v, by simp [results, Tryz.results99, go_sem], ⟨v, rfl, ?_⟩, hB'⟩
    rw [unhide HE]; exact unhide HV
  case stop =>
    intro c W hI hdef hsz
    obtain ⟨rfl, hB, v, hv, hc⟩ := hI
    have HV := hide hv
    clear hv
    have cb := hc.cell
    gi_wp2_with fail
    refine ⟨by simp, .inl ⟨_, _, rfl, run_takeDeferred hdef, ?_⟩⟩
    have hB' := hB.trans (belowK_b (w := W2) (show w.heap.size ≤ W2.heap.size by omega) W _ _ (.deferred none) (Nat.le_refl _) hdef rfl rfl)
    exact ⟨v, by simp [results, Tryz.results99, go_sem], ⟨v, rfl, unhide HV⟩, hB'⟩
end Lb
end Go.Proofs.YtjkllohiodfikaaGreatDoor
