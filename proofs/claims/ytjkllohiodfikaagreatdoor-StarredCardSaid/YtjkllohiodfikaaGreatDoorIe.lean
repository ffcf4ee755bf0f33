/- Contracts: records.Under and what it gives. -/
import Derived.Test.YtjkllohiodfikaaGreatDoorId
set_option linter.unusedSimpArgs false
set_option linter.unusedVariables false
namespace Go.Proofs.YtjkllohiodfikaaGreatDoor
open Go.RowKit
open Pu (Str hide unhide)
attribute [local go_sem] Oper.semAt_some

/-- the runs of owners under a name. -/
def underRuns (n : Str) (rs : List Rec) : List (Nat × List Rec) := (runs sameOwner rs).filter (fun x => Sp.under (ownerOf x) n)

namespace Ie
open Ka Kd Rg Ia Iow

set_option maxHeartbeats 400000 in
theorem under_mk (a : Option Addr) (n c : Nat) (s : ByteArray) (w : World) :
    Calls Tryz.prog 142 #[.slice a n c, .string s] w fun e w' => e = .returned (.func (.func 186) #[] #[.pointer (some ⟨w.heap.size, 0, none⟩), .pointer (some ⟨w.heap.size + 1, 0, none⟩)]) ∧
      w' = (w.alloc (.cells #[.slice a n c] 41)).alloc (.cells #[.string s] 9) := by
  go_enter Tryz.func142, Tryz.ntmps142
  go_wp2
  go_ret
  exact ⟨rfl, rfl⟩

theorem under_o (a : Option Addr) (n c : Nat) (s : ByteArray) (w : World) :
    Calls Tryz.prog 142 #[.slice a n c, .string s] w fun e w' => e = .returned (.func (.func 186) #[] #[.pointer (some ⟨w.heap.size, 0, none⟩), .pointer (some ⟨w.heap.size + 1, 0, none⟩)]) ∧ w'.heap.size = w.heap.size + 2 ∧ Below w.heap.size w w' ∧
      w'.cell? ⟨w.heap.size, 0, none⟩ = some (.slice a n c) ∧ w'.cell? ⟨w.heap.size + 1, 0, none⟩ = some (.string s) := by
  refine (under_mk a n c s w).mono ?_
  rintro e w' ⟨rfl, rfl⟩
  exact ⟨rfl, by simp, ((Below.refl _ _).alloc (Nat.le_refl _) _).alloc (by simp) _, by go_simp, by go_simp⟩

/-- how many of the first i are kept. -/
def cnt (p : Nat × List Rec → Bool) (l : List (Nat × List Rec)) (i : Nat) : Nat := ((l.take i).filter p).length
theorem cnt_zero (p : Nat × List Rec → Bool) (l : List (Nat × List Rec)) : cnt p l 0 = 0 := rfl
theorem cnt_end (p : Nat × List Rec → Bool) (l : List (Nat × List Rec)) : cnt p l l.length = (l.filter p).length := by unfold cnt; rw [List.take_length]
theorem cnt_no (p : Nat × List Rec → Bool) (l : List (Nat × List Rec)) (i : Nat) (x : Nat × List Rec) (h : l[i]? = some x) (hp : p x = false) : cnt p l (i + 1) = cnt p l i := by
  obtain ⟨hi, rfl⟩ := List.getElem?_eq_some_iff.1 h
  unfold cnt
  rw [List.take_succ_eq_append_getElem hi, List.filter_append, List.length_append]
  simp [hp]
theorem cnt_yes (p : Nat × List Rec → Bool) (l : List (Nat × List Rec)) (i : Nat) (x : Nat × List Rec) (h : l[i]? = some x) (hp : p x = true) : cnt p l (i + 1) = cnt p l i + 1 ∧ (l.filter p)[cnt p l i]? = some x := by
  obtain ⟨hi, rfl⟩ := List.getElem?_eq_some_iff.1 h
  unfold cnt
  refine ⟨?_, ?_⟩
  · rw [List.take_succ_eq_append_getElem hi, List.filter_append, List.length_append]
    simp [hp]
  · have e : l.filter p = (l.take i).filter p ++ (l[i] :: (l.drop (i + 1)).filter p) := by
      conv => lhs; rw [← List.take_append_drop i l, List.drop_eq_getElem_cons hi]
      rw [List.filter_append, List.filter_cons_of_pos hp]
    rw [e, List.getElem?_append_right (Nat.le_refl _)]
    simp

theorem owner_mem {rs : List Rec} {x : Nat × List Rec} (hx : x ∈ runs sameOwner rs) : ∃ r ∈ rs, r.owner = ownerOf x := by
  obtain ⟨h1, h2, h3⟩ := runs_piece hx
  have hall : ∀ y ∈ x.2, y ∈ rs := by
    intro y hy
    rw [h3] at hy
    exact List.mem_of_mem_drop (List.mem_of_mem_take hy)
  exact ⟨x.2[0], hall _ (List.getElem_mem h2), owner_head x h2⟩

set_option maxHeartbeats 1600000 in
theorem under_seq (b off cap bz bn : Nat) (n : Str) (rs : List Rec) (W0 : World)
    (hr : RecsAt W0 b off rs) (hcap : rs.length ≤ cap) (hcz : W0.cell? ⟨bz, 0, none⟩ = some (.slice (some ⟨b, off, none⟩) rs.length cap)) (hcn : W0.cell? ⟨bn, 0, none⟩ = some (.string (B n)))
    (hbz : bz < W0.heap.size) (hbn : bn < W0.heap.size) (hlen : rs.length ≤ 3001) (hn : n.length ≤ 3000) (ho : ∀ r ∈ rs, r.owner.length ≤ 3000) :
    It.Seq Tryz.prog 186 #[.pointer (some ⟨bz, 0, none⟩), .pointer (some ⟨bn, 0, none⟩)] (fun x : Nat × List Rec => #[.string (B (ownerOf x)), .slice (some ⟨b, off + x.1 * 4, none⟩) x.2.length x.2.length]) (underRuns n rs)
      (fun A B => Below W0.heap.size A B) (fun A B => (B.heap[b]? = A.heap[b]? ∧ B.heap[bn]? = A.heap[bn]?) ∧ It.Above W0.heap.size A B) (fun A B => It.Above W0.heap.size A B) W0 := by
  intro l J Jx hJ hJx hY h0
  have HY := hide hY
  have HJ := hide hJ
  have HJx := hide hJx
  clear hY hJ hJx
  have hb : b < W0.heap.size := hr.1
  refine callsIn_of_wp_marks Tryz.func186 rfl trivial ?_
  simp only [Tryz.ntmps186, List.size_toArray, List.length_cons, List.length_nil, Nat.reduceAdd, Nat.reduceSub, Array.replicate_succ, Array.replicate_zero, List.push_toArray, List.append_toArray, List.nil_append, List.cons_append]
  gi_wp2_with (refine ⟨trivial, rfl, ?_⟩; gi_at_call 82; refine (callsIn_wide.2 (owners_any _ _ _ _)).mono ?_; rintro e w' ⟨rfl, rfl⟩)
  have e1 : ((W0.alloc (.cells #[.func (.yield l) #[] #[]] 74)).alloc (.cells #[.slice (some ⟨b, off, none⟩) rs.length cap] 41)).cell? ⟨W0.heap.size, 0, none⟩ = some (.func (.yield l) #[] #[]) := by go_simp
  have e2 : ((W0.alloc (.cells #[.func (.yield l) #[] #[]] 74)).alloc (.cells #[.slice (some ⟨b, off, none⟩) rs.length cap] 41)).cell? ⟨W0.heap.size + 1, 0, none⟩ = some (.slice (some ⟨b, off, none⟩) rs.length cap) := by go_simp
  have e4 : ((W0.alloc (.cells #[.func (.yield l) #[] #[]] 74)).alloc (.cells #[.slice (some ⟨b, off, none⟩) rs.length cap] 41)).heap.size = W0.heap.size + 2 := by simp
  have e5 : Below W0.heap.size W0 ((W0.alloc (.cells #[.func (.yield l) #[] #[]] 74)).alloc (.cells #[.slice (some ⟨b, off, none⟩) rs.length cap] 41)) := ((Below.refl _ _).alloc (Nat.le_refl _) _).alloc (by simp) _
  generalize ((W0.alloc (.cells #[.func (.yield l) #[] #[]] 74)).alloc (.cells #[.slice (some ⟨b, off, none⟩) rs.length cap] 41)) = W2 at *
  have hgrow : ∀ r, Below W2.heap.size W2 ((W2.alloc (.deferred (some []))).alloc (.loop r)) := fun r => ((Below.refl _ _).alloc (Nat.le_refl _) _).alloc (by simp) _
  have hgsz : ∀ r, ((W2.alloc (.deferred (some []))).alloc (.loop r)).heap.size = W2.heap.size + 2 := fun r => by simp
  refine It.rangeW (xs := runs sameOwner rs) (encs := fun x : Nat × List Rec => #[.string (B (ownerOf x)), .slice (some ⟨b, off + x.1 * 4, none⟩) x.2.length x.2.length]) (St := fun A B => Below (W2.heap.size + 2) A B) (Kp := fun A B => B.heap[b]? = A.heap[b]? ∧ It.Above (W2.heap.size + 2) A B) (Kx := fun A B => It.Above (W2.heap.size + 2) A B)
    (gf := 139) (lb := #[.pointer (some ⟨W0.heap.size + 1, 0, none⟩)]) rfl (enters_of Tryz.func139 (by kernel_rfl) rfl) (fun _ => rfl) ?seq
    (fun i W => J (cnt (fun x => Sp.under (ownerOf x) n) (runs sameOwner rs) i) W ∧ W.heap[W0.heap.size]? = W2.heap[W0.heap.size]? ∧ W.heap[bn]? = W2.heap[bn]? ∧ W2.heap.size ≤ W.heap.size)
    (fun c W => c = .ret ∧ Jx W ∧ W2.heap.size ≤ W.heap.size)
    ?hSt ?hI ?hIx ?hIp ?hIxp ?h0 (fun A B => (B.heap[b]? = A.heap[b]? ∧ B.heap[bn]? = A.heap[bn]?) ∧ It.Above W0.heap.size A B) ?hKp (fun A B => It.Above W0.heap.size A B) ?hKx
    ?round ?done ?stop
  case seq =>
    intro r
    have hg := hgrow r
    have := owners_seq b off cap (W0.heap.size + 1) rs ((W2.alloc (.deferred (some []))).alloc (.loop r)) ((hg.cell (p := ⟨W0.heap.size + 1, 0, none⟩) (by show W0.heap.size + 1 < W2.heap.size; omega)).trans e2) ((hr.below e5).below hg) (by have := hg.size; omega) hlen hcap
    rw [hgsz r] at this
    exact this
  case hSt => exact fun A B hA hst => ⟨hst.size, hst.block _ (by omega), hst.block _ (by omega)⟩
  case hI => exact fun i A B hA hst => ⟨unhide HJ _ A B hA.1 (hst.mono (by omega)), (hst.block _ (by omega)).trans hA.2.1, (hst.block _ (by omega)).trans hA.2.2.1, Nat.le_trans hA.2.2.2 hst.size⟩
  case hIx => exact fun c A B hA hst => ⟨hA.1, unhide HJx A B hA.2.1 (hst.mono (by omega)), Nat.le_trans hA.2.2 hst.size⟩
  case hIp =>
    intro i A r o hA hrec
    have hp : Below W0.heap.size A (A.putObj (W2.heap.size + 1) o) := belowK_b (w := W2) (by omega) A _ _ o (by omega) hrec rfl rfl
    exact ⟨unhide HJ _ A _ hA.1 hp, (World.putObj_heap_other (by omega)).trans hA.2.1, (World.putObj_heap_other (by omega)).trans hA.2.2.1, by rw [World.putObj_size]; exact hA.2.2.2⟩
  case hIxp =>
    intro c A r o hA hrec
    have hp : Below W0.heap.size A (A.putObj (W2.heap.size + 1) o) := belowK_b (w := W2) (by omega) A _ _ o (by omega) hrec rfl rfl
    exact ⟨hA.1, unhide HJx A _ hA.2.1 hp, by rw [World.putObj_size]; exact hA.2.2⟩
  case h0 =>
    intro r
    have hg := hgrow r
    exact ⟨unhide HJ 0 _ _ h0 (e5.trans (hg.mono (by omega))), hg.block _ (by omega), hg.block _ (by omega), hg.size⟩
  case hKp =>
    intro W r r' r'' Wc hrec hk hL
    have hlt : W2.heap.size + 1 < W.heap.size := (Array.getElem?_eq_some_iff.1 hrec).1
    have hs := hk.2.1
    rw [World.putObj_size] at hs
    refine ⟨by rw [World.putObj_heap_other (by omega), hk.1.1, World.putObj_heap_other (by omega)], by rw [World.putObj_size]; exact hs, fun k hk1 hk2 => ?_⟩
    rw [World.putObj_heap_other (by omega), hk.2.2 _ (by omega) (by rw [World.putObj_size]; omega), World.putObj_heap_other (by omega)]
  case hKx =>
    intro W r r' r'' Wc hrec hk hL
    have hs := hk.1
    rw [World.putObj_size] at hs
    refine ⟨by rw [World.putObj_size]; exact hs, fun k hk1 hk2 => ?_⟩
    rw [World.putObj_heap_other (by omega), hk.2 _ (by omega) (by rw [World.putObj_size]; omega), World.putObj_heap_other (by omega)]
  case round =>
    intro l' i x V W hx hI hsz
    gi_wp2_with fail
    refine ⟨trivial, ?_⟩
    obtain ⟨hJi, hyb, hdb, hw2⟩ := hI
    have hmem : x ∈ runs sameOwner rs := List.mem_of_getElem? hx
    obtain ⟨r, hrm, hro⟩ := owner_mem hmem
    have hol : (B (ownerOf x)).size ≤ 1000000 := by rw [size_B, ← hro]; have := ho r hrm; omega
    have hnl : (B n).size ≤ 1000000 := by rw [size_B]; omega
    have cy : W.cell? ⟨W0.heap.size, 0, none⟩ = some (.func (.yield l) #[] #[]) := (World.cell?_of_block hyb).trans e1
    have cn : W.cell? ⟨bn, 0, none⟩ = some (.string (B n)) := (World.cell?_of_block hdb).trans ((e5.cell (p := ⟨bn, 0, none⟩) hbn).trans hcn)
    have hcon := under_any (B (ownerOf x)) (B n) W hol hnl
    rw [data_B, data_B] at hcon
    have HCU := hide hcon
    clear hcon hro hrm
    cases hu : Sp.under (ownerOf x) n
    · have hc := cnt_no (fun x => Sp.under (ownerOf x) n) _ i x hx hu
      have HC := hide hc
      have HJi := hide hJi
      clear hc hJi
      gi_wp2_with (refine ⟨trivial, rfl, ?_⟩; gi_at_call 83; refine (CallsIn.inRound l' (callsIn_wide.2 (unhide HCU))).mono ?_; rintro e w' ⟨rfl, rfl⟩)
      refine ⟨fun _ h => (by cases h), ?_⟩
      gi_wp2_with fail
      exact ⟨⟨Nat.le_refl _, rfl, rfl⟩, ⟨⟨rfl, rfl⟩, It.Above.refl _ _⟩, by rw [unhide HC]; exact unhide HJi, hyb, hdb, hw2⟩
    · obtain ⟨hc, hxs⟩ := cnt_yes (fun x => Sp.under (ownerOf x) n) _ i x hx hu
      have hyi := unhide HY _ x W hxs hJi
      have HC := hide hc
      have HN : ∀ W3, J (cnt (fun x => Sp.under (ownerOf x) n) (runs sameOwner rs) i + 1) W3 → ((W3.heap[b]? = W.heap[b]? ∧ W3.heap[bn]? = W.heap[bn]?) ∧ It.Above W0.heap.size W W3) →
          Hid (It.Loops W2.heap.size W W3 ∧ ((W3.heap[b]? = W.heap[b]? ∧ W3.heap[bn]? = W.heap[bn]?) ∧ It.Above W0.heap.size W W3) ∧ (J (cnt (fun x => Sp.under (ownerOf x) n) (runs sameOwner rs) (i + 1)) W3 ∧ W3.heap[W0.heap.size]? = W2.heap[W0.heap.size]? ∧ W3.heap[bn]? = W2.heap[bn]? ∧ W2.heap.size ≤ W3.heap.size)) := fun W3 hj hk => by
        have h2 := hk.2
        refine ⟨⟨h2.1, h2.2 _ (by omega) (by omega), h2.2 _ (by omega) (by omega)⟩, hk, ?_, (h2.2 _ (Nat.le_refl _) (by omega)).trans hyb, hk.1.2.trans hdb, Nat.le_trans hw2 h2.1⟩
        rw [unhide HC]; exact hj
      have HX : ∀ W3, Jx W3 → It.Above W0.heap.size W W3 → Hid (It.Loops W2.heap.size W W3 ∧ It.Above W0.heap.size W W3 ∧ (Jx W3 ∧ W2.heap.size ≤ W3.heap.size)) := fun W3 hj h2 =>
        ⟨⟨h2.1, h2.2 _ (by omega) (by omega), h2.2 _ (by omega) (by omega)⟩, h2, hj, Nat.le_trans hw2 h2.1⟩
      obtain ⟨fn, tmps, assign, body, hy, hR⟩ := hyi
      clear hc hJi hxs
      gi_wp2_with (refine ⟨trivial, rfl, ?_⟩; gi_at_call 83; refine (CallsIn.inRound l' (callsIn_wide.2 (unhide HCU))).mono ?_; rintro e w' ⟨rfl, rfl⟩)
      refine ⟨rfl, hR.mono ?_⟩
      rintro e W3 (⟨rfl, hJ4, hk4⟩ | ⟨rfl, hJx4, hk4⟩)
      · have HE := HN W3 hJ4 hk4
        clear hJ4 hk4 HN HX
        gi_wp2_with fail
        exact unhide HE
      · have HE := HX W3 hJx4 hk4
        clear hJx4 hk4 HN HX
        gi_wp2_with fail
        obtain ⟨r1, r2, r3, r4⟩ := unhide HE
        exact ⟨r1, r2, rfl, r3, r4⟩
  case done =>
    intro W hI hdef hsz
    gi_wp2
    refine ⟨by simp, .inl ⟨_, _, rfl, run_takeDeferred hdef, ?_⟩⟩
    have hp : Below W0.heap.size W (W.putObj W2.heap.size (.deferred none)) := belowK_b (w := W2) (by omega) W _ _ _ (Nat.le_refl _) hdef rfl rfl
    have hj := hI.1
    rw [cnt_end] at hj
    exact ⟨_, results_none rfl _ _ _, ⟨_, rfl⟩, .inl (unhide HJ _ _ _ hj hp)⟩
  case stop =>
    intro c W hI hdef hsz
    obtain ⟨rfl, hJx', hw2⟩ := hI
    gi_wp2
    refine ⟨by simp, .inl ⟨_, _, rfl, run_takeDeferred hdef, ?_⟩⟩
    have hp : Below W0.heap.size W (W.putObj W2.heap.size (.deferred none)) := belowK_b (w := W2) (by omega) W _ _ _ (Nat.le_refl _) hdef rfl rfl
    exact ⟨_, results_none rfl _ _ _, ⟨_, rfl⟩, .inr (unhide HJx _ _ hJx' hp)⟩
end Ie
end Go.Proofs.YtjkllohiodfikaaGreatDoor
