/- Contracts: records.Under and what it gives. -/
import Derived.Test.YtkkpahmoljiepaaGreatDoorJ05
import Derived.Test.YtkkpahmoljiepaaGreatDoorJ04
import Derived.RangeFuncKeeps
set_option linter.unusedSimpArgs false
set_option linter.unusedVariables false
namespace Go.Proofs.YtkkpahmoljiepaaGreatDoor
open Go.RowKit
open Pu (Str hide unhide)
attribute [local go_sem] Oper.semAt_some

/-- the runs of owners under a name. -/
def underRuns (n : Str) (rs : List Rec) : List (Nat × List Rec) := (runs sameOwner rs).filter (fun x => Sp.under (ownerOf x) n)

namespace Ie
open Ka Kd Rg Ia Iow

set_option maxHeartbeats 400000 in
theorem under_mk (a : Option Addr) (n c : Nat) (s : ByteArray) (w : World) :
    Calls Tryz.prog 182 #[.slice a n c, .string s] w fun e w' => e = .returned (.func (.func 235) #[] #[.pointer (some ⟨w.heap.size, 0, none⟩), .pointer (some ⟨w.heap.size + 1, 0, none⟩)]) ∧
      w' = (w.alloc (.cells #[.slice a n c] 41)).alloc (.cells #[.string s] 9) := by
  go_enter Tryz.func182, Tryz.ntmps182
  go_wp2
  go_ret
  exact ⟨rfl, rfl⟩

theorem under_o (a : Option Addr) (n c : Nat) (s : ByteArray) (w : World) :
    Calls Tryz.prog 182 #[.slice a n c, .string s] w fun e w' => e = .returned (.func (.func 235) #[] #[.pointer (some ⟨w.heap.size, 0, none⟩), .pointer (some ⟨w.heap.size + 1, 0, none⟩)]) ∧ w'.heap.size = w.heap.size + 2 ∧ Below w.heap.size w w' ∧
      w'.cell? ⟨w.heap.size, 0, none⟩ = some (.slice a n c) ∧ w'.cell? ⟨w.heap.size + 1, 0, none⟩ = some (.string s) := by
  refine (under_mk a n c s w).mono ?_
  rintro e w' ⟨rfl, rfl⟩
  exact ⟨rfl, by simp, ((Below.refl _ _).alloc (Nat.le_refl _) _).alloc (by simp) _, by go_simp, by go_simp⟩

/-- how many of the first i are kept. -/
def cnt (p : Nat × List Rec → Bool) (l : List (Nat × List Rec)) (i : Nat) : Nat := ((l.take i).filter p).length
theorem cnt_zero (p : Nat × List Rec → Bool) (l : List (Nat × List Rec)) : cnt p l 0 = 0 := rfl
theorem cnt_end (p : Nat × List Rec → Bool) (l : List (Nat × List Rec)) : cnt p l l.length = (l.filter p).length := by unfold cnt; rw [List.take_length]
theorem cnt_no (p : Nat × List Rec → Bool) (l : List (Nat × List Rec)) (i : Nat) (x : Nat × List Rec) (h : l[i]? = some x) (hp : p x = false) : cnt p l (i + 1) = cnt p l i := by
  obtain ⟨hi, rfl⟩ := List.getElem?_eq_some_iff.1 h
  unfold cnt
  rw [List.take_succ_eq_append_getElem hi, List.filter_append, List.length_append]
  simp [hp]
theorem cnt_yes (p : Nat × List Rec → Bool) (l : List (Nat × List Rec)) (i : Nat) (x : Nat × List Rec) (h : l[i]? = some x) (hp : p x = true) : cnt p l (i + 1) = cnt p l i + 1 ∧ (l.filter p)[cnt p l i]? = some x := by
  obtain ⟨hi, rfl⟩ := List.getElem?_eq_some_iff.1 h
  unfold cnt
  refine ⟨?_, ?_⟩
  · rw [List.take_succ_eq_append_getElem hi, List.filter_append, List.length_append]
    simp [hp]
  · have e : l.filter p = (l.take i).filter p ++ (l[i] :: (l.drop (i + 1)).filter p) := by
      conv => lhs; rw [← List.take_append_drop i l, List.drop_eq_getElem_cons hi]
      rw [List.filter_append, List.filter_cons_of_pos hp]
    rw [e, List.getElem?_append_right (Nat.le_refl _)]
    simp

theorem owner_mem {rs : List Rec} {x : Nat × List Rec} (hx : x ∈ runs sameOwner rs) : ∃ r ∈ rs, r.owner = ownerOf x := by
  obtain ⟨h1, h2, h3⟩ := runs_piece hx
  have hall : ∀ y ∈ x.2, y ∈ rs := by
    intro y hy
    rw [h3] at hy
    exact List.mem_of_mem_drop (List.mem_of_mem_take hy)
  exact ⟨x.2[0], hall _ (List.getElem_mem h2), owner_head x h2⟩

set_option maxHeartbeats 1600000 in
theorem under_seq (b off cap bz bn : Nat) (n : Str) (rs : List Rec) (W0 : World)
    (hr : RecsAt W0 b off rs) (hcap : rs.length ≤ cap) (hcz : W0.cell? ⟨bz, 0, none⟩ = some (.slice (some ⟨b, off, none⟩) rs.length cap)) (hcn : W0.cell? ⟨bn, 0, none⟩ = some (.string (B n)))
    (hbz : bz < W0.heap.size) (hbn : bn < W0.heap.size) (hlen : rs.length ≤ 3001) (hn : n.length ≤ 3000) (ho : ∀ r ∈ rs, r.owner.length ≤ 3000) :
    It.Seq Tryz.prog 235 #[.pointer (some ⟨bz, 0, none⟩), .pointer (some ⟨bn, 0, none⟩)] (fun x : Nat × List Rec => #[.string (B (ownerOf x)), .slice (some ⟨b, off + x.1 * 4, none⟩) x.2.length x.2.length]) (underRuns n rs)
      (fun A B => Below W0.heap.size A B) (fun A B => (B.heap[b]? = A.heap[b]? ∧ B.heap[bn]? = A.heap[bn]?) ∧ It.Above W0.heap.size A B) (fun A B => It.Above W0.heap.size A B) W0 := by
  intro l J Jx hJ hJx hY h0
  have HY := hide hY
  have HJ := hide hJ
  have HJx := hide hJx
  clear hY hJ hJx
  have hb : b < W0.heap.size := hr.1
  refine callsIn_of_wp_marks Tryz.func235 rfl trivial ?_
  simp only [Tryz.ntmps235, List.size_toArray, List.length_cons, List.length_nil, Nat.reduceAdd, Nat.reduceSub, Array.replicate_succ, Array.replicate_zero, List.push_toArray, List.append_toArray, List.nil_append, List.cons_append]
  gi_wp2_with (refine ⟨trivial, rfl, ?_⟩; gi_at_call 109; refine (callsIn_wide.2 (owners_any _ _ _ _)).mono ?_; rintro e w' ⟨rfl, rfl⟩)
  have e1 : ((W0.alloc (.cells #[.func (.yield l) #[] #[]] 108)).alloc (.cells #[.slice (some ⟨b, off, none⟩) rs.length cap] 41)).cell? ⟨W0.heap.size, 0, none⟩ = some (.func (.yield l) #[] #[]) := by go_simp
  have e2 : ((W0.alloc (.cells #[.func (.yield l) #[] #[]] 108)).alloc (.cells #[.slice (some ⟨b, off, none⟩) rs.length cap] 41)).cell? ⟨W0.heap.size + 1, 0, none⟩ = some (.slice (some ⟨b, off, none⟩) rs.length cap) := by go_simp
  have e4 : ((W0.alloc (.cells #[.func (.yield l) #[] #[]] 108)).alloc (.cells #[.slice (some ⟨b, off, none⟩) rs.length cap] 41)).heap.size = W0.heap.size + 2 := by simp
  have e5 : Below W0.heap.size W0 ((W0.alloc (.cells #[.func (.yield l) #[] #[]] 108)).alloc (.cells #[.slice (some ⟨b, off, none⟩) rs.length cap] 41)) := ((Below.refl _ _).alloc (Nat.le_refl _) _).alloc (by simp) _
  generalize ((W0.alloc (.cells #[.func (.yield l) #[] #[]] 108)).alloc (.cells #[.slice (some ⟨b, off, none⟩) rs.length cap] 41)) = W2 at *
  have hgrow : ∀ r, Below W2.heap.size W2 ((W2.alloc (.deferred (some []))).alloc (.loop r)) := fun r => ((Below.refl _ _).alloc (Nat.le_refl _) _).alloc (by simp) _
  have hgsz : ∀ r, ((W2.alloc (.deferred (some []))).alloc (.loop r)).heap.size = W2.heap.size + 2 := fun r => by simp
  refine It.rangeW (xs := runs sameOwner rs) (encs := fun x : Nat × List Rec => #[.string (B (ownerOf x)), .slice (some ⟨b, off + x.1 * 4, none⟩) x.2.length x.2.length]) (St := fun A B => Below (W2.heap.size + 2) A B) (Kp := fun A B => B.heap[b]? = A.heap[b]? ∧ It.Above (W2.heap.size + 2) A B) (Kx := fun A B => It.Above (W2.heap.size + 2) A B)
    (gf := 179) (lb := #[.pointer (some ⟨W0.heap.size + 1, 0, none⟩)]) rfl (enters_of Tryz.func179 (by kernel_rfl) rfl) (fun _ => rfl) ?seq
    (fun i W => J (cnt (fun x => Sp.under (ownerOf x) n) (runs sameOwner rs) i) W ∧ W.heap[W0.heap.size]? = W2.heap[W0.heap.size]? ∧ W.heap[bn]? = W2.heap[bn]? ∧ W2.heap.size ≤ W.heap.size)
    (fun c W => c = .ret ∧ Jx W ∧ W2.heap.size ≤ W.heap.size)
    ?hSt ?hI ?hIx ?hIp ?hIxp ?h0 (fun A B => (B.heap[b]? = A.heap[b]? ∧ B.heap[bn]? = A.heap[bn]?) ∧ It.Above W0.heap.size A B) ?hKp (fun A B => It.Above W0.heap.size A B) ?hKx
    ?round ?done ?stop
  case seq =>
    intro r
    have hg := hgrow r
    have := owners_seq b off cap (W0.heap.size + 1) rs ((W2.alloc (.deferred (some []))).alloc (.loop r)) ((hg.cell (p := ⟨W0.heap.size + 1, 0, none⟩) (by show W0.heap.size + 1 < W2.heap.size; omega)).trans e2) ((hr.below e5).below hg) (by have := hg.size; omega) hlen hcap
    rw [hgsz r] at this
    exact this
  case hSt => exact fun A B hA hst => ⟨hst.size, hst.block _ (by omega), hst.block _ (by omega)⟩
  case hI => exact fun i A B hA hst => ⟨unhide HJ _ A B hA.1 (hst.mono (by omega)), (hst.block _ (by omega)).trans hA.2.1, (hst.block _ (by omega)).trans hA.2.2.1, Nat.le_trans hA.2.2.2 hst.size⟩
  case hIx => exact fun c A B hA hst => ⟨hA.1, unhide HJx A B hA.2.1 (hst.mono (by omega)), Nat.le_trans hA.2.2 hst.size⟩
  case hIp =>
    intro i A r o hA hrec
    have hp : Below W0.heap.size A (A.putObj (W2.heap.size + 1) o) := belowK_b (w := W2) (by omega) A _ _ o (by omega) hrec rfl rfl
    exact ⟨unhide HJ _ A _ hA.1 hp, (World.putObj_heap_other (by omega)).trans hA.2.1, (World.putObj_heap_other (by omega)).trans hA.2.2.1, by rw [World.putObj_size]; exact hA.2.2.2⟩
  case hIxp =>
    intro c A r o hA hrec
    have hp : Below W0.heap.size A (A.putObj (W2.heap.size + 1) o) := belowK_b (w := W2) (by omega) A _ _ o (by omega) hrec rfl rfl
    exact ⟨hA.1, unhide HJx A _ hA.2.1 hp, by rw [World.putObj_size]; exact hA.2.2⟩
  case h0 =>
    intro r
    have hg := hgrow r
    exact ⟨unhide HJ 0 _ _ h0 (e5.trans (hg.mono (by omega))), hg.block _ (by omega), hg.block _ (by omega), hg.size⟩
  case hKp =>
    intro W r r' r'' Wc hrec hk hL
    have hlt : W2.heap.size + 1 < W.heap.size := (Array.getElem?_eq_some_iff.1 hrec).1
    have hs := hk.2.1
    rw [World.putObj_size] at hs
    refine ⟨by rw [World.putObj_heap_other (by omega), hk.1.1, World.putObj_heap_other (by omega)], by rw [World.putObj_size]; exact hs, fun k hk1 hk2 => ?_⟩
    rw [World.putObj_heap_other (by omega), hk.2.2 _ (by omega) (by rw [World.putObj_size]; omega), World.putObj_heap_other (by omega)]
  case hKx =>
    intro W r r' r'' Wc hrec hk hL
    have hs := hk.1
    rw [World.putObj_size] at hs
    refine ⟨by rw [World.putObj_size]; exact hs, fun k hk1 hk2 => ?_⟩
    rw [World.putObj_heap_other (by omega), hk.2 _ (by omega) (by rw [World.putObj_size]; omega), World.putObj_heap_other (by omega)]
  case round =>
    intro l' i x V W hx hI hsz
    gi_wp2_with fail
    refine ⟨trivial, ?_⟩
    obtain ⟨hJi, hyb, hdb, hw2⟩ := hI
    have hmem : x ∈ runs sameOwner rs := List.mem_of_getElem? hx
    obtain ⟨r, hrm, hro⟩ := owner_mem hmem
    have hol : (B (ownerOf x)).size ≤ 1000000 := by rw [size_B, ← hro]; have := ho r hrm; omega
    have hnl : (B n).size ≤ 1000000 := by rw [size_B]; omega
    have cy : W.cell? ⟨W0.heap.size, 0, none⟩ = some (.func (.yield l) #[] #[]) := (World.cell?_of_block hyb).trans e1
    have cn : W.cell? ⟨bn, 0, none⟩ = some (.string (B n)) := (World.cell?_of_block hdb).trans ((e5.cell (p := ⟨bn, 0, none⟩) hbn).trans hcn)
    have hcon := under_any (B (ownerOf x)) (B n) W hol hnl
    rw [data_B, data_B] at hcon
    have HCU := hide hcon
    clear hcon hro hrm
    cases hu : Sp.under (ownerOf x) n
    · have hc := cnt_no (fun x => Sp.under (ownerOf x) n) _ i x hx hu
      have HC := hide hc
      have HJi := hide hJi
      clear hc hJi
      gi_wp2_with (refine ⟨trivial, rfl, ?_⟩; gi_at_call 110; refine (CallsIn.inRound l' (callsIn_wide.2 (unhide HCU))).mono ?_; rintro e w' ⟨rfl, rfl⟩)
      refine ⟨fun _ h => (by cases h), ?_⟩
      gi_wp2_with fail
      exact ⟨⟨Nat.le_refl _, rfl, rfl⟩, ⟨⟨rfl, rfl⟩, It.Above.refl _ _⟩, by rw [unhide HC]; exact unhide HJi, hyb, hdb, hw2⟩
    · obtain ⟨hc, hxs⟩ := cnt_yes (fun x => Sp.under (ownerOf x) n) _ i x hx hu
      have hyi := unhide HY _ x W hxs hJi
      have HC := hide hc
      have HN : ∀ W3, J (cnt (fun x => Sp.under (ownerOf x) n) (runs sameOwner rs) i + 1) W3 → ((W3.heap[b]? = W.heap[b]? ∧ W3.heap[bn]? = W.heap[bn]?) ∧ It.Above W0.heap.size W W3) →
          Hid (It.Loops W2.heap.size W W3 ∧ ((W3.heap[b]? = W.heap[b]? ∧ W3.heap[bn]? = W.heap[bn]?) ∧ It.Above W0.heap.size W W3) ∧ (J (cnt (fun x => Sp.under (ownerOf x) n) (runs sameOwner rs) (i + 1)) W3 ∧ W3.heap[W0.heap.size]? = W2.heap[W0.heap.size]? ∧ W3.heap[bn]? = W2.heap[bn]? ∧ W2.heap.size ≤ W3.heap.size)) := fun W3 hj hk => by
        have h2 := hk.2
        refine ⟨⟨h2.1, h2.2 _ (by omega) (by omega), h2.2 _ (by omega) (by omega)⟩, hk, ?_, (h2.2 _ (Nat.le_refl _) (by omega)).trans hyb, hk.1.2.trans hdb, Nat.le_trans hw2 h2.1⟩
        rw [unhide HC]; exact hj
      have HX : ∀ W3, Jx W3 → It.Above W0.heap.size W W3 → Hid (It.Loops W2.heap.size W W3 ∧ It.Above W0.heap.size W W3 ∧ (Jx W3 ∧ W2.heap.size ≤ W3.heap.size)) := fun W3 hj h2 =>
        ⟨⟨h2.1, h2.2 _ (by omega) (by omega), h2.2 _ (by omega) (by omega)⟩, h2, hj, Nat.le_trans hw2 h2.1⟩
      obtain ⟨fn, tmps, assign, body, hy, hR⟩ := hyi
      clear hc hJi hxs
      gi_wp2_with (refine ⟨trivial, rfl, ?_⟩; gi_at_call 110; refine (CallsIn.inRound l' (callsIn_wide.2 (unhide HCU))).mono ?_; rintro e w' ⟨rfl, rfl⟩)
      refine ⟨rfl, hR.mono ?_⟩
      rintro e W3 (⟨rfl, hJ4, hk4⟩ | ⟨rfl, hJx4, hk4⟩)
      · have HE := HN W3 hJ4 hk4
        clear hJ4 hk4 HN HX
        gi_wp2_with fail
        exact unhide HE
      · have HE := HX W3 hJx4 hk4
        clear hJx4 hk4 HN HX
        gi_wp2_with fail
        obtain ⟨r1, r2, r3, r4⟩ := unhide HE
        exact ⟨r1, r2, rfl, r3, r4⟩
  case done =>
    intro W hI hdef hsz
    gi_wp2
    refine ⟨by simp, .inl ⟨_, _, rfl, run_takeDeferred hdef, ?_⟩⟩
    have hp : Below W0.heap.size W (W.putObj W2.heap.size (.deferred none)) := belowK_b (w := W2) (by omega) W _ _ _ (Nat.le_refl _) hdef rfl rfl
    have hj := hI.1
    rw [cnt_end] at hj
    exact ⟨_, results_none rfl _ _ _, ⟨_, rfl⟩, .inl (unhide HJ _ _ _ hj hp)⟩
  case stop =>
    intro c W hI hdef hsz
    obtain ⟨rfl, hJx', hw2⟩ := hI
    gi_wp2
    refine ⟨by simp, .inl ⟨_, _, rfl, run_takeDeferred hdef, ?_⟩⟩
    have hp : Below W0.heap.size W (W.putObj W2.heap.size (.deferred none)) := belowK_b (w := W2) (by omega) W _ _ _ (Nat.le_refl _) hdef rfl rfl
    exact ⟨_, results_none rfl _ _ _, ⟨_, rfl⟩, .inr (unhide HJx _ _ hJx' hp)⟩
end Ie
end Go.Proofs.YtkkpahmoljiepaaGreatDoor

/- The law of a range over a function, for a loop whose state lies in blocks that lay ahead of it. Nothing of the translation is named here. -/
namespace Go.Proofs.YtkkpahmoljiepaaGreatDoor
open Go.RowKit

namespace It
variable {P : Program} {α : Type}

/-- How a round's body may be left: what lay from d on lies as it lay; where it goes on, the listed blocks too. -/
def postA (d : Nat) (ks : List Nat) (I : World → Prop) (Ix : Code → World → Prop) (W : World) : Exit → Act → World → Prop
  | .normal, _, W' => Above d W W' ∧ (∀ k ∈ ks, W'.heap[k]? = W.heap[k]?) ∧ I W'
  | .ret, _, W' => Above d W W' ∧ Ix .ret W'
  | .exit id, _, W' => Above d W W' ∧ Ix (.exit id) W'
  | .goto t, _, W' => Above d W W' ∧ Ix (.goto t) W'
  | .panic _, _, _ => False
  | .outgrown, _, _ => False

/-- All blocks but one lie as they lay. -/
structure Keeps (d : Nat) (A B : World) : Prop where
  os : B.os = A.os
  tape : B.tape = A.tape
  output : B.output = A.output
  size : A.heap.size ≤ B.heap.size
  block : ∀ k, k < A.heap.size → k ≠ d → B.heap[k]? = A.heap[k]?
theorem Keeps.of_below {d : Nat} {A B : World} (h : Below A.heap.size A B) : Keeps d A B := ⟨h.os, h.tape, h.output, h.size, fun k hk _ => h.block k hk⟩
theorem Keeps.put {d : Nat} (A : World) (k : Nat) (o : Obj) (h : k = d := by rfl) : Keeps d A (A.putObj k o) := ⟨rfl, rfl, rfl, by rw [World.putObj_size]; exact Nat.le_refl _, fun j _ hj => World.putObj_heap_other (by omega)⟩
theorem Keeps.below {d n : Nat} {A B : World} (h : Keeps d A B) (hn : n ≤ d) (hs : n ≤ A.heap.size) : Below n A B := ⟨h.os, h.tape, h.output, h.size, fun k hk => h.block k (by omega) (by omega)⟩

theorem rangeB {g : Operand} {ps : Array Tmp} {assign body : Code} {Q : Exit → Act → World → Prop} {a : Act} {w : World}
    {gf : Nat} {lb : Array Value} (hg : a.eval g = .func (.func gf) #[] lb) (eg : ∀ args w, (callFunc gf args).run P w = .ok (.enter gf args) w)
    {encs : α → Array Value} {xs : List α} {St Kp Kx : World → World → Prop} (hps : ∀ x, (encs x).size = ps.size)
    (hseq : ∀ r, Seq P gf lb encs xs St Kp Kx ((w.alloc (.deferred (some []))).alloc (.loop r)))
    (ks : List Nat) (hks : ∀ k ∈ ks, k < w.heap.size)
    (hSt : ∀ A B, w.heap.size + 2 ≤ A.heap.size → St A B → Below (w.heap.size + 2) A B)
    (hKp : ∀ A B, (∀ k ∈ ks, B.heap[k]? = A.heap[k]?) → Above (w.heap.size + 2) A B → Kp A B)
    (hKx : ∀ A B, Above (w.heap.size + 2) A B → Kx A B)
    (I : Nat → World → Prop) (Ix : Code → World → Prop)
    (hI : ∀ i A B, I i A → Below w.heap.size A B → I i B) (hIx : ∀ c A B, Ix c A → Below w.heap.size A B → Ix c B)
    (h0 : I 0 w)
    (hround : ∀ (l i : Nat) (x : α) (V W : World), xs[i]? = some x → I i W → w.heap.size + 2 ≤ W.heap.size →
      assign.wpIn (Fence.wide.inRound l) 0 P (Exit.then (fun a₁ V' => V' = V ∧ body.wpIn (Fence.wide.inRound l) 0 P (postA w.heap.size ks (I (i + 1)) Ix W) a₁ W) (fun _ _ _ => False)) { tmps := (ps.zip (encs x)).foldl (fun t (p, v) => t.setIfInBounds p v) a.tmps, defers := [] } V)
    (hdone : ∀ W, I xs.length W → W.heap[w.heap.size]? = some (.deferred (some [])) → w.heap.size + 2 ≤ W.heap.size → Q .normal { a with defers := { target := .collected w.heap.size, args := #[] } :: a.defers } W)
    (hstop : ∀ c W, Ix c W → W.heap[w.heap.size]? = some (.deferred (some [])) → w.heap.size + 2 ≤ W.heap.size → c.wpIn Fence.wide 0 P Q { a with defers := { target := .collected w.heap.size, args := #[] } :: a.defers } W) :
    (Code.rangeFunc g ps assign body).wpIn Fence.wide 0 P Q a w := by
  have hput : ∀ (A : World) (r : Loop) (o : Obj), A.heap[w.heap.size + 1]? = some (.loop r) → Below w.heap.size A (A.putObj (w.heap.size + 1) o) := fun A r o hrec =>
    belowK_b (w := w) (Nat.le_refl _) A _ _ o (by omega) hrec rfl rfl
  have hab : ∀ (W : World) (r r' r'' : Loop) (Wc : World), W.heap[w.heap.size + 1]? = some (.loop r) → Above w.heap.size (W.putObj (w.heap.size + 1) (.loop r')) Wc → Above (w.heap.size + 2) W (Wc.putObj (w.heap.size + 1) (.loop r'')) := by
    intro W r r' r'' Wc hrec hk
    have hs := hk.1
    rw [World.putObj_size] at hs
    refine ⟨by rw [World.putObj_size]; exact hs, fun k hk1 hk2 => ?_⟩
    rw [World.putObj_heap_other (by omega), hk.2 _ (by omega) (by rw [World.putObj_size]; omega), World.putObj_heap_other (by omega)]
  refine rangeW (Kb := fun A B => Above w.heap.size A B ∧ ∀ k ∈ ks, B.heap[k]? = A.heap[k]?) (Kbx := fun A B => Above w.heap.size A B) hg eg hps hseq
    (fun i W => I i W ∧ w.heap.size + 2 ≤ W.heap.size) (fun c W => Ix c W ∧ w.heap.size + 2 ≤ W.heap.size) ?_ ?_ ?_ ?_ ?_ ?_ ?_ ?_ ?_ (fun W h => hdone W h.1) (fun c W h => hstop c W h.1)
  · intro A B hA hst
    have := hSt A B hA hst
    exact ⟨this.size, this.block _ (by omega), this.block _ (by omega)⟩
  · intro i A B hA hst
    have := hSt A B hA.2 hst
    exact ⟨hI i A B hA.1 (this.mono (by omega)), Nat.le_trans hA.2 this.size⟩
  · intro c A B hA hst
    have := hSt A B hA.2 hst
    exact ⟨hIx c A B hA.1 (this.mono (by omega)), Nat.le_trans hA.2 this.size⟩
  · exact fun i A r o h hrec => ⟨hI i A _ h.1 (hput A r o hrec), by rw [World.putObj_size]; exact h.2⟩
  · exact fun c A r o h hrec => ⟨hIx c A _ h.1 (hput A r o hrec), by rw [World.putObj_size]; exact h.2⟩
  · exact fun r => ⟨hI 0 w _ h0 (((Below.refl _ _).alloc (Nat.le_refl _) _).alloc (by simp) _), by simp⟩
  · intro W r r' r'' Wc hrec hk hL
    refine hKp _ _ (fun k hk' => ?_) (hab W r r' r'' Wc hrec hk.1)
    have := hks k hk'
    rw [World.putObj_heap_other (by omega), hk.2 k hk', World.putObj_heap_other (by omega)]
  · intro W r r' r'' Wc hrec hk hL
    exact hKx _ _ (hab W r r' r'' Wc hrec hk)
  · intro l i x V W hx hi hsz
    refine wpIn_mono (hround l i x V W hx hi.1 hsz) ?_
    rintro e0 a0 V0 hp0
    have hn0 : e0 = .normal := by cases e0 <;> first | rfl | exact hp0.elim
    subst hn0
    obtain ⟨hV0, hbd⟩ := hp0
    refine ⟨hV0, wpIn_mono hbd ?_⟩
    rintro e a3 W3 hp
    cases e with
    | normal => exact ⟨⟨hp.1.1, hp.1.2 _ (Nat.le_refl _) (by omega), hp.1.2 _ (by omega) (by omega)⟩, ⟨hp.1, hp.2.1⟩, hp.2.2, Nat.le_trans hsz hp.1.1⟩
    | ret => exact ⟨⟨hp.1.1, hp.1.2 _ (Nat.le_refl _) (by omega), hp.1.2 _ (by omega) (by omega)⟩, hp.1, hp.2, Nat.le_trans hsz hp.1.1⟩
    | exit id => exact ⟨⟨hp.1.1, hp.1.2 _ (Nat.le_refl _) (by omega), hp.1.2 _ (by omega) (by omega)⟩, hp.1, hp.2, Nat.le_trans hsz hp.1.1⟩
    | goto t => exact ⟨⟨hp.1.1, hp.1.2 _ (Nat.le_refl _) (by omega), hp.1.2 _ (by omega) (by omega)⟩, hp.1, hp.2, Nat.le_trans hsz hp.1.1⟩
    | panic ch => exact hp.elim
    | outgrown => exact hp.elim

theorem rangeC {g : Operand} {ps : Array Tmp} {assign body : Code} {Q : Exit → Act → World → Prop} {a : Act} {w : World}
    {gf : Nat} {lb : Array Value} (hg : a.eval g = .func (.func gf) #[] lb) (eg : ∀ args w, (callFunc gf args).run P w = .ok (.enter gf args) w)
    {encs : α → Array Value} {xs : List α} {St Kp Kx : World → World → Prop} (hps : ∀ x, (encs x).size = ps.size)
    (hseq : ∀ r, Seq P gf lb encs xs St Kp Kx ((w.alloc (.deferred (some []))).alloc (.loop r)))
    (ks : List Nat) (hks : ∀ k ∈ ks, k < w.heap.size)
    (hSt : ∀ A B, St A B → Below A.heap.size A B)
    (hKp : ∀ A B, (∀ k ∈ ks, B.heap[k]? = A.heap[k]?) → Above (w.heap.size + 2) A B → Kp A B)
    (hKx : ∀ A B, Above (w.heap.size + 2) A B → Kx A B)
    (I : Nat → World → Prop) (Ix : Code → World → Prop)
    (hI : ∀ i A B, I i A → w.heap.size ≤ A.heap.size → Keeps (w.heap.size + 1) A B → I i B) (hIx : ∀ c A B, Ix c A → w.heap.size + 2 ≤ A.heap.size → Keeps (w.heap.size + 1) A B → Ix c B)
    (h0 : I 0 w)
    (hround : ∀ (l i : Nat) (x : α) (V W : World), xs[i]? = some x → I i W → w.heap.size + 2 ≤ W.heap.size →
      assign.wpIn (Fence.wide.inRound l) 0 P (Exit.then (fun a₁ V' => V' = V ∧ body.wpIn (Fence.wide.inRound l) 0 P (postA w.heap.size ks (I (i + 1)) Ix W) a₁ W) (fun _ _ _ => False)) { tmps := (ps.zip (encs x)).foldl (fun t (p, v) => t.setIfInBounds p v) a.tmps, defers := [] } V)
    (hdone : ∀ W, I xs.length W → W.heap[w.heap.size]? = some (.deferred (some [])) → w.heap.size + 2 ≤ W.heap.size → Q .normal { a with defers := { target := .collected w.heap.size, args := #[] } :: a.defers } W)
    (hstop : ∀ c W, Ix c W → W.heap[w.heap.size]? = some (.deferred (some [])) → w.heap.size + 2 ≤ W.heap.size → c.wpIn Fence.wide 0 P Q { a with defers := { target := .collected w.heap.size, args := #[] } :: a.defers } W) :
    (Code.rangeFunc g ps assign body).wpIn Fence.wide 0 P Q a w := by
  have hput : ∀ (A : World) (r : Loop) (o : Obj), A.heap[w.heap.size + 1]? = some (.loop r) → Keeps (w.heap.size + 1) A (A.putObj (w.heap.size + 1) o) := fun A r o hrec => Keeps.put A _ o
  have hab : ∀ (W : World) (r r' r'' : Loop) (Wc : World), W.heap[w.heap.size + 1]? = some (.loop r) → Above w.heap.size (W.putObj (w.heap.size + 1) (.loop r')) Wc → Above (w.heap.size + 2) W (Wc.putObj (w.heap.size + 1) (.loop r'')) := by
    intro W r r' r'' Wc hrec hk
    have hs := hk.1
    rw [World.putObj_size] at hs
    refine ⟨by rw [World.putObj_size]; exact hs, fun k hk1 hk2 => ?_⟩
    rw [World.putObj_heap_other (by omega), hk.2 _ (by omega) (by rw [World.putObj_size]; omega), World.putObj_heap_other (by omega)]
  refine rangeW (Kb := fun A B => Above w.heap.size A B ∧ ∀ k ∈ ks, B.heap[k]? = A.heap[k]?) (Kbx := fun A B => Above w.heap.size A B) hg eg hps hseq
    (fun i W => I i W ∧ w.heap.size + 2 ≤ W.heap.size) (fun c W => Ix c W ∧ w.heap.size + 2 ≤ W.heap.size) ?_ ?_ ?_ ?_ ?_ ?_ ?_ ?_ ?_ (fun W h => hdone W h.1) (fun c W h => hstop c W h.1)
  · intro A B hA hst
    have := hSt A B hst
    exact ⟨this.size, this.block _ (by omega), this.block _ (by omega)⟩
  · intro i A B hA hst
    have := hSt A B hst
    exact ⟨hI i A B hA.1 (by omega) (Keeps.of_below this), Nat.le_trans hA.2 this.size⟩
  · intro c A B hA hst
    have := hSt A B hst
    exact ⟨hIx c A B hA.1 hA.2 (Keeps.of_below this), Nat.le_trans hA.2 this.size⟩
  · exact fun i A r o h hrec => ⟨hI i A _ h.1 (by omega) (hput A r o hrec), by rw [World.putObj_size]; exact h.2⟩
  · exact fun c A r o h hrec => ⟨hIx c A _ h.1 h.2 (hput A r o hrec), by rw [World.putObj_size]; exact h.2⟩
  · exact fun r => ⟨hI 0 w _ h0 (Nat.le_refl _) (Keeps.of_below (((Below.refl _ _).alloc (Nat.le_refl _) _).alloc (by simp) _)), by simp⟩
  · intro W r r' r'' Wc hrec hk hL
    refine hKp _ _ (fun k hk' => ?_) (hab W r r' r'' Wc hrec hk.1)
    have := hks k hk'
    rw [World.putObj_heap_other (by omega), hk.2 k hk', World.putObj_heap_other (by omega)]
  · intro W r r' r'' Wc hrec hk hL
    exact hKx _ _ (hab W r r' r'' Wc hrec hk)
  · intro l i x V W hx hi hsz
    refine wpIn_mono (hround l i x V W hx hi.1 hsz) ?_
    rintro e0 a0 V0 hp0
    have hn0 : e0 = .normal := by cases e0 <;> first | rfl | exact hp0.elim
    subst hn0
    obtain ⟨hV0, hbd⟩ := hp0
    refine ⟨hV0, wpIn_mono hbd ?_⟩
    rintro e a3 W3 hp
    cases e with
    | normal => exact ⟨⟨hp.1.1, hp.1.2 _ (Nat.le_refl _) (by omega), hp.1.2 _ (by omega) (by omega)⟩, ⟨hp.1, hp.2.1⟩, hp.2.2, Nat.le_trans hsz hp.1.1⟩
    | ret => exact ⟨⟨hp.1.1, hp.1.2 _ (Nat.le_refl _) (by omega), hp.1.2 _ (by omega) (by omega)⟩, hp.1, hp.2, Nat.le_trans hsz hp.1.1⟩
    | exit id => exact ⟨⟨hp.1.1, hp.1.2 _ (Nat.le_refl _) (by omega), hp.1.2 _ (by omega) (by omega)⟩, hp.1, hp.2, Nat.le_trans hsz hp.1.1⟩
    | goto t => exact ⟨⟨hp.1.1, hp.1.2 _ (Nat.le_refl _) (by omega), hp.1.2 _ (by omega) (by omega)⟩, hp.1, hp.2, Nat.le_trans hsz hp.1.1⟩
    | panic ch => exact hp.elim
    | outgrown => exact hp.elim

/-- How a round's body may be left: the loop's two objects lie as they lay; where it goes on, the listed blocks too. -/
def postD (d : Nat) (ks : List Nat) (I : World → Prop) (Ix : Code → World → Prop) (W : World) : Exit → Act → World → Prop
  | .normal, _, W' => Loops d W W' ∧ (∀ k ∈ ks, W'.heap[k]? = W.heap[k]?) ∧ I W'
  | .ret, _, W' => Loops d W W' ∧ Ix .ret W'
  | .exit id, _, W' => Loops d W W' ∧ Ix (.exit id) W'
  | .goto t, _, W' => Loops d W W' ∧ Ix (.goto t) W'
  | .panic _, _, _ => False
  | .outgrown, _, _ => False

theorem rangeD {g : Operand} {ps : Array Tmp} {assign body : Code} {Q : Exit → Act → World → Prop} {a : Act} {w : World}
    {gf : Nat} {lb : Array Value} (hg : a.eval g = .func (.func gf) #[] lb) (eg : ∀ args w, (callFunc gf args).run P w = .ok (.enter gf args) w)
    {encs : α → Array Value} {xs : List α} {St Kp Kx : World → World → Prop} (hps : ∀ x, (encs x).size = ps.size)
    (hseq : ∀ r, Seq P gf lb encs xs St Kp Kx ((w.alloc (.deferred (some []))).alloc (.loop r)))
    (ks : List Nat) (hks : ∀ k ∈ ks, k < w.heap.size)
    (hSt : ∀ A B, St A B → Below A.heap.size A B)
    (hKp : ∀ A B, (∀ k ∈ ks, B.heap[k]? = A.heap[k]?) → A.heap.size ≤ B.heap.size → Kp A B)
    (hKx : ∀ A B, Kx A B)
    (I : Nat → World → Prop) (Ix : Code → World → Prop)
    (hI : ∀ i A B, I i A → w.heap.size ≤ A.heap.size → Keeps (w.heap.size + 1) A B → I i B) (hIx : ∀ c A B, Ix c A → w.heap.size + 2 ≤ A.heap.size → Keeps (w.heap.size + 1) A B → Ix c B)
    (h0 : I 0 w)
    (hround : ∀ (l i : Nat) (x : α) (V W : World), xs[i]? = some x → I i W → w.heap.size + 2 ≤ W.heap.size →
      assign.wpIn (Fence.wide.inRound l) 0 P (Exit.then (fun a₁ V' => V' = V ∧ body.wpIn (Fence.wide.inRound l) 0 P (postD w.heap.size ks (I (i + 1)) Ix W) a₁ W) (fun _ _ _ => False)) { tmps := (ps.zip (encs x)).foldl (fun t (p, v) => t.setIfInBounds p v) a.tmps, defers := [] } V)
    (hdone : ∀ W, I xs.length W → W.heap[w.heap.size]? = some (.deferred (some [])) → w.heap.size + 2 ≤ W.heap.size → Q .normal { a with defers := { target := .collected w.heap.size, args := #[] } :: a.defers } W)
    (hstop : ∀ c W, Ix c W → W.heap[w.heap.size]? = some (.deferred (some [])) → w.heap.size + 2 ≤ W.heap.size → c.wpIn Fence.wide 0 P Q { a with defers := { target := .collected w.heap.size, args := #[] } :: a.defers } W) :
    (Code.rangeFunc g ps assign body).wpIn Fence.wide 0 P Q a w := by
  have hput : ∀ (A : World) (r : Loop) (o : Obj), A.heap[w.heap.size + 1]? = some (.loop r) → Keeps (w.heap.size + 1) A (A.putObj (w.heap.size + 1) o) := fun A r o hrec => Keeps.put A _ o
  refine rangeW (Kb := fun A B => ∀ k ∈ ks, B.heap[k]? = A.heap[k]?) (Kbx := fun _ _ => True) hg eg hps hseq
    (fun i W => I i W ∧ w.heap.size + 2 ≤ W.heap.size) (fun c W => Ix c W ∧ w.heap.size + 2 ≤ W.heap.size) ?_ ?_ ?_ ?_ ?_ ?_ ?_ ?_ ?_ (fun W h => hdone W h.1) (fun c W h => hstop c W h.1)
  · intro A B hA hst
    have := hSt A B hst
    exact ⟨this.size, this.block _ (by omega), this.block _ (by omega)⟩
  · intro i A B hA hst
    have := hSt A B hst
    exact ⟨hI i A B hA.1 (by omega) (Keeps.of_below this), Nat.le_trans hA.2 this.size⟩
  · intro c A B hA hst
    have := hSt A B hst
    exact ⟨hIx c A B hA.1 hA.2 (Keeps.of_below this), Nat.le_trans hA.2 this.size⟩
  · exact fun i A r o h hrec => ⟨hI i A _ h.1 (by omega) (hput A r o hrec), by rw [World.putObj_size]; exact h.2⟩
  · exact fun c A r o h hrec => ⟨hIx c A _ h.1 h.2 (hput A r o hrec), by rw [World.putObj_size]; exact h.2⟩
  · exact fun r => ⟨hI 0 w _ h0 (Nat.le_refl _) (Keeps.of_below (((Below.refl _ _).alloc (Nat.le_refl _) _).alloc (by simp) _)), by simp⟩
  · intro W r r' r'' Wc hrec hk hL
    refine hKp _ _ (fun k hk' => ?_) ?_
    · have := hks k hk'
      rw [World.putObj_heap_other (by omega), hk k hk', World.putObj_heap_other (by omega)]
    · have := hL.1
      rw [World.putObj_size] at this ⊢
      exact this
  · intro W r r' r'' Wc hrec hk hL
    exact hKx _ _
  · intro l i x V W hx hi hsz
    refine wpIn_mono (hround l i x V W hx hi.1 hsz) ?_
    rintro e0 a0 V0 hp0
    have hn0 : e0 = .normal := by cases e0 <;> first | rfl | exact hp0.elim
    subst hn0
    obtain ⟨hV0, hbd⟩ := hp0
    refine ⟨hV0, wpIn_mono hbd ?_⟩
    rintro e a3 W3 hp
    cases e with
    | normal => exact ⟨hp.1, hp.2.1, hp.2.2, Nat.le_trans hsz hp.1.1⟩
    | ret => exact ⟨hp.1, trivial, hp.2, Nat.le_trans hsz hp.1.1⟩
    | exit id => exact ⟨hp.1, trivial, hp.2, Nat.le_trans hsz hp.1.1⟩
    | goto t => exact ⟨hp.1, trivial, hp.2, Nat.le_trans hsz hp.1.1⟩
    | panic ch => exact hp.elim
    | outgrown => exact hp.elim

theorem rangeA {g : Operand} {ps : Array Tmp} {assign body : Code} {Q : Exit → Act → World → Prop} {a : Act} {w : World}
    {gf : Nat} {lb : Array Value} (hg : a.eval g = .func (.func gf) #[] lb) (eg : ∀ args w, (callFunc gf args).run P w = .ok (.enter gf args) w)
    {encs : α → Array Value} {xs : List α} {St Kp Kx : World → World → Prop} (hps : ∀ x, (encs x).size = ps.size)
    (hseq : ∀ r, Seq P gf lb encs xs St Kp Kx ((w.alloc (.deferred (some []))).alloc (.loop r)))
    (ks : List Nat) (hks : ∀ k ∈ ks, k < w.heap.size)
    (hSt : ∀ A B, w.heap.size + 2 ≤ A.heap.size → St A B → Below (w.heap.size + 2) A B)
    (hKp : ∀ A B, (∀ k ∈ ks, B.heap[k]? = A.heap[k]?) → Above (w.heap.size + 2) A B → Kp A B)
    (hKx : ∀ A B, Above (w.heap.size + 2) A B → Kx A B)
    (I : Nat → World → Prop) (Ix : Code → World → Prop)
    (hI : ∀ i A B, I i A → Below w.heap.size A B → I i B) (hIx : ∀ c A B, Ix c A → Below w.heap.size A B → Ix c B)
    (h0 : I 0 w) (a₁ : α → Act)
    (hassign : ∀ (l : Nat) (x : α) (W : World) (K : Act → World → Prop), K (a₁ x) W →
      assign.wpIn (Fence.wide.inRound l) 0 P (Exit.then K (fun _ _ _ => False)) { tmps := (ps.zip (encs x)).foldl (fun t (p, v) => t.setIfInBounds p v) a.tmps, defers := [] } W)
    (hbody : ∀ (l i : Nat) (x : α) (W : World), xs[i]? = some x → I i W → w.heap.size + 2 ≤ W.heap.size → body.wpIn (Fence.wide.inRound l) 0 P (postA w.heap.size ks (I (i + 1)) Ix W) (a₁ x) W)
    (hdone : ∀ W, I xs.length W → W.heap[w.heap.size]? = some (.deferred (some [])) → w.heap.size + 2 ≤ W.heap.size → Q .normal { a with defers := { target := .collected w.heap.size, args := #[] } :: a.defers } W)
    (hstop : ∀ c W, Ix c W → W.heap[w.heap.size]? = some (.deferred (some [])) → w.heap.size + 2 ≤ W.heap.size → c.wpIn Fence.wide 0 P Q { a with defers := { target := .collected w.heap.size, args := #[] } :: a.defers } W) :
    (Code.rangeFunc g ps assign body).wpIn Fence.wide 0 P Q a w :=
  rangeB hg eg hps hseq ks hks hSt hKp hKx I Ix hI hIx h0 (fun l i x V W hx hi hs => hassign l x V _ ⟨rfl, hbody l i x W hx hi hs⟩) hdone hstop

/-! ### a block of one cell -/
def Box (W : World) (k : Nat) (v : Value) (t : TypeId) : Prop := W.heap[k]? = some (.cells #[v] t)
theorem Box.cell {W : World} {k : Nat} {v : Value} {t : TypeId} (h : Box W k v t) : W.cell? ⟨k, 0, none⟩ = some v := by
  unfold Box at h; simp [World.cell?, h]
theorem Box.frozen {W : World} {k : Nat} {v : Value} {t : TypeId} (h : Box W k v t) : W.frozen? ⟨k, 0, none⟩ = false := by
  unfold Box at h; simp [World.frozen?, h]
theorem Box.lt {W : World} {k : Nat} {v : Value} {t : TypeId} (h : Box W k v t) : k < W.heap.size := (Array.getElem?_eq_some_iff.1 h).1
theorem Box.set {W : World} {k : Nat} {v : Value} {t : TypeId} (h : Box W k v t) (u : Value) : Box (W.setCell ⟨k, 0, none⟩ u) k u t := by
  unfold Box at *
  simp only [World.setCell]
  rw [Array.getElem?_modify, if_pos rfl, h]
  rfl
theorem Box.below {W W' : World} {k n : Nat} {v : Value} {t : TypeId} (h : Box W k v t) (hb : Below n W W') (hk : k < n) : Box W' k v t := (hb.block k hk).trans h
theorem Box.put {W : World} {k d : Nat} {v : Value} {t : TypeId} {o : Obj} (h : Box W k v t) (hk : k ≠ d) : Box (W.putObj d o) k v t := (World.putObj_heap_other hk).trans h
theorem Box.new (W : World) (v : Value) (t : TypeId) : Box (W.alloc (.cells #[v] t)) W.heap.size v t := World.alloc_heap_new W _
theorem Box.alloc {W : World} {k : Nat} {v : Value} {t : TypeId} (h : Box W k v t) (o : Obj) : Box (W.alloc o) k v t := (Below.heap_alloc W o k h.lt).trans h
/-- a store into a block below d. -/
theorem Above.setCell {d : Nat} (W : World) (k : Nat) (v : Value) (hk : k < d) : Above d W (W.setCell ⟨k, 0, none⟩ v) :=
  ⟨by simp [World.setCell], fun j hj _ => Below.heap_setCell _ _ _ _ (by show j ≠ k; omega)⟩
end It
end Go.Proofs.YtkkpahmoljiepaaGreatDoor
