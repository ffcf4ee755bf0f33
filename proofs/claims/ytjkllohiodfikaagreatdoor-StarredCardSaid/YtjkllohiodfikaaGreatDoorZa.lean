/- Contracts: the methods of lookup.Table that ask its list: of, set, isThere. -/
import Derived.Test.YtjkllohiodfikaaGreatDoorZc
set_option linter.unusedSimpArgs false
set_option linter.unusedVariables false
namespace Go.Proofs.YtjkllohiodfikaaGreatDoor
open Go.RowKit
open Pu (Str hide unhide)
attribute [local go_sem] Oper.semAt_some

/-- a table in memory: its origin and its list. -/
def TableAt (w : World) (zb : Nat) (o : Str) (b off cap : Nat) (rs : List Rec) : Prop :=
  zb < w.heap.size ∧ w.cell? ⟨zb, 0, none⟩ = some (.string (B o)) ∧ w.cell? ⟨zb, 1, none⟩ = some (.slice (some ⟨b, off, none⟩) rs.length cap) ∧ rs.length ≤ cap ∧ RecsAt w b off rs
theorem TableAt.below {w w' : World} {zb b off cap : Nat} {o : Str} {rs : List Rec} (h : TableAt w zb o b off cap rs) (hb : Below w.heap.size w w') : TableAt w' zb o b off cap rs :=
  ⟨Nat.lt_of_lt_of_le h.1 hb.size, (hb.cell (p := ⟨zb, 0, none⟩) h.1).trans h.2.1, (hb.cell (p := ⟨zb, 1, none⟩) h.1).trans h.2.2.1, h.2.2.2.1, h.2.2.2.2.below hb⟩
theorem TableAt.low {w w' : World} {zb b off cap n : Nat} {o : Str} {rs : List Rec} (h : TableAt w zb o b off cap rs) (hb : Below n w w') (h1 : zb < n) (h2 : b < n) : TableAt w' zb o b off cap rs :=
  ⟨Nat.lt_of_lt_of_le h.1 hb.size, (hb.cell (p := ⟨zb, 0, none⟩) h1).trans h.2.1, (hb.cell (p := ⟨zb, 1, none⟩) h1).trans h.2.2.1, h.2.2.2.1, Ia.RecsAt.low h.2.2.2.2 hb h2⟩
/-- the bounds of a zone. -/
def Fit (o : Str) (rs : List Rec) : Prop := rs.length ≤ 3001 ∧ o.length ≤ 3000 ∧ ∀ r ∈ rs, r.owner.length ≤ 3000 ∧ r.data.length ≤ 3000

/-- does a name, or one under it, have records? -/
def there (rs : List Rec) (n : Str) : Bool := !(underRuns n rs).isEmpty

namespace Za
open Ka Kd Rg Ia Iow Ie Zb Zc

set_option maxHeartbeats 400000 in
theorem of_t (zb b off cap : Nat) (o n : Str) (rs : List Rec) (w : World) (hz : TableAt w zb o b off cap rs) (hlen : rs.length ≤ 3001) :
    Calls Tryz.prog 217 #[.pointer (some ⟨zb, 0, none⟩), .string (B n)] w fun e w' => (∃ v, e = .returned v ∧ Piece b off rs v (ofP rs n)) ∧ Below w.heap.size w w' := by
  obtain ⟨hzb, hz0, hz1, hcap, hr⟩ := hz
  have HC := hide (of_any b off cap n rs w hr hcap hlen)
  clear hr
  go_enter Tryz.func217, Tryz.ntmps217
  go_wp2_with fail
  refine (unhide HC).mono ?_
  rintro e w1 ⟨⟨v, rfl, hv⟩, hb1⟩
  have HV := hide hv
  clear hv
  go_wp2_with fail
  go_ret
  exact ⟨⟨_, rfl, unhide HV⟩, hb1⟩

set_option maxHeartbeats 400000 in
theorem set_t (zb b off cap : Nat) (o n : Str) (k : Int) (rs : List Rec) (w : World) (hz : TableAt w zb o b off cap rs) (hlen : rs.length ≤ 3001) :
    Calls Tryz.prog 152 #[.pointer (some ⟨zb, 0, none⟩), .string (B n), .int .i64 k] w fun e w' => (∃ v, e = .returned v ∧ Piece b off rs v (setP (ofP rs n) k)) ∧ Below w.heap.size w w' := by
  obtain ⟨hzb, hz0, hz1, hcap, hr⟩ := hz
  have HC := hide (set_any b off cap n k rs w hr hcap hlen)
  clear hr
  go_enter Tryz.func152, Tryz.ntmps152
  go_wp2_with fail
  refine (unhide HC).mono ?_
  rintro e w1 ⟨⟨v, rfl, hv⟩, hb1⟩
  have HV := hide hv
  clear hv
  go_wp2_with fail
  go_ret
  exact ⟨⟨_, rfl, unhide HV⟩, hb1⟩

set_option maxHeartbeats 1600000 in
theorem isThere_any (zb b off cap : Nat) (o n : Str) (rs : List Rec) (w : World) (hz : TableAt w zb o b off cap rs) (hlen : rs.length ≤ 3001) (hn : n.length ≤ 3000) (ho : ∀ r ∈ rs, r.owner.length ≤ 3000) :
    Calls Tryz.prog 216 #[.pointer (some ⟨zb, 0, none⟩), .string (B n)] w fun e w' => e = .returned (.bool (there rs n)) ∧ Below w.heap.size w w' := by
  refine (callsIn_wide (n := 0)).1 ?_
  refine callsIn_of_wp_marks Tryz.func216 rfl trivial ?_
  simp only [Tryz.ntmps216, List.size_toArray, List.length_cons, List.length_nil, Nat.reduceAdd, Nat.reduceSub, Array.replicate_succ, Array.replicate_zero, List.push_toArray, List.append_toArray, List.nil_append, List.cons_append]
  have HO := hide ho
  obtain ⟨hzb, hz0, hz1, hcap, hr⟩ := hz
  have HR := hide hr
  have hb := hr.1
  clear hr ho
  gi_wp2_with fail
  refine ⟨trivial, rfl, ?_⟩
  refine (callsIn_wide.2 (under_o _ _ _ _ _)).mono ?_
  rintro e W2 ⟨rfl, e4, hb2, e1, e2⟩
  have e0 : It.Box W2 w.heap.size (.bool false) 4 := (It.Box.new _ _ _).below hb2 (by simp <;> omega)
  have e5 : Below w.heap.size w W2 := ((Below.refl _ _).alloc (Nat.le_refl _) _).trans (hb2.mono (by simp <;> omega))
  simp only [World.size_alloc] at e4 e1 e2
  gi_wp2_with fail
  have hgrow : ∀ r, Below W2.heap.size W2 ((W2.alloc (.deferred (some []))).alloc (.loop r)) := fun r => ((Below.refl _ _).alloc (Nat.le_refl _) _).alloc (by simp) _
  have hgsz : ∀ r, ((W2.alloc (.deferred (some []))).alloc (.loop r)).heap.size = W2.heap.size + 2 := fun r => by simp
  refine It.rangeB (xs := underRuns n rs) (encs := fun x : Nat × List Rec => #[.string (B (ownerOf x)), .slice (some ⟨b, off + x.1 * 4, none⟩) x.2.length x.2.length]) (St := fun A B => Below (W2.heap.size + 2) A B) (Kp := fun A B => (B.heap[b]? = A.heap[b]? ∧ B.heap[w.heap.size + 1 + 1]? = A.heap[w.heap.size + 1 + 1]?) ∧ It.Above (W2.heap.size + 2) A B) (Kx := fun A B => It.Above (W2.heap.size + 2) A B)
    (gf := 186) (lb := #[.pointer (some ⟨w.heap.size + 1, 0, none⟩), .pointer (some ⟨w.heap.size + 1 + 1, 0, none⟩)]) rfl (enters_of Tryz.func186 (by kernel_rfl) rfl) (fun _ => rfl) ?seq
    [b, w.heap.size + 1 + 1] (by simp; omega) (fun _ _ _ h => h) (fun A B h h' => ⟨⟨h _ (by simp), h _ (by simp)⟩, h'⟩) (fun _ _ h => h)
    (fun i W => i = 0 ∧ Below w.heap.size w W ∧ It.Box W w.heap.size (.bool false) 4)
    (fun c W => c = .ret ∧ there rs n = true ∧ Below w.heap.size w W ∧ It.Box W w.heap.size (.bool true) 4)
    (fun i A B h hb => ⟨h.1, h.2.1.trans (hb.mono (by omega)), h.2.2.below hb (by omega)⟩)
    (fun c A B h hb => ⟨h.1, h.2.1, h.2.2.1.trans (hb.mono (by omega)), h.2.2.2.below hb (by omega)⟩)
    ⟨rfl, e5, e0⟩
    ?round ?done ?stop
  case seq =>
    intro r
    have hg := hgrow r
    have := under_seq b off cap (w.heap.size + 1) (w.heap.size + 1 + 1) n rs ((W2.alloc (.deferred (some []))).alloc (.loop r)) (((unhide HR).below e5).below hg) hcap ((hg.cell (p := ⟨w.heap.size + 1, 0, none⟩) (by show w.heap.size + 1 < W2.heap.size; omega)).trans e1) ((hg.cell (p := ⟨w.heap.size + 1 + 1, 0, none⟩) (by show w.heap.size + 1 + 1 < W2.heap.size; omega)).trans e2) (by have := hg.size; omega) (by have := hg.size; omega) hlen hn (unhide HO)
    rw [hgsz r] at this
    exact this
  case round =>
    intro l' i x V W hx hI hsz
    gi_wp2_with fail
    refine ⟨trivial, ?_⟩
    obtain ⟨rfl, hB, hc⟩ := hI
    have cb := hc.cell
    have cf := hc.frozen
    have hth : there rs n = true := by
      unfold there
      cases h : underRuns n rs with
      | nil => rw [h] at hx; simp at hx
      | cons y t => rfl
    gi_wp2_with fail
    exact ⟨It.Above.setCell W _ _ (by omega), rfl, hth, hB.setCell (Nat.le_refl _) _, hc.set _⟩
  case done =>
    intro W hI hdef hsz
    obtain ⟨h0, hB, hc⟩ := hI
    have cb := hc.cell
    have cf := hc.frozen
    have hth : there rs n = false := by
      unfold there
      cases h : underRuns n rs with
      | nil => rfl
      | cons y t => rw [h] at h0; simp at h0
    gi_wp2_with fail
    refine ⟨by simp, .inl ⟨_, _, rfl, run_takeDeferred ((Below.heap_setCell _ _ _ _ (by show W2.heap.size ≠ w.heap.size; omega)).trans hdef), ?_⟩⟩
    have cr := ((hc.set (.bool false)).put (d := W2.heap.size) (o := .deferred none) (by omega)).cell
    refine ⟨.bool false, by simp [results, Tryz.results216, go_sem, cr], by rw [hth], ?_⟩
    exact (hB.setCell (Nat.le_refl _) _).trans (belowK_b (w := W2) (by omega) _ _ _ _ (Nat.le_refl _) ((Below.heap_setCell _ _ _ _ (by show W2.heap.size ≠ w.heap.size; omega)).trans hdef) rfl rfl)
  case stop =>
    intro c W hI hdef hsz
    obtain ⟨rfl, ht, hB, hc⟩ := hI
    have cb := hc.cell
    gi_wp2_with fail
    refine ⟨by simp, .inl ⟨_, _, rfl, run_takeDeferred hdef, ?_⟩⟩
    have cr := (hc.put (d := W2.heap.size) (o := .deferred none) (by omega)).cell
    refine ⟨.bool true, by simp [results, Tryz.results216, go_sem, cr], by rw [ht], ?_⟩
    exact hB.trans (belowK_b (w := W2) (by omega) _ _ _ _ (Nat.le_refl _) hdef rfl rfl)
end Za
end Go.Proofs.YtjkllohiodfikaaGreatDoor
