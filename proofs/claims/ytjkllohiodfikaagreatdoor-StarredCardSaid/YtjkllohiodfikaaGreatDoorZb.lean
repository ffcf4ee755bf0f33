/- Contracts: records.Of. -/
import Derived.Test.YtjkllohiodfikaaGreatDoorIe
import Derived.Test.YtjkllohiodfikaaGreatDoorIu
set_option linter.unusedSimpArgs false
set_option linter.unusedVariables false
namespace Go.Proofs.YtjkllohiodfikaaGreatDoor
open Go.RowKit
open Pu (Str hide unhide)
attribute [local go_sem] Oper.semAt_some

/-- a name's records. -/
def ofP (rs : List Rec) (n : Str) : List Rec :=
  match (runs sameOwner rs).find? (fun x => ownerOf x == n) with
  | some x => x.2
  | none => []

/-- where a list of records lies. -/
def Lies (v : Value) (b off : Nat) (rs : List Rec) : Prop := (v = .slice none 0 0 ∧ rs = []) ∨ ∃ cap, v = .slice (some ⟨b, off, none⟩) rs.length cap ∧ rs.length ≤ cap
/-- a slice is a piece of a list of records, or nil. -/
def Piece (b off : Nat) (rs : List Rec) (v : Value) (l : List Rec) : Prop := (v = .slice none 0 0 ∧ l = []) ∨ ∃ k, (v = .slice (some ⟨b, off + k * 4, none⟩) l.length l.length ∧ k + l.length ≤ rs.length ∧ l = (rs.drop k).take l.length)

theorem Piece.at {w : World} {b off : Nat} {rs l : List Rec} {v : Value} (h : Piece b off rs v l) (hr : RecsAt w b off rs) : ∃ o', RecsAt w b o' l ∧ Lies v b o' l ∧ ∀ same, ∀ x ∈ runs same l, Piece b off rs (.slice (some ⟨b, o' + x.1 * 4, none⟩) x.2.length x.2.length) x.2 := by
  rcases h with ⟨rfl, rfl⟩ | ⟨k, rfl, hk, hl⟩
  · exact ⟨off, ⟨hr.1, fun j hj => by simp at hj⟩, .inl ⟨rfl, rfl⟩, fun same x hx => by simp [runs, runsP] at hx⟩
  · refine ⟨off + k * 4, by rw [hl]; exact (hr.drop k).take _, .inr ⟨_, rfl, Nat.le_refl _⟩, fun same x hx => .inr ⟨k + x.1, ?_, ?_, ?_⟩⟩
    · rw [Nat.add_assoc, ← Nat.add_mul]
    · have := (Iow.runs_piece hx).1; omega
    · obtain ⟨h1, _, h3⟩ := Iow.runs_piece hx
      conv => lhs; rw [h3, hl]
      rw [List.drop_take, List.take_take, List.drop_drop, Nat.min_eq_left (by omega)]
theorem Piece.rv {w : World} {b off : Nat} {rs l : List Rec} {v : Value} (h : Piece b off rs v l) (hr : RecsAt w b off rs) : RV w v l := by
  obtain ⟨o', h1, h2, _⟩ := h.at hr
  rcases h2 with h2 | ⟨cap, rfl, hc⟩
  · exact .inl h2
  · exact .inr ⟨b, o', cap, rfl, hc, h1⟩
theorem Piece.slice {b off : Nat} {rs l : List Rec} {v : Value} (h : Piece b off rs v l) : ∃ a c, v = .slice a l.length c := by
  rcases h with ⟨rfl, rfl⟩ | ⟨k, rfl, _, _⟩
  · exact ⟨none, 0, rfl⟩
  · exact ⟨_, _, rfl⟩
theorem Piece.len {b off : Nat} {rs l : List Rec} {v : Value} (h : Piece b off rs v l) : l.length ≤ rs.length := by
  rcases h with ⟨rfl, rfl⟩ | ⟨k, rfl, _, _⟩
  · simp
  · omega
theorem Piece.of_run {b off : Nat} {rs : List Rec} {same : Rec → Rec → Bool} {x : Nat × List Rec} (hx : x ∈ runs same rs) : Piece b off rs (.slice (some ⟨b, off + x.1 * 4, none⟩) x.2.length x.2.length) x.2 :=
  .inr ⟨x.1, rfl, (Iow.runs_piece hx).1, (Iow.runs_piece hx).2.2⟩

namespace Zb
open Ka Kd Rg Ia Iow Ie

theorem find_step {p : Nat × List Rec → Bool} {l : List (Nat × List Rec)} {i : Nat} {x : Nat × List Rec} (h : l[i]? = some x) : (l.drop i).find? p = if p x then some x else (l.drop (i + 1)).find? p := by
  obtain ⟨hi, rfl⟩ := List.getElem?_eq_some_iff.1 h
  rw [List.drop_eq_getElem_cons hi, List.find?_cons]
  cases p l[i] <;> rfl

set_option maxHeartbeats 1600000 in
theorem of_any (b off cap : Nat) (n : Str) (rs : List Rec) (w : World) (hr : RecsAt w b off rs) (hcap : rs.length ≤ cap) (hlen : rs.length ≤ 3001) :
    Calls Tryz.prog 144 #[.slice (some ⟨b, off, none⟩) rs.length cap, .string (B n)] w fun e w' => (∃ v, e = .returned v ∧ Piece b off rs v (ofP rs n)) ∧ Below w.heap.size w w' := by
  refine (callsIn_wide (n := 0)).1 ?_
  refine callsIn_of_wp_marks Tryz.func144 rfl trivial ?_
  simp only [Tryz.ntmps144, List.size_toArray, List.length_cons, List.length_nil, Nat.reduceAdd, Nat.reduceSub, Array.replicate_succ, Array.replicate_zero, List.push_toArray, List.append_toArray, List.nil_append, List.cons_append]
  have HR := hide hr
  have hb := hr.1
  clear hr
  gi_wp2_with (refine ⟨trivial, rfl, ?_⟩; gi_at_call 82; refine (callsIn_wide.2 (owners_any _ _ _ _)).mono ?_; rintro e w' ⟨rfl, rfl⟩)
  have e0 : It.Box (((w.alloc (.cells #[.string (B n)] 9)).alloc (.cells #[.slice none 0 0] 41)).alloc (.cells #[.slice (some ⟨b, off, none⟩) rs.length cap] 41)) w.heap.size (.string (B n)) 9 := ((It.Box.new _ _ _).alloc _).alloc _
  have e1 : It.Box (((w.alloc (.cells #[.string (B n)] 9)).alloc (.cells #[.slice none 0 0] 41)).alloc (.cells #[.slice (some ⟨b, off, none⟩) rs.length cap] 41)) (w.heap.size + 1) (.slice none 0 0) 41 := by
    have := (It.Box.new (w.alloc (.cells #[.string (B n)] 9)) (.slice none 0 0) 41).alloc (.cells #[.slice (some ⟨b, off, none⟩) rs.length cap] 41)
    rwa [World.size_alloc] at this
  have e2 : (((w.alloc (.cells #[.string (B n)] 9)).alloc (.cells #[.slice none 0 0] 41)).alloc (.cells #[.slice (some ⟨b, off, none⟩) rs.length cap] 41)).cell? ⟨w.heap.size + 1 + 1, 0, none⟩ = some (.slice (some ⟨b, off, none⟩) rs.length cap) := by go_simp
  have e4 : (((w.alloc (.cells #[.string (B n)] 9)).alloc (.cells #[.slice none 0 0] 41)).alloc (.cells #[.slice (some ⟨b, off, none⟩) rs.length cap] 41)).heap.size = w.heap.size + 3 := by simp
  have e5 : Below w.heap.size w (((w.alloc (.cells #[.string (B n)] 9)).alloc (.cells #[.slice none 0 0] 41)).alloc (.cells #[.slice (some ⟨b, off, none⟩) rs.length cap] 41)) := (((Below.refl _ _).alloc (Nat.le_refl _) _).alloc (by simp) _).alloc (by simp; omega) _
  generalize ((w.alloc (.cells #[.string (B n)] 9)).alloc (.cells #[.slice none 0 0] 41)).alloc (.cells #[.slice (some ⟨b, off, none⟩) rs.length cap] 41) = W2 at *
  have hgrow : ∀ r, Below W2.heap.size W2 ((W2.alloc (.deferred (some []))).alloc (.loop r)) := fun r => ((Below.refl _ _).alloc (Nat.le_refl _) _).alloc (by simp) _
  have hgsz : ∀ r, ((W2.alloc (.deferred (some []))).alloc (.loop r)).heap.size = W2.heap.size + 2 := fun r => by simp
  refine It.rangeB (xs := runs sameOwner rs) (encs := fun x : Nat × List Rec => #[.string (B (ownerOf x)), .slice (some ⟨b, off + x.1 * 4, none⟩) x.2.length x.2.length]) (St := fun A B => Below (W2.heap.size + 2) A B) (Kp := fun A B => B.heap[b]? = A.heap[b]? ∧ It.Above (W2.heap.size + 2) A B) (Kx := fun A B => It.Above (W2.heap.size + 2) A B)
    (gf := 139) (lb := #[.pointer (some ⟨w.heap.size + 1 + 1, 0, none⟩)]) rfl (enters_of Tryz.func139 (by kernel_rfl) rfl) (fun _ => rfl) ?seq
    [b] (by simp; omega) (fun _ _ _ h => h) (fun A B h h' => ⟨h _ (by simp), h'⟩) (fun _ _ h => h)
    (fun i W => ((runs sameOwner rs).drop i).find? (fun x => ownerOf x == n) = (runs sameOwner rs).find? (fun x => ownerOf x == n) ∧ Below w.heap.size w W ∧ It.Box W w.heap.size (.string (B n)) 9 ∧ It.Box W (w.heap.size + 1) (.slice none 0 0) 41)
    (fun c W => c = .ret ∧ Below w.heap.size w W ∧ ∃ x, x ∈ runs sameOwner rs ∧ ofP rs n = x.2 ∧ It.Box W (w.heap.size + 1) (.slice (some ⟨b, off + x.1 * 4, none⟩) x.2.length x.2.length) 41)
    (fun i A B h hb => ⟨h.1, h.2.1.trans (hb.mono (by omega)), h.2.2.1.below hb (by omega), h.2.2.2.below hb (by omega)⟩)
    (fun c A B h hb => ⟨h.1, h.2.1.trans (hb.mono (by omega)), by obtain ⟨x, h1, h2, h3⟩ := h.2.2; exact ⟨x, h1, h2, h3.below hb (by omega)⟩⟩)
    ⟨rfl, e5, e0, e1⟩
    ?round ?done ?stop
  case seq =>
    intro r
    have hg := hgrow r
    have := owners_seq b off cap (w.heap.size + 1 + 1) rs ((W2.alloc (.deferred (some []))).alloc (.loop r)) ((hg.cell (p := ⟨w.heap.size + 1 + 1, 0, none⟩) (by show w.heap.size + 1 + 1 < W2.heap.size; omega)).trans e2) (((unhide HR).below e5).below hg) (by have := hg.size; omega) hlen hcap
    rw [hgsz r] at this
    exact this
  case round =>
    intro l' i x V W hx hI hsz
    gi_wp2_with fail
    refine ⟨trivial, ?_⟩
    obtain ⟨hf, hB, hn', hc⟩ := hI
    have cn := hn'.cell
    have cb := hc.cell
    have cf := hc.frozen
    have hBB : ((B (ownerOf x)).toList == (B n).toList) = (ownerOf x == n) := B_inj
    have hst := find_step (p := fun x => ownerOf x == n) hx
    rw [hf] at hst
    have HS := hide hst
    have HNB := hide hn'
    have HCB := hide hc
    clear hf hst hn' hc
    cases ho : ownerOf x == n
    · rw [ho] at hBB
      have HF : Hid (((runs sameOwner rs).drop (i + 1)).find? (fun x => ownerOf x == n) = (runs sameOwner rs).find? (fun x => ownerOf x == n)) := by
        rw [Hid, unhide HS, if_neg (by simp [ho])]
      gi_wp2_with fail
      exact ⟨It.Above.refl _ _, by simp, unhide HF, hB, unhide HNB, unhide HCB⟩
    · rw [ho] at hBB
      have HF : Hid (ofP rs n = x.2) := by
        unfold ofP
        rw [Hid, unhide HS, if_pos ho]
      gi_wp2_with fail
      exact ⟨It.Above.setCell W _ _ (by omega), rfl, hB.setCell (by show w.heap.size ≤ w.heap.size + 1; omega) _, x, List.mem_of_getElem? hx, unhide HF, (unhide HCB).set _⟩
  case done =>
    intro W hI hdef hsz
    obtain ⟨hf, hB, hn', hc⟩ := hI
    have cb := hc.cell
    have cf := hc.frozen
    have HF : Hid (ofP rs n = []) := by
      unfold ofP
      rw [Hid, ← hf, List.drop_of_length_le (Nat.le_refl _)]; rfl
    clear hf
    gi_wp2_with fail
    have hd' := (Below.heap_setCell W ⟨w.heap.size + 1, 0, none⟩ (.slice none 0 0) W2.heap.size (by show W2.heap.size ≠ w.heap.size + 1; omega)).trans hdef
    refine ⟨by simp, .inl ⟨_, _, rfl, run_takeDeferred hd', ?_⟩⟩
    have cr := ((hc.set (.slice none 0 0)).put (d := W2.heap.size) (o := .deferred none) (by omega)).cell
    refine ⟨.slice none 0 0, by simp [results, Tryz.results144, go_sem, cr], ⟨_, rfl, .inl ⟨rfl, unhide HF⟩⟩, ?_⟩
    exact (hB.setCell (by show w.heap.size ≤ w.heap.size + 1; omega) _).trans (belowK_b (w := W2) (by omega) _ _ _ _ (Nat.le_refl _) hd' rfl rfl)
  case stop =>
    intro c W hI hdef hsz
    obtain ⟨rfl, hB, x, hx, hof, hc⟩ := hI
    have HF := hide hof
    clear hof
    have cb := hc.cell
    gi_wp2_with fail
    refine ⟨by simp, .inl ⟨_, _, rfl, run_takeDeferred hdef, ?_⟩⟩
    have cr := (hc.put (d := W2.heap.size) (o := .deferred none) (by omega)).cell
    have hB' := hB.trans (belowK_b (w := W2) (show w.heap.size ≤ W2.heap.size by omega) W _ _ (.deferred none) (Nat.le_refl _) hdef rfl rfl)
    refine ⟨_, by simp [results, Tryz.results144, go_sem, cr]; rfl, ⟨_, rfl, ?_⟩, hB'⟩
    rw [unhide HF]
    exact Piece.of_run hx
end Zb
end Go.Proofs.YtjkllohiodfikaaGreatDoor
