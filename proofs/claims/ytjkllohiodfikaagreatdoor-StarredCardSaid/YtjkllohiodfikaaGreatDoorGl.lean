/- What every world of the run holds: internal/bytealg.MaxLen reads as some number. -/
import Derived.Test.YtjkllohiodfikaaGreatDoorRows
import Derived.Test.YtjkllohiodfikaaGreatDoorSp
import Derived.Test.YtjkllohiodfikaaGreatDoorShelf
import Derived.WalkKit
import Derived.WalkSpells
import Derived.WalkLawsBesides
set_option linter.unusedSimpArgs false
set_option linter.unusedVariables false
namespace Go.Proofs.YtjkllohiodfikaaGreatDoor
open Go.RowKit

/-- internal/bytealg.MaxLen lies in its block and holds a number. -/
def G (w : World) : Prop := 0 < w.heap.size ∧ ∃ m : Int, w.cell? ⟨0, 0, none⟩ = some (.int .i64 m)

theorem G.below {w w' : World} (h : G w) (hb : Below w.heap.size w w') : G w' := by
  obtain ⟨h0, m, hm⟩ := h
  exact ⟨Nat.lt_of_lt_of_le h0 hb.size, m, (hb.cell (p := ⟨0, 0, none⟩) h0).trans hm⟩
theorem G.alloc {w : World} (h : G w) (o : Obj) : G (w.alloc o) := h.below ((Below.refl _ _).alloc (Nat.le_refl _) _)
theorem G.drewN {w : World} (h : G w) (n : Nat) : G (w.drewN n) := h

/-- old cells and marks read as before. -/
theorem bcell {W w1 : World} (hb : Below W.heap.size W w1) : (∀ b o, b < W.heap.size → w1.cell? ⟨b, o, none⟩ = W.cell? ⟨b, o, none⟩) ∧ (∀ b o, b < W.heap.size → w1.frozen? ⟨b, o, none⟩ = W.frozen? ⟨b, o, none⟩) :=
  ⟨fun b o h => hb.cell (p := ⟨b, o, none⟩) h, fun b o h => hb.frozen (p := ⟨b, o, none⟩) h⟩

/-- texts that lie side by side. -/
def StrsAt (w : World) (b off : Nat) (ss : List ByteArray) : Prop := b < w.heap.size ∧ ∀ j (h : j < ss.length), w.cell? ⟨b, off + j, none⟩ = some (.string ss[j])

theorem StrsAt.below {w w' : World} {b off : Nat} {ss : List ByteArray} (h : StrsAt w b off ss) (hb : Below w.heap.size w w') : StrsAt w' b off ss :=
  ⟨Nat.lt_of_lt_of_le h.1 hb.size, fun j hj => (hb.cell (p := ⟨b, off + j, none⟩) h.1).trans (h.2 j hj)⟩

theorem strsAt_alloc (w : World) (ss : List ByteArray) : StrsAt (w.alloc (.cells (ss.map Value.string).toArray 9)) w.heap.size 0 ss := by
  refine ⟨by simp, fun j hj => ?_⟩
  rw [Nat.zero_add]
  simp [hj]

theorem split_any (s : ByteArray) (c : UInt8) (w : World) (hg : G w) (hs : s.size < 4294967281) :
    Calls Tryz.prog 70 #[.string s, .string ⟨#[c]⟩] w fun e w' =>
      e = .returned (.slice (some ⟨w.heap.size, 0, none⟩) (Sp.pieces c s).length (Sp.pieces c s).length) ∧ w' = w.alloc (.cells ((Sp.pieces c s).map Value.string).toArray 9) := by
  obtain ⟨_, m, hm⟩ := hg
  have h := Tryz.strings_Split s ⟨#[c]⟩ m w hs hm (Nat.le_refl _)
  rw [← Sp.pieces_len] at h
  exact h
end Go.Proofs.YtjkllohiodfikaaGreatDoor
