/- A region that draws its order within a round, walked under one condition on the world: loads may be taken first. Nothing of the translation is named here. -/
import Derived.Test.YtkkpahmoljiepaaGreatDoorJ06
import Derived.OrdersHeld
import Derived.Deep.RegionHeld
set_option linter.unusedSimpArgs false
set_option linter.unusedVariables false
namespace Go.Proofs.YtkkpahmoljiepaaGreatDoor
open Go.RowKit

namespace Ih
variable {P : Program} {ops : Array Oper} {Q : Exit → Act → World → Prop} {S : World → Prop} {l : Nat}

/-- what is asked where the region goes on, and nothing else. -/
def Only (Q : Exit → Act → World → Prop) (e : Exit) (a : Act) (w : World) : Prop := e = .normal ∧ Q .normal a w
theorem Only.no {e : Exit} {a : Act} {w : World} (h : Only Q e a w) (he : e ≠ .normal) : False := he h.1
theorem Only.out (h : LetsOut (Only Q)) : False := by
  obtain ⟨a, w, h⟩ := h
  cases h.1

theorem opIn_of_held {i : Nat} {K K' : Act → World → Prop} (hK : ∀ a w, K a w → K' a w) {a : Act} {w : World} (h : wpOp P ops (Only Q) i K a w) : wpOpIn Fence.wide 0 P ops Q i K' a w := by
  unfold wpOp at h
  unfold wpOpIn
  split
  · rename_i ho; simp only [ho] at h; exact hK _ _ h
  · rename_i o ho
    simp only [ho] at h
    split
    · rename_i hw
      simp only [hw, if_true] at h
      rcases h with h | ⟨_, h⟩
      · unfold Oper.wp at h
        unfold Oper.wpIn
        refine ⟨fun _ _ => trivial, ?_⟩
        rw [show Fence.wide.round = none from rfl, Oper.semAt_none]
        generalize (execOp a.eval o).run P w = r at *
        cases r with
        | ok x w' =>
          cases x <;> simp only [Oper.upon] at h
          all_goals first
            | exact hK _ _ h
            | exact h.elim
            | (refine ⟨fun h' => by simp [Fence.wide] at h', callsIn_wide.2 (h.mono fun e w'' he => ?_)⟩
               cases e with
               | returned v => exact hK _ _ he
               | panicked c => exact (Only.no he (by simp)).elim
               | outgrown => exact (Only.out he).elim)
            | skip
          exact ⟨fun h' => by simp [Fence.wide] at h', fun c cs _ => let ⟨v, w'', r, s⟩ := h c cs; ⟨v, w'', hK _ _ r, stepsIn_wide.2 s⟩⟩
        | halt x w' =>
          cases x <;> simp only [Oper.upon] at h
          all_goals first
            | exact (Only.no h (by simp)).elim
            | exact h.elim
      · exact (Only.out h).elim
    · rename_i hw
      simp only [hw] at h
      exact ⟨fun _ _ => trivial, hK _ _ h⟩

theorem anyIn_of_held {md : Region.Mode} : ∀ (fuel : Nat) (listed : Array Bool) (a : Act) (w : World), wpAnyH P md ops (Only Q) S fuel listed a w → wpAnyIn Fence.wide 0 P md ops Q fuel listed a w
  | 0, _, _, _, h => ⟨h.1, h.2.2⟩
  | fuel + 1, _, _, _, h => ⟨fun h0 => (h.1 h0).2, fun i hi => opIn_of_held (fun a' w' h' => anyIn_of_held fuel _ a' w' h'.2) (h.2 i hi)⟩

/-- the law. -/
theorem region_held {id : Nat} {a : Act} {w : World} (S : World → Prop) (hm : P.follows .mixedOrders = true) (hnd : ∀ (i : Nat) (o : Oper), ops[i]? = some o → ∀ c, o.op ≠ .defer c) (hS : S w.drew)
    (h : S w.drew → wpAnyH P .any ops (Only Q) S ops.size (Array.replicate ops.size false) a w.drew) : (Code.region id ops true).wpIn (Fence.wide.inRound l) 0 P Q a w :=
  Ir.region_round hm hnd (anyIn_of_held _ _ _ _ (h hS))
end Ih
end Go.Proofs.YtkkpahmoljiepaaGreatDoor
