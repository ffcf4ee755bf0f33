/- A range over a function whose iterator may itself range over a function: a contract of iterators, and the law of the statement. Nothing of the translation is named here. -/
import Derived.RangeFuncLeaves
import Derived.RangeFuncOwn
import Derived.Below
import Derived.Test.YtkkpahmoljiepaaGreatDoorJ03
import Derived.RangeFuncNested
import Derived.RangeFuncBound
import Derived.RangeFuncCalls
import Derived.Shelf.RegionOpen
import Derived.OwnWalkIn
import Derived.TacticsInMore
import Derived.LoopNIn
import Derived.LoopIn
import Derived.Shelf.SlSortCmp.QuietGrown
set_option linter.unusedSimpArgs false
set_option linter.unusedVariables false
namespace Go.Proofs.YtkkpahmoljiepaaGreatDoor
open Go.RowKit

namespace It
variable {P : Program} {α : Type}

/-- What an iterator gives: each of xs in its order, to a yield whose rounds keep 'Kp' where they go on and 'Kx' where they stop; its own steps are 'St'. -/
def Seq (P : Program) (g : Nat) (lb : Array Value) (encs : α → Array Value) (xs : List α) (St Kp Kx : World → World → Prop) (W0 : World) : Prop :=
  ∀ (l : Nat) (J : Nat → World → Prop) (Jx : World → Prop),
    (∀ i A B, J i A → St A B → J i B) → (∀ A B, Jx A → St A B → Jx B) →
    (∀ i x W, xs[i]? = some x → J i W → YieldAt Fence.wide 0 P l (encs x) W fun e W' =>
      (e = .returned (.bool true) ∧ J (i + 1) W' ∧ Kp W W') ∨ (e = .returned (.bool false) ∧ Jx W' ∧ Kx W W')) →
    J 0 W0 →
    CallsIn Fence.wide 0 P g (#[.func (.yield l) #[] #[]] ++ lb) W0 fun e W' => (∃ v, e = .returned v) ∧ (J xs.length W' ∨ Jx W')

/-- The two objects of a loop lie as they lay. -/
def Loops (d : Nat) (A B : World) : Prop := A.heap.size ≤ B.heap.size ∧ B.heap[d]? = A.heap[d]? ∧ B.heap[d + 1]? = A.heap[d + 1]?

/-- How a round's body may be left. -/
def post (d : Nat) (Kb Kbx : World → World → Prop) (I : World → Prop) (Ix : Code → World → Prop) (W : World) : Exit → Act → World → Prop
  | .normal, _, W' => Loops d W W' ∧ Kb W W' ∧ I W'
  | .ret, _, W' => Loops d W W' ∧ Kbx W W' ∧ Ix .ret W'
  | .exit id, _, W' => Loops d W W' ∧ Kbx W W' ∧ Ix (.exit id) W'
  | .goto t, _, W' => Loops d W W' ∧ Kbx W W' ∧ Ix (.goto t) W'
  | .panic _, _, _ => False
  | .outgrown, _, _ => False

theorem rangeW {g : Operand} {ps : Array Tmp} {assign body : Code} {Q : Exit → Act → World → Prop} {a : Act} {w : World}
    {gf : Nat} {lb : Array Value} (hg : a.eval g = .func (.func gf) #[] lb) (eg : ∀ args w, (callFunc gf args).run P w = .ok (.enter gf args) w)
    {encs : α → Array Value} {xs : List α} {St Kp Kx : World → World → Prop} (hps : ∀ x, (encs x).size = ps.size)
    (hseq : ∀ r, Seq P gf lb encs xs St Kp Kx ((w.alloc (.deferred (some []))).alloc (.loop r)))
    (I : Nat → World → Prop) (Ix : Code → World → Prop)
    (hSt : ∀ A B, w.heap.size + 2 ≤ A.heap.size → St A B → Loops w.heap.size A B)
    (hI : ∀ i A B, I i A → St A B → I i B) (hIx : ∀ c A B, Ix c A → St A B → Ix c B)
    (hIp : ∀ i A r o, I i A → A.heap[w.heap.size + 1]? = some (.loop r) → I i (A.putObj (w.heap.size + 1) o))
    (hIxp : ∀ c A r o, Ix c A → A.heap[w.heap.size + 1]? = some (.loop r) → Ix c (A.putObj (w.heap.size + 1) o))
    (h0 : ∀ r, I 0 ((w.alloc (.deferred (some []))).alloc (.loop r)))
    (Kb : World → World → Prop)
    (hKp : ∀ W r r' r'' Wc, W.heap[w.heap.size + 1]? = some (.loop r) → Kb (W.putObj (w.heap.size + 1) (.loop r')) Wc → Loops w.heap.size (W.putObj (w.heap.size + 1) (.loop r')) Wc → Kp W (Wc.putObj (w.heap.size + 1) (.loop r'')))
    (Kbx : World → World → Prop)
    (hKx : ∀ W r r' r'' Wc, W.heap[w.heap.size + 1]? = some (.loop r) → Kbx (W.putObj (w.heap.size + 1) (.loop r')) Wc → Loops w.heap.size (W.putObj (w.heap.size + 1) (.loop r')) Wc → Kx W (Wc.putObj (w.heap.size + 1) (.loop r'')))
    (hround : ∀ (l i : Nat) (x : α) (V W : World), xs[i]? = some x → I i W → w.heap.size + 2 ≤ W.heap.size →
      assign.wpIn (Fence.wide.inRound l) 0 P (Exit.then (fun a₁ V' => V' = V ∧ body.wpIn (Fence.wide.inRound l) 0 P (post w.heap.size Kb Kbx (I (i + 1)) Ix W) a₁ W) (fun _ _ _ => False)) { tmps := (ps.zip (encs x)).foldl (fun t (p, v) => t.setIfInBounds p v) a.tmps, defers := [] } V)
    (hdone : ∀ W, I xs.length W → W.heap[w.heap.size]? = some (.deferred (some [])) → w.heap.size + 2 ≤ W.heap.size → Q .normal { a with defers := { target := .collected w.heap.size, args := #[] } :: a.defers } W)
    (hstop : ∀ c W, Ix c W → W.heap[w.heap.size]? = some (.deferred (some [])) → w.heap.size + 2 ≤ W.heap.size → c.wpIn Fence.wide 0 P Q { a with defers := { target := .collected w.heap.size, args := #[] } :: a.defers } W) :
    (Code.rangeFunc g ps assign body).wpIn Fence.wide 0 P Q a w := by
  refine wpIn_rangeFunc fun fn hfn => ?_
  obtain ⟨D, hD⟩ : ∃ D, D = w.heap.size := ⟨_, rfl⟩
  obtain ⟨rec, hrec⟩ : ∃ rec : LoopState → Option Code → Loop, rec = fun st pe => { state := st, pending := pe, fn, tmps := a.tmps, params := ps, assign, body, defers := w.heap.size } := ⟨_, rfl⟩
  have henter := run_enterLoop_outer (P := P) (w := w) fn a.tmps ps assign body
  refine ⟨w.heap.size + 1, [{ target := .collected w.heap.size, args := #[] }], (w.alloc (.deferred (some []))).alloc (.loop (rec .ready none)),
    { target := .fn (.func gf) lb, args := #[.func (.yield (w.heap.size + 1)) #[] #[]] }, (w.alloc (.deferred (some []))).alloc (.loop (rec .ready none)), gf,
    #[.func (.yield (w.heap.size + 1)) #[] #[]] ++ lb, (w.alloc (.deferred (some []))).alloc (.loop (rec .ready none)), ?_, ?_, fun _ _ => trivial, ?_, fun h => by simp [Fence.wide] at h, ?_⟩
  · rw [hrec]; exact henter
  · simp only [resolve, hg]
    simp [go_sem]
  · simp [invoke, go_sem, eg]
  · obtain ⟨W1, hW1⟩ : ∃ W1, (w.alloc (.deferred (some []))).alloc (.loop (rec .ready none)) = W1 := ⟨_, rfl⟩
    have hl1 : W1.heap[w.heap.size + 1]? = some (.loop (rec .ready none)) := by
      rw [← hW1]; have := World.alloc_heap_new (w.alloc (.deferred (some []))) (.loop (rec .ready none)); rwa [World.size_alloc] at this
    have hd1 : W1.heap[w.heap.size]? = some (.deferred (some [])) := by
      rw [← hW1]; exact (Below.heap_alloc _ _ _ (by simp)).trans (World.alloc_heap_new w _)
    have hsz : ∀ W : World, (∃ o, W.heap[w.heap.size + 1]? = some o) → w.heap.size + 2 ≤ W.heap.size := fun W ⟨o, h⟩ => by
      have := (Array.getElem?_eq_some_iff.1 h).1; omega
    have hs := hseq (rec .ready none) (w.heap.size + 1)
      (fun i W => I i W ∧ W.heap[w.heap.size + 1]? = some (.loop (rec .ready none)) ∧ W.heap[w.heap.size]? = some (.deferred (some [])))
      (fun W => ∃ c, Ix c W ∧ W.heap[w.heap.size + 1]? = some (.loop (rec .done (some c))) ∧ W.heap[w.heap.size]? = some (.deferred (some [])))
      (fun i A B hA hst => by
        obtain ⟨h1, h2, h3⟩ := hA
        have hL := hSt A B (hsz A ⟨_, h2⟩) hst
        exact ⟨hI i A B h1 hst, hL.2.2.trans h2, hL.2.1.trans h3⟩)
      (fun A B hA hst => by
        obtain ⟨c, h1, h2, h3⟩ := hA
        have hL := hSt A B (hsz A ⟨_, h2⟩) hst
        exact ⟨c, hIx c A B h1 hst, hL.2.2.trans h2, hL.2.1.trans h3⟩)
      (fun i x W hx hj => by
        obtain ⟨h1, h2, h3⟩ := hj
        have hy := run_yield (P := P) (args := encs x) h2 (by rw [hrec]; exact hps x)
        rw [hrec] at hy
        have hlt : w.heap.size + 1 < W.heap.size := (Array.getElem?_eq_some_iff.1 h2).1
        have e2 : (W.putObj (w.heap.size + 1) (.loop { rec .ready none with state := .busy })).heap[w.heap.size + 1]? = some (.loop { rec .ready none with state := .busy }) := World.putObj_heap_same hlt
        have e3 : (W.putObj (w.heap.size + 1) (.loop { rec .ready none with state := .busy })).heap[w.heap.size]? = some (.deferred (some [])) := (World.putObj_heap_other (by omega)).trans h3
        refine ⟨fn, _, assign, body, hy, roundIn_of_wpIn hfn (wpIn_mono (hround _ i x W (W.putObj (w.heap.size + 1) (.loop { rec .ready none with state := .busy })) hx (hIp i W _ _ h1 h2) (by rw [World.putObj_size]; omega)) ?_)⟩
        rintro e0 a0 V0 hp0
        have hn0 : e0 = .normal := by cases e0 <;> first | rfl | exact hp0.elim
        subst hn0
        obtain ⟨hV0, hbd⟩ := hp0
        replace hV0 := hV0.symm
        subst hV0
        refine ⟨_, run_beginRound h2 (by rw [hrec]), wpIn_mono hbd ?_⟩
        have fin : ∀ (jump : Option Code) (W3 : World), Loops w.heap.size (W.putObj (w.heap.size + 1) (.loop { rec .ready none with state := .busy })) W3 →
            (Instr.endRound (w.heap.size + 1) jump).run P W3 = .ok (.bool jump.isNone) (W3.putObj (w.heap.size + 1) (.loop (rec (if jump.isNone then .ready else .done) jump))) ∧
            W3.heap[w.heap.size + 1]? = some (.loop { rec .ready none with state := .busy }) ∧
            (W3.putObj (w.heap.size + 1) (.loop (rec (if jump.isNone then .ready else .done) jump))).heap[w.heap.size + 1]? = some (.loop (rec (if jump.isNone then .ready else .done) jump)) ∧
            (W3.putObj (w.heap.size + 1) (.loop (rec (if jump.isNone then .ready else .done) jump))).heap[w.heap.size]? = some (.deferred (some [])) := fun jump W3 hL => by
          have l3 := hL.2.2.trans e2
          have hr := run_endRound (P := P) jump l3
          refine ⟨?_, l3, World.putObj_heap_same (Array.getElem?_eq_some_iff.1 l3).1, (World.putObj_heap_other (by omega)).trans (hL.2.1.trans e3)⟩
          rw [hr, hrec]
        rintro e a3 W3 hp
        cases e with
        | normal =>
          obtain ⟨hL, hk, hi⟩ := hp
          obtain ⟨f1, f2, f3, f4⟩ := fin none W3 hL
          exact ⟨_, _, f1, .inl ⟨rfl, ⟨hIp _ _ _ _ hi f2, f3, f4⟩, hKp W _ _ _ W3 h2 hk hL⟩⟩
        | ret =>
          obtain ⟨hL, hk, hi⟩ := hp
          obtain ⟨f1, f2, f3, f4⟩ := fin (some .ret) W3 hL
          exact ⟨_, _, f1, .inr ⟨rfl, ⟨.ret, hIxp _ _ _ _ hi f2, f3, f4⟩, hKx W _ _ _ W3 h2 hk hL⟩⟩
        | exit id =>
          obtain ⟨hL, hk, hi⟩ := hp
          obtain ⟨f1, f2, f3, f4⟩ := fin (some (.exit id)) W3 hL
          exact ⟨_, _, f1, .inr ⟨rfl, ⟨.exit id, hIxp _ _ _ _ hi f2, f3, f4⟩, hKx W _ _ _ W3 h2 hk hL⟩⟩
        | goto t =>
          obtain ⟨hL, hk, hi⟩ := hp
          obtain ⟨f1, f2, f3, f4⟩ := fin (some (.goto t)) W3 hL
          exact ⟨_, _, f1, .inr ⟨rfl, ⟨.goto t, hIxp _ _ _ _ hi f2, f3, f4⟩, hKx W _ _ _ W3 h2 hk hL⟩⟩
        | panic ch => exact hp.elim
        | outgrown => exact hp.elim)
      (by rw [hW1]; exact ⟨by rw [← hW1]; exact h0 _, hl1, hd1⟩)
    refine hs.mono ?_
    rintro e W2 ⟨⟨v, rfl⟩, ⟨hi, hl, hk⟩ | ⟨c, hi, hl, hk⟩⟩
    · have := run_endLoop (P := P) hl (by rw [hrec]; simp)
      exact ⟨none, _, by rw [this, hrec], hdone _ (hIp _ _ _ _ hi hl) ((World.putObj_heap_other (by omega)).trans hk) (by rw [World.putObj_size]; exact hsz _ ⟨_, hl⟩)⟩
    · have := run_endLoop (P := P) hl (by rw [hrec]; simp)
      exact ⟨some c, _, by rw [this, hrec], hstop c _ (hIxp _ _ _ _ hi hl) ((World.putObj_heap_other (by omega)).trans hk) (by rw [World.putObj_size]; exact hsz _ ⟨_, hl⟩)⟩

theorem range {g : Operand} {ps : Array Tmp} {assign body : Code} {Q : Exit → Act → World → Prop} {a : Act} {w : World}
    {gf : Nat} {lb : Array Value} (hg : a.eval g = .func (.func gf) #[] lb) (eg : ∀ args w, (callFunc gf args).run P w = .ok (.enter gf args) w)
    {encs : α → Array Value} {xs : List α} {St Kp Kx : World → World → Prop} (hps : ∀ x, (encs x).size = ps.size)
    (hseq : ∀ r, Seq P gf lb encs xs St Kp Kx ((w.alloc (.deferred (some []))).alloc (.loop r)))
    (I : Nat → World → Prop) (Ix : Code → World → Prop)
    (hSt : ∀ A B, w.heap.size + 2 ≤ A.heap.size → St A B → Loops w.heap.size A B)
    (hI : ∀ i A B, I i A → St A B → I i B) (hIx : ∀ c A B, Ix c A → St A B → Ix c B)
    (hIp : ∀ i A r o, I i A → A.heap[w.heap.size + 1]? = some (.loop r) → I i (A.putObj (w.heap.size + 1) o))
    (hIxp : ∀ c A r o, Ix c A → A.heap[w.heap.size + 1]? = some (.loop r) → Ix c (A.putObj (w.heap.size + 1) o))
    (h0 : ∀ r, I 0 ((w.alloc (.deferred (some []))).alloc (.loop r)))
    (Kb : World → World → Prop)
    (hKp : ∀ W r r' r'' Wc, W.heap[w.heap.size + 1]? = some (.loop r) → Kb (W.putObj (w.heap.size + 1) (.loop r')) Wc → Loops w.heap.size (W.putObj (w.heap.size + 1) (.loop r')) Wc → Kp W (Wc.putObj (w.heap.size + 1) (.loop r'')))
    (Kbx : World → World → Prop)
    (hKx : ∀ W r r' r'' Wc, W.heap[w.heap.size + 1]? = some (.loop r) → Kbx (W.putObj (w.heap.size + 1) (.loop r')) Wc → Loops w.heap.size (W.putObj (w.heap.size + 1) (.loop r')) Wc → Kx W (Wc.putObj (w.heap.size + 1) (.loop r'')))
    (a₁ : α → Act)
    (hassign : ∀ (l : Nat) (x : α) (W : World) (K : Act → World → Prop), K (a₁ x) W →
      assign.wpIn (Fence.wide.inRound l) 0 P (Exit.then K (fun _ _ _ => False)) { tmps := (ps.zip (encs x)).foldl (fun t (p, v) => t.setIfInBounds p v) a.tmps, defers := [] } W)
    (hbody : ∀ (l i : Nat) (x : α) (W : World), xs[i]? = some x → I i W → w.heap.size + 2 ≤ W.heap.size → body.wpIn (Fence.wide.inRound l) 0 P (post w.heap.size Kb Kbx (I (i + 1)) Ix W) (a₁ x) W)
    (hdone : ∀ W, I xs.length W → W.heap[w.heap.size]? = some (.deferred (some [])) → w.heap.size + 2 ≤ W.heap.size → Q .normal { a with defers := { target := .collected w.heap.size, args := #[] } :: a.defers } W)
    (hstop : ∀ c W, Ix c W → W.heap[w.heap.size]? = some (.deferred (some [])) → w.heap.size + 2 ≤ W.heap.size → c.wpIn Fence.wide 0 P Q { a with defers := { target := .collected w.heap.size, args := #[] } :: a.defers } W) :
    (Code.rangeFunc g ps assign body).wpIn Fence.wide 0 P Q a w :=
  rangeW hg eg hps hseq I Ix hSt hI hIx hIp hIxp h0 Kb hKp Kbx hKx (fun l i x V W hx hi hs => hassign l x V _ ⟨rfl, hbody l i x W hx hi hs⟩) hdone hstop

/-- Three blocks lie as they lay. -/
def Keep3 (x y z : Nat) (A B : World) : Prop := A.heap.size ≤ B.heap.size ∧ B.heap[x]? = A.heap[x]? ∧ B.heap[y]? = A.heap[y]? ∧ B.heap[z]? = A.heap[z]?
theorem Keep3.refl (x y z : Nat) (A : World) : Keep3 x y z A A := ⟨Nat.le_refl _, rfl, rfl, rfl⟩
theorem Keep3.trans {x y z : Nat} {A B C : World} (h : Keep3 x y z A B) (k : Keep3 x y z B C) : Keep3 x y z A C :=
  ⟨Nat.le_trans h.1 k.1, k.2.1.trans h.2.1, k.2.2.1.trans h.2.2.1, k.2.2.2.trans h.2.2.2⟩
theorem Keep3.of_below {x y z nb : Nat} {A B : World} (h : Below nb A B) (hx : x < nb) (hy : y < nb) (hz : z < nb) : Keep3 x y z A B :=
  ⟨h.size, h.block x hx, h.block y hy, h.block z hz⟩
/-- What lay from hs on lies as it lay. -/
def Above (hs : Nat) (A B : World) : Prop := A.heap.size ≤ B.heap.size ∧ ∀ k, hs ≤ k → k < A.heap.size → B.heap[k]? = A.heap[k]?
theorem Above.refl (hs : Nat) (A : World) : Above hs A A := ⟨Nat.le_refl _, fun _ _ _ => rfl⟩
theorem Above.trans {hs : Nat} {A B C : World} (h : Above hs A B) (k : Above hs B C) : Above hs A C :=
  ⟨Nat.le_trans h.1 k.1, fun i hi hl => (k.2 i hi (Nat.lt_of_lt_of_le hl h.1)).trans (h.2 i hi hl)⟩
theorem Above.mono {hs hs' : Nat} {A B : World} (h : Above hs A B) (hle : hs ≤ hs') : Above hs' A B := ⟨h.1, fun k hk hl => h.2 k (Nat.le_trans hle hk) hl⟩
/-- a step that only adds. -/
theorem Above.of_grown {hs : Nat} {A B : World} (h : Below A.heap.size A B) : Above hs A B := ⟨h.size, fun k _ hl => h.block k hl⟩
end It
end Go.Proofs.YtkkpahmoljiepaaGreatDoor

/- Contracts: the two comparisons of records; records.runs and what it gives. -/
namespace Go.Proofs.YtkkpahmoljiepaaGreatDoor
open Go.RowKit
open Pu (Str hide unhide)

def sameSet (r s : Rec) : Bool := r.owner == s.owner && r.type == s.type
def sameOwner (r s : Rec) : Bool := r.owner == s.owner

/-- the runs of a list, each with the place where it begins. -/
def runsP (same : Rec → Rec → Bool) : Nat → Nat → List Rec → List (Nat × List Rec)
  | 0, _, _ => []
  | _ + 1, _, [] => []
  | f + 1, k, r :: t => (k, r :: t.takeWhile (same r)) :: runsP same f (k + 1 + (t.takeWhile (same r)).length) (t.dropWhile (same r))
def runs (same : Rec → Rec → Bool) (rs : List Rec) : List (Nat × List Rec) := runsP same rs.length 0 rs

namespace Ia
open Ka Kd Rg

set_option maxHeartbeats 400000 in
theorem sameSet_any (r s : Rec) (w : World) :
    Calls Tryz.prog 177 #[.agg #[.string (B r.owner), .int .i64 r.ttl, .int .i64 r.type, .string (B r.data)], .agg #[.string (B s.owner), .int .i64 s.ttl, .int .i64 s.type, .string (B s.data)]] w fun e w' =>
      e = .returned (.bool (sameSet r s)) ∧ ∃ q os', w' = Sort.grow (w.drewN q) os' := by
  have hBB : ((B r.owner).toList == (B s.owner).toList) = (r.owner == s.owner) := B_inj
  cases ho : r.owner == s.owner
  · have hfin : Hid (sameSet r s = false) := by unfold sameSet; rw [ho]; rfl
    rw [ho] at hBB
    go_enter Tryz.func177, Tryz.ntmps177
    go_wp2
    go_ret
    exact ⟨ret_bool (unhide hfin).symm, 0, _, by rw [Sort.alloc_eq_grow, Sort.alloc_eq_grow, Sort.grow_grow]; rfl⟩
  · have hfin : Hid (sameSet r s = (r.type == s.type)) := by unfold sameSet; rw [ho]; rfl
    rw [ho] at hBB
    go_enter Tryz.func177, Tryz.ntmps177
    go_wp2
    go_ret
    exact ⟨ret_bool (unhide hfin).symm, 0, _, by rw [Sort.alloc_eq_grow, Sort.alloc_eq_grow, Sort.grow_grow]; rfl⟩

set_option maxHeartbeats 400000 in
theorem sameOwner_any (r s : Rec) (w : World) :
    Calls Tryz.prog 180 #[.agg #[.string (B r.owner), .int .i64 r.ttl, .int .i64 r.type, .string (B r.data)], .agg #[.string (B s.owner), .int .i64 s.ttl, .int .i64 s.type, .string (B s.data)]] w fun e w' =>
      e = .returned (.bool (sameOwner r s)) ∧ ∃ q os', w' = Sort.grow (w.drewN q) os' := by
  have hBB : ((B r.owner).toList == (B s.owner).toList) = (r.owner == s.owner) := B_inj
  go_enter Tryz.func180, Tryz.ntmps180
  go_wp2
  go_ret
  exact ⟨rfl, 0, _, by rw [Sort.alloc_eq_grow, Sort.alloc_eq_grow, Sort.grow_grow]; rfl⟩

theorem runsP_fuel (same : Rec → Rec → Bool) : ∀ (f k : Nat) (l : List Rec), l.length ≤ f → runsP same f k l = runsP same l.length k l
  | 0, k, l, h => by
    obtain rfl : l = [] := List.eq_nil_of_length_eq_zero (by omega)
    rfl
  | f + 1, k, [], h => rfl
  | f + 1, k, r :: t, h => by
    have hd : (t.dropWhile (same r)).length ≤ t.length := by
      have := congrArg List.length (List.takeWhile_append_dropWhile (p := same r) (l := t))
      rw [List.length_append] at this; omega
    rw [runsP, List.length_cons, runsP, runsP_fuel same f _ _ (by simp at h; omega), runsP_fuel same t.length _ _ hd]

theorem runsP_cons (same : Rec → Rec → Bool) (k : Nat) (r : Rec) (t : List Rec) :
    runsP same (r :: t).length k (r :: t) = (k, r :: t.takeWhile (same r)) :: runsP same (t.dropWhile (same r)).length (k + 1 + (t.takeWhile (same r)).length) (t.dropWhile (same r)) := by
  have hd : (t.dropWhile (same r)).length ≤ t.length := by
    have := congrArg List.length (List.takeWhile_append_dropWhile (p := same r) (l := t))
    rw [List.length_append] at this; omega
  rw [List.length_cons, runsP, runsP_fuel same t.length _ _ hd]

theorem takeWhile_get {p : Rec → Bool} : ∀ (l : List Rec) (j : Nat) (h : j < (l.takeWhile p).length), ∃ h' : j < l.length, p l[j] = true
  | [], j, h => by simp at h
  | x :: l, j, h => by
    by_cases hp : p x = true
    · rw [List.takeWhile_cons_of_pos hp] at h
      cases j with
      | zero => exact ⟨by simp, hp⟩
      | succ j =>
        obtain ⟨h', e⟩ := takeWhile_get l j (by simpa using h)
        exact ⟨by simpa using h', by simpa using e⟩
    · rw [List.takeWhile_cons_of_neg hp] at h; simp at h

theorem takeWhile_end {p : Rec → Bool} : ∀ (l : List Rec) (h : (l.takeWhile p).length < l.length), p l[(l.takeWhile p).length] = false
  | [], h => by simp at h
  | x :: l, h => by
    by_cases hp : p x = true
    · have e : ((x :: l).takeWhile p).length = (l.takeWhile p).length + 1 := by rw [List.takeWhile_cons_of_pos hp]; rfl
      have := takeWhile_end l (by rw [e] at h; simpa using h)
      simpa [e] using this
    · have e : ((x :: l).takeWhile p).length = 0 := by rw [List.takeWhile_cons_of_neg hp]; rfl
      simpa [e] using hp

theorem below_grow (w : World) (n : Nat) (os : Array Obj) : Below w.heap.size w (Sort.grow (w.drewN n) os) :=
  ⟨rfl, rfl, rfl, by simp [Sort.grow, World.drewN], fun k hk => by
    show (w.heap ++ os)[k]? = w.heap[k]?
    rw [Array.getElem?_append_left hk]⟩

theorem RecsAt.kept {w w' : World} {b off : Nat} {rs : List Rec} (h : RecsAt w b off rs) (hs : w.heap.size ≤ w'.heap.size) (hb : w'.heap[b]? = w.heap[b]?) : RecsAt w' b off rs :=
  ⟨Nat.lt_of_lt_of_le h.1 hs, fun j hj i u hu => (World.cell?_of_block hb).trans (h.2 j hj i u hu)⟩

theorem RecsAt.low {w w' : World} {b off nb : Nat} {rs : List Rec} (h : RecsAt w b off rs) (hb : Below nb w w') (hlt : b < nb) : RecsAt w' b off rs :=
  ⟨Nat.lt_of_lt_of_le h.1 hb.size, fun j hj i u hu => (hb.cell (p := ⟨b, off + j * 4 + i, none⟩) hlt).trans (h.2 j hj i u hu)⟩

set_option maxHeartbeats 400000 in
theorem runs_any (a : Option Addr) (n c gs : Nat) (w : World) :
    Calls Tryz.prog 176 #[.slice a n c, .func (.func gs) #[] #[]] w fun e w' => e = .returned (.func (.func 233) #[] #[.pointer (some ⟨w.heap.size, 0, none⟩), .pointer (some ⟨w.heap.size + 1, 0, none⟩)]) ∧ w' = (w.alloc (.cells #[.slice a n c] 41)).alloc (.cells #[.func (.func gs) #[] #[]] 261) := by
  go_enter Tryz.func176, Tryz.ntmps176
  go_wp2
  go_ret
  exact ⟨rfl, rfl⟩
end Ia
end Go.Proofs.YtkkpahmoljiepaaGreatDoor

/- What records.runs gives, under one comparison. -/
namespace Go.Proofs.YtkkpahmoljiepaaGreatDoor
open Go.RowKit
open Pu (Str hide unhide)
attribute [local go_sem] Oper.semAt_some
namespace Ib
open Ka Kd Rg Ia

set_option maxHeartbeats 4000000 in
theorem seq (b off cap bl bs : Nat) (rs : List Rec) (W0 : World)
    (hl : W0.cell? ⟨bl, 0, none⟩ = some (.slice (some ⟨b, off, none⟩) rs.length cap)) (hs : W0.cell? ⟨bs, 0, none⟩ = some (.func (.func 177) #[] #[]))
    (hr : RecsAt W0 b off rs) (h1 : bl < W0.heap.size) (h2 : bs < W0.heap.size) (hlen : rs.length ≤ 3001) (hcap : rs.length ≤ cap) :
    It.Seq Tryz.prog 233 #[.pointer (some ⟨bl, 0, none⟩), .pointer (some ⟨bs, 0, none⟩)] (fun x : Nat × List Rec => #[.slice (some ⟨b, off + x.1 * 4, none⟩) x.2.length x.2.length]) (runs sameSet rs)
      (fun A B => Below A.heap.size A B) (It.Keep3 bl bs b) (fun _ _ => True) W0 := by
  have h3 : b < W0.heap.size := hr.1
  intro l J Jx hJ hJx hY h0
  have HY := hide hY
  have HJ := hide hJ
  clear hY hJ hJx
  refine callsIn_of_wp Tryz.func233 rfl trivial ?_
  simp only [Tryz.ntmps233, List.size_toArray, List.length_cons, List.length_nil, Nat.reduceAdd, Nat.reduceSub, Array.replicate_succ, Array.replicate_zero, List.push_toArray, List.append_toArray, List.nil_append, List.cons_append]
  gi_wp2
  gi_loopw [4] (fun s wr => ∃ i k : Nat, s = .int .i64 k ∧ k ≤ rs.length ∧ i ≤ (runs sameSet rs).length ∧ (runs sameSet rs).drop i = runsP sameSet (rs.drop k).length k (rs.drop k) ∧ J i wr ∧ It.Keep3 bl bs b W0 wr) (fun s _ => rs.length - (intOf s).toNat)
  case atStart => exact ⟨0, 0, rfl, Nat.zero_le _, Nat.zero_le _, by simp [runs], h0, It.Keep3.refl _ _ _ _⟩
  case round =>
    obtain ⟨i, k, rfl, hk, hi, hrun, hJi, hB⟩ := hrel
    have HR := hide hrun
    have HJi := hide hJi
    clear hrun hJi
    have cl : wr.cell? ⟨bl, 0, none⟩ = some (.slice (some ⟨b, off, none⟩) rs.length cap) := (World.cell?_of_block hB.2.1).trans hl
    have cs : wr.cell? ⟨bs, 0, none⟩ = some (.func (.func 177) #[] #[]) := (World.cell?_of_block hB.2.2.1).trans hs
    by_cases hlt : k < rs.length
    · have hA : RecsAt wr b off rs := RecsAt.kept hr hB.1 hB.2.2.2
      obtain ⟨q0, q1, q2, q3⟩ := hA.four k hlt
      have hrt : rs.drop k = rs[k] :: rs.drop (k + 1) := List.drop_eq_getElem_cons hlt
      have hget : ∀ m (h : m < rs.length) (h0 : k + 1 ≤ m), ∃ h' : m - (k + 1) < (rs.drop (k + 1)).length, (rs.drop (k + 1))[m - (k + 1)] = rs[m] := fun m h h0 => ⟨by rw [List.length_drop]; omega, by rw [List.getElem_drop]; congr 1; omega⟩
      have htl : (rs.drop (k + 1)).length = rs.length - (k + 1) := List.length_drop
      rw [hrt, runsP_cons] at HR
      have HG := hide hget
      have HA0 := hide hr
      clear hrt hget hA
      obtain ⟨T, hT⟩ : ∃ T, T = ((rs.drop (k + 1)).takeWhile (sameSet rs[k])).length := ⟨_, rfl⟩
      have hTl : T ≤ rs.length - (k + 1) := by
        rw [hT, ← htl]; exact (List.takeWhile_sublist _).length_le
      have htake := hide (takeWhile_get (p := sameSet rs[k]) (rs.drop (k + 1)))
      have hend := hide (takeWhile_end (p := sameSet rs[k]) (rs.drop (k + 1)))
      rw [← hT] at htake
      have HT := hide hT
      clear htl hT q0 q1 q2 q3
      generalize hx : rs[k] = r at *
      have HX := hide hx
      clear hx
      have HIX : Hid ((runs sameSet rs)[i]? = some (k, r :: (rs.drop (k + 1)).takeWhile (sameSet r))) := by
        have := congrArg (fun l : List (Nat × List Rec) => l[0]?) (unhide HR)
        rw [Hid]
        simpa using this
      have HI1 : Hid (i + 1 ≤ (runs sameSet rs).length) := (List.getElem?_eq_some_iff.1 (unhide HIX)).1
      have HDW : Hid ((rs.drop (k + 1)).dropWhile (sameSet r) = rs.drop (k + 1 + T)) := by
        have h1 : rs.drop (k + 1 + T) = (rs.drop (k + 1)).drop T := by rw [List.drop_drop]
        rw [Hid, h1, unhide HT]
        conv => rhs; arg 2; rw [← List.takeWhile_append_dropWhile (p := sameSet r) (l := rs.drop (k + 1))]
        rw [List.drop_left]
      gi_wp2_with fail
      gi_loopw [5] (fun e wr2 => ∃ m : Nat, e = .int .i64 m ∧ k + 1 ≤ m ∧ m ≤ k + 1 + T ∧ J i wr2 ∧ It.Keep3 bl bs b W0 wr2) (fun e _ => rs.length - (intOf e).toNat)
      case atStart => exact ⟨k + 1, by go_num, Nat.le_refl _, by omega, unhide HJi, hB⟩
      case round =>
        clear HJi hB cl cs
        obtain ⟨m, rfl, hkm, hmT, hJ2, hB2⟩ := hrel
        have HJ2 := hide hJ2
        clear hJ2
        have cl : wr.cell? ⟨bl, 0, none⟩ = some (.slice (some ⟨b, off, none⟩) rs.length cap) := (World.cell?_of_block hB2.2.1).trans hl
        have cs : wr.cell? ⟨bs, 0, none⟩ = some (.func (.func 177) #[] #[]) := (World.cell?_of_block hB2.2.2.1).trans hs
        have hA : RecsAt wr b off rs := RecsAt.kept hr hB2.1 hB2.2.2.2
        obtain ⟨q0, q1, q2, q3⟩ := hA.four k hlt
        rw [unhide HX] at q0 q1 q2 q3
        by_cases hm : m < rs.length
        · obtain ⟨p0, p1, p2, p3⟩ := hA.four m hm
          obtain ⟨hg', hg⟩ := unhide HG m hm hkm
          clear hA
          by_cases hjT : m - (k + 1) < T
          · have hsm : sameSet r rs[m] = true := by
              obtain ⟨h', e⟩ := unhide htake (m - (k + 1)) hjT
              rw [hg] at e; exact e
            clear hg hg'
            generalize rs[m] = s at *
            have hmI : (m : Int) < (rs.length : Int) := by omega
            have hkI : (k : Int) < (rs.length : Int) := by omega
            have hmD : decide ((m : Int) < (rs.length : Int)) = true := decide_eq_true hmI
            have hmx : Tryz.prog.follows .mixedOrders = true := by kernel_rfl
            have hbw : W0.heap.size ≤ wr.heap.size := hB2.1
            have gl : ∀ n os, (Sort.grow (wr.drewN n) os).cell? ⟨bl, 0, none⟩ = some (.slice (some ⟨b, off, none⟩) rs.length cap) := cell_grown (by show bl < _; omega) cl
            have gs : ∀ n os, (Sort.grow (wr.drewN n) os).cell? ⟨bs, 0, none⟩ = some (.func (.func 177) #[] #[]) := cell_grown (by show bs < _; omega) cs
            have g0 : ∀ n os, (Sort.grow (wr.drewN n) os).cell? ⟨b, off + k * 4, none⟩ = some (.string (B r.owner)) := cell_grown (by show b < _; omega) q0
            have g1 : ∀ n os, (Sort.grow (wr.drewN n) os).cell? ⟨b, off + k * 4 + 1, none⟩ = some (.int .i64 r.ttl) := cell_grown (by show b < _; omega) q1
            have g2 : ∀ n os, (Sort.grow (wr.drewN n) os).cell? ⟨b, off + k * 4 + 2, none⟩ = some (.int .i64 r.type) := cell_grown (by show b < _; omega) q2
            have g3 : ∀ n os, (Sort.grow (wr.drewN n) os).cell? ⟨b, off + k * 4 + 3, none⟩ = some (.string (B r.data)) := cell_grown (by show b < _; omega) q3
            have e0 : ∀ n os, (Sort.grow (wr.drewN n) os).cell? ⟨b, off + m * 4, none⟩ = some (.string (B s.owner)) := cell_grown (by show b < _; omega) p0
            have e1 : ∀ n os, (Sort.grow (wr.drewN n) os).cell? ⟨b, off + m * 4 + 1, none⟩ = some (.int .i64 s.ttl) := cell_grown (by show b < _; omega) p1
            have e2 : ∀ n os, (Sort.grow (wr.drewN n) os).cell? ⟨b, off + m * 4 + 2, none⟩ = some (.int .i64 s.type) := cell_grown (by show b < _; omega) p2
            have e3 : ∀ n os, (Sort.grow (wr.drewN n) os).cell? ⟨b, off + m * 4 + 3, none⟩ = some (.string (B s.data)) := cell_grown (by show b < _; omega) p3
            gi_wp2_with fail
            refine wpIn_wide.2 ?_
            go_quiet_grown ((go_at_call 177; exact Calls.grown_of (sameSet_any r s _)))
            gi_wp2_with fail
            exact ⟨⟨m + 1, by go_num, by omega, by omega, unhide HJ i _ _ (unhide HJ2) (below_grow _ _ _), hB2.trans (It.Keep3.of_below (below_grow _ _ _) (by omega) (by omega) (by omega))⟩, by simp [intOf]; omega⟩
          · have hmk : m = k + 1 + T := by omega
            have hsm : sameSet r rs[m] = false := by
              have h' : ((rs.drop (k + 1)).takeWhile (sameSet r)).length = m - (k + 1) := by rw [← unhide HT]; omega
              have := unhide hend (by rw [h']; exact hg')
              simp only [h'] at this
              rw [hg] at this; exact this
            clear hg hg'
            generalize rs[m] = s at *
            have hmI : (m : Int) < (rs.length : Int) := by omega
            have hkI : (k : Int) < (rs.length : Int) := by omega
            have hmD : decide ((m : Int) < (rs.length : Int)) = true := decide_eq_true hmI
            have HMK := hide hmk
            clear hmk
            have HLN : Hid ((r :: (rs.drop (k + 1)).takeWhile (sameSet r)).length = m - k) := by
              rw [Hid, List.length_cons, ← unhide HT, unhide HMK]; omega
            have HNX : Hid ((runs sameSet rs).drop (i + 1) = runsP sameSet (rs.drop m).length m (rs.drop m)) := by
              rw [Hid, ← List.drop_drop, unhide HR, List.drop_one, List.tail_cons, unhide HDW, ← unhide HT, ← unhide HMK]
            have hmx : Tryz.prog.follows .mixedOrders = true := by kernel_rfl
            have hbw : W0.heap.size ≤ wr.heap.size := hB2.1
            have gl : ∀ n os, (Sort.grow (wr.drewN n) os).cell? ⟨bl, 0, none⟩ = some (.slice (some ⟨b, off, none⟩) rs.length cap) := cell_grown (by show bl < _; omega) cl
            have gs : ∀ n os, (Sort.grow (wr.drewN n) os).cell? ⟨bs, 0, none⟩ = some (.func (.func 177) #[] #[]) := cell_grown (by show bs < _; omega) cs
            have g0 : ∀ n os, (Sort.grow (wr.drewN n) os).cell? ⟨b, off + k * 4, none⟩ = some (.string (B r.owner)) := cell_grown (by show b < _; omega) q0
            have g1 : ∀ n os, (Sort.grow (wr.drewN n) os).cell? ⟨b, off + k * 4 + 1, none⟩ = some (.int .i64 r.ttl) := cell_grown (by show b < _; omega) q1
            have g2 : ∀ n os, (Sort.grow (wr.drewN n) os).cell? ⟨b, off + k * 4 + 2, none⟩ = some (.int .i64 r.type) := cell_grown (by show b < _; omega) q2
            have g3 : ∀ n os, (Sort.grow (wr.drewN n) os).cell? ⟨b, off + k * 4 + 3, none⟩ = some (.string (B r.data)) := cell_grown (by show b < _; omega) q3
            have e0 : ∀ n os, (Sort.grow (wr.drewN n) os).cell? ⟨b, off + m * 4, none⟩ = some (.string (B s.owner)) := cell_grown (by show b < _; omega) p0
            have e1 : ∀ n os, (Sort.grow (wr.drewN n) os).cell? ⟨b, off + m * 4 + 1, none⟩ = some (.int .i64 s.ttl) := cell_grown (by show b < _; omega) p1
            have e2 : ∀ n os, (Sort.grow (wr.drewN n) os).cell? ⟨b, off + m * 4 + 2, none⟩ = some (.int .i64 s.type) := cell_grown (by show b < _; omega) p2
            have e3 : ∀ n os, (Sort.grow (wr.drewN n) os).cell? ⟨b, off + m * 4 + 3, none⟩ = some (.string (B s.data)) := cell_grown (by show b < _; omega) p3
            gi_wp2_with fail
            refine wpIn_wide.2 ?_
            go_quiet_grown ((go_at_call 177; exact Calls.grown_of (sameSet_any r s _)))
            have hJ3 := unhide HJ i _ _ (unhide HJ2) (below_grow wr nq osq)
            have hB3 := hB2.trans (It.Keep3.of_below (below_grow wr nq osq) (by omega) (by omega) (by omega))
            have hyi := unhide HY i (k, r :: (rs.drop (k + 1)).takeWhile (sameSet r)) _ (unhide HIX) hJ3
            dsimp only at hyi
            rw [unhide HLN] at hyi
            obtain ⟨fn, tmps, assign, body, hy, hR⟩ := hyi
            gi_wp2_with fail
            refine ⟨rfl, hR.mono ?_⟩
            rintro e W3 (⟨rfl, hJ4, hk4⟩ | ⟨rfl, hJx4, _⟩)
            · have HJ4 := hide hJ4
              have hB4 := hB3.trans hk4
              clear hJ4
              gi_wp2_with fail
              exact ⟨⟨i + 1, m, by go_num, by omega, unhide HI1, unhide HNX, unhide HJ4, hB4⟩, by simp [intOf]; omega⟩
            · gi_wp2
              refine bodyPost_ret (results_none rfl _ _ _) rfl ?_
              exact ⟨⟨_, rfl⟩, .inr hJx4⟩
        · have hmk : m = k + 1 + T := by omega
          have HMK := hide hmk
          clear hmk hA
          have hmD : decide ((m : Int) < (rs.length : Int)) = false := decide_eq_false (by omega)
          have hmk2 : m ≤ rs.length := by omega
          have hbw : W0.heap.size ≤ wr.heap.size := hB2.1
          have HLN : Hid ((r :: (rs.drop (k + 1)).takeWhile (sameSet r)).length = m - k) := by
            rw [Hid, List.length_cons, ← unhide HT, unhide HMK]; omega
          have HNX : Hid ((runs sameSet rs).drop (i + 1) = runsP sameSet (rs.drop m).length m (rs.drop m)) := by
            rw [Hid, ← List.drop_drop, unhide HR, List.drop_one, List.tail_cons, unhide HDW, ← unhide HT, ← unhide HMK]
          gi_wp2_with fail
          refine wpIn_wide.2 ?_
          go_quiet (fail)
          have hJ3 := unhide HJ i _ _ (unhide HJ2) (Rg.below_drewN (Below.refl _ wr) nq)
          have hB3 := hB2.trans (It.Keep3.of_below (Rg.below_drewN (Below.refl wr.heap.size wr) nq) (by omega) (by omega) (by omega))
          have cl3 : (wr.drewN nq).cell? ⟨bl, 0, none⟩ = some (.slice (some ⟨b, off, none⟩) rs.length cap) := cl
          have hyi := unhide HY i (k, r :: (rs.drop (k + 1)).takeWhile (sameSet r)) _ (unhide HIX) hJ3
          dsimp only at hyi
          rw [unhide HLN] at hyi
          obtain ⟨fn, tmps, assign, body, hy, hR⟩ := hyi
          gi_wp2_with fail
          refine ⟨rfl, hR.mono ?_⟩
          rintro e W3 (⟨rfl, hJ4, hk4⟩ | ⟨rfl, hJx4, _⟩)
          · have HJ4 := hide hJ4
            have hB4 := hB3.trans hk4
            clear hJ4
            gi_wp2_with fail
            exact ⟨⟨i + 1, m, by go_num, by omega, unhide HI1, unhide HNX, unhide HJ4, hB4⟩, by simp [intOf]; omega⟩
          · gi_wp2
            refine bodyPost_ret (results_none rfl _ _ _) rfl ?_
            exact ⟨⟨_, rfl⟩, .inr hJx4⟩
    · gi_wp2
      go_end0
      have hfin : i = (runs sameSet rs).length := by
        have := unhide HR
        rw [List.drop_of_length_le (show rs.length ≤ k by omega)] at this
        have h' := congrArg List.length this
        rw [List.length_drop] at h'
        have e0 : (runsP sameSet (List.length (α := Rec) []) k []).length = 0 := rfl
        rw [e0] at h'
        omega
      exact ⟨⟨_, rfl⟩, .inl (by rw [← hfin]; exact unhide HJi)⟩

set_option maxHeartbeats 400000 in
theorem seq_nil (b off bl bs : Nat) (W0 : World) (hl : W0.cell? ⟨bl, 0, none⟩ = some (.slice none 0 0)) (Kp : World → World → Prop) :
    It.Seq Tryz.prog 233 #[.pointer (some ⟨bl, 0, none⟩), .pointer (some ⟨bs, 0, none⟩)] (fun x : Nat × List Rec => #[.slice (some ⟨b, off + x.1 * 4, none⟩) x.2.length x.2.length]) (runs sameSet [])
      (fun A B => Below A.heap.size A B) Kp (fun _ _ => True) W0 := by
  intro l J Jx hJ hJx hY h0
  have HY := hide hY
  have HJ := hide hJ
  clear hY hJ hJx
  refine callsIn_of_wp Tryz.func233 rfl trivial ?_
  simp only [Tryz.ntmps233, List.size_toArray, List.length_cons, List.length_nil, Nat.reduceAdd, Nat.reduceSub, Array.replicate_succ, Array.replicate_zero, List.push_toArray, List.append_toArray, List.nil_append, List.cons_append]
  gi_wp2
  gi_loopw [4] (fun s wr => s = .int .i64 0 ∧ wr = W0) (fun _ _ => 0)
  case atStart => exact ⟨rfl, rfl⟩
  case round =>
    obtain ⟨rfl, rfl⟩ := hrel
    gi_wp2
    go_end0
    exact ⟨⟨_, rfl⟩, .inl h0⟩
end Ib
end Go.Proofs.YtkkpahmoljiepaaGreatDoor
