/- A range over a function whose iterator may itself range over a function: a contract of iterators, and the law of the statement. Nothing of the translation is named here. -/
import Derived.RangeFuncLeaves
import Derived.RangeFuncOwn
import Derived.Below
set_option linter.unusedSimpArgs false
set_option linter.unusedVariables false
namespace Go.Proofs.YtjkllohiodfikaaGreatDoor
open Go.RowKit

namespace It
variable {P : Program} {α : Type}

/-- What an iterator gives: each of xs in its order, to a yield whose rounds keep 'Kp' where they go on and 'Kx' where they stop; its own steps are 'St'. -/
def Seq (P : Program) (g : Nat) (lb : Array Value) (encs : α → Array Value) (xs : List α) (St Kp Kx : World → World → Prop) (W0 : World) : Prop :=
  ∀ (l : Nat) (J : Nat → World → Prop) (Jx : World → Prop),
    (∀ i A B, J i A → St A B → J i B) → (∀ A B, Jx A → St A B → Jx B) →
    (∀ i x W, xs[i]? = some x → J i W → YieldAt Fence.wide 0 P l (encs x) W fun e W' =>
      (e = .returned (.bool true) ∧ J (i + 1) W' ∧ Kp W W') ∨ (e = .returned (.bool false) ∧ Jx W' ∧ Kx W W')) →
    J 0 W0 →
    CallsIn Fence.wide 0 P g (#[.func (.yield l) #[] #[]] ++ lb) W0 fun e W' => (∃ v, e = .returned v) ∧ (J xs.length W' ∨ Jx W')

/-- The two objects of a loop lie as they lay. -/
def Loops (d : Nat) (A B : World) : Prop := A.heap.size ≤ B.heap.size ∧ B.heap[d]? = A.heap[d]? ∧ B.heap[d + 1]? = A.heap[d + 1]?

/-- How a round's body may be left. -/
def post (d : Nat) (Kb Kbx : World → World → Prop) (I : World → Prop) (Ix : Code → World → Prop) (W : World) : Exit → Act → World → Prop
  | .normal, _, W' => Loops d W W' ∧ Kb W W' ∧ I W'
  | .ret, _, W' => Loops d W W' ∧ Kbx W W' ∧ Ix .ret W'
  | .exit id, _, W' => Loops d W W' ∧ Kbx W W' ∧ Ix (.exit id) W'
  | .goto t, _, W' => Loops d W W' ∧ Kbx W W' ∧ Ix (.goto t) W'
  | .panic _, _, _ => False
  | .outgrown, _, _ => False

theorem rangeW {g : Operand} {ps : Array Tmp} {assign body : Code} {Q : Exit → Act → World → Prop} {a : Act} {w : World}
    {gf : Nat} {lb : Array Value} (hg : a.eval g = .func (.func gf) #[] lb) (eg : ∀ args w, (callFunc gf args).run P w = .ok (.enter gf args) w)
    {encs : α → Array Value} {xs : List α} {St Kp Kx : World → World → Prop} (hps : ∀ x, (encs x).size = ps.size)
    (hseq : ∀ r, Seq P gf lb encs xs St Kp Kx ((w.alloc (.deferred (some []))).alloc (.loop r)))
    (I : Nat → World → Prop) (Ix : Code → World → Prop)
    (hSt : ∀ A B, w.heap.size + 2 ≤ A.heap.size → St A B → Loops w.heap.size A B)
    (hI : ∀ i A B, I i A → St A B → I i B) (hIx : ∀ c A B, Ix c A → St A B → Ix c B)
    (hIp : ∀ i A r o, I i A → A.heap[w.heap.size + 1]? = some (.loop r) → I i (A.putObj (w.heap.size + 1) o))
    (hIxp : ∀ c A r o, Ix c A → A.heap[w.heap.size + 1]? = some (.loop r) → Ix c (A.putObj (w.heap.size + 1) o))
    (h0 : ∀ r, I 0 ((w.alloc (.deferred (some []))).alloc (.loop r)))
    (Kb : World → World → Prop)
    (hKp : ∀ W r r' r'' Wc, W.heap[w.heap.size + 1]? = some (.loop r) → Kb (W.putObj (w.heap.size + 1) (.loop r')) Wc → Loops w.heap.size (W.putObj (w.heap.size + 1) (.loop r')) Wc → Kp W (Wc.putObj (w.heap.size + 1) (.loop r'')))
    (Kbx : World → World → Prop)
    (hKx : ∀ W r r' r'' Wc, W.heap[w.heap.size + 1]? = some (.loop r) → Kbx (W.putObj (w.heap.size + 1) (.loop r')) Wc → Loops w.heap.size (W.putObj (w.heap.size + 1) (.loop r')) Wc → Kx W (Wc.putObj (w.heap.size + 1) (.loop r'')))
    (hround : ∀ (l i : Nat) (x : α) (V W : World), xs[i]? = some x → I i W → w.heap.size + 2 ≤ W.heap.size →
      assign.wpIn (Fence.wide.inRound l) 0 P (Exit.then (fun a₁ V' => V' = V ∧ body.wpIn (Fence.wide.inRound l) 0 P (post w.heap.size Kb Kbx (I (i + 1)) Ix W) a₁ W) (fun _ _ _ => False)) { tmps := (ps.zip (encs x)).foldl (fun t (p, v) => t.setIfInBounds p v) a.tmps, defers := [] } V)
    (hdone : ∀ W, I xs.length W → W.heap[w.heap.size]? = some (.deferred (some [])) → w.heap.size + 2 ≤ W.heap.size → Q .normal { a with defers := { target := .collected w.heap.size, args := #[] } :: a.defers } W)
    (hstop : ∀ c W, Ix c W → W.heap[w.heap.size]? = some (.deferred (some [])) → w.heap.size + 2 ≤ W.heap.size → c.wpIn Fence.wide 0 P Q { a with defers := { target := .collected w.heap.size, args := #[] } :: a.defers } W) :
    (Code.rangeFunc g ps assign body).wpIn Fence.wide 0 P Q a w := by
  refine wpIn_rangeFunc fun fn hfn => ?_
  obtain ⟨D, hD⟩ : ∃ D, D = w.heap.size := ⟨_, rfl⟩
  obtain ⟨rec, hrec⟩ : ∃ rec : LoopState → Option Code → Loop, rec = fun st pe => { state := st, pending := pe, fn, tmps := a.tmps, params := ps, assign, body, defers := w.heap.size } := ⟨_, rfl⟩
  have henter := run_enterLoop_outer (P := P) (w := w) fn a.tmps ps assign body
  refine ⟨w.heap.size + 1, [{ target := .collected w.heap.size, args := #[] }], (w.alloc (.deferred (some []))).alloc (.loop (rec .ready none)),
    { target := .fn (.func gf) lb, args := #[.func (.yield (w.heap.size + 1)) #[] #[]] }, (w.alloc (.deferred (some []))).alloc (.loop (rec .ready none)), gf,
    #[.func (.yield (w.heap.size + 1)) #[] #[]] ++ lb, (w.alloc (.deferred (some []))).alloc (.loop (rec .ready none)), ?_, ?_, fun _ _ => trivial, ?_, fun h => by simp [Fence.wide] at h, ?_⟩
  · rw [hrec]; exact henter
  · simp only [resolve, hg]
    simp [go_sem]
  · simp [invoke, go_sem, eg]
  · obtain ⟨W1, hW1⟩ : ∃ W1, (w.alloc (.deferred (some []))).alloc (.loop (rec .ready none)) = W1 := ⟨_, rfl⟩
    have hl1 : W1.heap[w.heap.size + 1]? = some (.loop (rec .ready none)) := by
      rw [← hW1]; have := World.alloc_heap_new (w.alloc (.deferred (some []))) (.loop (rec .ready none)); rwa [World.size_alloc] at this
    have hd1 : W1.heap[w.heap.size]? = some (.deferred (some [])) := by
      rw [← hW1]; exact (Below.heap_alloc _ _ _ (by simp)).trans (World.alloc_heap_new w _)
    have hsz : ∀ W : World, (∃ o, W.heap[w.heap.size + 1]? = some o) → w.heap.size + 2 ≤ W.heap.size := fun W ⟨o, h⟩ => by
      have := (Array.getElem?_eq_some_iff.1 h).1; omega
    have hs := hseq (rec .ready none) (w.heap.size + 1)
      (fun i W => I i W ∧ W.heap[w.heap.size + 1]? = some (.loop (rec .ready none)) ∧ W.heap[w.heap.size]? = some (.deferred (some [])))
      (fun W => ∃ c, Ix c W ∧ W.heap[w.heap.size + 1]? = some (.loop (rec .done (some c))) ∧ W.heap[w.heap.size]? = some (.deferred (some [])))
      (fun i A B hA hst => by
        obtain ⟨h1, h2, h3⟩ := hA
        have hL := hSt A B (hsz A ⟨_, h2⟩) hst
        exact ⟨hI i A B h1 hst, hL.2.2.trans h2, hL.2.1.trans h3⟩)
      (fun A B hA hst => by
        obtain ⟨c, h1, h2, h3⟩ := hA
        have hL := hSt A B (hsz A ⟨_, h2⟩) hst
        exact ⟨c, hIx c A B h1 hst, hL.2.2.trans h2, hL.2.1.trans h3⟩)
      (fun i x W hx hj => by
        obtain ⟨h1, h2, h3⟩ := hj
        have hy := run_yield (P := P) (args := encs x) h2 (by rw [hrec]; exact hps x)
        rw [hrec] at hy
        have hlt : w.heap.size + 1 < W.heap.size := (Array.getElem?_eq_some_iff.1 h2).1
        have e2 : (W.putObj (w.heap.size + 1) (.loop { rec .ready none with state := .busy })).heap[w.heap.size + 1]? = some (.loop { rec .ready none with state := .busy }) := World.putObj_heap_same hlt
        have e3 : (W.putObj (w.heap.size + 1) (.loop { rec .ready none with state := .busy })).heap[w.heap.size]? = some (.deferred (some [])) := (World.putObj_heap_other (by omega)).trans h3
        refine ⟨fn, _, assign, body, hy, roundIn_of_wpIn hfn (wpIn_mono (hround _ i x W (W.putObj (w.heap.size + 1) (.loop { rec .ready none with state := .busy })) hx (hIp i W _ _ h1 h2) (by rw [World.putObj_size]; omega)) ?_)⟩
        rintro e0 a0 V0 hp0
        have hn0 : e0 = .normal := by cases e0 <;> first | rfl | exact hp0.elim
        subst hn0
        obtain ⟨hV0, hbd⟩ := hp0
        replace hV0 := hV0.symm
        subst hV0
        refine ⟨_, run_beginRound h2 (by rw [hrec]), wpIn_mono hbd ?_⟩
        have fin : ∀ (jump : Option Code) (W3 : World), Loops w.heap.size (W.putObj (w.heap.size + 1) (.loop { rec .ready none with state := .busy })) W3 →
            (Instr.endRound (w.heap.size + 1) jump).run P W3 = .ok (.bool jump.isNone) (W3.putObj (w.heap.size + 1) (.loop (rec (if jump.isNone then .ready else .done) jump))) ∧
            W3.heap[w.heap.size + 1]? = some (.loop { rec .ready none with state := .busy }) ∧
            (W3.putObj (w.heap.size + 1) (.loop (rec (if jump.isNone then .ready else .done) jump))).heap[w.heap.size + 1]? = some (.loop (rec (if jump.isNone then .ready else .done) jump)) ∧
            (W3.putObj (w.heap.size + 1) (.loop (rec (if jump.isNone then .ready else .done) jump))).heap[w.heap.size]? = some (.deferred (some [])) := fun jump W3 hL => by
          have l3 := hL.2.2.trans e2
          have hr := run_endRound (P := P) jump l3
          refine ⟨?_, l3, World.putObj_heap_same (Array.getElem?_eq_some_iff.1 l3).1, (World.putObj_heap_other (by omega)).trans (hL.2.1.trans e3)⟩
          rw [hr, hrec]
        rintro e a3 W3 hp
        cases e with
        | normal =>
          obtain ⟨hL, hk, hi⟩ := hp
          obtain ⟨f1, f2, f3, f4⟩ := fin none W3 hL
          exact ⟨_, _, f1, .inl ⟨rfl, ⟨hIp _ _ _ _ hi f2, f3, f4⟩, hKp W _ _ _ W3 h2 hk hL⟩⟩
        | ret =>
          obtain ⟨hL, hk, hi⟩ := hp
          obtain ⟨f1, f2, f3, f4⟩ := fin (some .ret) W3 hL
          exact ⟨_, _, f1, .inr ⟨rfl, ⟨.ret, hIxp _ _ _ _ hi f2, f3, f4⟩, hKx W _ _ _ W3 h2 hk hL⟩⟩
        | exit id =>
          obtain ⟨hL, hk, hi⟩ := hp
          obtain ⟨f1, f2, f3, f4⟩ := fin (some (.exit id)) W3 hL
          exact ⟨_, _, f1, .inr ⟨rfl, ⟨.exit id, hIxp _ _ _ _ hi f2, f3, f4⟩, hKx W _ _ _ W3 h2 hk hL⟩⟩
        | goto t =>
          obtain ⟨hL, hk, hi⟩ := hp
          obtain ⟨f1, f2, f3, f4⟩ := fin (some (.goto t)) W3 hL
          exact ⟨_, _, f1, .inr ⟨rfl, ⟨.goto t, hIxp _ _ _ _ hi f2, f3, f4⟩, hKx W _ _ _ W3 h2 hk hL⟩⟩
        | panic ch => exact hp.elim
        | outgrown => exact hp.elim)
      (by rw [hW1]; exact ⟨by rw [← hW1]; exact h0 _, hl1, hd1⟩)
    refine hs.mono ?_
    rintro e W2 ⟨⟨v, rfl⟩, ⟨hi, hl, hk⟩ | ⟨c, hi, hl, hk⟩⟩
    · have := run_endLoop (P := P) hl (by rw [hrec]; simp)
      exact ⟨none, _, by rw [this, hrec], hdone _ (hIp _ _ _ _ hi hl) ((World.putObj_heap_other (by omega)).trans hk) (by rw [World.putObj_size]; exact hsz _ ⟨_, hl⟩)⟩
    · have := run_endLoop (P := P) hl (by rw [hrec]; simp)
      exact ⟨some c, _, by rw [this, hrec], hstop c _ (hIxp _ _ _ _ hi hl) ((World.putObj_heap_other (by omega)).trans hk) (by rw [World.putObj_size]; exact hsz _ ⟨_, hl⟩)⟩

theorem range {g : Operand} {ps : Array Tmp} {assign body : Code} {Q : Exit → Act → World → Prop} {a : Act} {w : World}
    {gf : Nat} {lb : Array Value} (hg : a.eval g = .func (.func gf) #[] lb) (eg : ∀ args w, (callFunc gf args).run P w = .ok (.enter gf args) w)
    {encs : α → Array Value} {xs : List α} {St Kp Kx : World → World → Prop} (hps : ∀ x, (encs x).size = ps.size)
    (hseq : ∀ r, Seq P gf lb encs xs St Kp Kx ((w.alloc (.deferred (some []))).alloc (.loop r)))
    (I : Nat → World → Prop) (Ix : Code → World → Prop)
    (hSt : ∀ A B, w.heap.size + 2 ≤ A.heap.size → St A B → Loops w.heap.size A B)
    (hI : ∀ i A B, I i A → St A B → I i B) (hIx : ∀ c A B, Ix c A → St A B → Ix c B)
    (hIp : ∀ i A r o, I i A → A.heap[w.heap.size + 1]? = some (.loop r) → I i (A.putObj (w.heap.size + 1) o))
    (hIxp : ∀ c A r o, Ix c A → A.heap[w.heap.size + 1]? = some (.loop r) → Ix c (A.putObj (w.heap.size + 1) o))
    (h0 : ∀ r, I 0 ((w.alloc (.deferred (some []))).alloc (.loop r)))
    (Kb : World → World → Prop)
    (hKp : ∀ W r r' r'' Wc, W.heap[w.heap.size + 1]? = some (.loop r) → Kb (W.putObj (w.heap.size + 1) (.loop r')) Wc → Loops w.heap.size (W.putObj (w.heap.size + 1) (.loop r')) Wc → Kp W (Wc.putObj (w.heap.size + 1) (.loop r'')))
    (Kbx : World → World → Prop)
    (hKx : ∀ W r r' r'' Wc, W.heap[w.heap.size + 1]? = some (.loop r) → Kbx (W.putObj (w.heap.size + 1) (.loop r')) Wc → Loops w.heap.size (W.putObj (w.heap.size + 1) (.loop r')) Wc → Kx W (Wc.putObj (w.heap.size + 1) (.loop r'')))
    (a₁ : α → Act)
    (hassign : ∀ (l : Nat) (x : α) (W : World) (K : Act → World → Prop), K (a₁ x) W →
      assign.wpIn (Fence.wide.inRound l) 0 P (Exit.then K (fun _ _ _ => False)) { tmps := (ps.zip (encs x)).foldl (fun t (p, v) => t.setIfInBounds p v) a.tmps, defers := [] } W)
    (hbody : ∀ (l i : Nat) (x : α) (W : World), xs[i]? = some x → I i W → w.heap.size + 2 ≤ W.heap.size → body.wpIn (Fence.wide.inRound l) 0 P (post w.heap.size Kb Kbx (I (i + 1)) Ix W) (a₁ x) W)
    (hdone : ∀ W, I xs.length W → W.heap[w.heap.size]? = some (.deferred (some [])) → w.heap.size + 2 ≤ W.heap.size → Q .normal { a with defers := { target := .collected w.heap.size, args := #[] } :: a.defers } W)
    (hstop : ∀ c W, Ix c W → W.heap[w.heap.size]? = some (.deferred (some [])) → w.heap.size + 2 ≤ W.heap.size → c.wpIn Fence.wide 0 P Q { a with defers := { target := .collected w.heap.size, args := #[] } :: a.defers } W) :
    (Code.rangeFunc g ps assign body).wpIn Fence.wide 0 P Q a w :=
  rangeW hg eg hps hseq I Ix hSt hI hIx hIp hIxp h0 Kb hKp Kbx hKx (fun l i x V W hx hi hs => hassign l x V _ ⟨rfl, hbody l i x W hx hi hs⟩) hdone hstop

/-- Three blocks lie as they lay. -/
def Keep3 (x y z : Nat) (A B : World) : Prop := A.heap.size ≤ B.heap.size ∧ B.heap[x]? = A.heap[x]? ∧ B.heap[y]? = A.heap[y]? ∧ B.heap[z]? = A.heap[z]?
theorem Keep3.refl (x y z : Nat) (A : World) : Keep3 x y z A A := ⟨Nat.le_refl _, rfl, rfl, rfl⟩
theorem Keep3.trans {x y z : Nat} {A B C : World} (h : Keep3 x y z A B) (k : Keep3 x y z B C) : Keep3 x y z A C :=
  ⟨Nat.le_trans h.1 k.1, k.2.1.trans h.2.1, k.2.2.1.trans h.2.2.1, k.2.2.2.trans h.2.2.2⟩
theorem Keep3.of_below {x y z nb : Nat} {A B : World} (h : Below nb A B) (hx : x < nb) (hy : y < nb) (hz : z < nb) : Keep3 x y z A B :=
  ⟨h.size, h.block x hx, h.block y hy, h.block z hz⟩
/-- What lay from hs on lies as it lay. -/
def Above (hs : Nat) (A B : World) : Prop := A.heap.size ≤ B.heap.size ∧ ∀ k, hs ≤ k → k < A.heap.size → B.heap[k]? = A.heap[k]?
theorem Above.refl (hs : Nat) (A : World) : Above hs A A := ⟨Nat.le_refl _, fun _ _ _ => rfl⟩
theorem Above.trans {hs : Nat} {A B C : World} (h : Above hs A B) (k : Above hs B C) : Above hs A C :=
  ⟨Nat.le_trans h.1 k.1, fun i hi hl => (k.2 i hi (Nat.lt_of_lt_of_le hl h.1)).trans (h.2 i hi hl)⟩
theorem Above.mono {hs hs' : Nat} {A B : World} (h : Above hs A B) (hle : hs ≤ hs') : Above hs' A B := ⟨h.1, fun k hk hl => h.2 k (Nat.le_trans hle hk) hl⟩
/-- a step that only adds. -/
theorem Above.of_grown {hs : Nat} {A B : World} (h : Below A.heap.size A B) : Above hs A B := ⟨h.size, fun k _ hl => h.block k hl⟩
end It
end Go.Proofs.YtjkllohiodfikaaGreatDoor
