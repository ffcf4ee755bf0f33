/- The law of a range over a function, for a loop whose state lies in blocks that lay ahead of it. Nothing of the translation is named here. -/
import Derived.Test.YtjkllohiodfikaaGreatDoorIt
import Derived.RangeFuncKeeps
set_option linter.unusedSimpArgs false
set_option linter.unusedVariables false
namespace Go.Proofs.YtjkllohiodfikaaGreatDoor
open Go.RowKit

namespace It
variable {P : Program} {α : Type}

/-- How a round's body may be left: what lay from d on lies as it lay; where it goes on, the listed blocks too. -/
def postA (d : Nat) (ks : List Nat) (I : World → Prop) (Ix : Code → World → Prop) (W : World) : Exit → Act → World → Prop
  | .normal, _, W' => Above d W W' ∧ (∀ k ∈ ks, W'.heap[k]? = W.heap[k]?) ∧ I W'
  | .ret, _, W' => Above d W W' ∧ Ix .ret W'
  | .exit id, _, W' => Above d W W' ∧ Ix (.exit id) W'
  | .goto t, _, W' => Above d W W' ∧ Ix (.goto t) W'
  | .panic _, _, _ => False
  | .outgrown, _, _ => False

/-- All blocks but one lie as they lay. -/
structure Keeps (d : Nat) (A B : World) : Prop where
  os : B.os = A.os
  tape : B.tape = A.tape
  output : B.output = A.output
  size : A.heap.size ≤ B.heap.size
  block : ∀ k, k < A.heap.size → k ≠ d → B.heap[k]? = A.heap[k]?
theorem Keeps.of_below {d : Nat} {A B : World} (h : Below A.heap.size A B) : Keeps d A B := ⟨h.os, h.tape, h.output, h.size, fun k hk _ => h.block k hk⟩
theorem Keeps.put {d : Nat} (A : World) (k : Nat) (o : Obj) (h : k = d := by rfl) : Keeps d A (A.putObj k o) := ⟨rfl, rfl, rfl, by rw [World.putObj_size]; exact Nat.le_refl _, fun j _ hj => World.putObj_heap_other (by omega)⟩
theorem Keeps.below {d n : Nat} {A B : World} (h : Keeps d A B) (hn : n ≤ d) (hs : n ≤ A.heap.size) : Below n A B := ⟨h.os, h.tape, h.output, h.size, fun k hk => h.block k (by omega) (by omega)⟩

theorem rangeB {g : Operand} {ps : Array Tmp} {assign body : Code} {Q : Exit → Act → World → Prop} {a : Act} {w : World}
    {gf : Nat} {lb : Array Value} (hg : a.eval g = .func (.func gf) #[] lb) (eg : ∀ args w, (callFunc gf args).run P w = .ok (.enter gf args) w)
    {encs : α → Array Value} {xs : List α} {St Kp Kx : World → World → Prop} (hps : ∀ x, (encs x).size = ps.size)
    (hseq : ∀ r, Seq P gf lb encs xs St Kp Kx ((w.alloc (.deferred (some []))).alloc (.loop r)))
    (ks : List Nat) (hks : ∀ k ∈ ks, k < w.heap.size)
    (hSt : ∀ A B, w.heap.size + 2 ≤ A.heap.size → St A B → Below (w.heap.size + 2) A B)
    (hKp : ∀ A B, (∀ k ∈ ks, B.heap[k]? = A.heap[k]?) → Above (w.heap.size + 2) A B → Kp A B)
    (hKx : ∀ A B, Above (w.heap.size + 2) A B → Kx A B)
    (I : Nat → World → Prop) (Ix : Code → World → Prop)
    (hI : ∀ i A B, I i A → Below w.heap.size A B → I i B) (hIx : ∀ c A B, Ix c A → Below w.heap.size A B → Ix c B)
    (h0 : I 0 w)
    (hround : ∀ (l i : Nat) (x : α) (V W : World), xs[i]? = some x → I i W → w.heap.size + 2 ≤ W.heap.size →
      assign.wpIn (Fence.wide.inRound l) 0 P (Exit.then (fun a₁ V' => V' = V ∧ body.wpIn (Fence.wide.inRound l) 0 P (postA w.heap.size ks (I (i + 1)) Ix W) a₁ W) (fun _ _ _ => False)) { tmps := (ps.zip (encs x)).foldl (fun t (p, v) => t.setIfInBounds p v) a.tmps, defers := [] } V)
    (hdone : ∀ W, I xs.length W → W.heap[w.heap.size]? = some (.deferred (some [])) → w.heap.size + 2 ≤ W.heap.size → Q .normal { a with defers := { target := .collected w.heap.size, args := #[] } :: a.defers } W)
    (hstop : ∀ c W, Ix c W → W.heap[w.heap.size]? = some (.deferred (some [])) → w.heap.size + 2 ≤ W.heap.size → c.wpIn Fence.wide 0 P Q { a with defers := { target := .collected w.heap.size, args := #[] } :: a.defers } W) :
    (Code.rangeFunc g ps assign body).wpIn Fence.wide 0 P Q a w := by
  have hput : ∀ (A : World) (r : Loop) (o : Obj), A.heap[w.heap.size + 1]? = some (.loop r) → Below w.heap.size A (A.putObj (w.heap.size + 1) o) := fun A r o hrec =>
    belowK_b (w := w) (Nat.le_refl _) A _ _ o (by omega) hrec rfl rfl
  have hab : ∀ (W : World) (r r' r'' : Loop) (Wc : World), W.heap[w.heap.size + 1]? = some (.loop r) → Above w.heap.size (W.putObj (w.heap.size + 1) (.loop r')) Wc → Above (w.heap.size + 2) W (Wc.putObj (w.heap.size + 1) (.loop r'')) := by
    intro W r r' r'' Wc hrec hk
    have hs := hk.1
    rw [World.putObj_size] at hs
    refine ⟨by rw [World.putObj_size]; exact hs, fun k hk1 hk2 => ?_⟩
    rw [World.putObj_heap_other (by omega), hk.2 _ (by omega) (by rw [World.putObj_size]; omega), World.putObj_heap_other (by omega)]
  refine rangeW (Kb := fun A B => Above w.heap.size A B ∧ ∀ k ∈ ks, B.heap[k]? = A.heap[k]?) (Kbx := fun A B => Above w.heap.size A B) hg eg hps hseq
    (fun i W => I i W ∧ w.heap.size + 2 ≤ W.heap.size) (fun c W => Ix c W ∧ w.heap.size + 2 ≤ W.heap.size) ?_ ?_ ?_ ?_ ?_ ?_ ?_ ?_ ?_ (fun W h => hdone W h.1) (fun c W h => hstop c W h.1)
  · intro A B hA hst
    have := hSt A B hA hst
    exact ⟨this.size, this.block _ (by omega), this.block _ (by omega)⟩
  · intro i A B hA hst
    have := hSt A B hA.2 hst
    exact ⟨hI i A B hA.1 (this.mono (by omega)), Nat.le_trans hA.2 this.size⟩
  · intro c A B hA hst
    have := hSt A B hA.2 hst
    exact ⟨hIx c A B hA.1 (this.mono (by omega)), Nat.le_trans hA.2 this.size⟩
  · exact fun i A r o h hrec => ⟨hI i A _ h.1 (hput A r o hrec), by rw [World.putObj_size]; exact h.2⟩
  · exact fun c A r o h hrec => ⟨hIx c A _ h.1 (hput A r o hrec), by rw [World.putObj_size]; exact h.2⟩
  · exact fun r => ⟨hI 0 w _ h0 (((Below.refl _ _).alloc (Nat.le_refl _) _).alloc (by simp) _), by simp⟩
  · intro W r r' r'' Wc hrec hk hL
    refine hKp _ _ (fun k hk' => ?_) (hab W r r' r'' Wc hrec hk.1)
    have := hks k hk'
    rw [World.putObj_heap_other (by omega), hk.2 k hk', World.putObj_heap_other (by omega)]
  · intro W r r' r'' Wc hrec hk hL
    exact hKx _ _ (hab W r r' r'' Wc hrec hk)
  · intro l i x V W hx hi hsz
    refine wpIn_mono (hround l i x V W hx hi.1 hsz) ?_
    rintro e0 a0 V0 hp0
    have hn0 : e0 = .normal := by cases e0 <;> first | rfl | exact hp0.elim
    subst hn0
    obtain ⟨hV0, hbd⟩ := hp0
    refine ⟨hV0, wpIn_mono hbd ?_⟩
    rintro e a3 W3 hp
    cases e with
    | normal => exact ⟨⟨hp.1.1, hp.1.2 _ (Nat.le_refl _) (by omega), hp.1.2 _ (by omega) (by omega)⟩, ⟨hp.1, hp.2.1⟩, hp.2.2, Nat.le_trans hsz hp.1.1⟩
    | ret => exact ⟨⟨hp.1.1, hp.1.2 _ (Nat.le_refl _) (by omega), hp.1.2 _ (by omega) (by omega)⟩, hp.1, hp.2, Nat.le_trans hsz hp.1.1⟩
    | exit id => exact ⟨⟨hp.1.1, hp.1.2 _ (Nat.le_refl _) (by omega), hp.1.2 _ (by omega) (by omega)⟩, hp.1, hp.2, Nat.le_trans hsz hp.1.1⟩
    | goto t => exact ⟨⟨hp.1.1, hp.1.2 _ (Nat.le_refl _) (by omega), hp.1.2 _ (by omega) (by omega)⟩, hp.1, hp.2, Nat.le_trans hsz hp.1.1⟩
    | panic ch => exact hp.elim
    | outgrown => exact hp.elim

theorem rangeC {g : Operand} {ps : Array Tmp} {assign body : Code} {Q : Exit → Act → World → Prop} {a : Act} {w : World}
    {gf : Nat} {lb : Array Value} (hg : a.eval g = .func (.func gf) #[] lb) (eg : ∀ args w, (callFunc gf args).run P w = .ok (.enter gf args) w)
    {encs : α → Array Value} {xs : List α} {St Kp Kx : World → World → Prop} (hps : ∀ x, (encs x).size = ps.size)
    (hseq : ∀ r, Seq P gf lb encs xs St Kp Kx ((w.alloc (.deferred (some []))).alloc (.loop r)))
    (ks : List Nat) (hks : ∀ k ∈ ks, k < w.heap.size)
    (hSt : ∀ A B, St A B → Below A.heap.size A B)
    (hKp : ∀ A B, (∀ k ∈ ks, B.heap[k]? = A.heap[k]?) → Above (w.heap.size + 2) A B → Kp A B)
    (hKx : ∀ A B, Above (w.heap.size + 2) A B → Kx A B)
    (I : Nat → World → Prop) (Ix : Code → World → Prop)
    (hI : ∀ i A B, I i A → w.heap.size ≤ A.heap.size → Keeps (w.heap.size + 1) A B → I i B) (hIx : ∀ c A B, Ix c A → w.heap.size + 2 ≤ A.heap.size → Keeps (w.heap.size + 1) A B → Ix c B)
    (h0 : I 0 w)
    (hround : ∀ (l i : Nat) (x : α) (V W : World), xs[i]? = some x → I i W → w.heap.size + 2 ≤ W.heap.size →
      assign.wpIn (Fence.wide.inRound l) 0 P (Exit.then (fun a₁ V' => V' = V ∧ body.wpIn (Fence.wide.inRound l) 0 P (postA w.heap.size ks (I (i + 1)) Ix W) a₁ W) (fun _ _ _ => False)) { tmps := (ps.zip (encs x)).foldl (fun t (p, v) => t.setIfInBounds p v) a.tmps, defers := [] } V)
    (hdone : ∀ W, I xs.length W → W.heap[w.heap.size]? = some (.deferred (some [])) → w.heap.size + 2 ≤ W.heap.size → Q .normal { a with defers := { target := .collected w.heap.size, args := #[] } :: a.defers } W)
    (hstop : ∀ c W, Ix c W → W.heap[w.heap.size]? = some (.deferred (some [])) → w.heap.size + 2 ≤ W.heap.size → c.wpIn Fence.wide 0 P Q { a with defers := { target := .collected w.heap.size, args := #[] } :: a.defers } W) :
    (Code.rangeFunc g ps assign body).wpIn Fence.wide 0 P Q a w := by
  have hput : ∀ (A : World) (r : Loop) (o : Obj), A.heap[w.heap.size + 1]? = some (.loop r) → Keeps (w.heap.size + 1) A (A.putObj (w.heap.size + 1) o) := fun A r o hrec => Keeps.put A _ o
  have hab : ∀ (W : World) (r r' r'' : Loop) (Wc : World), W.heap[w.heap.size + 1]? = some (.loop r) → Above w.heap.size (W.putObj (w.heap.size + 1) (.loop r')) Wc → Above (w.heap.size + 2) W (Wc.putObj (w.heap.size + 1) (.loop r'')) := by
    intro W r r' r'' Wc hrec hk
    have hs := hk.1
    rw [World.putObj_size] at hs
    refine ⟨by rw [World.putObj_size]; exact hs, fun k hk1 hk2 => ?_⟩
    rw [World.putObj_heap_other (by omega), hk.2 _ (by omega) (by rw [World.putObj_size]; omega), World.putObj_heap_other (by omega)]
  refine rangeW (Kb := fun A B => Above w.heap.size A B ∧ ∀ k ∈ ks, B.heap[k]? = A.heap[k]?) (Kbx := fun A B => Above w.heap.size A B) hg eg hps hseq
    (fun i W => I i W ∧ w.heap.size + 2 ≤ W.heap.size) (fun c W => Ix c W ∧ w.heap.size + 2 ≤ W.heap.size) ?_ ?_ ?_ ?_ ?_ ?_ ?_ ?_ ?_ (fun W h => hdone W h.1) (fun c W h => hstop c W h.1)
  · intro A B hA hst
    have := hSt A B hst
    exact ⟨this.size, this.block _ (by omega), this.block _ (by omega)⟩
  · intro i A B hA hst
    have := hSt A B hst
    exact ⟨hI i A B hA.1 (by omega) (Keeps.of_below this), Nat.le_trans hA.2 this.size⟩
  · intro c A B hA hst
    have := hSt A B hst
    exact ⟨hIx c A B hA.1 hA.2 (Keeps.of_below this), Nat.le_trans hA.2 this.size⟩
  · exact fun i A r o h hrec => ⟨hI i A _ h.1 (by omega) (hput A r o hrec), by rw [World.putObj_size]; exact h.2⟩
  · exact fun c A r o h hrec => ⟨hIx c A _ h.1 h.2 (hput A r o hrec), by rw [World.putObj_size]; exact h.2⟩
  · exact fun r => ⟨hI 0 w _ h0 (Nat.le_refl _) (Keeps.of_below (((Below.refl _ _).alloc (Nat.le_refl _) _).alloc (by simp) _)), by simp⟩
  · intro W r r' r'' Wc hrec hk hL
    refine hKp _ _ (fun k hk' => ?_) (hab W r r' r'' Wc hrec hk.1)
    have := hks k hk'
    rw [World.putObj_heap_other (by omega), hk.2 k hk', World.putObj_heap_other (by omega)]
  · intro W r r' r'' Wc hrec hk hL
    exact hKx _ _ (hab W r r' r'' Wc hrec hk)
  · intro l i x V W hx hi hsz
    refine wpIn_mono (hround l i x V W hx hi.1 hsz) ?_
    rintro e0 a0 V0 hp0
    have hn0 : e0 = .normal := by cases e0 <;> first | rfl | exact hp0.elim
    subst hn0
    obtain ⟨hV0, hbd⟩ := hp0
    refine ⟨hV0, wpIn_mono hbd ?_⟩
    rintro e a3 W3 hp
    cases e with
    | normal => exact ⟨⟨hp.1.1, hp.1.2 _ (Nat.le_refl _) (by omega), hp.1.2 _ (by omega) (by omega)⟩, ⟨hp.1, hp.2.1⟩, hp.2.2, Nat.le_trans hsz hp.1.1⟩
    | ret => exact ⟨⟨hp.1.1, hp.1.2 _ (Nat.le_refl _) (by omega), hp.1.2 _ (by omega) (by omega)⟩, hp.1, hp.2, Nat.le_trans hsz hp.1.1⟩
    | exit id => exact ⟨⟨hp.1.1, hp.1.2 _ (Nat.le_refl _) (by omega), hp.1.2 _ (by omega) (by omega)⟩, hp.1, hp.2, Nat.le_trans hsz hp.1.1⟩
    | goto t => exact ⟨⟨hp.1.1, hp.1.2 _ (Nat.le_refl _) (by omega), hp.1.2 _ (by omega) (by omega)⟩, hp.1, hp.2, Nat.le_trans hsz hp.1.1⟩
    | panic ch => exact hp.elim
    | outgrown => exact hp.elim

/-- How a round's body may be left: the loop's two objects lie as they lay; where it goes on, the listed blocks too. -/
def postD (d : Nat) (ks : List Nat) (I : World → Prop) (Ix : Code → World → Prop) (W : World) : Exit → Act → World → Prop
  | .normal, _, W' => Loops d W W' ∧ (∀ k ∈ ks, W'.heap[k]? = W.heap[k]?) ∧ I W'
  | .ret, _, W' => Loops d W W' ∧ Ix .ret W'
  | .exit id, _, W' => Loops d W W' ∧ Ix (.exit id) W'
  | .goto t, _, W' => Loops d W W' ∧ Ix (.goto t) W'
  | .panic _, _, _ => False
  | .outgrown, _, _ => False

theorem rangeD {g : Operand} {ps : Array Tmp} {assign body : Code} {Q : Exit → Act → World → Prop} {a : Act} {w : World}
    {gf : Nat} {lb : Array Value} (hg : a.eval g = .func (.func gf) #[] lb) (eg : ∀ args w, (callFunc gf args).run P w = .ok (.enter gf args) w)
    {encs : α → Array Value} {xs : List α} {St Kp Kx : World → World → Prop} (hps : ∀ x, (encs x).size = ps.size)
    (hseq : ∀ r, Seq P gf lb encs xs St Kp Kx ((w.alloc (.deferred (some []))).alloc (.loop r)))
    (ks : List Nat) (hks : ∀ k ∈ ks, k < w.heap.size)
    (hSt : ∀ A B, St A B → Below A.heap.size A B)
    (hKp : ∀ A B, (∀ k ∈ ks, B.heap[k]? = A.heap[k]?) → A.heap.size ≤ B.heap.size → Kp A B)
    (hKx : ∀ A B, Kx A B)
    (I : Nat → World → Prop) (Ix : Code → World → Prop)
    (hI : ∀ i A B, I i A → w.heap.size ≤ A.heap.size → Keeps (w.heap.size + 1) A B → I i B) (hIx : ∀ c A B, Ix c A → w.heap.size + 2 ≤ A.heap.size → Keeps (w.heap.size + 1) A B → Ix c B)
    (h0 : I 0 w)
    (hround : ∀ (l i : Nat) (x : α) (V W : World), xs[i]? = some x → I i W → w.heap.size + 2 ≤ W.heap.size →
      assign.wpIn (Fence.wide.inRound l) 0 P (Exit.then (fun a₁ V' => V' = V ∧ body.wpIn (Fence.wide.inRound l) 0 P (postD w.heap.size ks (I (i + 1)) Ix W) a₁ W) (fun _ _ _ => False)) { tmps := (ps.zip (encs x)).foldl (fun t (p, v) => t.setIfInBounds p v) a.tmps, defers := [] } V)
    (hdone : ∀ W, I xs.length W → W.heap[w.heap.size]? = some (.deferred (some [])) → w.heap.size + 2 ≤ W.heap.size → Q .normal { a with defers := { target := .collected w.heap.size, args := #[] } :: a.defers } W)
    (hstop : ∀ c W, Ix c W → W.heap[w.heap.size]? = some (.deferred (some [])) → w.heap.size + 2 ≤ W.heap.size → c.wpIn Fence.wide 0 P Q { a with defers := { target := .collected w.heap.size, args := #[] } :: a.defers } W) :
    (Code.rangeFunc g ps assign body).wpIn Fence.wide 0 P Q a w := by
  have hput : ∀ (A : World) (r : Loop) (o : Obj), A.heap[w.heap.size + 1]? = some (.loop r) → Keeps (w.heap.size + 1) A (A.putObj (w.heap.size + 1) o) := fun A r o hrec => Keeps.put A _ o
  refine rangeW (Kb := fun A B => ∀ k ∈ ks, B.heap[k]? = A.heap[k]?) (Kbx := fun _ _ => True) hg eg hps hseq
    (fun i W => I i W ∧ w.heap.size + 2 ≤ W.heap.size) (fun c W => Ix c W ∧ w.heap.size + 2 ≤ W.heap.size) ?_ ?_ ?_ ?_ ?_ ?_ ?_ ?_ ?_ (fun W h => hdone W h.1) (fun c W h => hstop c W h.1)
  · intro A B hA hst
    have := hSt A B hst
    exact ⟨this.size, this.block _ (by omega), this.block _ (by omega)⟩
  · intro i A B hA hst
    have := hSt A B hst
    exact ⟨hI i A B hA.1 (by omega) (Keeps.of_below this), Nat.le_trans hA.2 this.size⟩
  · intro c A B hA hst
    have := hSt A B hst
    exact ⟨hIx c A B hA.1 hA.2 (Keeps.of_below this), Nat.le_trans hA.2 this.size⟩
  · exact fun i A r o h hrec => ⟨hI i A _ h.1 (by omega) (hput A r o hrec), by rw [World.putObj_size]; exact h.2⟩
  · exact fun c A r o h hrec => ⟨hIx c A _ h.1 h.2 (hput A r o hrec), by rw [World.putObj_size]; exact h.2⟩
  · exact fun r => ⟨hI 0 w _ h0 (Nat.le_refl _) (Keeps.of_below (((Below.refl _ _).alloc (Nat.le_refl _) _).alloc (by simp) _)), by simp⟩
  · intro W r r' r'' Wc hrec hk hL
    refine hKp _ _ (fun k hk' => ?_) ?_
    · have := hks k hk'
      rw [World.putObj_heap_other (by omega), hk k hk', World.putObj_heap_other (by omega)]
    · have := hL.1
      rw [World.putObj_size] at this ⊢
      exact this
  · intro W r r' r'' Wc hrec hk hL
    exact hKx _ _
  · intro l i x V W hx hi hsz
    refine wpIn_mono (hround l i x V W hx hi.1 hsz) ?_
    rintro e0 a0 V0 hp0
    have hn0 : e0 = .normal := by cases e0 <;> first | rfl | exact hp0.elim
    subst hn0
    obtain ⟨hV0, hbd⟩ := hp0
    refine ⟨hV0, wpIn_mono hbd ?_⟩
    rintro e a3 W3 hp
    cases e with
    | normal => exact ⟨hp.1, hp.2.1, hp.2.2, Nat.le_trans hsz hp.1.1⟩
    | ret => exact ⟨hp.1, trivial, hp.2, Nat.le_trans hsz hp.1.1⟩
    | exit id => exact ⟨hp.1, trivial, hp.2, Nat.le_trans hsz hp.1.1⟩
    | goto t => exact ⟨hp.1, trivial, hp.2, Nat.le_trans hsz hp.1.1⟩
    | panic ch => exact hp.elim
    | outgrown => exact hp.elim

theorem rangeA {g : Operand} {ps : Array Tmp} {assign body : Code} {Q : Exit → Act → World → Prop} {a : Act} {w : World}
    {gf : Nat} {lb : Array Value} (hg : a.eval g = .func (.func gf) #[] lb) (eg : ∀ args w, (callFunc gf args).run P w = .ok (.enter gf args) w)
    {encs : α → Array Value} {xs : List α} {St Kp Kx : World → World → Prop} (hps : ∀ x, (encs x).size = ps.size)
    (hseq : ∀ r, Seq P gf lb encs xs St Kp Kx ((w.alloc (.deferred (some []))).alloc (.loop r)))
    (ks : List Nat) (hks : ∀ k ∈ ks, k < w.heap.size)
    (hSt : ∀ A B, w.heap.size + 2 ≤ A.heap.size → St A B → Below (w.heap.size + 2) A B)
    (hKp : ∀ A B, (∀ k ∈ ks, B.heap[k]? = A.heap[k]?) → Above (w.heap.size + 2) A B → Kp A B)
    (hKx : ∀ A B, Above (w.heap.size + 2) A B → Kx A B)
    (I : Nat → World → Prop) (Ix : Code → World → Prop)
    (hI : ∀ i A B, I i A → Below w.heap.size A B → I i B) (hIx : ∀ c A B, Ix c A → Below w.heap.size A B → Ix c B)
    (h0 : I 0 w) (a₁ : α → Act)
    (hassign : ∀ (l : Nat) (x : α) (W : World) (K : Act → World → Prop), K (a₁ x) W →
      assign.wpIn (Fence.wide.inRound l) 0 P (Exit.then K (fun _ _ _ => False)) { tmps := (ps.zip (encs x)).foldl (fun t (p, v) => t.setIfInBounds p v) a.tmps, defers := [] } W)
    (hbody : ∀ (l i : Nat) (x : α) (W : World), xs[i]? = some x → I i W → w.heap.size + 2 ≤ W.heap.size → body.wpIn (Fence.wide.inRound l) 0 P (postA w.heap.size ks (I (i + 1)) Ix W) (a₁ x) W)
    (hdone : ∀ W, I xs.length W → W.heap[w.heap.size]? = some (.deferred (some [])) → w.heap.size + 2 ≤ W.heap.size → Q .normal { a with defers := { target := .collected w.heap.size, args := #[] } :: a.defers } W)
    (hstop : ∀ c W, Ix c W → W.heap[w.heap.size]? = some (.deferred (some [])) → w.heap.size + 2 ≤ W.heap.size → c.wpIn Fence.wide 0 P Q { a with defers := { target := .collected w.heap.size, args := #[] } :: a.defers } W) :
    (Code.rangeFunc g ps assign body).wpIn Fence.wide 0 P Q a w :=
  rangeB hg eg hps hseq ks hks hSt hKp hKx I Ix hI hIx h0 (fun l i x V W hx hi hs => hassign l x V _ ⟨rfl, hbody l i x W hx hi hs⟩) hdone hstop

/-! ### a block of one cell -/
def Box (W : World) (k : Nat) (v : Value) (t : TypeId) : Prop := W.heap[k]? = some (.cells #[v] t)
theorem Box.cell {W : World} {k : Nat} {v : Value} {t : TypeId} (h : Box W k v t) : W.cell? ⟨k, 0, none⟩ = some v := by
  unfold Box at h; simp [World.cell?, h]
theorem Box.frozen {W : World} {k : Nat} {v : Value} {t : TypeId} (h : Box W k v t) : W.frozen? ⟨k, 0, none⟩ = false := by
  unfold Box at h; simp [World.frozen?, h]
theorem Box.lt {W : World} {k : Nat} {v : Value} {t : TypeId} (h : Box W k v t) : k < W.heap.size := (Array.getElem?_eq_some_iff.1 h).1
theorem Box.set {W : World} {k : Nat} {v : Value} {t : TypeId} (h : Box W k v t) (u : Value) : Box (W.setCell ⟨k, 0, none⟩ u) k u t := by
  unfold Box at *
  simp only [World.setCell]
  rw [Array.getElem?_modify, if_pos rfl, h]
  rfl
theorem Box.below {W W' : World} {k n : Nat} {v : Value} {t : TypeId} (h : Box W k v t) (hb : Below n W W') (hk : k < n) : Box W' k v t := (hb.block k hk).trans h
theorem Box.put {W : World} {k d : Nat} {v : Value} {t : TypeId} {o : Obj} (h : Box W k v t) (hk : k ≠ d) : Box (W.putObj d o) k v t := (World.putObj_heap_other hk).trans h
theorem Box.new (W : World) (v : Value) (t : TypeId) : Box (W.alloc (.cells #[v] t)) W.heap.size v t := World.alloc_heap_new W _
theorem Box.alloc {W : World} {k : Nat} {v : Value} {t : TypeId} (h : Box W k v t) (o : Obj) : Box (W.alloc o) k v t := (Below.heap_alloc W o k h.lt).trans h
/-- a store into a block below d. -/
theorem Above.setCell {d : Nat} (W : World) (k : Nat) (v : Value) (hk : k < d) : Above d W (W.setCell ⟨k, 0, none⟩ v) :=
  ⟨by simp [World.setCell], fun j hj _ => Below.heap_setCell _ _ _ _ (by show j ≠ k; omega)⟩
end It
end Go.Proofs.YtjkllohiodfikaaGreatDoor
