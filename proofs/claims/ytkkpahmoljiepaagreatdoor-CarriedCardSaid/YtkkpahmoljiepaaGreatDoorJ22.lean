/- The law of a range over a function once more: a round is told that the loop's two objects are what they are. Nothing of the translation is named here. -/
import Derived.Test.YtkkpahmoljiepaaGreatDoorJ03
import Derived.Test.YtkkpahmoljiepaaGreatDoorJ21
import Derived.Test.YtkkpahmoljiepaaGreatDoorJ09
set_option linter.unusedSimpArgs false
set_option linter.unusedVariables false
namespace Go.Proofs.YtkkpahmoljiepaaGreatDoor
open Go.RowKit

namespace It
variable {P : Program} {α : Type}

theorem rangeT {g : Operand} {ps : Array Tmp} {assign body : Code} {Q : Exit → Act → World → Prop} {a : Act} {w : World}
    {gf : Nat} {lb : Array Value} (hg : a.eval g = .func (.func gf) #[] lb) (eg : ∀ args w, (callFunc gf args).run P w = .ok (.enter gf args) w)
    {encs : α → Array Value} {xs : List α} {St Kp Kx : World → World → Prop} (hps : ∀ x, (encs x).size = ps.size)
    (hseq : ∀ r, Seq P gf lb encs xs St Kp Kx ((w.alloc (.deferred (some []))).alloc (.loop r)))
    (I : Nat → World → Prop) (Ix : Code → World → Prop)
    (hSt : ∀ A B, w.heap.size + 2 ≤ A.heap.size → St A B → Loops w.heap.size A B)
    (hI : ∀ i A B, I i A → St A B → I i B) (hIx : ∀ c A B, Ix c A → St A B → Ix c B)
    (hIp : ∀ i A r o, I i A → A.heap[w.heap.size + 1]? = some (.loop r) → I i (A.putObj (w.heap.size + 1) o))
    (hIxp : ∀ c A r o, Ix c A → A.heap[w.heap.size + 1]? = some (.loop r) → Ix c (A.putObj (w.heap.size + 1) o))
    (h0 : ∀ r, I 0 ((w.alloc (.deferred (some []))).alloc (.loop r)))
    (Kb : World → World → Prop)
    (hKp : ∀ W r r' r'' Wc, W.heap[w.heap.size + 1]? = some (.loop r) → Kb (W.putObj (w.heap.size + 1) (.loop r')) Wc → Loops w.heap.size (W.putObj (w.heap.size + 1) (.loop r')) Wc → Kp W (Wc.putObj (w.heap.size + 1) (.loop r'')))
    (Kbx : World → World → Prop)
    (hKx : ∀ W r r' r'' Wc, W.heap[w.heap.size + 1]? = some (.loop r) → Kbx (W.putObj (w.heap.size + 1) (.loop r')) Wc → Loops w.heap.size (W.putObj (w.heap.size + 1) (.loop r')) Wc → Kx W (Wc.putObj (w.heap.size + 1) (.loop r'')))
    (hround : ∀ (l i : Nat) (x : α) (V W : World), xs[i]? = some x → I i W → w.heap.size + 2 ≤ W.heap.size → W.heap[w.heap.size]? = some (.deferred (some [])) → (∃ r, W.heap[w.heap.size + 1]? = some (.loop r)) →
      assign.wpIn (Fence.wide.inRound l) 0 P (Exit.then (fun a₁ V' => V' = V ∧ body.wpIn (Fence.wide.inRound l) 0 P (post w.heap.size Kb Kbx (I (i + 1)) Ix W) a₁ W) (fun _ _ _ => False)) { tmps := (ps.zip (encs x)).foldl (fun t (p, v) => t.setIfInBounds p v) a.tmps, defers := [] } V)
    (hdone : ∀ W, I xs.length W → W.heap[w.heap.size]? = some (.deferred (some [])) → w.heap.size + 2 ≤ W.heap.size → Q .normal { a with defers := { target := .collected w.heap.size, args := #[] } :: a.defers } W)
    (hstop : ∀ c W, Ix c W → W.heap[w.heap.size]? = some (.deferred (some [])) → w.heap.size + 2 ≤ W.heap.size → c.wpIn Fence.wide 0 P Q { a with defers := { target := .collected w.heap.size, args := #[] } :: a.defers } W) :
    (Code.rangeFunc g ps assign body).wpIn Fence.wide 0 P Q a w := by
  refine wpIn_rangeFunc fun fn hfn => ?_
  obtain ⟨D, hD⟩ : ∃ D, D = w.heap.size := ⟨_, rfl⟩
  obtain ⟨rec, hrec⟩ : ∃ rec : LoopState → Option Code → Loop, rec = fun st pe => { state := st, pending := pe, fn, tmps := a.tmps, params := ps, assign, body, defers := w.heap.size } := ⟨_, rfl⟩
  have henter := run_enterLoop_outer (P := P) (w := w) fn a.tmps ps assign body
  refine ⟨w.heap.size + 1, [{ target := .collected w.heap.size, args := #[] }], (w.alloc (.deferred (some []))).alloc (.loop (rec .ready none)),
    { target := .fn (.func gf) lb, args := #[.func (.yield (w.heap.size + 1)) #[] #[]] }, (w.alloc (.deferred (some []))).alloc (.loop (rec .ready none)), gf,
    #[.func (.yield (w.heap.size + 1)) #[] #[]] ++ lb, (w.alloc (.deferred (some []))).alloc (.loop (rec .ready none)), ?_, ?_, fun _ _ => trivial, ?_, fun h => by simp [Fence.wide] at h, ?_⟩
  · rw [hrec]; exact henter
  · simp only [resolve, hg]
    simp [go_sem]
  · simp [invoke, go_sem, eg]
  · obtain ⟨W1, hW1⟩ : ∃ W1, (w.alloc (.deferred (some []))).alloc (.loop (rec .ready none)) = W1 := ⟨_, rfl⟩
    have hl1 : W1.heap[w.heap.size + 1]? = some (.loop (rec .ready none)) := by
      rw [← hW1]; have := World.alloc_heap_new (w.alloc (.deferred (some []))) (.loop (rec .ready none)); rwa [World.size_alloc] at this
    have hd1 : W1.heap[w.heap.size]? = some (.deferred (some [])) := by
      rw [← hW1]; exact (Below.heap_alloc _ _ _ (by simp)).trans (World.alloc_heap_new w _)
    have hsz : ∀ W : World, (∃ o, W.heap[w.heap.size + 1]? = some o) → w.heap.size + 2 ≤ W.heap.size := fun W ⟨o, h⟩ => by
      have := (Array.getElem?_eq_some_iff.1 h).1; omega
    have hs := hseq (rec .ready none) (w.heap.size + 1)
      (fun i W => I i W ∧ W.heap[w.heap.size + 1]? = some (.loop (rec .ready none)) ∧ W.heap[w.heap.size]? = some (.deferred (some [])))
      (fun W => ∃ c, Ix c W ∧ W.heap[w.heap.size + 1]? = some (.loop (rec .done (some c))) ∧ W.heap[w.heap.size]? = some (.deferred (some [])))
      (fun i A B hA hst => by
        obtain ⟨h1, h2, h3⟩ := hA
        have hL := hSt A B (hsz A ⟨_, h2⟩) hst
        exact ⟨hI i A B h1 hst, hL.2.2.trans h2, hL.2.1.trans h3⟩)
      (fun A B hA hst => by
        obtain ⟨c, h1, h2, h3⟩ := hA
        have hL := hSt A B (hsz A ⟨_, h2⟩) hst
        exact ⟨c, hIx c A B h1 hst, hL.2.2.trans h2, hL.2.1.trans h3⟩)
      (fun i x W hx hj => by
        obtain ⟨h1, h2, h3⟩ := hj
        have hy := run_yield (P := P) (args := encs x) h2 (by rw [hrec]; exact hps x)
        rw [hrec] at hy
        have hlt : w.heap.size + 1 < W.heap.size := (Array.getElem?_eq_some_iff.1 h2).1
        have e2 : (W.putObj (w.heap.size + 1) (.loop { rec .ready none with state := .busy })).heap[w.heap.size + 1]? = some (.loop { rec .ready none with state := .busy }) := World.putObj_heap_same hlt
        have e3 : (W.putObj (w.heap.size + 1) (.loop { rec .ready none with state := .busy })).heap[w.heap.size]? = some (.deferred (some [])) := (World.putObj_heap_other (by omega)).trans h3
        refine ⟨fn, _, assign, body, hy, roundIn_of_wpIn hfn (wpIn_mono (hround _ i x W (W.putObj (w.heap.size + 1) (.loop { rec .ready none with state := .busy })) hx (hIp i W _ _ h1 h2) (by rw [World.putObj_size]; omega) e3 ⟨_, e2⟩) ?_)⟩
        rintro e0 a0 V0 hp0
        have hn0 : e0 = .normal := by cases e0 <;> first | rfl | exact hp0.elim
        subst hn0
        obtain ⟨hV0, hbd⟩ := hp0
        replace hV0 := hV0.symm
        subst hV0
        refine ⟨_, run_beginRound h2 (by rw [hrec]), wpIn_mono hbd ?_⟩
        have fin : ∀ (jump : Option Code) (W3 : World), Loops w.heap.size (W.putObj (w.heap.size + 1) (.loop { rec .ready none with state := .busy })) W3 →
            (Instr.endRound (w.heap.size + 1) jump).run P W3 = .ok (.bool jump.isNone) (W3.putObj (w.heap.size + 1) (.loop (rec (if jump.isNone then .ready else .done) jump))) ∧
            W3.heap[w.heap.size + 1]? = some (.loop { rec .ready none with state := .busy }) ∧
            (W3.putObj (w.heap.size + 1) (.loop (rec (if jump.isNone then .ready else .done) jump))).heap[w.heap.size + 1]? = some (.loop (rec (if jump.isNone then .ready else .done) jump)) ∧
            (W3.putObj (w.heap.size + 1) (.loop (rec (if jump.isNone then .ready else .done) jump))).heap[w.heap.size]? = some (.deferred (some [])) := fun jump W3 hL => by
          have l3 := hL.2.2.trans e2
          have hr := run_endRound (P := P) jump l3
          refine ⟨?_, l3, World.putObj_heap_same (Array.getElem?_eq_some_iff.1 l3).1, (World.putObj_heap_other (by omega)).trans (hL.2.1.trans e3)⟩
          rw [hr, hrec]
        rintro e a3 W3 hp
        cases e with
        | normal =>
          obtain ⟨hL, hk, hi⟩ := hp
          obtain ⟨f1, f2, f3, f4⟩ := fin none W3 hL
          exact ⟨_, _, f1, .inl ⟨rfl, ⟨hIp _ _ _ _ hi f2, f3, f4⟩, hKp W _ _ _ W3 h2 hk hL⟩⟩
        | ret =>
          obtain ⟨hL, hk, hi⟩ := hp
          obtain ⟨f1, f2, f3, f4⟩ := fin (some .ret) W3 hL
          exact ⟨_, _, f1, .inr ⟨rfl, ⟨.ret, hIxp _ _ _ _ hi f2, f3, f4⟩, hKx W _ _ _ W3 h2 hk hL⟩⟩
        | exit id =>
          obtain ⟨hL, hk, hi⟩ := hp
          obtain ⟨f1, f2, f3, f4⟩ := fin (some (.exit id)) W3 hL
          exact ⟨_, _, f1, .inr ⟨rfl, ⟨.exit id, hIxp _ _ _ _ hi f2, f3, f4⟩, hKx W _ _ _ W3 h2 hk hL⟩⟩
        | goto t =>
          obtain ⟨hL, hk, hi⟩ := hp
          obtain ⟨f1, f2, f3, f4⟩ := fin (some (.goto t)) W3 hL
          exact ⟨_, _, f1, .inr ⟨rfl, ⟨.goto t, hIxp _ _ _ _ hi f2, f3, f4⟩, hKx W _ _ _ W3 h2 hk hL⟩⟩
        | panic ch => exact hp.elim
        | outgrown => exact hp.elim)
      (by rw [hW1]; exact ⟨by rw [← hW1]; exact h0 _, hl1, hd1⟩)
    refine hs.mono ?_
    rintro e W2 ⟨⟨v, rfl⟩, ⟨hi, hl, hk⟩ | ⟨c, hi, hl, hk⟩⟩
    · have := run_endLoop (P := P) hl (by rw [hrec]; simp)
      exact ⟨none, _, by rw [this, hrec], hdone _ (hIp _ _ _ _ hi hl) ((World.putObj_heap_other (by omega)).trans hk) (by rw [World.putObj_size]; exact hsz _ ⟨_, hl⟩)⟩
    · have := run_endLoop (P := P) hl (by rw [hrec]; simp)
      exact ⟨some c, _, by rw [this, hrec], hstop c _ (hIxp _ _ _ _ hi hl) ((World.putObj_heap_other (by omega)).trans hk) (by rw [World.putObj_size]; exact hsz _ ⟨_, hl⟩)⟩

theorem rangeE {g : Operand} {ps : Array Tmp} {assign body : Code} {Q : Exit → Act → World → Prop} {a : Act} {w : World}
    {gf : Nat} {lb : Array Value} (hg : a.eval g = .func (.func gf) #[] lb) (eg : ∀ args w, (callFunc gf args).run P w = .ok (.enter gf args) w)
    {encs : α → Array Value} {xs : List α} {St Kp Kx : World → World → Prop} (hps : ∀ x, (encs x).size = ps.size)
    (hseq : ∀ r, Seq P gf lb encs xs St Kp Kx ((w.alloc (.deferred (some []))).alloc (.loop r)))
    (ks : List Nat) (hks : ∀ k ∈ ks, k < w.heap.size)
    (hSt : ∀ A B, St A B → Below A.heap.size A B)
    (hKp : ∀ A B, (∀ k ∈ ks, B.heap[k]? = A.heap[k]?) → A.heap.size ≤ B.heap.size → Kp A B)
    (hKx : ∀ A B, Kx A B)
    (I : Nat → World → Prop) (Ix : Code → World → Prop)
    (hI : ∀ i A B, I i A → w.heap.size ≤ A.heap.size → Keeps (w.heap.size + 1) A B → I i B) (hIx : ∀ c A B, Ix c A → w.heap.size + 2 ≤ A.heap.size → Keeps (w.heap.size + 1) A B → Ix c B)
    (h0 : I 0 w)
    (hround : ∀ (l i : Nat) (x : α) (V W : World), xs[i]? = some x → I i W → w.heap.size + 2 ≤ W.heap.size → W.heap[w.heap.size]? = some (.deferred (some [])) → (∃ r, W.heap[w.heap.size + 1]? = some (.loop r)) →
      assign.wpIn (Fence.wide.inRound l) 0 P (Exit.then (fun a₁ V' => V' = V ∧ body.wpIn (Fence.wide.inRound l) 0 P (postD w.heap.size ks (I (i + 1)) Ix W) a₁ W) (fun _ _ _ => False)) { tmps := (ps.zip (encs x)).foldl (fun t (p, v) => t.setIfInBounds p v) a.tmps, defers := [] } V)
    (hdone : ∀ W, I xs.length W → W.heap[w.heap.size]? = some (.deferred (some [])) → w.heap.size + 2 ≤ W.heap.size → Q .normal { a with defers := { target := .collected w.heap.size, args := #[] } :: a.defers } W)
    (hstop : ∀ c W, Ix c W → W.heap[w.heap.size]? = some (.deferred (some [])) → w.heap.size + 2 ≤ W.heap.size → c.wpIn Fence.wide 0 P Q { a with defers := { target := .collected w.heap.size, args := #[] } :: a.defers } W) :
    (Code.rangeFunc g ps assign body).wpIn Fence.wide 0 P Q a w := by
  have hput : ∀ (A : World) (r : Loop) (o : Obj), A.heap[w.heap.size + 1]? = some (.loop r) → Keeps (w.heap.size + 1) A (A.putObj (w.heap.size + 1) o) := fun A r o hrec => Keeps.put A _ o
  refine rangeT (Kb := fun A B => ∀ k ∈ ks, B.heap[k]? = A.heap[k]?) (Kbx := fun _ _ => True) hg eg hps hseq
    (fun i W => I i W ∧ w.heap.size + 2 ≤ W.heap.size) (fun c W => Ix c W ∧ w.heap.size + 2 ≤ W.heap.size) ?_ ?_ ?_ ?_ ?_ ?_ ?_ ?_ ?_ (fun W h => hdone W h.1) (fun c W h => hstop c W h.1)
  · intro A B hA hst
    have := hSt A B hst
    exact ⟨this.size, this.block _ (by omega), this.block _ (by omega)⟩
  · intro i A B hA hst
    have := hSt A B hst
    exact ⟨hI i A B hA.1 (by omega) (Keeps.of_below this), Nat.le_trans hA.2 this.size⟩
  · intro c A B hA hst
    have := hSt A B hst
    exact ⟨hIx c A B hA.1 hA.2 (Keeps.of_below this), Nat.le_trans hA.2 this.size⟩
  · exact fun i A r o h hrec => ⟨hI i A _ h.1 (by omega) (hput A r o hrec), by rw [World.putObj_size]; exact h.2⟩
  · exact fun c A r o h hrec => ⟨hIx c A _ h.1 h.2 (hput A r o hrec), by rw [World.putObj_size]; exact h.2⟩
  · exact fun r => ⟨hI 0 w _ h0 (Nat.le_refl _) (Keeps.of_below (((Below.refl _ _).alloc (Nat.le_refl _) _).alloc (by simp) _)), by simp⟩
  · intro W r r' r'' Wc hrec hk hL
    refine hKp _ _ (fun k hk' => ?_) ?_
    · have := hks k hk'
      rw [World.putObj_heap_other (by omega), hk k hk', World.putObj_heap_other (by omega)]
    · have := hL.1
      rw [World.putObj_size] at this ⊢
      exact this
  · intro W r r' r'' Wc hrec hk hL
    exact hKx _ _
  · intro l i x V W hx hi hsz hd1 hd2
    refine wpIn_mono (hround l i x V W hx hi.1 hsz hd1 hd2) ?_
    rintro e0 a0 V0 hp0
    have hn0 : e0 = .normal := by cases e0 <;> first | rfl | exact hp0.elim
    subst hn0
    obtain ⟨hV0, hbd⟩ := hp0
    refine ⟨hV0, wpIn_mono hbd ?_⟩
    rintro e a3 W3 hp
    cases e with
    | normal => exact ⟨hp.1, hp.2.1, hp.2.2, Nat.le_trans hsz hp.1.1⟩
    | ret => exact ⟨hp.1, trivial, hp.2, Nat.le_trans hsz hp.1.1⟩
    | exit id => exact ⟨hp.1, trivial, hp.2, Nat.le_trans hsz hp.1.1⟩
    | goto t => exact ⟨hp.1, trivial, hp.2, Nat.le_trans hsz hp.1.1⟩
    | panic ch => exact hp.elim
    | outgrown => exact hp.elim

theorem Box.kept {W W' : World} {k : Nat} {v : Value} {t : TypeId} (h : Box W k v t) (e : W'.heap[k]? = W.heap[k]?) : Box W' k v t := e.trans h
end It
end Go.Proofs.YtkkpahmoljiepaaGreatDoor

/- Contract: wire's compressed: a name that was written already is a pointer. -/
namespace Go.Proofs.YtkkpahmoljiepaaGreatDoor
open Go.RowKit
open Pu (Str hide unhide)
attribute [local go_sem] Oper.semAt_some undef

/-- places that no writing touches. -/
def PlAt (mb : Nat) (w : World) (vp : Value) (ps : List (Str × Nat)) : Prop := ∃ b, OwnP w b vp ps ∧ vp.ownBlock ≠ some mb
theorem own_kept {w w' : World} {base n sz : Nat} {t : TypeId} {v : Value} {xs : List Value} (h : w.ownsRow base t sz v n xs) (hg : ∀ g, v.ownBlock = some g → w'.heap[g]? = w.heap[g]?) : w'.ownsRow base t sz v n xs := by
  obtain ⟨h1, h2⟩ := h
  refine ⟨h1, ?_⟩
  rcases h2 with h2 | ⟨g, cap, cur, rfl, hb, hcur, hr⟩
  · exact .inl h2
  · exact .inr ⟨g, cap, cur, rfl, hb, (hg g rfl).trans hcur, hr⟩
theorem PlAt.tf {mb base : Nat} {vp : Value} {ps : List (Str × Nat)} {w w' : World} (h : PlAt mb w vp ps) (ht : TF mb base w w') : PlAt mb w' vp ps := by
  obtain ⟨b, ho, hm⟩ := h
  refine ⟨b, own_kept ho fun g hg => ?_, hm⟩
  have ho' := ho
  obtain ⟨_, ⟨rfl, _⟩ | ⟨g', cap, cur, rfl, hb, hcur, _⟩⟩ := ho'
  · simp [Value.ownBlock] at hg
  · simp only [Value.ownBlock, Option.some.injEq] at hg
    subst hg
    refine ht.block g' (Array.getElem?_eq_some_iff.1 hcur).1 (fun e => hm (by rw [← e]; rfl)) (.inr fun c hc => ?_)
    rw [hcur] at hc
    simp at hc
theorem G.tf {mb base : Nat} {w w' : World} (h : G w) (ht : TF mb base w w') (hb : 0 < base) (hm : 0 < mb) : G w' := by
  obtain ⟨h0, m, hc⟩ := h
  exact ⟨Nat.lt_of_lt_of_le h0 ht.size, m, (World.cell?_of_block (ht.block 0 h0 (by omega) (.inl hb))).trans hc⟩
theorem TF.keeps {mb base d : Nat} {w A B : World} (h : TF mb base w A) (hk : It.Keeps d A B) (hd : w.heap.size ≤ d) : TF mb base w B :=
  ⟨hk.os.trans h.os, hk.tape.trans h.tape, hk.output.trans h.output, Nat.le_trans h.size hk.size, fun i hi hm hp => (hk.block i (Nat.lt_of_lt_of_le hi h.size) (by omega)).trans (h.block i hi hm hp)⟩

theorem own_kindB {W : World} {base g : Nat} {v : Value} {l : Str} (h : OwnB W base v l) (hg : v.ownBlock = some g) : ∃ cur, W.heap[g]? = some (.cells cur 5 (0, 0)) := by
  obtain ⟨_, ⟨rfl, _⟩ | ⟨g', cap, cur, rfl, _, hcur, _⟩⟩ := h
  · simp [Value.ownBlock] at hg
  · simp only [Value.ownBlock, Option.some.injEq] at hg
    subst hg
    exact ⟨cur, hcur⟩

namespace Ws
open Ka Kd Rg Ia Iow Ie Zb Zc Za La Wa Wb Wc Wd We Wf Wg Wh Wi Wj Wk Wl Wm Wn Wo Wp Re

theorem or_place (n : Nat) (h : n < 16384) : bits .or .i64 49152 (n : Int) = ((49152 + n : Nat) : Int) := by
  have h1 := Wa.i64_or_nat 49152 n (by omega) (by omega)
  have h2 : 49152 + n = 49152 ||| n := Nat.two_pow_add_eq_or_of_lt (i := 14) (b := n) (by omega) 3
  rw [h2]; exact h1

theorem m_comp (s : ByteArray) (W : World) : (method 521 291 (.string s) "beacon/wire.writeTo").run Tryz.prog W = .ok (338, .string s) W := by kernel_rfl
theorem c_comp (args : Array Value) (W : World) : (callFunc 338 args).run Tryz.prog W = .ok (.enter 338 args) W := by kernel_rfl
def ptr (n : Nat) : Str := [hi (49152 + n), lo (49152 + n)]
def fComp (x : Str) (n : Nat) : Fd := ⟨291, .string (B x), 338, ptr n⟩

set_option maxRecDepth 100000 in
set_option maxHeartbeats 1600000 in
theorem comp_w (mb base j0 : Nat) (vp : Value) (ps : List (Str × Nat)) (x : Str) (hx : x ≠ []) (hxl : x.length ≤ 3000) (hps : ps.length ≤ 1000) (hj : j0 < ps.length) (he : ps[j0].1 = x) (hb : ∀ j (h : j < j0), (ps[j].1 == x) = false) (hn : ps[j0].2 < 16384) (hb0 : 0 < base) (hm0 : 0 < mb) :
    WrI mb base vp (fun w => PlAt mb w vp ps ∧ G w) 338 (.string (B x)) (ptr ps[j0].2) := by
  intro vb l w hI hm ho hbs hl
  refine (callsIn_wide (n := 0)).1 ?_
  refine callsIn_of_wp_marks Tryz.func338 rfl trivial ?_
  simp only [Tryz.ntmps338, List.size_toArray, List.length_cons, List.length_nil, Nat.reduceAdd, Nat.reduceSub, Array.replicate_succ, Array.replicate_zero, List.push_toArray, List.append_toArray, List.nil_append, List.cons_append]
  have HM := hide hm
  have HO := hide ho
  have HI := hide hI
  have hlt := hm.lt
  have hvb : Hid (∀ g, vb.ownBlock = some g → g < w.heap.size) := fun g hg => (World.ownsRow.lt ho g hg).2
  have hg0 := hI.2.1
  have hl2 : l.length + 2 ≤ 60000 := by simpa [ptr] using hl
  have HE := hide he
  have HB := hide hb
  clear hm ho hI hl he hb
  gi_wp2_with fail
  refine ⟨trivial, rfl, ?_⟩
  refine (callsIn_wide.2 (ends_o _ _)).mono ?_
  rintro e W2 ⟨rfl, e4, hb2, e2⟩
  have e0 : It.Box W2 w.heap.size (.pointer (some ⟨mb, 0, none⟩)) 216 := (It.Box.new _ _ _).below hb2 (by simp)
  have e5 : Below w.heap.size w W2 := ((Below.refl _ _).alloc (Nat.le_refl _) _).trans (hb2.mono (by simp))
  simp only [World.size_alloc] at e4 e2
  have HM2 := hide ((unhide HM).kept (e5.block mb hlt))
  have HO2 : Hid (OwnB W2 base vb l) := own_below (unhide HO) e5
  have HT2 : Hid (TF mb base w W2) := TF.of_below e5
  have HI2 : Hid (PlAt mb W2 vp ps ∧ G W2) := ⟨(unhide HI).1.tf (unhide HT2), (unhide HI).2.below e5⟩
  gi_wp2_with fail
  have hgrow : ∀ r, Below W2.heap.size W2 ((W2.alloc (.deferred (some []))).alloc (.loop r)) := fun r => ((Below.refl _ _).alloc (Nat.le_refl _) _).alloc (by simp) _
  have hvp : Hid (∀ g, vp.ownBlock = some g → g < w.heap.size) := fun g hg => by
    obtain ⟨b', ho', _⟩ := (unhide HI).1
    exact (World.ownsRow.lt ho' g hg).2
  refine It.rangeE (xs := ends x) (encs := fun e : Str => #[.string (B e)]) (St := fun A B => Below A.heap.size A B) (Kp := fun A B => A.heap.size ≤ B.heap.size ∧ B.heap[0]? = A.heap[0]?) (Kx := fun _ _ => True)
    (gf := 241) (lb := #[.pointer (some ⟨w.heap.size + 1, 0, none⟩)]) rfl (enters_of Tryz.func241 (by kernel_rfl) rfl) (fun _ => rfl) ?seq
    [0] (by simp; omega) (fun A B h => h) (fun A B h h' => ⟨h', h _ (by simp)⟩) (fun _ _ => trivial)
    (fun i W => i = 0 ∧ MsgAt W mb vb vp ∧ OwnB W base vb l ∧ TF mb base w W ∧ It.Box W w.heap.size (.pointer (some ⟨mb, 0, none⟩)) 216 ∧ PlAt mb W vp ps ∧ G W)
    (fun c W => c = .ret ∧ ∃ vb', MsgAt W mb vb' vp ∧ OwnB W base vb' (l ++ ptr ps[j0].2) ∧ TF mb base w W ∧ ∀ g, vb'.ownBlock = some g → g ≠ W2.heap.size + 1)
    (fun i A B h hA hk => ⟨h.1, h.2.1.kept (hk.block mb h.2.1.lt (by omega)), own_kept h.2.2.1 (fun g hg => hk.block g (World.ownsRow.lt h.2.2.1 g hg).2 (by have := unhide hvb g hg; omega)), h.2.2.2.1.keeps hk (by omega), It.Box.kept h.2.2.2.2.1 (hk.block _ (It.Box.lt h.2.2.2.2.1) (by omega)), by
      obtain ⟨b', ho', hm'⟩ := h.2.2.2.2.2.1
      exact ⟨b', own_kept ho' (fun g hg => hk.block g (World.ownsRow.lt ho' g hg).2 (by have := unhide hvp g hg; omega)), hm'⟩, by
      obtain ⟨g0, m, hc⟩ := h.2.2.2.2.2.2
      exact ⟨Nat.lt_of_lt_of_le g0 hk.size, m, (World.cell?_of_block (hk.block 0 g0 (by omega))).trans hc⟩⟩)
    (fun c A B h hA hk => by
      obtain ⟨hc, vb', h1, h2, h3, h4⟩ := h
      exact ⟨hc, vb', h1.kept (hk.block mb h1.lt (by omega)), own_kept h2 (fun g hg => hk.block g (World.ownsRow.lt h2 g hg).2 (h4 g hg)), h3.keeps hk (by omega), h4⟩)
    ⟨rfl, unhide HM2, unhide HO2, unhide HT2, e0, (unhide HI2).1, (unhide HI2).2⟩
    ?round ?done ?stop
  case seq =>
    intro r
    have hg := hgrow r
    exact ends_seq _ x _ ((hg.cell (p := ⟨w.heap.size + 1, 0, none⟩) (by show w.heap.size + 1 < W2.heap.size; omega)).trans e2) ((unhide HI2).2.below hg) hxl
  case round =>
    intro l' i y V W hy hI hsz hd1 hd2
    obtain ⟨rfl, hmW, hoW, htW, hbW, hpW, hgW⟩ := hI
    rw [ends_cons x hx] at hy
    simp only [List.getElem?_cons_zero, Option.some.injEq] at hy
    subst hy
    obtain ⟨b', hopW, hpm⟩ := hpW
    have HPO := hide (placeOf_hit mb b' j0 x vb vp ps W hmW hopW hj (unhide HE) (unhide HB) hps)
    have cb := hbW.cell
    have HMW := hide hmW
    have HOW := hide hoW
    have HTW := hide htW
    have HBW := hide hbW
    have hmlt := hmW.lt
    clear hmW hoW htW hbW hopW hgW
    generalize hpn : ps[j0].2 = pn at *
    have hpI : (0 : Int) ≤ (pn : Int) := by omega
    gi_wp2_with fail
    refine ⟨trivial, ?_⟩
    gi_wp2_with fail
    refine ⟨trivial, rfl, ?_⟩
    refine (CallsIn.inRound l' (callsIn_wide.2 (unhide HPO))).mono ?_
    rintro e W3 ⟨rfl, hb3⟩
    have HT3 : Hid (TF mb base w W3) := (unhide HTW).trans (TF.of_below hb3)
    have HM3 := hide ((unhide HMW).kept (hb3.block mb hmlt))
    have HO3 : Hid (OwnB W3 base vb l) := own_below (unhide HOW) hb3
    have c3 := ((unhide HBW).below hb3 (unhide HBW).lt).cell
    have hs3 := hb3.size
    have f1 := (hb3.block _ (by omega)).trans hd1
    have f2 : ∃ r, W3.heap[W2.heap.size + 1]? = some (.loop r) := by
      obtain ⟨r, hr⟩ := hd2
      exact ⟨r, (hb3.block _ (by omega)).trans hr⟩
    have hor := or_place pn hn
    clear HPO HMW HOW HTW HBW cb hd1 hd2
    have HF1 := hide f1
    have HF2 := hide f2
    have hbase3 : base ≤ W3.heap.size := Nat.le_trans hbs (unhide HT3).size
    have hm3lt := (unhide HM3).lt
    have hnew := World.alloc_heap_new W3 (.cells #[.iface 284 (.int .u16 ((49152 + pn : Nat) : Int))] 297)
    have HPUT := hide (put_any mb base W3.heap.size 1 [fShort (49152 + pn)] vb vp l (W3.alloc (.cells #[.iface 284 (.int .u16 ((49152 + pn : Nat) : Int))] 297)) ((Below.heap_alloc _ _ _ hm3lt).trans (unhide HM3)) ((unhide HO3).alloc _) (by simp; omega)
      (fun f hf => by simp at hf; subst hf; exact short_ok _ (by omega)) (by simp) (by omega) (.inr fun cur h => by rw [hnew] at h; simp at h)
      (fun j hj => by
        match j, hj with
        | 0, _ => unfold World.cell?; rw [hnew]; rfl
        | j + 1, hj => simp at hj) (by simp) (by simp) (by simp [outs, fShort]; omega))
    clear f1 f2 hnew
    have hwr : IntKind.u16.wrap ((49152 + pn : Nat) : Int) = ((49152 + pn : Nat) : Int) := by rw [IntKind.wrap_u16]; omega
    have hor' : bits BinOp.or IntKind.i64 49152 (pn : Int) = ((49152 + pn : Nat) : Int) := hor
    clear hor
    obtain ⟨q, hq⟩ : ∃ q, q = 49152 + pn := ⟨_, rfl⟩
    rw [← hq] at HPUT hwr hor'
    have HQ := hide hq
    clear hq
    gi_wp2_with fail
    refine ⟨trivial, rfl, ?_⟩
    refine (CallsIn.inRound l' (callsIn_wide.2 (unhide HPUT))).mono ?_
    rintro e W4 ⟨rfl, ⟨vb4, h1, h2⟩, h3⟩
    have T4 : TF mb base W3 W4 := (TF.of_below ((Below.refl _ _).alloc (Nat.le_refl _) _)).trans h3
    have f1 := unhide HF1
    obtain ⟨r, f2⟩ := unhide HF2
    have g1 : W4.heap[W2.heap.size]? = W3.heap[W2.heap.size]? := T4.block _ (by omega) (by omega) (.inr fun c hc => by rw [f1] at hc; cases hc)
    have g2 : W4.heap[W2.heap.size + 1]? = W3.heap[W2.heap.size + 1]? := T4.block _ (by omega) (by omega) (.inr fun c hc => by rw [f2] at hc; cases hc)
    have hnb : ∀ g, vb4.ownBlock = some g → g ≠ W2.heap.size + 1 := fun g hg e => by
      obtain ⟨cur, hcur⟩ := own_kindB h2 hg
      rw [e, g2, f2] at hcur
      cases hcur
    have HR : Hid (It.Loops W2.heap.size W W4 ∧ ∃ vb', MsgAt W4 mb vb' vp ∧ OwnB W4 base vb' (l ++ ptr pn) ∧ TF mb base w W4 ∧ ∀ g, vb'.ownBlock = some g → g ≠ W2.heap.size + 1) :=
      ⟨⟨Nat.le_trans hs3 T4.size, g1.trans (hb3.block _ (by omega)), g2.trans (hb3.block _ (by omega))⟩, vb4, h1, by rw [show ptr pn = outs [fShort q] by rw [unhide HQ]; rfl]; exact h2, (unhide HT3).trans T4, hnb⟩
    clear h1 h2 h3 T4 f1 f2 g1 g2 hnb HF1 HF2 HPUT
    gi_wp2_with fail
    exact ⟨(unhide HR).1, rfl, (unhide HR).2⟩
  case done =>
    intro W hI hdef hsz
    exfalso
    have := hI.1
    rw [ends_cons x hx] at this
    simp at this
  case stop =>
    intro c W hI hdef hsz
    obtain ⟨rfl, vb', h1, h2, h3, h4⟩ := hI
    have H := hide (And.intro h1 (And.intro h2 h3))
    clear h1 h2 h3 h4
    gi_wp2_with fail
    refine ⟨by simp, .inl ⟨_, _, rfl, run_takeDeferred hdef, ?_⟩⟩
    obtain ⟨h1, h2, h3⟩ := unhide H
    have hmW : mb ≠ W2.heap.size := by omega
    have hkp := It.Keeps.put (d := W2.heap.size) W W2.heap.size (.deferred none)
    have hnb : ∀ g, vb'.ownBlock = some g → g ≠ W2.heap.size := fun g hg e => by
      obtain ⟨cur, hcur⟩ := own_kindB h2 hg
      rw [e, hdef] at hcur
      cases hcur
    exact ⟨.tuple #[], by simp [results, Tryz.results338], rfl, ⟨vb', h1.kept (hkp.block mb h1.lt hmW), own_kept h2 fun g hg => hkp.block g (World.ownsRow.lt h2 g hg).2 (hnb g hg)⟩, h3.keeps hkp (by omega)⟩
end Ws
end Go.Proofs.YtkkpahmoljiepaaGreatDoor
