/- The law of a range over a function, for a loop whose state lies in blocks that lay ahead of it. Nothing of the translation is named here. -/
import Derived.Test.YtkkpahmoljiepaaGreatDoorJ03
import Derived.RangeFuncKeeps
import Derived.Test.YtkkpahmoljiepaaGreatDoorJ05
set_option linter.unusedSimpArgs false
set_option linter.unusedVariables false
namespace Go.Proofs.YtkkpahmoljiepaaGreatDoor
open Go.RowKit
namespace It
variable {P:Program} {α:Type}
def postA (d:Nat) (ks:List Nat) (I:World→Prop) (Ix:Code→World→Prop) (W:World):Exit→Act→World→Prop
 | .normal,_,W'=>Above d W W'∧(∀ k∈ks,W'.heap[k]? = W.heap[k]?)∧I W'
 | .ret,_,W'=>Above d W W'∧Ix .ret W'
 | .exit id,_,W'=>Above d W W'∧Ix (.exit id) W'
 | .goto t,_,W'=>Above d W W'∧Ix (.goto t) W'
 | .panic _,_,_=>False
 | .outgrown,_,_=>False
structure Keeps (d:Nat) (A B:World):Prop where
 os:B.os=A.os
 tape:B.tape=A.tape
 output:B.output=A.output
 size:A.heap.size≤B.heap.size
 block : ∀ k,k<A.heap.size→k≠d→B.heap[k]? = A.heap[k]?
theorem Keeps.of_below {d:Nat} {A B:World} (h:Below A.heap.size A B):Keeps d A B:=⟨h.os,h.tape,h.output,h.size,fun k hk _=>h.block k hk⟩
theorem Keeps.put {d:Nat} (A:World) (k:Nat) (o:Obj) (h:k=d:=by rfl):Keeps d A (A.putObj k o):=⟨rfl,rfl,rfl,by rw [World.putObj_size]; exact Nat.le_refl _,fun j _ hj=>World.putObj_heap_other (by omega)⟩
theorem Keeps.below {d n:Nat} {A B:World} (h:Keeps d A B) (hn:n≤d) (hs:n≤A.heap.size):Below n A B:=⟨h.os,h.tape,h.output,h.size,fun k hk=>h.block k (by omega) (by omega)⟩
theorem rangeB {g:Operand} {ps:Array Tmp} {assign body:Code} {Q:Exit→Act→World→Prop} {a:Act} {w:World}
  {gf:Nat} {lb:Array Value} (hg:a.eval g=.func (.func gf) #[] lb) (eg : ∀ args w,(callFunc gf args).run P w=.ok (.enter gf args) w)
  {encs:α→Array Value} {xs:List α} {St Kp Kx:World→World→Prop} (hps : ∀ x,(encs x).size=ps.size)
  (hseq : ∀ r,Seq P gf lb encs xs St Kp Kx ((w.alloc (.deferred (some []))).alloc (.loop r)))
  (ks:List Nat) (hks : ∀ k∈ks,k<w.heap.size)
  (hSt : ∀ A B,w.heap.size+2≤A.heap.size→St A B→Below (w.heap.size+2) A B)
  (hKp : ∀ A B,(∀ k∈ks,B.heap[k]? = A.heap[k]?)→Above (w.heap.size+2) A B→Kp A B)
  (hKx : ∀ A B,Above (w.heap.size+2) A B→Kx A B)
  (I:Nat→World→Prop) (Ix:Code→World→Prop)
  (hI : ∀ i A B,I i A→Below w.heap.size A B→I i B) (hIx : ∀ c A B,Ix c A→Below w.heap.size A B→Ix c B)
  (h0:I 0 w)
  (hround : ∀ (l i:Nat) (x:α) (V W:World),xs[i]? = some x→I i W→w.heap.size+2≤W.heap.size →
   assign.wpIn (Fence.wide.inRound l) 0 P (Exit.then (fun a₁ V'=>V'=V∧body.wpIn (Fence.wide.inRound l) 0 P (postA w.heap.size ks (I (i+1)) Ix W) a₁ W) (fun _ _ _=>False)) { tmps:=(ps.zip (encs x)).foldl (fun t (p,v)=>t.setIfInBounds p v) a.tmps,defers:=[] } V)
  (hdone : ∀ W,I xs.length W→W.heap[w.heap.size]? = some (.deferred (some []))→w.heap.size+2≤W.heap.size→Q .normal { a with defers:={ target:=.collected w.heap.size,args:=#[] } :: a.defers } W)
  (hstop : ∀ c W,Ix c W→W.heap[w.heap.size]? = some (.deferred (some []))→w.heap.size+2≤W.heap.size→c.wpIn Fence.wide 0 P Q { a with defers:={ target:=.collected w.heap.size,args:=#[] } :: a.defers } W) :
  (Code.rangeFunc g ps assign body).wpIn Fence.wide 0 P Q a w:=by
 have hput : ∀ (A:World) (r:Loop) (o:Obj),A.heap[w.heap.size+1]? = some (.loop r)→Below w.heap.size A (A.putObj (w.heap.size+1) o):=fun A r o hrec =>
  belowK_b (w:=w) (Nat.le_refl _) A _ _ o (by omega) hrec rfl rfl
 have hab : ∀ (W:World) (r r' r'':Loop) (Wc:World),W.heap[w.heap.size+1]? = some (.loop r)→Above w.heap.size (W.putObj (w.heap.size+1) (.loop r')) Wc→Above (w.heap.size+2) W (Wc.putObj (w.heap.size+1) (.loop r'')):=by
  intro W r r' r'' Wc hrec hk
  have hs:=hk.1
  rw [World.putObj_size] at hs
  refine ⟨by rw [World.putObj_size]; exact hs,fun k hk1 hk2=>?_⟩
  rw [World.putObj_heap_other (by omega),hk.2 _ (by omega) (by rw [World.putObj_size]; omega),World.putObj_heap_other (by omega)]
 refine rangeW (Kb:=fun A B=>Above w.heap.size A B∧∀ k∈ks,B.heap[k]? = A.heap[k]?) (Kbx:=fun A B=>Above w.heap.size A B) hg eg hps hseq
  (fun i W=>I i W∧w.heap.size+2≤W.heap.size) (fun c W=>Ix c W∧w.heap.size+2≤W.heap.size) ?_ ?_ ?_ ?_ ?_ ?_ ?_ ?_ ?_ (fun W h=>hdone W h.1) (fun c W h=>hstop c W h.1)
 ·intro A B hA hst
  have:=hSt A B hA hst
  exact ⟨this.size,this.block _ (by omega),this.block _ (by omega)⟩
 ·intro i A B hA hst
  have:=hSt A B hA.2 hst
  exact ⟨hI i A B hA.1 (this.mono (by omega)),Nat.le_trans hA.2 this.size⟩
 ·intro c A B hA hst
  have:=hSt A B hA.2 hst
  exact ⟨hIx c A B hA.1 (this.mono (by omega)),Nat.le_trans hA.2 this.size⟩
 ·exact fun i A r o h hrec=>⟨hI i A _ h.1 (hput A r o hrec),by rw [World.putObj_size]; exact h.2⟩
 ·exact fun c A r o h hrec=>⟨hIx c A _ h.1 (hput A r o hrec),by rw [World.putObj_size]; exact h.2⟩
 ·exact fun r=>⟨hI 0 w _ h0 (((Below.refl _ _).alloc (Nat.le_refl _) _).alloc (by simp) _),by simp⟩
 ·intro W r r' r'' Wc hrec hk hL
  refine hKp _ _ (fun k hk'=>?_) (hab W r r' r'' Wc hrec hk.1)
  have:=hks k hk'
  rw [World.putObj_heap_other (by omega),hk.2 k hk',World.putObj_heap_other (by omega)]
 ·intro W r r' r'' Wc hrec hk hL
  exact hKx _ _ (hab W r r' r'' Wc hrec hk)
 ·intro l i x V W hx hi hsz
  refine wpIn_mono (hround l i x V W hx hi.1 hsz) ?_
  rintro e0 a0 V0 hp0
  have hn0:e0=.normal:=by cases e0 <;> first | rfl | exact hp0.elim
  subst hn0
  obtain ⟨hV0,hbd⟩:=hp0
  refine ⟨hV0,wpIn_mono hbd ?_⟩
  rintro e a3 W3 hp
  cases e with
  | normal=>exact ⟨⟨hp.1.1,hp.1.2 _ (Nat.le_refl _) (by omega),hp.1.2 _ (by omega) (by omega)⟩,⟨hp.1,hp.2.1⟩,hp.2.2,Nat.le_trans hsz hp.1.1⟩
  | ret=>exact ⟨⟨hp.1.1,hp.1.2 _ (Nat.le_refl _) (by omega),hp.1.2 _ (by omega) (by omega)⟩,hp.1,hp.2,Nat.le_trans hsz hp.1.1⟩
  | exit id=>exact ⟨⟨hp.1.1,hp.1.2 _ (Nat.le_refl _) (by omega),hp.1.2 _ (by omega) (by omega)⟩,hp.1,hp.2,Nat.le_trans hsz hp.1.1⟩
  | goto t=>exact ⟨⟨hp.1.1,hp.1.2 _ (Nat.le_refl _) (by omega),hp.1.2 _ (by omega) (by omega)⟩,hp.1,hp.2,Nat.le_trans hsz hp.1.1⟩
  | panic ch=>exact hp.elim
  | outgrown=>exact hp.elim
theorem rangeC {g:Operand} {ps:Array Tmp} {assign body:Code} {Q:Exit→Act→World→Prop} {a:Act} {w:World}
  {gf:Nat} {lb:Array Value} (hg:a.eval g=.func (.func gf) #[] lb) (eg : ∀ args w,(callFunc gf args).run P w=.ok (.enter gf args) w)
  {encs:α→Array Value} {xs:List α} {St Kp Kx:World→World→Prop} (hps : ∀ x,(encs x).size=ps.size)
  (hseq : ∀ r,Seq P gf lb encs xs St Kp Kx ((w.alloc (.deferred (some []))).alloc (.loop r)))
  (ks:List Nat) (hks : ∀ k∈ks,k<w.heap.size)
  (hSt : ∀ A B,St A B→Below A.heap.size A B)
  (hKp : ∀ A B,(∀ k∈ks,B.heap[k]? = A.heap[k]?)→Above (w.heap.size+2) A B→Kp A B)
  (hKx : ∀ A B,Above (w.heap.size+2) A B→Kx A B)
  (I:Nat→World→Prop) (Ix:Code→World→Prop)
  (hI : ∀ i A B,I i A→w.heap.size≤A.heap.size→Keeps (w.heap.size+1) A B→I i B) (hIx : ∀ c A B,Ix c A→w.heap.size+2≤A.heap.size→Keeps (w.heap.size+1) A B→Ix c B)
  (h0:I 0 w)
  (hround : ∀ (l i:Nat) (x:α) (V W:World),xs[i]? = some x→I i W→w.heap.size+2≤W.heap.size →
   assign.wpIn (Fence.wide.inRound l) 0 P (Exit.then (fun a₁ V'=>V'=V∧body.wpIn (Fence.wide.inRound l) 0 P (postA w.heap.size ks (I (i+1)) Ix W) a₁ W) (fun _ _ _=>False)) { tmps:=(ps.zip (encs x)).foldl (fun t (p,v)=>t.setIfInBounds p v) a.tmps,defers:=[] } V)
  (hdone : ∀ W,I xs.length W→W.heap[w.heap.size]? = some (.deferred (some []))→w.heap.size+2≤W.heap.size→Q .normal { a with defers:={ target:=.collected w.heap.size,args:=#[] } :: a.defers } W)
  (hstop : ∀ c W,Ix c W→W.heap[w.heap.size]? = some (.deferred (some []))→w.heap.size+2≤W.heap.size→c.wpIn Fence.wide 0 P Q { a with defers:={ target:=.collected w.heap.size,args:=#[] } :: a.defers } W) :
  (Code.rangeFunc g ps assign body).wpIn Fence.wide 0 P Q a w:=by
 have hput : ∀ (A:World) (r:Loop) (o:Obj),A.heap[w.heap.size+1]? = some (.loop r)→Keeps (w.heap.size+1) A (A.putObj (w.heap.size+1) o):=fun A r o hrec=>Keeps.put A _ o
 have hab : ∀ (W:World) (r r' r'':Loop) (Wc:World),W.heap[w.heap.size+1]? = some (.loop r)→Above w.heap.size (W.putObj (w.heap.size+1) (.loop r')) Wc→Above (w.heap.size+2) W (Wc.putObj (w.heap.size+1) (.loop r'')):=by
  intro W r r' r'' Wc hrec hk
  have hs:=hk.1
  rw [World.putObj_size] at hs
  refine ⟨by rw [World.putObj_size]; exact hs,fun k hk1 hk2=>?_⟩
  rw [World.putObj_heap_other (by omega),hk.2 _ (by omega) (by rw [World.putObj_size]; omega),World.putObj_heap_other (by omega)]
 refine rangeW (Kb:=fun A B=>Above w.heap.size A B∧∀ k∈ks,B.heap[k]? = A.heap[k]?) (Kbx:=fun A B=>Above w.heap.size A B) hg eg hps hseq
  (fun i W=>I i W∧w.heap.size+2≤W.heap.size) (fun c W=>Ix c W∧w.heap.size+2≤W.heap.size) ?_ ?_ ?_ ?_ ?_ ?_ ?_ ?_ ?_ (fun W h=>hdone W h.1) (fun c W h=>hstop c W h.1)
 ·intro A B hA hst
  have:=hSt A B hst
  exact ⟨this.size,this.block _ (by omega),this.block _ (by omega)⟩
 ·intro i A B hA hst
  have:=hSt A B hst
  exact ⟨hI i A B hA.1 (by omega) (Keeps.of_below this),Nat.le_trans hA.2 this.size⟩
 ·intro c A B hA hst
  have:=hSt A B hst
  exact ⟨hIx c A B hA.1 hA.2 (Keeps.of_below this),Nat.le_trans hA.2 this.size⟩
 ·exact fun i A r o h hrec=>⟨hI i A _ h.1 (by omega) (hput A r o hrec),by rw [World.putObj_size]; exact h.2⟩
 ·exact fun c A r o h hrec=>⟨hIx c A _ h.1 h.2 (hput A r o hrec),by rw [World.putObj_size]; exact h.2⟩
 ·exact fun r=>⟨hI 0 w _ h0 (Nat.le_refl _) (Keeps.of_below (((Below.refl _ _).alloc (Nat.le_refl _) _).alloc (by simp) _)),by simp⟩
 ·intro W r r' r'' Wc hrec hk hL
  refine hKp _ _ (fun k hk'=>?_) (hab W r r' r'' Wc hrec hk.1)
  have:=hks k hk'
  rw [World.putObj_heap_other (by omega),hk.2 k hk',World.putObj_heap_other (by omega)]
 ·intro W r r' r'' Wc hrec hk hL
  exact hKx _ _ (hab W r r' r'' Wc hrec hk)
 ·intro l i x V W hx hi hsz
  refine wpIn_mono (hround l i x V W hx hi.1 hsz) ?_
  rintro e0 a0 V0 hp0
  have hn0:e0=.normal:=by cases e0 <;> first | rfl | exact hp0.elim
  subst hn0
  obtain ⟨hV0,hbd⟩:=hp0
  refine ⟨hV0,wpIn_mono hbd ?_⟩
  rintro e a3 W3 hp
  cases e with
  | normal=>exact ⟨⟨hp.1.1,hp.1.2 _ (Nat.le_refl _) (by omega),hp.1.2 _ (by omega) (by omega)⟩,⟨hp.1,hp.2.1⟩,hp.2.2,Nat.le_trans hsz hp.1.1⟩
  | ret=>exact ⟨⟨hp.1.1,hp.1.2 _ (Nat.le_refl _) (by omega),hp.1.2 _ (by omega) (by omega)⟩,hp.1,hp.2,Nat.le_trans hsz hp.1.1⟩
  | exit id=>exact ⟨⟨hp.1.1,hp.1.2 _ (Nat.le_refl _) (by omega),hp.1.2 _ (by omega) (by omega)⟩,hp.1,hp.2,Nat.le_trans hsz hp.1.1⟩
  | goto t=>exact ⟨⟨hp.1.1,hp.1.2 _ (Nat.le_refl _) (by omega),hp.1.2 _ (by omega) (by omega)⟩,hp.1,hp.2,Nat.le_trans hsz hp.1.1⟩
  | panic ch=>exact hp.elim
  | outgrown=>exact hp.elim
def postD (d:Nat) (ks:List Nat) (I:World→Prop) (Ix:Code→World→Prop) (W:World):Exit→Act→World→Prop
 | .normal,_,W'=>Loops d W W'∧(∀ k∈ks,W'.heap[k]? = W.heap[k]?)∧I W'
 | .ret,_,W'=>Loops d W W'∧Ix .ret W'
 | .exit id,_,W'=>Loops d W W'∧Ix (.exit id) W'
 | .goto t,_,W'=>Loops d W W'∧Ix (.goto t) W'
 | .panic _,_,_=>False
 | .outgrown,_,_=>False
theorem rangeD {g:Operand} {ps:Array Tmp} {assign body:Code} {Q:Exit→Act→World→Prop} {a:Act} {w:World}
  {gf:Nat} {lb:Array Value} (hg:a.eval g=.func (.func gf) #[] lb) (eg : ∀ args w,(callFunc gf args).run P w=.ok (.enter gf args) w)
  {encs:α→Array Value} {xs:List α} {St Kp Kx:World→World→Prop} (hps : ∀ x,(encs x).size=ps.size)
  (hseq : ∀ r,Seq P gf lb encs xs St Kp Kx ((w.alloc (.deferred (some []))).alloc (.loop r)))
  (ks:List Nat) (hks : ∀ k∈ks,k<w.heap.size)
  (hSt : ∀ A B,St A B→Below A.heap.size A B)
  (hKp : ∀ A B,(∀ k∈ks,B.heap[k]? = A.heap[k]?)→A.heap.size≤B.heap.size→Kp A B)
  (hKx : ∀ A B,Kx A B)
  (I:Nat→World→Prop) (Ix:Code→World→Prop)
  (hI : ∀ i A B,I i A→w.heap.size≤A.heap.size→Keeps (w.heap.size+1) A B→I i B) (hIx : ∀ c A B,Ix c A→w.heap.size+2≤A.heap.size→Keeps (w.heap.size+1) A B→Ix c B)
  (h0:I 0 w)
  (hround : ∀ (l i:Nat) (x:α) (V W:World),xs[i]? = some x→I i W→w.heap.size+2≤W.heap.size →
   assign.wpIn (Fence.wide.inRound l) 0 P (Exit.then (fun a₁ V'=>V'=V∧body.wpIn (Fence.wide.inRound l) 0 P (postD w.heap.size ks (I (i+1)) Ix W) a₁ W) (fun _ _ _=>False)) { tmps:=(ps.zip (encs x)).foldl (fun t (p,v)=>t.setIfInBounds p v) a.tmps,defers:=[] } V)
  (hdone : ∀ W,I xs.length W→W.heap[w.heap.size]? = some (.deferred (some []))→w.heap.size+2≤W.heap.size→Q .normal { a with defers:={ target:=.collected w.heap.size,args:=#[] } :: a.defers } W)
  (hstop : ∀ c W,Ix c W→W.heap[w.heap.size]? = some (.deferred (some []))→w.heap.size+2≤W.heap.size→c.wpIn Fence.wide 0 P Q { a with defers:={ target:=.collected w.heap.size,args:=#[] } :: a.defers } W) :
  (Code.rangeFunc g ps assign body).wpIn Fence.wide 0 P Q a w:=by
 have hput : ∀ (A:World) (r:Loop) (o:Obj),A.heap[w.heap.size+1]? = some (.loop r)→Keeps (w.heap.size+1) A (A.putObj (w.heap.size+1) o):=fun A r o hrec=>Keeps.put A _ o
 refine rangeW (Kb:=fun A B=>∀ k∈ks,B.heap[k]? = A.heap[k]?) (Kbx:=fun _ _=>True) hg eg hps hseq
  (fun i W=>I i W∧w.heap.size+2≤W.heap.size) (fun c W=>Ix c W∧w.heap.size+2≤W.heap.size) ?_ ?_ ?_ ?_ ?_ ?_ ?_ ?_ ?_ (fun W h=>hdone W h.1) (fun c W h=>hstop c W h.1)
 ·intro A B hA hst
  have:=hSt A B hst
  exact ⟨this.size,this.block _ (by omega),this.block _ (by omega)⟩
 ·intro i A B hA hst
  have:=hSt A B hst
  exact ⟨hI i A B hA.1 (by omega) (Keeps.of_below this),Nat.le_trans hA.2 this.size⟩
 ·intro c A B hA hst
  have:=hSt A B hst
  exact ⟨hIx c A B hA.1 hA.2 (Keeps.of_below this),Nat.le_trans hA.2 this.size⟩
 ·exact fun i A r o h hrec=>⟨hI i A _ h.1 (by omega) (hput A r o hrec),by rw [World.putObj_size]; exact h.2⟩
 ·exact fun c A r o h hrec=>⟨hIx c A _ h.1 h.2 (hput A r o hrec),by rw [World.putObj_size]; exact h.2⟩
 ·exact fun r=>⟨hI 0 w _ h0 (Nat.le_refl _) (Keeps.of_below (((Below.refl _ _).alloc (Nat.le_refl _) _).alloc (by simp) _)),by simp⟩
 ·intro W r r' r'' Wc hrec hk hL
  refine hKp _ _ (fun k hk'=>?_) ?_
  ·have:=hks k hk'
   rw [World.putObj_heap_other (by omega),hk k hk',World.putObj_heap_other (by omega)]
  ·have:=hL.1
   rw [World.putObj_size] at this ⊢
   exact this
 ·intro W r r' r'' Wc hrec hk hL
  exact hKx _ _
 ·intro l i x V W hx hi hsz
  refine wpIn_mono (hround l i x V W hx hi.1 hsz) ?_
  rintro e0 a0 V0 hp0
  have hn0:e0=.normal:=by cases e0 <;> first | rfl | exact hp0.elim
  subst hn0
  obtain ⟨hV0,hbd⟩:=hp0
  refine ⟨hV0,wpIn_mono hbd ?_⟩
  rintro e a3 W3 hp
  cases e with
  | normal=>exact ⟨hp.1,hp.2.1,hp.2.2,Nat.le_trans hsz hp.1.1⟩
  | ret=>exact ⟨hp.1,trivial,hp.2,Nat.le_trans hsz hp.1.1⟩
  | exit id=>exact ⟨hp.1,trivial,hp.2,Nat.le_trans hsz hp.1.1⟩
  | goto t=>exact ⟨hp.1,trivial,hp.2,Nat.le_trans hsz hp.1.1⟩
  | panic ch=>exact hp.elim
  | outgrown=>exact hp.elim
/-! ### a block of one cell -/
def Box (W:World) (k:Nat) (v:Value) (t:TypeId):Prop:=W.heap[k]? = some (.cells #[v] t)
theorem Box.cell {W:World} {k:Nat} {v:Value} {t:TypeId} (h:Box W k v t):W.cell? ⟨k,0,none⟩=some v:=by
 unfold Box at h; simp [World.cell?,h]
theorem Box.frozen {W:World} {k:Nat} {v:Value} {t:TypeId} (h:Box W k v t):W.frozen? ⟨k,0,none⟩=false:=by
 unfold Box at h; simp [World.frozen?,h]
theorem Box.lt {W:World} {k:Nat} {v:Value} {t:TypeId} (h:Box W k v t):k<W.heap.size:=(Array.getElem?_eq_some_iff.1 h).1
theorem Box.set {W:World} {k:Nat} {v:Value} {t:TypeId} (h:Box W k v t) (u:Value):Box (W.setCell ⟨k,0,none⟩ u) k u t:=by
 unfold Box at *
 simp only [World.setCell]
 rw [Array.getElem?_modify,if_pos rfl,h]
 rfl
theorem Box.below {W W':World} {k n:Nat} {v:Value} {t:TypeId} (h:Box W k v t) (hb:Below n W W') (hk:k<n):Box W' k v t:=(hb.block k hk).trans h
theorem Box.put {W:World} {k d:Nat} {v:Value} {t:TypeId} {o:Obj} (h:Box W k v t) (hk:k≠d):Box (W.putObj d o) k v t:=(World.putObj_heap_other hk).trans h
theorem Box.new (W:World) (v:Value) (t:TypeId):Box (W.alloc (.cells #[v] t)) W.heap.size v t:=World.alloc_heap_new W _
theorem Box.alloc {W:World} {k:Nat} {v:Value} {t:TypeId} (h:Box W k v t) (o:Obj):Box (W.alloc o) k v t:=(Below.heap_alloc W o k h.lt).trans h
theorem Above.setCell {d:Nat} (W:World) (k:Nat) (v:Value) (hk:k<d):Above d W (W.setCell ⟨k,0,none⟩ v) :=
 ⟨by simp [World.setCell],fun j hj _=>Below.heap_setCell _ _ _ _ (by show j≠k; omega)⟩
end It
end Go.Proofs.YtkkpahmoljiepaaGreatDoor

set_option maxRecDepth 1000000
set_option maxHeartbeats 12800000
namespace Go.Proofs.YtkkpahmoljiepaaGreatDoor
open Go.RowKit
open Pu (Str aH aU)
attribute [local go_sem] Oper.semAt_some
def ofP (rs:List Rec) (n:Str):List Rec :=
 match (runs aG rs).find? (fun x=>aI x == n) with
 | some x=>x.2
 | none=>[]
def Lies (v:Value) (b off:Nat) (rs:List Rec):Prop:=(v=.slice none 0 0∧rs = [])∨∃ cap,v=.slice (some ⟨b,off,none⟩) rs.length cap∧rs.length≤cap
def Piece (b off:Nat) (rs:List Rec) (v:Value) (l:List Rec):Prop:=(v=.slice none 0 0∧l = [])∨∃ k,(v=.slice (some ⟨b,off+k*4,none⟩) l.length l.length∧k+l.length≤rs.length∧l=(rs.drop k).take l.length)
theorem Piece.at {w:World} {b off:Nat} {rs l:List Rec} {v:Value} (h:Piece b off rs v l) (hr:bE w b off rs) : ∃ o',bE w b o' l∧Lies v b o' l∧∀ same,∀ x∈runs same l,Piece b off rs (.slice (some ⟨b,o'+x.1*4,none⟩) x.2.length x.2.length) x.2:=by
 rcases h with ⟨rfl,rfl⟩ | ⟨k,rfl,hk,hl⟩
 ·exact ⟨off,⟨hr.1,fun j hj=>by simp at hj⟩,.inl ⟨rfl,rfl⟩,fun same x hx=>by simp [runs,runsP] at hx⟩
 ·refine ⟨off+k*4,by rw [hl]; exact (hr.drop k).take _,.inr ⟨_,rfl,Nat.le_refl _⟩,fun same x hx=>.inr ⟨k+x.1,?_,?_,?_⟩⟩
  ·rw [Nat.add_assoc,← Nat.add_mul]
  ·have:=(Iow.runs_piece hx).1; omega
  ·obtain ⟨h1,_,h3⟩:=Iow.runs_piece hx
   conv=>lhs; rw [h3,hl]
   rw [List.drop_take,List.take_take,List.drop_drop,Nat.min_eq_left (by omega)]
theorem Piece.rv {w:World} {b off:Nat} {rs l:List Rec} {v:Value} (h:Piece b off rs v l) (hr:bE w b off rs):RV w v l:=by
 obtain ⟨o',h1,h2,_⟩:=h.at hr
 rcases h2 with h2 | ⟨cap,rfl,hc⟩
 ·exact .inl h2
 ·exact .inr ⟨b,o',cap,rfl,hc,h1⟩
theorem Piece.slice {b off:Nat} {rs l:List Rec} {v:Value} (h:Piece b off rs v l) : ∃ a c,v=.slice a l.length c:=by
 rcases h with ⟨rfl,rfl⟩ | ⟨k,rfl,_,_⟩
 ·exact ⟨none,0,rfl⟩
 ·exact ⟨_,_,rfl⟩
theorem Piece.len {b off:Nat} {rs l:List Rec} {v:Value} (h:Piece b off rs v l):l.length≤rs.length:=by
 rcases h with ⟨rfl,rfl⟩ | ⟨k,rfl,_,_⟩
 ·simp
 ·omega
theorem Piece.of_run {b off:Nat} {rs:List Rec} {same:Rec→Rec→Bool} {x:Nat×List Rec} (hx:x∈runs same rs):Piece b off rs (.slice (some ⟨b,off+x.1*4,none⟩) x.2.length x.2.length) x.2 :=
 .inr ⟨x.1,rfl,(Iow.runs_piece hx).1,(Iow.runs_piece hx).2.2⟩
namespace Zb
open Ka Kd Rg Ia Iow Ie
theorem find_step {p:Nat×List Rec→Bool} {l:List (Nat×List Rec)} {i:Nat} {x:Nat×List Rec} (h:l[i]? = some x):(l.drop i).find? p=if p x then some x else (l.drop (i+1)).find? p:=by
 obtain ⟨hi,rfl⟩:=List.getElem?_eq_some_iff.1 h
 rw [List.drop_eq_getElem_cons hi,List.find?_cons]
 cases p l[i] <;> rfl
theorem of_any (b off cap:Nat) (n:Str) (rs:List Rec) (w:World) (hr:bE w b off rs) (hcap:rs.length≤cap) (hlen:rs.length≤3001) :
  Calls Tryz.prog 184 #[.slice (some ⟨b,off,none⟩) rs.length cap,.string (B n)] w fun e w'=>(∃ v,e=.returned v∧Piece b off rs v (ofP rs n))∧Below w.heap.size w w':=by
 refine (callsIn_wide (n:=0)).1 ?_
 refine callsIn_of_wp_marks Tryz.func184 rfl trivial ?_
 simp only [Tryz.ntmps184,List.size_toArray,List.length_cons,List.length_nil,Nat.reduceAdd,Nat.reduceSub,Array.replicate_succ,Array.replicate_zero,List.push_toArray,List.append_toArray,List.nil_append,List.cons_append]
 have HR:=aH hr
 have hb:=hr.1
 clear hr
 gi_wp2_with (refine ⟨trivial,rfl,?_⟩; gi_at_call 109; refine (callsIn_wide.2 (owners_any _ _ _ _)).mono ?_; rintro e w' ⟨rfl,rfl⟩)
 have e0:It.Box (((w.alloc (.cells #[.string (B n)] 9)).alloc (.cells #[.slice none 0 0] 41)).alloc (.cells #[.slice (some ⟨b,off,none⟩) rs.length cap] 41)) w.heap.size (.string (B n)) 9:=((It.Box.new _ _ _).alloc _).alloc _
 have e1:It.Box (((w.alloc (.cells #[.string (B n)] 9)).alloc (.cells #[.slice none 0 0] 41)).alloc (.cells #[.slice (some ⟨b,off,none⟩) rs.length cap] 41)) (w.heap.size+1) (.slice none 0 0) 41:=by
  have:=(It.Box.new (w.alloc (.cells #[.string (B n)] 9)) (.slice none 0 0) 41).alloc (.cells #[.slice (some ⟨b,off,none⟩) rs.length cap] 41)
  rwa [World.size_alloc] at this
 have e2:(((w.alloc (.cells #[.string (B n)] 9)).alloc (.cells #[.slice none 0 0] 41)).alloc (.cells #[.slice (some ⟨b,off,none⟩) rs.length cap] 41)).cell? ⟨w.heap.size+1+1,0,none⟩=some (.slice (some ⟨b,off,none⟩) rs.length cap):=by go_simp
 have e4:(((w.alloc (.cells #[.string (B n)] 9)).alloc (.cells #[.slice none 0 0] 41)).alloc (.cells #[.slice (some ⟨b,off,none⟩) rs.length cap] 41)).heap.size=w.heap.size+3:=by simp
 have e5:Below w.heap.size w (((w.alloc (.cells #[.string (B n)] 9)).alloc (.cells #[.slice none 0 0] 41)).alloc (.cells #[.slice (some ⟨b,off,none⟩) rs.length cap] 41)):=(((Below.refl _ _).alloc (Nat.le_refl _) _).alloc (by simp) _).alloc (by simp; omega) _
 generalize ((w.alloc (.cells #[.string (B n)] 9)).alloc (.cells #[.slice none 0 0] 41)).alloc (.cells #[.slice (some ⟨b,off,none⟩) rs.length cap] 41)=W2 at *
 have hgrow : ∀ r,Below W2.heap.size W2 ((W2.alloc (.deferred (some []))).alloc (.loop r)):=fun r=>((Below.refl _ _).alloc (Nat.le_refl _) _).alloc (by simp) _
 have hgsz : ∀ r,((W2.alloc (.deferred (some []))).alloc (.loop r)).heap.size=W2.heap.size+2:=fun r=>by simp
 refine It.rangeB (xs:=runs aG rs) (encs:=fun x:Nat×List Rec=>#[.string (B (aI x)),.slice (some ⟨b,off+x.1*4,none⟩) x.2.length x.2.length]) (St:=fun A B=>Below (W2.heap.size+2) A B) (Kp:=fun A B=>B.heap[b]? = A.heap[b]?∧It.Above (W2.heap.size+2) A B) (Kx:=fun A B=>It.Above (W2.heap.size+2) A B)
  (gf:=179) (lb:=#[.pointer (some ⟨w.heap.size+1+1,0,none⟩)]) rfl (enters_of Tryz.func179 (by kernel_rfl) rfl) (fun _=>rfl) ?seq
  [b] (by simp; omega) (fun _ _ _ h=>h) (fun A B h h'=>⟨h _ (by simp),h'⟩) (fun _ _ h=>h)
  (fun i W=>((runs aG rs).drop i).find? (fun x=>aI x == n)=(runs aG rs).find? (fun x=>aI x == n)∧Below w.heap.size w W∧It.Box W w.heap.size (.string (B n)) 9∧It.Box W (w.heap.size+1) (.slice none 0 0) 41)
  (fun c W=>c=.ret∧Below w.heap.size w W∧∃ x,x∈runs aG rs∧ofP rs n=x.2∧It.Box W (w.heap.size+1) (.slice (some ⟨b,off+x.1*4,none⟩) x.2.length x.2.length) 41)
  (fun i A B h hb=>⟨h.1,h.2.1.trans (hb.mono (by omega)),h.2.2.1.below hb (by omega),h.2.2.2.below hb (by omega)⟩)
  (fun c A B h hb=>⟨h.1,h.2.1.trans (hb.mono (by omega)),by obtain ⟨x,h1,h2,h3⟩:=h.2.2; exact ⟨x,h1,h2,h3.below hb (by omega)⟩⟩)
  ⟨rfl,e5,e0,e1⟩
  ?round ?done ?stop
 case seq =>
  intro r
  have hg:=hgrow r
  have:=owners_seq b off cap (w.heap.size+1+1) rs ((W2.alloc (.deferred (some []))).alloc (.loop r)) ((hg.cell (p:=⟨w.heap.size+1+1,0,none⟩) (by show w.heap.size+1+1<W2.heap.size; omega)).trans e2) (((aU HR).below e5).below hg) (by have:=hg.size; omega) hlen hcap
  rw [hgsz r] at this
  exact this
 case round =>
  intro l' i x V W hx hI hsz
  gi_wp2_with fail
  refine ⟨trivial,?_⟩
  obtain ⟨hf,hB,hn',hc⟩:=hI
  have cn:=hn'.cell
  have cb:=hc.cell
  have cf:=hc.frozen
  have hBB:((B (aI x)).toList == (B n).toList)=(aI x == n):=B_inj
  have hst:=find_step (p:=fun x=>aI x == n) hx
  rw [hf] at hst
  have HS:=aH hst
  have HNB:=aH hn'
  have HCB:=aH hc
  clear hf hst hn' hc
  cases ho:aI x == n
  ·rw [ho] at hBB
   have HF:Hid (((runs aG rs).drop (i+1)).find? (fun x=>aI x == n)=(runs aG rs).find? (fun x=>aI x == n)):=by
    rw [Hid,aU HS,if_neg (by simp [ho])]
   gi_wp2_with fail
   exact ⟨It.Above.refl _ _,by simp,aU HF,hB,aU HNB,aU HCB⟩
  ·rw [ho] at hBB
   have HF:Hid (ofP rs n=x.2):=by
    unfold ofP
    rw [Hid,aU HS,if_pos ho]
   gi_wp2_with fail
   exact ⟨It.Above.setCell W _ _ (by omega),rfl,hB.setCell (by show w.heap.size≤w.heap.size+1; omega) _,x,List.mem_of_getElem? hx,aU HF,(aU HCB).set _⟩
 case done =>
  intro W hI hdef hsz
  obtain ⟨hf,hB,hn',hc⟩:=hI
  have cb:=hc.cell
  have cf:=hc.frozen
  have HF:Hid (ofP rs n = []):=by
   unfold ofP
   rw [Hid,← hf,List.drop_of_length_le (Nat.le_refl _)]; rfl
  clear hf
  gi_wp2_with fail
  have hd':=(Below.heap_setCell W ⟨w.heap.size+1,0,none⟩ (.slice none 0 0) W2.heap.size (by show W2.heap.size≠w.heap.size+1; omega)).trans hdef
  refine ⟨by simp,.inl ⟨_,_,rfl,run_takeDeferred hd',?_⟩⟩
  have cr:=((hc.set (.slice none 0 0)).put (d:=W2.heap.size) (o:=.deferred none) (by omega)).cell
  refine ⟨.slice none 0 0,by simp [results,Tryz.results184,go_sem,cr],⟨_,rfl,.inl ⟨rfl,aU HF⟩⟩,?_⟩
  exact (hB.setCell (by show w.heap.size≤w.heap.size+1; omega) _).trans (belowK_b (w:=W2) (by omega) _ _ _ _ (Nat.le_refl _) hd' rfl rfl)
 case stop =>
  intro c W hI hdef hsz
  obtain ⟨rfl,hB,x,hx,hof,hc⟩:=hI
  have HF:=aH hof
  clear hof
  have cb:=hc.cell
  gi_wp2_with fail
  refine ⟨by simp,.inl ⟨_,_,rfl,run_takeDeferred hdef,?_⟩⟩
  have cr:=(hc.put (d:=W2.heap.size) (o:=.deferred none) (by omega)).cell
  have hB':=hB.trans (belowK_b (w:=W2) (show w.heap.size≤W2.heap.size by omega) W _ _ (.deferred none) (Nat.le_refl _) hdef rfl rfl)
  refine ⟨_,by simp [results,Tryz.results184,go_sem,cr]; rfl,⟨_,rfl,?_⟩,hB'⟩
  rw [aU HF]
  exact Piece.of_run hx
end Zb
end Go.Proofs.YtkkpahmoljiepaaGreatDoor

set_option maxRecDepth 1000000
set_option maxHeartbeats 12800000
namespace Go.Proofs.YtkkpahmoljiepaaGreatDoor
open Go.RowKit
open Pu (Str aH aU)
attribute [local go_sem] Oper.semAt_some
def typeOf (x:Nat×List Rec):Int:=(x.2.headD Rec.zero).type
def setP (rs:List Rec) (k:Int):List Rec :=
 match (runs aD rs).find? (fun x=>typeOf x == k) with
 | some x=>x.2
 | none=>[]
namespace Zc
open Ka Kd Rg Ia Iow Ie Zb
theorem sets_any (a:Option Addr) (n c:Nat) (w:World) :
  Calls Tryz.prog 107 #[.slice a n c] w fun e w'=>e=.returned (.func (.func 233) #[] #[.pointer (some ⟨w.heap.size,0,none⟩),.pointer (some ⟨w.heap.size+1,0,none⟩)])∧w'=(w.alloc (.cells #[.slice a n c] 41)).alloc (.cells #[.func (.func 177) #[] #[]] 261):=by
 go_enter Tryz.func107,Tryz.ntmps107
 go_wp2_with (go_at_call 176; refine (runs_any _ _ _ _ _).mono ?_; rintro e w' ⟨rfl,rfl⟩)
 go_ret
 exact ⟨rfl,rfl⟩
theorem type_head (x:Nat×List Rec) (h:0<x.2.length):x.2[0].type=typeOf x:=by
 obtain ⟨k,l⟩:=x
 cases l with
 | nil=>simp at h
 | cons a t=>rfl
theorem rv_slice {w:World} {v:Value} {rs:List Rec} (h:RV w v rs) : ∃ a c,v=.slice a rs.length c:=by
 rcases h with ⟨rfl,rfl⟩ | ⟨b,off,cap,rfl,_,_⟩
 ·exact ⟨none,0,rfl⟩
 ·exact ⟨_,_,rfl⟩
theorem sets_o (v:Value) (rs:List Rec) (w:World) (hv:RV w v rs) :
  Calls Tryz.prog 107 #[v] w fun e w'=>e=.returned (.func (.func 233) #[] #[.pointer (some ⟨w.heap.size,0,none⟩),.pointer (some ⟨w.heap.size+1,0,none⟩)])∧w'.heap.size=w.heap.size+2∧Below w.heap.size w w' ∧
   w'.cell? ⟨w.heap.size,0,none⟩=some v∧w'.cell? ⟨w.heap.size+1,0,none⟩=some (.func (.func 177) #[] #[]):=by
 obtain ⟨a,c,rfl⟩:=rv_slice hv
 refine (sets_any a rs.length c w).mono ?_
 rintro e w' ⟨rfl,rfl⟩
 exact ⟨rfl,by simp,((Below.refl _ _).alloc (Nat.le_refl _) _).alloc (by simp) _,by go_simp,by go_simp⟩
theorem seqV (v:Value) (b off bl bs:Nat) (rs:List Rec) (W0:World) (hv:Lies v b off rs)
  (hl:W0.cell? ⟨bl,0,none⟩=some v) (hs:W0.cell? ⟨bs,0,none⟩=some (.func (.func 177) #[] #[]))
  (hr:bE W0 b off rs) (h1:bl<W0.heap.size) (h2:bs<W0.heap.size) (hlen:rs.length≤3001) :
  It.Seq Tryz.prog 233 #[.pointer (some ⟨bl,0,none⟩),.pointer (some ⟨bs,0,none⟩)] (fun x:Nat×List Rec=>#[.slice (some ⟨b,off+x.1*4,none⟩) x.2.length x.2.length]) (runs aD rs)
   (fun A B=>Below A.heap.size A B) (It.Keep3 bl bs b) (fun _ _=>True) W0:=by
 rcases hv with ⟨rfl,rfl⟩ | ⟨cap,rfl,hc⟩
 ·exact Ib.seq_nil b off bl bs W0 hl _
 ·exact Ib.seq b off cap bl bs rs W0 hl hs hr h1 h2 hlen hc
theorem runs_len {same:Rec→Rec→Bool} {rs:List Rec} {x:Nat×List Rec} (h:x∈runs same rs):x.2.length≤rs.length:=by
 have:=(runs_piece h).1; omega
theorem ofP_len (rs:List Rec) (n:Str):(ofP rs n).length≤rs.length:=by
 unfold ofP
 split
 ·rename_i x hx
  exact runs_len (List.mem_of_find?_eq_some hx)
 ·simp
theorem setP_len (rs:List Rec) (k:Int):(setP rs k).length≤rs.length:=by
 unfold setP
 split
 ·rename_i x hx
  exact runs_len (List.mem_of_find?_eq_some hx)
 ·simp
theorem set_any (b off cap:Nat) (n:Str) (k:Int) (l0:List Rec) (w:World) (hr:bE w b off l0) (hcap:l0.length≤cap) (hlen0:l0.length≤3001) :
  Calls Tryz.prog 112 #[.slice (some ⟨b,off,none⟩) l0.length cap,.string (B n),.int .i64 k] w fun e w'=>(∃ v,e=.returned v∧Piece b off l0 v (setP (ofP l0 n) k))∧Below w.heap.size w w':=by
 refine (callsIn_wide (n:=0)).1 ?_
 refine callsIn_of_wp_marks Tryz.func112 rfl trivial ?_
 simp only [Tryz.ntmps112,List.size_toArray,List.length_cons,List.length_nil,Nat.reduceAdd,Nat.reduceSub,Array.replicate_succ,Array.replicate_zero,List.push_toArray,List.append_toArray,List.nil_append,List.cons_append]
 have hlen:=ofP_len l0 n
 have hbx:Below w.heap.size w ((w.alloc (.cells #[.int .i64 k] 3)).alloc (.cells #[.slice none 0 0] 41)):=((Below.refl _ _).alloc (Nat.le_refl _) _).alloc (by simp) _
 have HC:=aH (of_any b off cap n l0 _ (hr.below hbx) hcap hlen0)
 have HR0:=aH hr
 have hb:=hr.1
 clear hr
 gi_wp2_with fail
 refine ⟨trivial,rfl,?_⟩
 refine (callsIn_wide.2 (aU HC)).mono ?_
 rintro e w1 ⟨⟨v,rfl,hv⟩,hb1⟩
 have e0:It.Box w1 w.heap.size (.int .i64 k) 3:=((It.Box.new _ _ _).alloc _).below hb1 (by simp <;> omega)
 have e1:It.Box w1 (w.heap.size+1) (.slice none 0 0) 41:=by
  have:=(It.Box.new (w.alloc (.cells #[.int .i64 k] 3)) (.slice none 0 0) 41).below hb1 (by simp <;> omega)
  rwa [World.size_alloc] at this
 have hB1:Below w.heap.size w w1:=hbx.trans (hb1.mono (by simp <;> omega))
 have hs1:w.heap.size+2≤w1.heap.size:=by have:=hb1.size; simp at this; omega
 generalize hrs:ofP l0 n=rs at *
 clear hb1 hbx
 obtain ⟨o',hr,hL,hpc⟩:=hv.at (aU HR0)
 have HR:=aH hr
 have HLies:=aH hL
 have HPC:=aH hpc
 have HV:=aH (hv.rv ((aU HR0).below hB1))
 obtain ⟨av,cv,rfl⟩:=hv.slice
 clear hv hr hL hpc
 gi_wp2_with fail
 refine ⟨trivial,rfl,?_⟩
 refine (callsIn_wide.2 (sets_o _ rs _ (aU HV))).mono ?_
 rintro e W2 ⟨rfl,e4,hb2,e2,e3⟩
 have e0':=e0.below hb2 e0.lt
 have e1':=e1.below hb2 e1.lt
 have e5:=hB1.trans (hb2.mono hB1.size)
 have HR2:=aH ((aU HR).below e5)
 clear e0 e1
 gi_wp2_with fail
 have hgrow : ∀ r,Below W2.heap.size W2 ((W2.alloc (.deferred (some []))).alloc (.loop r)):=fun r=>((Below.refl _ _).alloc (Nat.le_refl _) _).alloc (by simp) _
 refine It.rangeB (xs:=runs aD rs) (encs:=fun x:Nat×List Rec=>#[.slice (some ⟨b,o'+x.1*4,none⟩) x.2.length x.2.length]) (St:=fun A B=>Below A.heap.size A B) (Kp:=It.Keep3 w1.heap.size (w1.heap.size+1) b) (Kx:=fun _ _=>True)
  (gf:=233) (lb:=#[.pointer (some ⟨w1.heap.size,0,none⟩),.pointer (some ⟨w1.heap.size+1,0,none⟩)]) rfl (enters_of Tryz.func233 (by kernel_rfl) rfl) (fun _=>rfl) ?seq
  [w1.heap.size,w1.heap.size+1,b] (by simp; omega) (fun A B hA h=>h.mono hA) (fun A B h h'=>⟨h'.1,h _ (by simp),h _ (by simp),h _ (by simp)⟩) (fun _ _ _=>trivial)
  (fun i W=>((runs aD rs).drop i).find? (fun x=>typeOf x == k)=(runs aD rs).find? (fun x=>typeOf x == k)∧Below w.heap.size w W∧It.Box W w.heap.size (.int .i64 k) 3∧It.Box W (w.heap.size+1) (.slice none 0 0) 41)
  (fun c W=>c=.ret∧Below w.heap.size w W∧∃ x,x∈runs aD rs∧setP rs k=x.2∧It.Box W (w.heap.size+1) (.slice (some ⟨b,o'+x.1*4,none⟩) x.2.length x.2.length) 41)
  (fun i A B h hb'=>⟨h.1,h.2.1.trans (hb'.mono (by omega)),h.2.2.1.below hb' (by omega),h.2.2.2.below hb' (by omega)⟩)
  (fun c A B h hb'=>⟨h.1,h.2.1.trans (hb'.mono (by omega)),by obtain ⟨x,h1,h2,h3⟩:=h.2.2; exact ⟨x,h1,h2,h3.below hb' (by omega)⟩⟩)
  ⟨rfl,e5,e0',e1'⟩
  ?round ?done ?stop
 case seq =>
  intro r
  have hg:=hgrow r
  exact seqV _ b o' _ _ rs _ (aU HLies) ((hg.cell (p:=⟨w1.heap.size,0,none⟩) (by show w1.heap.size<W2.heap.size; omega)).trans e2) ((hg.cell (p:=⟨w1.heap.size+1,0,none⟩) (by show w1.heap.size+1<W2.heap.size; omega)).trans e3) ((aU HR2).below hg) (by have:=hg.size; omega) (by have:=hg.size; omega) (by omega)
 case round =>
  intro l' i x V W hx hI hsz
  gi_wp2_with fail
  refine ⟨trivial,?_⟩
  obtain ⟨hf,hB,hn',hc⟩:=hI
  have cn:=hn'.cell
  have cb:=hc.cell
  have cf:=hc.frozen
  have hmem:x∈runs aD rs:=List.mem_of_getElem? hx
  have hP:=bE.piece ((aU HR).below hB) hmem
  have hpos:=(runs_piece hmem).2.1
  obtain ⟨q0,q1,q2,q3⟩:=hP.four 0 hpos
  clear q0 q1 q3 hP
  rw [Nat.zero_mul,Nat.add_zero,type_head x hpos] at q2
  have hposI:(0:Int)<(x.2.length:Int):=by omega
  have hmx:Tryz.prog.follows .mixedOrders=true:=by kernel_rfl
  have hst:=find_step (p:=fun x=>typeOf x == k) hx
  rw [hf] at hst
  have HS:=aH hst
  have HNB:=aH hn'
  have HCB:=aH hc
  have HM:=aH hmem
  clear hf hst hn' hc hmem
  cases ho:typeOf x == k
  ·have HF:Hid (((runs aD rs).drop (i+1)).find? (fun x=>typeOf x == k)=(runs aD rs).find? (fun x=>typeOf x == k)):=by
    rw [Hid,aU HS,if_neg (by simp [ho])]
   have HE:Hid (It.Above W2.heap.size W W.drew∧(∀ k'∈[w1.heap.size,w1.heap.size+1,b],W.drew.heap[k']? = W.heap[k']?)∧(((runs aD rs).drop (i+1)).find? (fun x=>typeOf x == k)=(runs aD rs).find? (fun x=>typeOf x == k)∧Below w.heap.size w W.drew∧It.Box W.drew w.heap.size (.int .i64 k) 3∧It.Box W.drew (w.heap.size+1) (.slice none 0 0) 41)) :=
    ⟨It.Above.refl _ W,fun _ _=>rfl,aU HF,hB.drew,aU HNB,aU HCB⟩
   gi_wp2_with fail
   refine Ir.region_round hmx (Ir.noDefer_spec (by kernel_rfl)) ?_
   refine wpAnyIn_take (i:=0) (v:=?_) rfl rfl (by kernel_rfl) (by kernel_rfl) (by kernel_rfl) (fun _ _ _ h=>h) ⟨Or.inl ⟨by rfl,by intro w; go_simp; first | done | with_reducible rfl⟩,fun _=>rfl⟩ ?_
   refine wpAnyIn_take (i:=1) (v:=?_) rfl rfl (by kernel_rfl) (by kernel_rfl) (by kernel_rfl) (fun _ _ _ h=>h) ⟨Or.inl ⟨by rfl,by intro w; go_simp; first | done | with_reducible rfl⟩,fun _=>rfl⟩ ?_
   refine wpAnyIn_take (i:=2) (v:=?_) rfl rfl (by kernel_rfl) (by kernel_rfl) (by kernel_rfl) (fun _ _ _ h=>h) ⟨Or.inl ⟨by rfl,by intro w; go_simp; first | done | with_reducible rfl⟩,fun _=>rfl⟩ ?_
   refine wpAnyIn_ready (rs:=[3,4]) (by kernel_rfl) (by simp) ?_
   refine AllReadyIn.cons rfl (fun K hK=>?_) (AllReadyIn.cons rfl (fun K hK=>?_) AllReadyIn.nil)
   ·go_simp
    refine hK _ _ ?_
    clear hK K
    refine wpAnyIn_ready (rs:=[4]) (by kernel_rfl) (by simp) ?_
    refine AllReadyIn.cons rfl (fun K hK=>?_) AllReadyIn.nil
    go_simp
    refine hK _ _ ?_
    clear hK K
    refine wpAnyIn_ready (rs:=[5]) (by kernel_rfl) (by simp) ?_
    refine AllReadyIn.cons rfl (fun K hK=>?_) AllReadyIn.nil
    go_simp
    refine hK _ _ ?_
    clear hK K
    refine wpAnyIn_done (by kernel_rfl) ?_ _
    gi_wp2_with fail
    exact aU HE
   ·go_simp
    refine hK _ _ ?_
    clear hK K
    refine wpAnyIn_ready (rs:=[3]) (by kernel_rfl) (by simp) ?_
    refine AllReadyIn.cons rfl (fun K hK=>?_) AllReadyIn.nil
    go_simp
    refine hK _ _ ?_
    clear hK K
    refine wpAnyIn_ready (rs:=[5]) (by kernel_rfl) (by simp) ?_
    refine AllReadyIn.cons rfl (fun K hK=>?_) AllReadyIn.nil
    go_simp
    refine hK _ _ ?_
    clear hK K
    refine wpAnyIn_done (by kernel_rfl) ?_ _
    gi_wp2_with fail
    exact aU HE
  ·have HF:Hid (setP rs k=x.2):=by
    unfold setP
    rw [Hid,aU HS,if_pos ho]
   have HE:Hid (It.Above W2.heap.size W (W.setCell ⟨w.heap.size+1,0,none⟩ (.slice (some ⟨b,o'+x.1*4,none⟩) x.2.length x.2.length)).drew∧(Below w.heap.size w (W.setCell ⟨w.heap.size+1,0,none⟩ (.slice (some ⟨b,o'+x.1*4,none⟩) x.2.length x.2.length)).drew∧∃ x',x'∈runs aD rs∧setP rs k=x'.2∧It.Box (W.setCell ⟨w.heap.size+1,0,none⟩ (.slice (some ⟨b,o'+x.1*4,none⟩) x.2.length x.2.length)).drew (w.heap.size+1) (.slice (some ⟨b,o'+x'.1*4,none⟩) x'.2.length x'.2.length) 41)) :=
    ⟨It.Above.setCell W _ _ (by omega),(hB.setCell (by show w.heap.size≤w.heap.size+1; omega) _).drew,x,aU HM,aU HF,(aU HCB).set _⟩
   gi_wp2_with fail
   refine Ir.region_round hmx (Ir.noDefer_spec (by kernel_rfl)) ?_
   refine wpAnyIn_take (i:=0) (v:=?_) rfl rfl (by kernel_rfl) (by kernel_rfl) (by kernel_rfl) (fun _ _ _ h=>h) ⟨Or.inl ⟨by rfl,by intro w; go_simp; first | done | with_reducible rfl⟩,fun _=>rfl⟩ ?_
   refine wpAnyIn_take (i:=1) (v:=?_) rfl rfl (by kernel_rfl) (by kernel_rfl) (by kernel_rfl) (fun _ _ _ h=>h) ⟨Or.inl ⟨by rfl,by intro w; go_simp; first | done | with_reducible rfl⟩,fun _=>rfl⟩ ?_
   refine wpAnyIn_take (i:=2) (v:=?_) rfl rfl (by kernel_rfl) (by kernel_rfl) (by kernel_rfl) (fun _ _ _ h=>h) ⟨Or.inl ⟨by rfl,by intro w; go_simp; first | done | with_reducible rfl⟩,fun _=>rfl⟩ ?_
   refine wpAnyIn_ready (rs:=[3,4]) (by kernel_rfl) (by simp) ?_
   refine AllReadyIn.cons rfl (fun K hK=>?_) (AllReadyIn.cons rfl (fun K hK=>?_) AllReadyIn.nil)
   ·go_simp
    refine hK _ _ ?_
    clear hK K
    refine wpAnyIn_ready (rs:=[4]) (by kernel_rfl) (by simp) ?_
    refine AllReadyIn.cons rfl (fun K hK=>?_) AllReadyIn.nil
    go_simp
    refine hK _ _ ?_
    clear hK K
    refine wpAnyIn_ready (rs:=[5]) (by kernel_rfl) (by simp) ?_
    refine AllReadyIn.cons rfl (fun K hK=>?_) AllReadyIn.nil
    go_simp
    refine hK _ _ ?_
    clear hK K
    refine wpAnyIn_done (by kernel_rfl) ?_ _
    gi_wp2_with fail
    exact ⟨(aU HE).1,rfl,(aU HE).2⟩
   ·go_simp
    refine hK _ _ ?_
    clear hK K
    refine wpAnyIn_ready (rs:=[3]) (by kernel_rfl) (by simp) ?_
    refine AllReadyIn.cons rfl (fun K hK=>?_) AllReadyIn.nil
    go_simp
    refine hK _ _ ?_
    clear hK K
    refine wpAnyIn_ready (rs:=[5]) (by kernel_rfl) (by simp) ?_
    refine AllReadyIn.cons rfl (fun K hK=>?_) AllReadyIn.nil
    go_simp
    refine hK _ _ ?_
    clear hK K
    refine wpAnyIn_done (by kernel_rfl) ?_ _
    gi_wp2_with fail
    exact ⟨(aU HE).1,rfl,(aU HE).2⟩
 case done =>
  intro W hI hdef hsz
  obtain ⟨hf,hB,hn',hc⟩:=hI
  have cb:=hc.cell
  have cf:=hc.frozen
  have HF:Hid (setP rs k = []):=by
   unfold setP
   rw [Hid,← hf,List.drop_of_length_le (Nat.le_refl _)]; rfl
  clear hf
  gi_wp2_with fail
  have hd':=(Below.heap_setCell W ⟨w.heap.size+1,0,none⟩ (.slice none 0 0) W2.heap.size (by show W2.heap.size≠w.heap.size+1; omega)).trans hdef
  refine ⟨by simp,.inl ⟨_,_,rfl,run_takeDeferred hd',?_⟩⟩
  have cr:=((hc.set (.slice none 0 0)).put (d:=W2.heap.size) (o:=.deferred none) (by omega)).cell
  refine ⟨.slice none 0 0,by simp [results,Tryz.results112,go_sem,cr],⟨_,rfl,.inl ⟨rfl,by rw [hrs]; exact aU HF⟩⟩,?_⟩
  exact (hB.setCell (by show w.heap.size≤w.heap.size+1; omega) _).trans (belowK_b (w:=W2) (by omega) _ _ _ _ (Nat.le_refl _) hd' rfl rfl)
 case stop =>
  intro c W hI hdef hsz
  obtain ⟨rfl,hB,x,hx,hof,hc⟩:=hI
  have HF:=aH hof
  clear hof
  have cb:=hc.cell
  gi_wp2_with fail
  refine ⟨by simp,.inl ⟨_,_,rfl,run_takeDeferred hdef,?_⟩⟩
  have cr:=(hc.put (d:=W2.heap.size) (o:=.deferred none) (by omega)).cell
  have hB':=hB.trans (belowK_b (w:=W2) (show w.heap.size≤W2.heap.size by omega) W _ _ (.deferred none) (Nat.le_refl _) hdef rfl rfl)
  refine ⟨_,by simp [results,Tryz.results112,go_sem,cr]; rfl,⟨_,rfl,?_⟩,hB'⟩
  rw [hrs,aU HF]
  exact aU HPC _ x hx
end Zc
end Go.Proofs.YtkkpahmoljiepaaGreatDoor
