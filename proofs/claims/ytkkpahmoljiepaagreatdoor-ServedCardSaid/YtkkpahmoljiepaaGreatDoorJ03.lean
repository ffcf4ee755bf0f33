/- The law of a range over a function, for a loop whose state lies in blocks that lay ahead of it. Nothing of the translation is named here. -/
import Derived.Test.YtkkpahmoljiepaaGreatDoorJ02
import Derived.RangeFuncKeeps
import Derived.Laws.BitsAllLaws
import Derived.RegionTactic
import Derived.ChangeAlike
set_option linter.unusedSimpArgs false
set_option linter.unusedVariables false
namespace Go.Proofs.YtkkpahmoljiepaaGreatDoor
open Go.RowKit
namespace It
variable {P:Program} {α:Type}
def postA (d:Nat) (ks:List Nat) (I:World→Prop) (Ix:Code→World→Prop) (W:World):Exit→Act→World→Prop
 | .normal,_,W'=>Above d W W'∧(∀ k∈ks,W'.heap[k]? = W.heap[k]?)∧I W'
 | .ret,_,W'=>Above d W W'∧Ix .ret W'
 | .exit id,_,W'=>Above d W W'∧Ix (.exit id) W'
 | .goto t,_,W'=>Above d W W'∧Ix (.goto t) W'
 | .panic _,_,_=>False
 | .outgrown,_,_=>False
structure Keeps (d:Nat) (A B:World):Prop where
 os:B.os=A.os
 tape:B.tape=A.tape
 output:B.output=A.output
 size:A.heap.size≤B.heap.size
 block : ∀ k,k<A.heap.size→k≠d→B.heap[k]? = A.heap[k]?
theorem Keeps.of_below {d:Nat} {A B:World} (h:Below A.heap.size A B):Keeps d A B:=⟨h.os,h.tape,h.output,h.size,fun k hk _=>h.block k hk⟩
theorem Keeps.put {d:Nat} (A:World) (k:Nat) (o:Obj) (h:k=d:=by rfl):Keeps d A (A.putObj k o):=⟨rfl,rfl,rfl,by rw [World.putObj_size]; exact Nat.le_refl _,fun j _ hj=>World.putObj_heap_other (by omega)⟩
theorem Keeps.below {d n:Nat} {A B:World} (h:Keeps d A B) (hn:n≤d) (hs:n≤A.heap.size):Below n A B:=⟨h.os,h.tape,h.output,h.size,fun k hk=>h.block k (by omega) (by omega)⟩
theorem rangeB {g:Operand} {ps:Array Tmp} {assign body:Code} {Q:Exit→Act→World→Prop} {a:Act} {w:World}
  {gf:Nat} {lb:Array Value} (hg:a.eval g=.func (.func gf) #[] lb) (eg : ∀ args w,(callFunc gf args).run P w=.ok (.enter gf args) w)
  {encs:α→Array Value} {xs:List α} {St Kp Kx:World→World→Prop} (hps : ∀ x,(encs x).size=ps.size)
  (hseq : ∀ r,Seq P gf lb encs xs St Kp Kx ((w.alloc (.deferred (some []))).alloc (.loop r)))
  (ks:List Nat) (hks : ∀ k∈ks,k<w.heap.size)
  (hSt : ∀ A B,w.heap.size+2≤A.heap.size→St A B→Below (w.heap.size+2) A B)
  (hKp : ∀ A B,(∀ k∈ks,B.heap[k]? = A.heap[k]?)→Above (w.heap.size+2) A B→Kp A B)
  (hKx : ∀ A B,Above (w.heap.size+2) A B→Kx A B)
  (I:Nat→World→Prop) (Ix:Code→World→Prop)
  (hI : ∀ i A B,I i A→Below w.heap.size A B→I i B) (hIx : ∀ c A B,Ix c A→Below w.heap.size A B→Ix c B)
  (h0:I 0 w)
  (hround : ∀ (l i:Nat) (x:α) (V W:World),xs[i]? = some x→I i W→w.heap.size+2≤W.heap.size →
   assign.wpIn (Fence.wide.inRound l) 0 P (Exit.then (fun a₁ V'=>V'=V∧body.wpIn (Fence.wide.inRound l) 0 P (postA w.heap.size ks (I (i+1)) Ix W) a₁ W) (fun _ _ _=>False)) { tmps:=(ps.zip (encs x)).foldl (fun t (p,v)=>t.setIfInBounds p v) a.tmps,defers:=[] } V)
  (hdone : ∀ W,I xs.length W→W.heap[w.heap.size]? = some (.deferred (some []))→w.heap.size+2≤W.heap.size→Q .normal { a with defers:={ target:=.collected w.heap.size,args:=#[] } :: a.defers } W)
  (hstop : ∀ c W,Ix c W→W.heap[w.heap.size]? = some (.deferred (some []))→w.heap.size+2≤W.heap.size→c.wpIn Fence.wide 0 P Q { a with defers:={ target:=.collected w.heap.size,args:=#[] } :: a.defers } W) :
  (Code.rangeFunc g ps assign body).wpIn Fence.wide 0 P Q a w:=by
 have hput : ∀ (A:World) (r:Loop) (o:Obj),A.heap[w.heap.size+1]? = some (.loop r)→Below w.heap.size A (A.putObj (w.heap.size+1) o):=fun A r o hrec =>
  belowK_b (w:=w) (Nat.le_refl _) A _ _ o (by omega) hrec rfl rfl
 have hab : ∀ (W:World) (r r' r'':Loop) (Wc:World),W.heap[w.heap.size+1]? = some (.loop r)→Above w.heap.size (W.putObj (w.heap.size+1) (.loop r')) Wc→Above (w.heap.size+2) W (Wc.putObj (w.heap.size+1) (.loop r'')):=by
  intro W r r' r'' Wc hrec hk
  have hs:=hk.1
  rw [World.putObj_size] at hs
  refine ⟨by rw [World.putObj_size]; exact hs,fun k hk1 hk2=>?_⟩
  rw [World.putObj_heap_other (by omega),hk.2 _ (by omega) (by rw [World.putObj_size]; omega),World.putObj_heap_other (by omega)]
 refine rangeW (Kb:=fun A B=>Above w.heap.size A B∧∀ k∈ks,B.heap[k]? = A.heap[k]?) (Kbx:=fun A B=>Above w.heap.size A B) hg eg hps hseq
  (fun i W=>I i W∧w.heap.size+2≤W.heap.size) (fun c W=>Ix c W∧w.heap.size+2≤W.heap.size) ?_ ?_ ?_ ?_ ?_ ?_ ?_ ?_ ?_ (fun W h=>hdone W h.1) (fun c W h=>hstop c W h.1)
 ·intro A B hA hst
  have:=hSt A B hA hst
  exact ⟨this.size,this.block _ (by omega),this.block _ (by omega)⟩
 ·intro i A B hA hst
  have:=hSt A B hA.2 hst
  exact ⟨hI i A B hA.1 (this.mono (by omega)),Nat.le_trans hA.2 this.size⟩
 ·intro c A B hA hst
  have:=hSt A B hA.2 hst
  exact ⟨hIx c A B hA.1 (this.mono (by omega)),Nat.le_trans hA.2 this.size⟩
 ·exact fun i A r o h hrec=>⟨hI i A _ h.1 (hput A r o hrec),by rw [World.putObj_size]; exact h.2⟩
 ·exact fun c A r o h hrec=>⟨hIx c A _ h.1 (hput A r o hrec),by rw [World.putObj_size]; exact h.2⟩
 ·exact fun r=>⟨hI 0 w _ h0 (((Below.refl _ _).alloc (Nat.le_refl _) _).alloc (by simp) _),by simp⟩
 ·intro W r r' r'' Wc hrec hk hL
  refine hKp _ _ (fun k hk'=>?_) (hab W r r' r'' Wc hrec hk.1)
  have:=hks k hk'
  rw [World.putObj_heap_other (by omega),hk.2 k hk',World.putObj_heap_other (by omega)]
 ·intro W r r' r'' Wc hrec hk hL
  exact hKx _ _ (hab W r r' r'' Wc hrec hk)
 ·intro l i x V W hx hi hsz
  refine wpIn_mono (hround l i x V W hx hi.1 hsz) ?_
  rintro e0 a0 V0 hp0
  have hn0:e0=.normal:=by cases e0 <;> first | rfl | exact hp0.elim
  subst hn0
  obtain ⟨hV0,hbd⟩:=hp0
  refine ⟨hV0,wpIn_mono hbd ?_⟩
  rintro e a3 W3 hp
  cases e with
  | normal=>exact ⟨⟨hp.1.1,hp.1.2 _ (Nat.le_refl _) (by omega),hp.1.2 _ (by omega) (by omega)⟩,⟨hp.1,hp.2.1⟩,hp.2.2,Nat.le_trans hsz hp.1.1⟩
  | ret=>exact ⟨⟨hp.1.1,hp.1.2 _ (Nat.le_refl _) (by omega),hp.1.2 _ (by omega) (by omega)⟩,hp.1,hp.2,Nat.le_trans hsz hp.1.1⟩
  | exit id=>exact ⟨⟨hp.1.1,hp.1.2 _ (Nat.le_refl _) (by omega),hp.1.2 _ (by omega) (by omega)⟩,hp.1,hp.2,Nat.le_trans hsz hp.1.1⟩
  | goto t=>exact ⟨⟨hp.1.1,hp.1.2 _ (Nat.le_refl _) (by omega),hp.1.2 _ (by omega) (by omega)⟩,hp.1,hp.2,Nat.le_trans hsz hp.1.1⟩
  | panic ch=>exact hp.elim
  | outgrown=>exact hp.elim
theorem rangeC {g:Operand} {ps:Array Tmp} {assign body:Code} {Q:Exit→Act→World→Prop} {a:Act} {w:World}
  {gf:Nat} {lb:Array Value} (hg:a.eval g=.func (.func gf) #[] lb) (eg : ∀ args w,(callFunc gf args).run P w=.ok (.enter gf args) w)
  {encs:α→Array Value} {xs:List α} {St Kp Kx:World→World→Prop} (hps : ∀ x,(encs x).size=ps.size)
  (hseq : ∀ r,Seq P gf lb encs xs St Kp Kx ((w.alloc (.deferred (some []))).alloc (.loop r)))
  (ks:List Nat) (hks : ∀ k∈ks,k<w.heap.size)
  (hSt : ∀ A B,St A B→Below A.heap.size A B)
  (hKp : ∀ A B,(∀ k∈ks,B.heap[k]? = A.heap[k]?)→Above (w.heap.size+2) A B→Kp A B)
  (hKx : ∀ A B,Above (w.heap.size+2) A B→Kx A B)
  (I:Nat→World→Prop) (Ix:Code→World→Prop)
  (hI : ∀ i A B,I i A→w.heap.size≤A.heap.size→Keeps (w.heap.size+1) A B→I i B) (hIx : ∀ c A B,Ix c A→w.heap.size+2≤A.heap.size→Keeps (w.heap.size+1) A B→Ix c B)
  (h0:I 0 w)
  (hround : ∀ (l i:Nat) (x:α) (V W:World),xs[i]? = some x→I i W→w.heap.size+2≤W.heap.size →
   assign.wpIn (Fence.wide.inRound l) 0 P (Exit.then (fun a₁ V'=>V'=V∧body.wpIn (Fence.wide.inRound l) 0 P (postA w.heap.size ks (I (i+1)) Ix W) a₁ W) (fun _ _ _=>False)) { tmps:=(ps.zip (encs x)).foldl (fun t (p,v)=>t.setIfInBounds p v) a.tmps,defers:=[] } V)
  (hdone : ∀ W,I xs.length W→W.heap[w.heap.size]? = some (.deferred (some []))→w.heap.size+2≤W.heap.size→Q .normal { a with defers:={ target:=.collected w.heap.size,args:=#[] } :: a.defers } W)
  (hstop : ∀ c W,Ix c W→W.heap[w.heap.size]? = some (.deferred (some []))→w.heap.size+2≤W.heap.size→c.wpIn Fence.wide 0 P Q { a with defers:={ target:=.collected w.heap.size,args:=#[] } :: a.defers } W) :
  (Code.rangeFunc g ps assign body).wpIn Fence.wide 0 P Q a w:=by
 have hput : ∀ (A:World) (r:Loop) (o:Obj),A.heap[w.heap.size+1]? = some (.loop r)→Keeps (w.heap.size+1) A (A.putObj (w.heap.size+1) o):=fun A r o hrec=>Keeps.put A _ o
 have hab : ∀ (W:World) (r r' r'':Loop) (Wc:World),W.heap[w.heap.size+1]? = some (.loop r)→Above w.heap.size (W.putObj (w.heap.size+1) (.loop r')) Wc→Above (w.heap.size+2) W (Wc.putObj (w.heap.size+1) (.loop r'')):=by
  intro W r r' r'' Wc hrec hk
  have hs:=hk.1
  rw [World.putObj_size] at hs
  refine ⟨by rw [World.putObj_size]; exact hs,fun k hk1 hk2=>?_⟩
  rw [World.putObj_heap_other (by omega),hk.2 _ (by omega) (by rw [World.putObj_size]; omega),World.putObj_heap_other (by omega)]
 refine rangeW (Kb:=fun A B=>Above w.heap.size A B∧∀ k∈ks,B.heap[k]? = A.heap[k]?) (Kbx:=fun A B=>Above w.heap.size A B) hg eg hps hseq
  (fun i W=>I i W∧w.heap.size+2≤W.heap.size) (fun c W=>Ix c W∧w.heap.size+2≤W.heap.size) ?_ ?_ ?_ ?_ ?_ ?_ ?_ ?_ ?_ (fun W h=>hdone W h.1) (fun c W h=>hstop c W h.1)
 ·intro A B hA hst
  have:=hSt A B hst
  exact ⟨this.size,this.block _ (by omega),this.block _ (by omega)⟩
 ·intro i A B hA hst
  have:=hSt A B hst
  exact ⟨hI i A B hA.1 (by omega) (Keeps.of_below this),Nat.le_trans hA.2 this.size⟩
 ·intro c A B hA hst
  have:=hSt A B hst
  exact ⟨hIx c A B hA.1 hA.2 (Keeps.of_below this),Nat.le_trans hA.2 this.size⟩
 ·exact fun i A r o h hrec=>⟨hI i A _ h.1 (by omega) (hput A r o hrec),by rw [World.putObj_size]; exact h.2⟩
 ·exact fun c A r o h hrec=>⟨hIx c A _ h.1 h.2 (hput A r o hrec),by rw [World.putObj_size]; exact h.2⟩
 ·exact fun r=>⟨hI 0 w _ h0 (Nat.le_refl _) (Keeps.of_below (((Below.refl _ _).alloc (Nat.le_refl _) _).alloc (by simp) _)),by simp⟩
 ·intro W r r' r'' Wc hrec hk hL
  refine hKp _ _ (fun k hk'=>?_) (hab W r r' r'' Wc hrec hk.1)
  have:=hks k hk'
  rw [World.putObj_heap_other (by omega),hk.2 k hk',World.putObj_heap_other (by omega)]
 ·intro W r r' r'' Wc hrec hk hL
  exact hKx _ _ (hab W r r' r'' Wc hrec hk)
 ·intro l i x V W hx hi hsz
  refine wpIn_mono (hround l i x V W hx hi.1 hsz) ?_
  rintro e0 a0 V0 hp0
  have hn0:e0=.normal:=by cases e0 <;> first | rfl | exact hp0.elim
  subst hn0
  obtain ⟨hV0,hbd⟩:=hp0
  refine ⟨hV0,wpIn_mono hbd ?_⟩
  rintro e a3 W3 hp
  cases e with
  | normal=>exact ⟨⟨hp.1.1,hp.1.2 _ (Nat.le_refl _) (by omega),hp.1.2 _ (by omega) (by omega)⟩,⟨hp.1,hp.2.1⟩,hp.2.2,Nat.le_trans hsz hp.1.1⟩
  | ret=>exact ⟨⟨hp.1.1,hp.1.2 _ (Nat.le_refl _) (by omega),hp.1.2 _ (by omega) (by omega)⟩,hp.1,hp.2,Nat.le_trans hsz hp.1.1⟩
  | exit id=>exact ⟨⟨hp.1.1,hp.1.2 _ (Nat.le_refl _) (by omega),hp.1.2 _ (by omega) (by omega)⟩,hp.1,hp.2,Nat.le_trans hsz hp.1.1⟩
  | goto t=>exact ⟨⟨hp.1.1,hp.1.2 _ (Nat.le_refl _) (by omega),hp.1.2 _ (by omega) (by omega)⟩,hp.1,hp.2,Nat.le_trans hsz hp.1.1⟩
  | panic ch=>exact hp.elim
  | outgrown=>exact hp.elim
def postD (d:Nat) (ks:List Nat) (I:World→Prop) (Ix:Code→World→Prop) (W:World):Exit→Act→World→Prop
 | .normal,_,W'=>Loops d W W'∧(∀ k∈ks,W'.heap[k]? = W.heap[k]?)∧I W'
 | .ret,_,W'=>Loops d W W'∧Ix .ret W'
 | .exit id,_,W'=>Loops d W W'∧Ix (.exit id) W'
 | .goto t,_,W'=>Loops d W W'∧Ix (.goto t) W'
 | .panic _,_,_=>False
 | .outgrown,_,_=>False
theorem rangeD {g:Operand} {ps:Array Tmp} {assign body:Code} {Q:Exit→Act→World→Prop} {a:Act} {w:World}
  {gf:Nat} {lb:Array Value} (hg:a.eval g=.func (.func gf) #[] lb) (eg : ∀ args w,(callFunc gf args).run P w=.ok (.enter gf args) w)
  {encs:α→Array Value} {xs:List α} {St Kp Kx:World→World→Prop} (hps : ∀ x,(encs x).size=ps.size)
  (hseq : ∀ r,Seq P gf lb encs xs St Kp Kx ((w.alloc (.deferred (some []))).alloc (.loop r)))
  (ks:List Nat) (hks : ∀ k∈ks,k<w.heap.size)
  (hSt : ∀ A B,St A B→Below A.heap.size A B)
  (hKp : ∀ A B,(∀ k∈ks,B.heap[k]? = A.heap[k]?)→A.heap.size≤B.heap.size→Kp A B)
  (hKx : ∀ A B,Kx A B)
  (I:Nat→World→Prop) (Ix:Code→World→Prop)
  (hI : ∀ i A B,I i A→w.heap.size≤A.heap.size→Keeps (w.heap.size+1) A B→I i B) (hIx : ∀ c A B,Ix c A→w.heap.size+2≤A.heap.size→Keeps (w.heap.size+1) A B→Ix c B)
  (h0:I 0 w)
  (hround : ∀ (l i:Nat) (x:α) (V W:World),xs[i]? = some x→I i W→w.heap.size+2≤W.heap.size →
   assign.wpIn (Fence.wide.inRound l) 0 P (Exit.then (fun a₁ V'=>V'=V∧body.wpIn (Fence.wide.inRound l) 0 P (postD w.heap.size ks (I (i+1)) Ix W) a₁ W) (fun _ _ _=>False)) { tmps:=(ps.zip (encs x)).foldl (fun t (p,v)=>t.setIfInBounds p v) a.tmps,defers:=[] } V)
  (hdone : ∀ W,I xs.length W→W.heap[w.heap.size]? = some (.deferred (some []))→w.heap.size+2≤W.heap.size→Q .normal { a with defers:={ target:=.collected w.heap.size,args:=#[] } :: a.defers } W)
  (hstop : ∀ c W,Ix c W→W.heap[w.heap.size]? = some (.deferred (some []))→w.heap.size+2≤W.heap.size→c.wpIn Fence.wide 0 P Q { a with defers:={ target:=.collected w.heap.size,args:=#[] } :: a.defers } W) :
  (Code.rangeFunc g ps assign body).wpIn Fence.wide 0 P Q a w:=by
 have hput : ∀ (A:World) (r:Loop) (o:Obj),A.heap[w.heap.size+1]? = some (.loop r)→Keeps (w.heap.size+1) A (A.putObj (w.heap.size+1) o):=fun A r o hrec=>Keeps.put A _ o
 refine rangeW (Kb:=fun A B=>∀ k∈ks,B.heap[k]? = A.heap[k]?) (Kbx:=fun _ _=>True) hg eg hps hseq
  (fun i W=>I i W∧w.heap.size+2≤W.heap.size) (fun c W=>Ix c W∧w.heap.size+2≤W.heap.size) ?_ ?_ ?_ ?_ ?_ ?_ ?_ ?_ ?_ (fun W h=>hdone W h.1) (fun c W h=>hstop c W h.1)
 ·intro A B hA hst
  have:=hSt A B hst
  exact ⟨this.size,this.block _ (by omega),this.block _ (by omega)⟩
 ·intro i A B hA hst
  have:=hSt A B hst
  exact ⟨hI i A B hA.1 (by omega) (Keeps.of_below this),Nat.le_trans hA.2 this.size⟩
 ·intro c A B hA hst
  have:=hSt A B hst
  exact ⟨hIx c A B hA.1 hA.2 (Keeps.of_below this),Nat.le_trans hA.2 this.size⟩
 ·exact fun i A r o h hrec=>⟨hI i A _ h.1 (by omega) (hput A r o hrec),by rw [World.putObj_size]; exact h.2⟩
 ·exact fun c A r o h hrec=>⟨hIx c A _ h.1 h.2 (hput A r o hrec),by rw [World.putObj_size]; exact h.2⟩
 ·exact fun r=>⟨hI 0 w _ h0 (Nat.le_refl _) (Keeps.of_below (((Below.refl _ _).alloc (Nat.le_refl _) _).alloc (by simp) _)),by simp⟩
 ·intro W r r' r'' Wc hrec hk hL
  refine hKp _ _ (fun k hk'=>?_) ?_
  ·have:=hks k hk'
   rw [World.putObj_heap_other (by omega),hk k hk',World.putObj_heap_other (by omega)]
  ·have:=hL.1
   rw [World.putObj_size] at this ⊢
   exact this
 ·intro W r r' r'' Wc hrec hk hL
  exact hKx _ _
 ·intro l i x V W hx hi hsz
  refine wpIn_mono (hround l i x V W hx hi.1 hsz) ?_
  rintro e0 a0 V0 hp0
  have hn0:e0=.normal:=by cases e0 <;> first | rfl | exact hp0.elim
  subst hn0
  obtain ⟨hV0,hbd⟩:=hp0
  refine ⟨hV0,wpIn_mono hbd ?_⟩
  rintro e a3 W3 hp
  cases e with
  | normal=>exact ⟨hp.1,hp.2.1,hp.2.2,Nat.le_trans hsz hp.1.1⟩
  | ret=>exact ⟨hp.1,trivial,hp.2,Nat.le_trans hsz hp.1.1⟩
  | exit id=>exact ⟨hp.1,trivial,hp.2,Nat.le_trans hsz hp.1.1⟩
  | goto t=>exact ⟨hp.1,trivial,hp.2,Nat.le_trans hsz hp.1.1⟩
  | panic ch=>exact hp.elim
  | outgrown=>exact hp.elim
/-! ### a block of one cell -/
def Box (W:World) (k:Nat) (v:Value) (t:TypeId):Prop:=W.heap[k]? = some (.cells #[v] t)
theorem Box.cell {W:World} {k:Nat} {v:Value} {t:TypeId} (h:Box W k v t):W.cell? ⟨k,0,none⟩=some v:=by
 unfold Box at h; simp [World.cell?,h]
theorem Box.frozen {W:World} {k:Nat} {v:Value} {t:TypeId} (h:Box W k v t):W.frozen? ⟨k,0,none⟩=false:=by
 unfold Box at h; simp [World.frozen?,h]
theorem Box.lt {W:World} {k:Nat} {v:Value} {t:TypeId} (h:Box W k v t):k<W.heap.size:=(Array.getElem?_eq_some_iff.1 h).1
theorem Box.set {W:World} {k:Nat} {v:Value} {t:TypeId} (h:Box W k v t) (u:Value):Box (W.setCell ⟨k,0,none⟩ u) k u t:=by
 unfold Box at *
 simp only [World.setCell]
 rw [Array.getElem?_modify,if_pos rfl,h]
 rfl
theorem Box.below {W W':World} {k n:Nat} {v:Value} {t:TypeId} (h:Box W k v t) (hb:Below n W W') (hk:k<n):Box W' k v t:=(hb.block k hk).trans h
theorem Box.put {W:World} {k d:Nat} {v:Value} {t:TypeId} {o:Obj} (h:Box W k v t) (hk:k≠d):Box (W.putObj d o) k v t:=(World.putObj_heap_other hk).trans h
theorem Box.new (W:World) (v:Value) (t:TypeId):Box (W.alloc (.cells #[v] t)) W.heap.size v t:=World.alloc_heap_new W _
theorem Box.alloc {W:World} {k:Nat} {v:Value} {t:TypeId} (h:Box W k v t) (o:Obj):Box (W.alloc o) k v t:=(Below.heap_alloc W o k h.lt).trans h
theorem Above.setCell {d:Nat} (W:World) (k:Nat) (v:Value) (hk:k<d):Above d W (W.setCell ⟨k,0,none⟩ v) :=
 ⟨by simp [World.setCell],fun j hj _=>Below.heap_setCell _ _ _ _ (by show j≠k; omega)⟩
end It
end Go.Proofs.YtkkpahmoljiepaaGreatDoor

set_option maxRecDepth 1000000
set_option maxHeartbeats 12800000
namespace Go.Proofs.YtkkpahmoljiepaaGreatDoor
open Go.RowKit
open Pu (Str aH aU)
theorem Keeps_refl (d:Nat) (A:World):It.Keeps d A A:=⟨rfl,rfl,rfl,Nat.le_refl _,fun _ _ _=>rfl⟩
theorem Keeps_trans {d:Nat} {A B C:World} (h:It.Keeps d A B) (k:It.Keeps d B C):It.Keeps d A C :=
 ⟨k.os.trans h.os,k.tape.trans h.tape,k.output.trans h.output,Nat.le_trans h.size k.size,fun i hi hd=>(k.block i (Nat.lt_of_lt_of_le hi h.size) hd).trans (h.block i hi hd)⟩
theorem Keeps_set {d:Nat} {A B:World} (h:It.Keeps d A B) (o:Nat) (v:Value):It.Keeps d A (B.setCell ⟨d,o,none⟩ v) :=
 Keeps_trans h ⟨rfl,rfl,rfl,by simp [World.setCell],fun k _ hk=>Below.heap_setCell _ _ _ _ hk⟩
def RdAt (w:World) (b:Nat) (s:Str) (br:Bool):Prop:=w.heap[b]? = some (.cells #[.string (B s),.bool br] 215)
section
variable {w:World} {b:Nat} {s:Str} {br:Bool}
theorem RdAt.lt (h:RdAt w b s br):b<w.heap.size:=(Array.getElem?_eq_some_iff.1 h).1
theorem RdAt.cells (h:RdAt w b s br):w.cell? ⟨b,0,none⟩=some (.string (B s))∧w.cell? ⟨b,1,none⟩=some (.bool br):=by
 unfold RdAt at h
 constructor <;> simp [World.cell?,h]
theorem RdAt.frozen (h:RdAt w b s br) (i:Nat):w.frozen? ⟨b,i,none⟩=false:=by
 unfold RdAt at h; simp [World.frozen?,h]
theorem RdAt.set0 (h:RdAt w b s br) (t:Str):RdAt (w.setCell ⟨b,0,none⟩ (.string (B t))) b t br:=by
 unfold RdAt at *; simp only [World.setCell]; rw [Array.getElem?_modify,if_pos rfl,h]; rfl
theorem RdAt.set1 (h:RdAt w b s br) (t:Bool):RdAt (w.setCell ⟨b,1,none⟩ (.bool t)) b s t:=by
 unfold RdAt at *; simp only [World.setCell]; rw [Array.getElem?_modify,if_pos rfl,h]; rfl
theorem RdAt.kept {w':World} {d:Nat} (h:RdAt w b s br) (hk:It.Keeps d w w') (hd:b≠d):RdAt w' b s br:=(hk.block b h.lt hd).trans h
end
namespace Wa
open Ka
theorem B_take (s:Str) (n:Nat) (h:n≤s.length):(B s).extract 0 n=B (s.take n):=by
 apply ByteArray.ext
 simp [B,ByteArray.data_extract]
theorem B_drop (s:Str) (n m:Nat) (h:m=s.length):(B s).extract n m=B (s.drop n):=by
 subst h
 apply ByteArray.ext
 simp [B,ByteArray.data_extract]
 exact List.take_of_length_le (by simp)
theorem take_ok (b n:Nat) (s:Str) (br:Bool) (w:World) (h:RdAt w b s br) (hn:n≤s.length) (hl:s.length≤1000000000) :
  Calls Tryz.prog 148 #[.pointer (some ⟨b,0,none⟩),.int .i64 n] w fun e w' =>
   e=.returned (.string (B (s.take n)))∧RdAt w' b (s.drop n) br∧It.Keeps b w w'∧w'.heap.size=w.heap.size:=by
 obtain ⟨h0,h1⟩:=h.cells
 have hf:=h.frozen
 have HR:=aH h
 clear h
 have hs:(B s).size=s.length:=size_B s
 have HT:=aH (B_take s n hn)
 have HD:=aH (B_drop s n _ rfl)
 have hd : ¬ s.length<n:=by omega
 go_enter Tryz.func148,Tryz.ntmps148
 go_wp2
 go_ret
 rw [aU HD]
 refine ⟨?_,(aU HR).set0 _,Keeps_set (Keeps_refl _ _) _ _,by simp [World.setCell]⟩
 show Ending.returned (.string ((B s).extract 0 n))=_
 rw [aU HT]
theorem take_no (b n:Nat) (s:Str) (br:Bool) (w:World) (h:RdAt w b s br) (hn:s.length<n) (hl:n≤1000000000) :
  Calls Tryz.prog 148 #[.pointer (some ⟨b,0,none⟩),.int .i64 n] w fun e w' =>
   e=.returned (.string (B []))∧RdAt w' b [] true∧It.Keeps b w w'∧w'.heap.size=w.heap.size:=by
 obtain ⟨h0,h1⟩:=h.cells
 have hf:=h.frozen
 have HR:=aH h
 clear h
 have hs:(B s).size=s.length:=size_B s
 go_enter Tryz.func148,Tryz.ntmps148
 go_wp2
 go_ret
 exact ⟨rfl,((aU HR).set1 _).set0 [],Keeps_set (Keeps_set (Keeps_refl _ _) _ _) _ _,by simp [World.setCell]⟩
theorem octet_ok (b:Nat) (c:UInt8) (s:Str) (br:Bool) (w:World) (h:RdAt w b (c :: s) br) (hl:s.length<1000000000) :
  Calls Tryz.prog 198 #[.pointer (some ⟨b,0,none⟩)] w fun e w' =>
   e=.returned (.int .i64 c.toNat)∧RdAt w' b s br∧It.Keeps b w w'∧w'.heap.size=w.heap.size:=by
 have HC:=aH (take_ok b 1 (c :: s) br w h (by simp) (by simp; omega))
 clear h
 go_enter Tryz.func198,Tryz.ntmps198
 go_wp2_with fail
 refine (aU HC).mono ?_
 rintro e w1 ⟨rfl,hr,hk,hz⟩
 have HF:=aH (And.intro hr (And.intro hk hz))
 clear hr hk hz HC
 have e1:B (List.take 1 (c :: s))=⟨#[c]⟩:=rfl
 rw [e1]
 have HW:Hid (wrap64 (c.toNat:Int)=c.toNat):=by
  have:=UInt8.toNat_lt c
  show wrap64 _=_
  unfold wrap64; omega
 go_wp2_with fail
 go_ret
 refine ⟨?_,aU HF⟩
 show Ending.returned (.int .i64 (wrap64 (c.toNat:Int)))=_
 rw [aU HW]
theorem octet_no (b:Nat) (br:Bool) (w:World) (h:RdAt w b [] br) :
  Calls Tryz.prog 198 #[.pointer (some ⟨b,0,none⟩)] w fun e w' =>
   e=.returned (.int .i64 0)∧RdAt w' b [] true∧It.Keeps b w w'∧w'.heap.size=w.heap.size:=by
 have HC:=aH (take_no b 1 [] br w h (by simp) (by omega))
 clear h
 go_enter Tryz.func198,Tryz.ntmps198
 go_wp2_with fail
 refine (aU HC).mono ?_
 rintro e w1 ⟨rfl,hr,hk,hz⟩
 have HF:=aH (And.intro hr (And.intro hk hz))
 clear hr hk hz HC
 have e1:B []=⟨#[]⟩:=rfl
 rw [e1]
 go_wp2_with fail
 go_ret
 exact ⟨rfl,aU HF⟩
def octP:Str→Bool→Nat×Str×Bool
 | [],_=>(0,[],true)
 | c :: s,br=>(c.toNat,s,br)
theorem octP_lt (s:Str) (br:Bool):(octP s br).1<256:=by cases s <;> simp [octP]; exact UInt8.toNat_lt _
theorem octP_len (s:Str) (br:Bool):(octP s br).2.1.length≤s.length:=by cases s <;> simp [octP]
theorem octet_any (b:Nat) (s:Str) (br:Bool) (w:World) (h:RdAt w b s br) (hl:s.length≤1000000000) :
  Calls Tryz.prog 198 #[.pointer (some ⟨b,0,none⟩)] w fun e w' =>
   e=.returned (.int .i64 (octP s br).1)∧RdAt w' b (octP s br).2.1 (octP s br).2.2∧It.Keeps b w w'∧w'.heap.size=w.heap.size:=by
 cases s with
 | nil=>exact octet_no b br w h
 | cons c s=>exact octet_ok b c s br w h (by simp at hl; omega)
theorem i64_or_nat (a b:Nat) (ha:a<9223372036854775808) (hb:b<9223372036854775808):bits .or .i64 (a:Int) (b:Int)=((a ||| b:Nat):Int):=by
 have hx:a ||| b<2 ^ 63:=Nat.or_lt_two_pow (by omega) (by omega)
 show IntKind.i64.wrap ((BitVec.ofInt 64 (a:Int) ||| BitVec.ofInt 64 (b:Int)).toNat:Int)=_
 rw [BitVec.toNat_or,ofInt_u64 a (by omega),ofInt_u64 b (by omega)]
 generalize a ||| b=x at *
 rw [IntKind.wrap_i64]
 first | omega | (unfold wrap64; omega)
theorem or_byte (a b:Nat) (ha:a<256) (hb:b<256):bits .or .i64 ((a:Int)*256) b=((a*256+b:Nat):Int):=by
 have e:((a:Int)*256)=((a*256:Nat):Int):=by omega
 rw [e,i64_or_nat _ _ (by omega) (by omega),← Nat.shiftLeft_eq a 8,Nat.shiftLeft_add_eq_or_of_lt (by omega)]
def shortP (s:Str) (br:Bool):Nat×Str×Bool :=
 let x:=octP s br
 let y:=octP x.2.1 x.2.2
 (x.1*256+y.1,y.2.1,y.2.2)
theorem short_any (b:Nat) (s:Str) (br:Bool) (w:World) (h:RdAt w b s br) (hl:s.length≤1000000000) :
  Calls Tryz.prog 129 #[.pointer (some ⟨b,0,none⟩)] w fun e w' =>
   e=.returned (.int .i64 (shortP s br).1)∧RdAt w' b (shortP s br).2.1 (shortP s br).2.2∧It.Keeps b w w'∧w'.heap.size=w.heap.size:=by
 have HC:=aH (octet_any b s br w h hl)
 have HL:=aH (octP_len s br)
 have h1:=octP_lt s br
 have HE:Hid (shortP s br=((octP s br).1*256+(octP (octP s br).2.1 (octP s br).2.2).1,(octP (octP s br).2.1 (octP s br).2.2).2.1,(octP (octP s br).2.1 (octP s br).2.2).2.2)):=rfl
 generalize octP s br=x at *
 obtain ⟨n1,s1,b1⟩:=x
 simp only at HC HL h1 HE
 clear h
 go_enter Tryz.func129,Tryz.ntmps129
 go_wp2_with fail
 refine (aU HC).mono ?_
 rintro e w1 ⟨rfl,hr,hk,hz⟩
 have HD:=aH (octet_any b s1 b1 w1 hr (Nat.le_trans (aU HL) hl))
 have HF:=aH (And.intro hk hz)
 have h2:=octP_lt s1 b1
 generalize octP s1 b1=y at *
 obtain ⟨n2,s2,b2⟩:=y
 simp only at HD h2 HE
 clear hr hk hz HC
 go_wp2_with fail
 refine (aU HD).mono ?_
 rintro e w2 ⟨rfl,hr,hk,hz⟩
 have HG:=aH (And.intro hr (And.intro (Keeps_trans (aU HF).1 hk) (hz.trans (aU HF).2)))
 clear hr hk hz HD HF
 go_wp2_with fail
 go_ret
 rw [aU HE]
 refine ⟨?_,aU HG⟩
 show Ending.returned (.int .i64 (bits .or .i64 ((n1:Int)*256) n2))=.returned (.int .i64 ((n1*256+n2:Nat):Int))
 rw [or_byte n1 n2 h1 h2]
end Wa
namespace Rd
open Ka Kb Kd Ke Kf Rc
theorem numV_le (most:Nat) (l:Str):numV most l≤most:=by
 unfold numV Pu.num
 cases l with
 | nil=>simp
 | cons c r =>
  simp only []
  split
  ·simp
  ·cases h:Pu.numFrom most 0 (c :: r) with
   | none=>simp
   | some m=>simpa using numFrom_le _ _ _ h (Nat.zero_le _)
theorem isData_pieces (k:Int) (b:Nat) (x:ByteArray) (w:World) (hg:G w) (hat:StrsAt w b 0 (Sp.pieces 32 x)) (hx:x.size≤3000) :
  Calls Tryz.prog 170 #[.int .i64 k,.slice (some ⟨b,0,none⟩) (Sp.pieces 32 x).length (Sp.pieces 32 x).length] w fun e w'=>e=.returned (.bool (isData k (Sp.spl 32 x.data.toList)))∧Below w.heap.size w w':=by
 rw [← Sp.pieces_data]
 refine isData_any k b _ _ w hg hat (fun y hy=>Nat.le_trans (Sp.piece_size 32 x y hy) hx) ?_
 have:=Sp.spl_len_le 32 x.data.toList
 rw [← Sp.pieces_data,List.length_map,Pu.len_eq] at this
 omega
theorem readRecord_four (s x0 x1 x2 x3:ByteArray) (w:World) (hg:G w) (hs:s.size≤3000) (h4:four s = [x0,x1,x2,x3]) :
  Calls Tryz.prog 99 #[.string s] w fun e w' =>
   e=.returned (recR (if Sp.valid x0.data.toList && numB 86400 x1.data.toList && isData (Pu.kindOf x2.data.toList) (Sp.spl 32 x3.data.toList) then some (x0.data.toList,numV 86400 x1.data.toList,Pu.kindOf x2.data.toList,x3.data.toList) else none))∧Below w.heap.size w w':=by
 have hcall2:=splitN_any s (w.alloc (.cells #[.string ⟨#[]⟩,.int .i64 0,.int .i64 0,.string ⟨#[]⟩] 47)) (hg.alloc _) hs
 have hsz:=four_size s
 have hat:=strsAt_cellsOf (w.alloc (.cells #[.string ⟨#[]⟩,.int .i64 0,.int .i64 0,.string ⟨#[]⟩] 47)) (four s) (min 4 (s.size+1))
 rw [h4] at hcall2 hsz hat
 have hgW:G ((w.alloc (.cells #[.string ⟨#[]⟩,.int .i64 0,.int .i64 0,.string ⟨#[]⟩] 47)).alloc (.cells (Lib.cellsOf [x0,x1,x2,x3] (min 4 (s.size+1))) 9)):=(hg.alloc _).alloc _
 have hbW:Below w.heap.size w ((w.alloc (.cells #[.string ⟨#[]⟩,.int .i64 0,.int .i64 0,.string ⟨#[]⟩] 47)).alloc (.cells (Lib.cellsOf [x0,x1,x2,x3] (min 4 (s.size+1))) 9)) :=
  ((Below.refl _ _).alloc (Nat.le_refl _) _).alloc (by simp) _
 have r0:((w.alloc (.cells #[.string ⟨#[]⟩,.int .i64 0,.int .i64 0,.string ⟨#[]⟩] 47)).alloc (.cells (Lib.cellsOf [x0,x1,x2,x3] (min 4 (s.size+1))) 9)).cell? ⟨w.heap.size,0,none⟩=some (.string ⟨#[]⟩):=by simp
 have r1:((w.alloc (.cells #[.string ⟨#[]⟩,.int .i64 0,.int .i64 0,.string ⟨#[]⟩] 47)).alloc (.cells (Lib.cellsOf [x0,x1,x2,x3] (min 4 (s.size+1))) 9)).cell? ⟨w.heap.size,1,none⟩=some (.int .i64 0):=by simp
 have r2:((w.alloc (.cells #[.string ⟨#[]⟩,.int .i64 0,.int .i64 0,.string ⟨#[]⟩] 47)).alloc (.cells (Lib.cellsOf [x0,x1,x2,x3] (min 4 (s.size+1))) 9)).cell? ⟨w.heap.size,2,none⟩=some (.int .i64 0):=by simp
 have r3:((w.alloc (.cells #[.string ⟨#[]⟩,.int .i64 0,.int .i64 0,.string ⟨#[]⟩] 47)).alloc (.cells (Lib.cellsOf [x0,x1,x2,x3] (min 4 (s.size+1))) 9)).cell? ⟨w.heap.size,3,none⟩=some (.string ⟨#[]⟩):=by simp
 have rf : ∀ i,((w.alloc (.cells #[.string ⟨#[]⟩,.int .i64 0,.int .i64 0,.string ⟨#[]⟩] 47)).alloc (.cells (Lib.cellsOf [x0,x1,x2,x3] (min 4 (s.size+1))) 9)).frozen? ⟨w.heap.size,i,none⟩=false:=by intro i; simp
 have hzz:w.heap.size+1<((w.alloc (.cells #[.string ⟨#[]⟩,.int .i64 0,.int .i64 0,.string ⟨#[]⟩] 47)).alloc (.cells (Lib.cellsOf [x0,x1,x2,x3] (min 4 (s.size+1))) 9)).heap.size:=by simp
 rw [World.size_alloc] at hat hcall2
 generalize (w.alloc (.cells #[.string ⟨#[]⟩,.int .i64 0,.int .i64 0,.string ⟨#[]⟩] 47)).alloc (.cells (Lib.cellsOf [x0,x1,x2,x3] (min 4 (s.size+1))) 9)=W at *
 have c0:W.cell? ⟨w.heap.size+1,0,none⟩=some (.string x0):=hat.2 0 (by simp)
 have c1:W.cell? ⟨w.heap.size+1,1,none⟩=some (.string x1):=hat.2 1 (by simp)
 have c2:W.cell? ⟨w.heap.size+1,2,none⟩=some (.string x2):=hat.2 2 (by simp)
 have c3:W.cell? ⟨w.heap.size+1,3,none⟩=some (.string x3):=hat.2 3 (by simp)
 have t0:x0.size≤3000:=by have:=hsz x0 (by simp); omega
 have t1:x1.size≤3000:=by have:=hsz x1 (by simp); omega
 have t3:x3.size≤3000:=by have:=hsz x3 (by simp); omega
 have s0:x0.size≤maxLen:=by unfold maxLen; omega
 have s1:x1.size≤maxLen:=by unfold maxLen; omega
 simp only [List.length_cons,List.length_nil,Nat.zero_add,Nat.reduceAdd] at hcall2
 have hz0:w.heap.size<W.heap.size:=by omega
 have HC:=aH hcall2
 have HB:=aH hbW
 clear hcall2 hbW hat hsz h4
 cases v0:Sp.valid x0.data.toList
 ·go_enter Tryz.func99,Tryz.ntmps99
  go_wp2_with fail
  refine (aU HC).mono ?_
  rintro e w' ⟨rfl,rfl⟩
  go_wp2_with fail
  refine (valid_any x0 _ hgW s0).mono ?_
  rintro e w1 ⟨rfl,hb1⟩
  obtain ⟨bc,bf⟩:=bcell hb1
  go_wp2_with fail
  refine bodyPost_ret (v:=recR none) (by simp [results,Tryz.results99,go_sem,recR,Rec.val,Rec.zero,Rec.owner,Rec.ttl,Rec.type,Rec.data,B,bc,r0,r1,r2,r3,hz0]) rfl ⟨by simp,?_⟩
  exact (((((aU HB).trans (hb1.mono (by omega))).setCell (Nat.le_refl _) _).setCell (Nat.le_refl _) _).setCell (Nat.le_refl _) _).setCell (Nat.le_refl _) _
 cases v1:numB 86400 x1.data.toList
 ·go_enter Tryz.func99,Tryz.ntmps99
  go_wp2_with fail
  refine (aU HC).mono ?_
  rintro e w' ⟨rfl,rfl⟩
  go_wp2_with fail
  refine (valid_any x0 _ hgW s0).mono ?_
  rintro e w1 ⟨rfl,hb1⟩
  obtain ⟨bc,bf⟩:=bcell hb1
  go_wp2_with fail
  refine (readNumber_any x1 86400 _ s1 (by omega)).mono ?_
  rintro e w2 ⟨rfl,rfl⟩
  go_wp2_with fail
  refine (kindOf_any x2 _).mono ?_
  rintro e w2 ⟨rfl,rfl⟩
  go_wp2_with fail
  refine bodyPost_ret (v:=recR none) (by simp [results,Tryz.results99,go_sem,recR,Rec.val,Rec.zero,Rec.owner,Rec.ttl,Rec.type,Rec.data,B, bc,r0,r1,r2,r3,hz0]) rfl ⟨by simp,?_⟩
  exact (((((aU HB).trans (hb1.mono (by omega))).setCell (Nat.le_refl _) _).setCell (Nat.le_refl _) _).setCell (Nat.le_refl _) _).setCell (Nat.le_refl _) _
 cases v2:isData (Pu.kindOf x2.data.toList) (Sp.spl 32 x3.data.toList)
 all_goals
  go_enter Tryz.func99,Tryz.ntmps99
  go_wp2_with fail
  refine (aU HC).mono ?_
  rintro e w' ⟨rfl,rfl⟩
  go_wp2_with fail
  refine (valid_any x0 _ hgW s0).mono ?_
  rintro e w1 ⟨rfl,hb1⟩
  obtain ⟨bc,bf⟩:=bcell hb1
  have hg1:=hgW.below hb1
  go_wp2_with fail
  refine (readNumber_any x1 86400 _ s1 (by omega)).mono ?_
  rintro e w2 ⟨rfl,rfl⟩
  go_wp2_with fail
  refine (kindOf_any x2 _).mono ?_
  rintro e w2 ⟨rfl,rfl⟩
  go_wp2_with fail
  refine (split_any x3 32 _ hg1 (by omega)).mono ?_
  rintro e w3 ⟨rfl,hw3⟩
  have hb3:Below w2.heap.size w2 w3:=by rw [hw3]; exact (Below.refl _ _).alloc (Nat.le_refl _) _
  have hat3:StrsAt w3 w2.heap.size 0 (Sp.pieces 32 x3):=by rw [hw3]; exact strsAt_alloc _ _
  have hg3:=hg1.below hb3
  clear hw3
  have hnv:(numV 86400 x1.data.toList:Int)≤86400:=by have:=numV_le 86400 x1.data.toList; omega
  go_wp2_with fail
  refine (isData_pieces _ _ x3 _ hg3 hat3 t3).mono ?_
  rintro e w4 ⟨rfl,hb4⟩
  have hb14:Below w'.heap.size w' w4:=hb1.trans ((hb3.trans (hb4.mono hb3.size)).mono hb1.size)
  clear bc bf hat3 hg3 hb3 hb4 hb1 hg1
  obtain ⟨bc,bf⟩:=bcell hb14
  go_wp2_with fail
 ·refine bodyPost_ret (v:=recR none) (by simp [results,Tryz.results99,go_sem,recR,Rec.val,Rec.zero,Rec.owner,Rec.ttl,Rec.type,Rec.data,B, bc,r0,r1,r2,r3,hz0]) rfl ⟨by simp,?_⟩
  exact (((((aU HB).trans (hb14.mono (by omega))).setCell (Nat.le_refl _) _).setCell (Nat.le_refl _) _).setCell (Nat.le_refl _) _).setCell (Nat.le_refl _) _
 ·go_region
  all_goals
   go_wp2
   refine bodyPost_ret (v:=recR (some (x0.data.toList,numV 86400 x1.data.toList,Pu.kindOf x2.data.toList,x3.data.toList))) (by simp [results,Tryz.results99,go_sem,recR,Rec.val,Rec.owner,Rec.ttl,Rec.type,Rec.data,B_data,bc,r0,r1,r2,r3,hz0]) rfl ⟨by simp,?_⟩
   exact ((((((aU HB).trans (hb14.mono (by omega))).setCell (Nat.le_refl _) _).setCell (Nat.le_refl _) _).setCell (Nat.le_refl _) _).setCell (Nat.le_refl _) _).drew
theorem readRecord_any (s:ByteArray) (w:World) (hg:G w) (hs:s.size≤3000) :
  Calls Tryz.prog 99 #[.string s] w fun e w'=>e=.returned (recR (readRec s.data.toList))∧Below w.heap.size w w':=by
 by_cases h4:(four s).length=4
 ·match h:four s,h4 with
  | [x0,x1,x2,x3],_ =>
  have e:readRec s.data.toList=if Sp.valid x0.data.toList && numB 86400 x1.data.toList && isData (Pu.kindOf x2.data.toList) (Sp.spl 32 x3.data.toList) then some (x0.data.toList,numV 86400 x1.data.toList,Pu.kindOf x2.data.toList,x3.data.toList) else none:=by
   unfold readRec
   rw [← four_data,h]
   rfl
  rw [e]
  exact readRecord_four s x0 x1 x2 x3 w hg hs h
 ·have e:readRec s.data.toList=none:=by
   unfold readRec
   split
   ·rename_i he
    rw [← four_data] at he
    exact absurd (by have:=congrArg List.length he; simpa using this) h4
   ·rfl
  rw [e]
  exact readRecord_short s w hg hs h4
end Rd
end Go.Proofs.YtkkpahmoljiepaaGreatDoor
