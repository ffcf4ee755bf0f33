/- The law of a range over a function once more: a round is told that the loop's two objects are what they are. Nothing of the translation is named here. -/
import Derived.Test.YtkkpahmoljiepaaGreatDoorJ06
import Derived.Test.YtkkpahmoljiepaaGreatDoorJ17
import Derived.Test.YtkkpahmoljiepaaGreatDoorJ07
import Derived.Test.YtkkpahmoljiepaaGreatDoorJ04
import Derived.OrdersHeld
import Derived.Deep.RegionHeld
set_option linter.unusedSimpArgs false
set_option linter.unusedVariables false
namespace Go.Proofs.YtkkpahmoljiepaaGreatDoor
open Go.RowKit
namespace It
variable {P:Program} {α:Type}
theorem rangeT {g:Operand} {ps:Array Tmp} {assign body:Code} {Q:Exit→Act→World→Prop} {a:Act} {w:World}
  {gf:Nat} {lb:Array Value} (hg:a.eval g=.func (.func gf) #[] lb) (eg : ∀ args w,(callFunc gf args).run P w=.ok (.enter gf args) w)
  {encs:α→Array Value} {xs:List α} {St Kp Kx:World→World→Prop} (hps : ∀ x,(encs x).size=ps.size)
  (hseq : ∀ r,Seq P gf lb encs xs St Kp Kx ((w.alloc (.deferred (some []))).alloc (.loop r)))
  (I:Nat→World→Prop) (Ix:Code→World→Prop)
  (hSt : ∀ A B,w.heap.size+2≤A.heap.size→St A B→Loops w.heap.size A B)
  (hI : ∀ i A B,I i A→St A B→I i B) (hIx : ∀ c A B,Ix c A→St A B→Ix c B)
  (hIp : ∀ i A r o,I i A→A.heap[w.heap.size+1]? = some (.loop r)→I i (A.putObj (w.heap.size+1) o))
  (hIxp : ∀ c A r o,Ix c A→A.heap[w.heap.size+1]? = some (.loop r)→Ix c (A.putObj (w.heap.size+1) o))
  (h0 : ∀ r,I 0 ((w.alloc (.deferred (some []))).alloc (.loop r)))
  (Kb:World→World→Prop)
  (hKp : ∀ W r r' r'' Wc,W.heap[w.heap.size+1]? = some (.loop r)→Kb (W.putObj (w.heap.size+1) (.loop r')) Wc→Loops w.heap.size (W.putObj (w.heap.size+1) (.loop r')) Wc→Kp W (Wc.putObj (w.heap.size+1) (.loop r'')))
  (Kbx:World→World→Prop)
  (hKx : ∀ W r r' r'' Wc,W.heap[w.heap.size+1]? = some (.loop r)→Kbx (W.putObj (w.heap.size+1) (.loop r')) Wc→Loops w.heap.size (W.putObj (w.heap.size+1) (.loop r')) Wc→Kx W (Wc.putObj (w.heap.size+1) (.loop r'')))
  (hround : ∀ (l i:Nat) (x:α) (V W:World),xs[i]? = some x→I i W→w.heap.size+2≤W.heap.size→W.heap[w.heap.size]? = some (.deferred (some []))→(∃ r,W.heap[w.heap.size+1]? = some (.loop r)) →
   assign.wpIn (Fence.wide.inRound l) 0 P (Exit.then (fun a₁ V'=>V'=V∧body.wpIn (Fence.wide.inRound l) 0 P (post w.heap.size Kb Kbx (I (i+1)) Ix W) a₁ W) (fun _ _ _=>False)) { tmps:=(ps.zip (encs x)).foldl (fun t (p,v)=>t.setIfInBounds p v) a.tmps,defers:=[] } V)
  (hdone : ∀ W,I xs.length W→W.heap[w.heap.size]? = some (.deferred (some []))→w.heap.size+2≤W.heap.size→Q .normal { a with defers:={ target:=.collected w.heap.size,args:=#[] } :: a.defers } W)
  (hstop : ∀ c W,Ix c W→W.heap[w.heap.size]? = some (.deferred (some []))→w.heap.size+2≤W.heap.size→c.wpIn Fence.wide 0 P Q { a with defers:={ target:=.collected w.heap.size,args:=#[] } :: a.defers } W) :
  (Code.rangeFunc g ps assign body).wpIn Fence.wide 0 P Q a w:=by
 refine wpIn_rangeFunc fun fn hfn=>?_
 obtain ⟨D,hD⟩ : ∃ D,D=w.heap.size:=⟨_,rfl⟩
 obtain ⟨rec,hrec⟩ : ∃ rec:LoopState→Option Code→Loop,rec=fun st pe=>{ state:=st,pending:=pe,fn,tmps:=a.tmps,params:=ps,assign,body,defers:=w.heap.size }:=⟨_,rfl⟩
 have henter:=run_enterLoop_outer (P:=P) (w:=w) fn a.tmps ps assign body
 refine ⟨w.heap.size+1,[{ target:=.collected w.heap.size,args:=#[] }],(w.alloc (.deferred (some []))).alloc (.loop (rec .ready none)),
  { target:=.fn (.func gf) lb,args:=#[.func (.yield (w.heap.size+1)) #[] #[]] },(w.alloc (.deferred (some []))).alloc (.loop (rec .ready none)),gf,
  #[.func (.yield (w.heap.size+1)) #[] #[]]++lb,(w.alloc (.deferred (some []))).alloc (.loop (rec .ready none)),?_,?_,fun _ _=>trivial,?_,fun h=>by simp [Fence.wide] at h,?_⟩
 ·rw [hrec]; exact henter
 ·simp only [resolve,hg]
  simp [go_sem]
 ·simp [invoke,go_sem,eg]
 ·obtain ⟨W1,hW1⟩ : ∃ W1,(w.alloc (.deferred (some []))).alloc (.loop (rec .ready none))=W1:=⟨_,rfl⟩
  have hl1:W1.heap[w.heap.size+1]? = some (.loop (rec .ready none)):=by
   rw [← hW1]; have:=World.alloc_heap_new (w.alloc (.deferred (some []))) (.loop (rec .ready none)); rwa [World.size_alloc] at this
  have hd1:W1.heap[w.heap.size]? = some (.deferred (some [])):=by
   rw [← hW1]; exact (Below.heap_alloc _ _ _ (by simp)).trans (World.alloc_heap_new w _)
  have hsz : ∀ W:World,(∃ o,W.heap[w.heap.size+1]? = some o)→w.heap.size+2≤W.heap.size:=fun W ⟨o,h⟩=>by
   have:=(Array.getElem?_eq_some_iff.1 h).1; omega
  have hs:=hseq (rec .ready none) (w.heap.size+1)
   (fun i W=>I i W∧W.heap[w.heap.size+1]? = some (.loop (rec .ready none))∧W.heap[w.heap.size]? = some (.deferred (some [])))
   (fun W=>∃ c,Ix c W∧W.heap[w.heap.size+1]? = some (.loop (rec .done (some c)))∧W.heap[w.heap.size]? = some (.deferred (some [])))
   (fun i A B hA hst=>by
    obtain ⟨h1,h2,h3⟩:=hA
    have hL:=hSt A B (hsz A ⟨_,h2⟩) hst
    exact ⟨hI i A B h1 hst,hL.2.2.trans h2,hL.2.1.trans h3⟩)
   (fun A B hA hst=>by
    obtain ⟨c,h1,h2,h3⟩:=hA
    have hL:=hSt A B (hsz A ⟨_,h2⟩) hst
    exact ⟨c,hIx c A B h1 hst,hL.2.2.trans h2,hL.2.1.trans h3⟩)
   (fun i x W hx hj=>by
    obtain ⟨h1,h2,h3⟩:=hj
    have hy:=run_yield (P:=P) (args:=encs x) h2 (by rw [hrec]; exact hps x)
    rw [hrec] at hy
    have hlt:w.heap.size+1<W.heap.size:=(Array.getElem?_eq_some_iff.1 h2).1
    have e2:(W.putObj (w.heap.size+1) (.loop { rec .ready none with state:=.busy })).heap[w.heap.size+1]? = some (.loop { rec .ready none with state:=.busy }):=World.putObj_heap_same hlt
    have e3:(W.putObj (w.heap.size+1) (.loop { rec .ready none with state:=.busy })).heap[w.heap.size]? = some (.deferred (some [])):=(World.putObj_heap_other (by omega)).trans h3
    refine ⟨fn,_,assign,body,hy,roundIn_of_wpIn hfn (wpIn_mono (hround _ i x W (W.putObj (w.heap.size+1) (.loop { rec .ready none with state:=.busy })) hx (hIp i W _ _ h1 h2) (by rw [World.putObj_size]; omega) e3 ⟨_,e2⟩) ?_)⟩
    rintro e0 a0 V0 hp0
    have hn0:e0=.normal:=by cases e0 <;> first | rfl | exact hp0.elim
    subst hn0
    obtain ⟨hV0,hbd⟩:=hp0
    replace hV0:=hV0.symm
    subst hV0
    refine ⟨_,run_beginRound h2 (by rw [hrec]),wpIn_mono hbd ?_⟩
    have fin : ∀ (jump:Option Code) (W3:World),Loops w.heap.size (W.putObj (w.heap.size+1) (.loop { rec .ready none with state:=.busy })) W3 →
      (Instr.endRound (w.heap.size+1) jump).run P W3=.ok (.bool jump.isNone) (W3.putObj (w.heap.size+1) (.loop (rec (if jump.isNone then .ready else .done) jump))) ∧
      W3.heap[w.heap.size+1]? = some (.loop { rec .ready none with state:=.busy }) ∧
      (W3.putObj (w.heap.size+1) (.loop (rec (if jump.isNone then .ready else .done) jump))).heap[w.heap.size+1]? = some (.loop (rec (if jump.isNone then .ready else .done) jump)) ∧
      (W3.putObj (w.heap.size+1) (.loop (rec (if jump.isNone then .ready else .done) jump))).heap[w.heap.size]? = some (.deferred (some [])):=fun jump W3 hL=>by
     have l3:=hL.2.2.trans e2
     have hr:=run_endRound (P:=P) jump l3
     refine ⟨?_,l3,World.putObj_heap_same (Array.getElem?_eq_some_iff.1 l3).1,(World.putObj_heap_other (by omega)).trans (hL.2.1.trans e3)⟩
     rw [hr,hrec]
    rintro e a3 W3 hp
    cases e with
    | normal =>
     obtain ⟨hL,hk,hi⟩:=hp
     obtain ⟨f1,f2,f3,f4⟩:=fin none W3 hL
     exact ⟨_,_,f1,.inl ⟨rfl,⟨hIp _ _ _ _ hi f2,f3,f4⟩,hKp W _ _ _ W3 h2 hk hL⟩⟩
    | ret =>
     obtain ⟨hL,hk,hi⟩:=hp
     obtain ⟨f1,f2,f3,f4⟩:=fin (some .ret) W3 hL
     exact ⟨_,_,f1,.inr ⟨rfl,⟨.ret,hIxp _ _ _ _ hi f2,f3,f4⟩,hKx W _ _ _ W3 h2 hk hL⟩⟩
    | exit id =>
     obtain ⟨hL,hk,hi⟩:=hp
     obtain ⟨f1,f2,f3,f4⟩:=fin (some (.exit id)) W3 hL
     exact ⟨_,_,f1,.inr ⟨rfl,⟨.exit id,hIxp _ _ _ _ hi f2,f3,f4⟩,hKx W _ _ _ W3 h2 hk hL⟩⟩
    | goto t =>
     obtain ⟨hL,hk,hi⟩:=hp
     obtain ⟨f1,f2,f3,f4⟩:=fin (some (.goto t)) W3 hL
     exact ⟨_,_,f1,.inr ⟨rfl,⟨.goto t,hIxp _ _ _ _ hi f2,f3,f4⟩,hKx W _ _ _ W3 h2 hk hL⟩⟩
    | panic ch=>exact hp.elim
    | outgrown=>exact hp.elim)
   (by rw [hW1]; exact ⟨by rw [← hW1]; exact h0 _,hl1,hd1⟩)
  refine hs.mono ?_
  rintro e W2 ⟨⟨v,rfl⟩,⟨hi,hl,hk⟩ | ⟨c,hi,hl,hk⟩⟩
  ·have:=run_endLoop (P:=P) hl (by rw [hrec]; simp)
   exact ⟨none,_,by rw [this,hrec],hdone _ (hIp _ _ _ _ hi hl) ((World.putObj_heap_other (by omega)).trans hk) (by rw [World.putObj_size]; exact hsz _ ⟨_,hl⟩)⟩
  ·have:=run_endLoop (P:=P) hl (by rw [hrec]; simp)
   exact ⟨some c,_,by rw [this,hrec],hstop c _ (hIxp _ _ _ _ hi hl) ((World.putObj_heap_other (by omega)).trans hk) (by rw [World.putObj_size]; exact hsz _ ⟨_,hl⟩)⟩
theorem rangeE {g:Operand} {ps:Array Tmp} {assign body:Code} {Q:Exit→Act→World→Prop} {a:Act} {w:World}
  {gf:Nat} {lb:Array Value} (hg:a.eval g=.func (.func gf) #[] lb) (eg : ∀ args w,(callFunc gf args).run P w=.ok (.enter gf args) w)
  {encs:α→Array Value} {xs:List α} {St Kp Kx:World→World→Prop} (hps : ∀ x,(encs x).size=ps.size)
  (hseq : ∀ r,Seq P gf lb encs xs St Kp Kx ((w.alloc (.deferred (some []))).alloc (.loop r)))
  (ks:List Nat) (hks : ∀ k∈ks,k<w.heap.size)
  (hSt : ∀ A B,St A B→Below A.heap.size A B)
  (hKp : ∀ A B,(∀ k∈ks,B.heap[k]? = A.heap[k]?)→A.heap.size≤B.heap.size→Kp A B)
  (hKx : ∀ A B,Kx A B)
  (I:Nat→World→Prop) (Ix:Code→World→Prop)
  (hI : ∀ i A B,I i A→w.heap.size≤A.heap.size→Keeps (w.heap.size+1) A B→I i B) (hIx : ∀ c A B,Ix c A→w.heap.size+2≤A.heap.size→Keeps (w.heap.size+1) A B→Ix c B)
  (h0:I 0 w)
  (hround : ∀ (l i:Nat) (x:α) (V W:World),xs[i]? = some x→I i W→w.heap.size+2≤W.heap.size→W.heap[w.heap.size]? = some (.deferred (some []))→(∃ r,W.heap[w.heap.size+1]? = some (.loop r)) →
   assign.wpIn (Fence.wide.inRound l) 0 P (Exit.then (fun a₁ V'=>V'=V∧body.wpIn (Fence.wide.inRound l) 0 P (postD w.heap.size ks (I (i+1)) Ix W) a₁ W) (fun _ _ _=>False)) { tmps:=(ps.zip (encs x)).foldl (fun t (p,v)=>t.setIfInBounds p v) a.tmps,defers:=[] } V)
  (hdone : ∀ W,I xs.length W→W.heap[w.heap.size]? = some (.deferred (some []))→w.heap.size+2≤W.heap.size→Q .normal { a with defers:={ target:=.collected w.heap.size,args:=#[] } :: a.defers } W)
  (hstop : ∀ c W,Ix c W→W.heap[w.heap.size]? = some (.deferred (some []))→w.heap.size+2≤W.heap.size→c.wpIn Fence.wide 0 P Q { a with defers:={ target:=.collected w.heap.size,args:=#[] } :: a.defers } W) :
  (Code.rangeFunc g ps assign body).wpIn Fence.wide 0 P Q a w:=by
 have hput : ∀ (A:World) (r:Loop) (o:Obj),A.heap[w.heap.size+1]? = some (.loop r)→Keeps (w.heap.size+1) A (A.putObj (w.heap.size+1) o):=fun A r o hrec=>Keeps.put A _ o
 refine rangeT (Kb:=fun A B=>∀ k∈ks,B.heap[k]? = A.heap[k]?) (Kbx:=fun _ _=>True) hg eg hps hseq
  (fun i W=>I i W∧w.heap.size+2≤W.heap.size) (fun c W=>Ix c W∧w.heap.size+2≤W.heap.size) ?_ ?_ ?_ ?_ ?_ ?_ ?_ ?_ ?_ (fun W h=>hdone W h.1) (fun c W h=>hstop c W h.1)
 ·intro A B hA hst
  have:=hSt A B hst
  exact ⟨this.size,this.block _ (by omega),this.block _ (by omega)⟩
 ·intro i A B hA hst
  have:=hSt A B hst
  exact ⟨hI i A B hA.1 (by omega) (Keeps.of_below this),Nat.le_trans hA.2 this.size⟩
 ·intro c A B hA hst
  have:=hSt A B hst
  exact ⟨hIx c A B hA.1 hA.2 (Keeps.of_below this),Nat.le_trans hA.2 this.size⟩
 ·exact fun i A r o h hrec=>⟨hI i A _ h.1 (by omega) (hput A r o hrec),by rw [World.putObj_size]; exact h.2⟩
 ·exact fun c A r o h hrec=>⟨hIx c A _ h.1 h.2 (hput A r o hrec),by rw [World.putObj_size]; exact h.2⟩
 ·exact fun r=>⟨hI 0 w _ h0 (Nat.le_refl _) (Keeps.of_below (((Below.refl _ _).alloc (Nat.le_refl _) _).alloc (by simp) _)),by simp⟩
 ·intro W r r' r'' Wc hrec hk hL
  refine hKp _ _ (fun k hk'=>?_) ?_
  ·have:=hks k hk'
   rw [World.putObj_heap_other (by omega),hk k hk',World.putObj_heap_other (by omega)]
  ·have:=hL.1
   rw [World.putObj_size] at this ⊢
   exact this
 ·intro W r r' r'' Wc hrec hk hL
  exact hKx _ _
 ·intro l i x V W hx hi hsz hd1 hd2
  refine wpIn_mono (hround l i x V W hx hi.1 hsz hd1 hd2) ?_
  rintro e0 a0 V0 hp0
  have hn0:e0=.normal:=by cases e0 <;> first | rfl | exact hp0.elim
  subst hn0
  obtain ⟨hV0,hbd⟩:=hp0
  refine ⟨hV0,wpIn_mono hbd ?_⟩
  rintro e a3 W3 hp
  cases e with
  | normal=>exact ⟨hp.1,hp.2.1,hp.2.2,Nat.le_trans hsz hp.1.1⟩
  | ret=>exact ⟨hp.1,trivial,hp.2,Nat.le_trans hsz hp.1.1⟩
  | exit id=>exact ⟨hp.1,trivial,hp.2,Nat.le_trans hsz hp.1.1⟩
  | goto t=>exact ⟨hp.1,trivial,hp.2,Nat.le_trans hsz hp.1.1⟩
  | panic ch=>exact hp.elim
  | outgrown=>exact hp.elim
theorem Box.kept {W W':World} {k:Nat} {v:Value} {t:TypeId} (h:Box W k v t) (e:W'.heap[k]? = W.heap[k]?):Box W' k v t:=e.trans h
end It
end Go.Proofs.YtkkpahmoljiepaaGreatDoor

namespace Go.Proofs.YtkkpahmoljiepaaGreatDoor
open Go.RowKit
open Pu (Str aH aU)
attribute [local go_sem] Oper.semAt_some undef
theorem own_kept {w w':World} {base n sz:Nat} {t:TypeId} {v:Value} {xs:List Value} (h:w.ownsRow base t sz v n xs) (hg : ∀ g,v.ownBlock=some g→w'.heap[g]? = w.heap[g]?):w'.ownsRow base t sz v n xs:=by
 obtain ⟨h1,h2⟩:=h
 refine ⟨h1,?_⟩
 rcases h2 with h2 | ⟨g,cap,cur,rfl,hb,hcur,hr⟩
 ·exact .inl h2
 ·exact .inr ⟨g,cap,cur,rfl,hb,(hg g rfl).trans hcur,hr⟩
theorem own_kindB {W:World} {base g:Nat} {v:Value} {l:Str} (h:OwnB W base v l) (hg:v.ownBlock=some g) : ∃ cur,W.heap[g]? = some (.cells cur 5 (0,0)):=by
 obtain ⟨_,⟨rfl,_⟩ | ⟨g',cap,cur,rfl,_,hcur,_⟩⟩:=h
 ·simp [Value.ownBlock] at hg
 ·simp only [Value.ownBlock,Option.some.injEq] at hg
  subst hg
  exact ⟨cur,hcur⟩
namespace Ws
open Ka Kd Rg Ia Iow Ie Zb Zc Za La Wa Wb Wc Wd We Wf Wg Wh Wi Wj Wk Wl Wm Wn Wo Wp Re
theorem or_place (n:Nat) (h:n<16384):bits .or .i64 49152 (n:Int)=((49152+n:Nat):Int):=by
 have h1:=Wa.i64_or_nat 49152 n (by omega) (by omega)
 have h2:49152+n=49152 ||| n:=Nat.two_pow_add_eq_or_of_lt (i:=14) (b:=n) (by omega) 3
 rw [h2]; exact h1
theorem m_comp (s : ByteArray) (W : World) : (method 521 291 (.string s) "beacon/wire.writeTo").run Tryz.prog W = .ok (338, .string s) W := by kernel_rfl
theorem c_comp (args:Array Value) (W:World):(callFunc 338 args).run Tryz.prog W=.ok (.enter 338 args) W:=by kernel_rfl
def ptr (n:Nat):Str:=[hi (49152+n),lo (49152+n)]
end Ws
end Go.Proofs.YtkkpahmoljiepaaGreatDoor

set_option maxRecDepth 1000000
set_option maxHeartbeats 12800000
namespace Go.Proofs.YtkkpahmoljiepaaGreatDoor
open Go.RowKit
open Pu (Str aH aU)
structure TG (mb base:Nat) (w w':World):Prop where
 os:w'.os=w.os
 tape:w'.tape=w.tape
 output:w'.output=w.output
 size:w.heap.size≤w'.heap.size
 block : ∀ i,i<w.heap.size→i≠mb→(i<base∨((∀ cur,w.heap[i]?≠some (.cells cur 5 (0,0)))∧∀ cur,w.heap[i]?≠some (.cells cur 343 (0,0))))→w'.heap[i]? = w.heap[i]?
 kp:Kp mb w w'
section
variable {mb base:Nat} {A B C:World}
theorem TG.refl (mb base:Nat) (w:World):TG mb base w w:=⟨rfl,rfl,rfl,Nat.le_refl _,fun _ _ _ _=>rfl,Kp.refl _ _⟩
theorem TG.same {w:World} (h:TG mb base w A) (h1:B.os=A.os) (h2:B.tape=A.tape) (h3:B.output=A.output) (h4:A.heap.size≤B.heap.size) (hb : ∀ i,i<w.heap.size→B.heap[i]? = A.heap[i]?):TG mb base w B :=
 ⟨h1.trans h.os,h2.trans h.tape,h3.trans h.output,Nat.le_trans h.size h4,fun i hi hm hp=>(hb i hi).trans (h.block i hi hm hp),h.kp.same hb⟩
theorem TG.trans (h:TG mb base A B) (k:TG mb base B C):TG mb base A C :=
 ⟨k.os.trans h.os,k.tape.trans h.tape,k.output.trans h.output,Nat.le_trans h.size k.size,fun i hi hm hp=>by
  have e:=h.block i hi hm hp
  refine (k.block i (Nat.lt_of_lt_of_le hi h.size) hm ?_).trans e
  rw [e]; exact hp,h.kp.trans k.kp h.size⟩
theorem TG.of_below (h:Below A.heap.size A B):TG mb base A B:=⟨h.os,h.tape,h.output,h.size,fun i hi _ _=>h.block i hi,Kp.below h⟩
theorem TG.of_tf (h:TF mb base A B):TG mb base A B:=⟨h.os,h.tape,h.output,h.size,fun i hi hm hp=>h.block i hi hm (hp.imp id And.left),h.kp⟩
theorem TG.keeps {w:World} {d:Nat} (h:TG mb base w A) (hk:It.Keeps d A B) (hd:w.heap.size≤d):TG mb base w B :=
 h.same hk.os hk.tape hk.output hk.size fun i hi=>hk.block i (Nat.lt_of_lt_of_le hi h.size) (by omega)
theorem G.tg {w w':World} (h:G w) (ht:TG mb base w w') (hb:0<base) (hm:0<mb):G w':=by
 obtain ⟨h0,m,hc⟩:=h
 exact ⟨Nat.lt_of_lt_of_le h0 ht.size,m,(World.cell?_of_block (ht.block 0 h0 (by omega) (.inl hb))).trans hc⟩
theorem TG.behind {w w':World} (h:TG mb base w w') {vb vp v1 p1:Value} (hm:MsgAt w mb vb vp) (hm1:MsgAt w' mb v1 p1) {g k:Nat} (hg:v1.ownBlock=some g) (hk:ownLen vb≤k) (hb:base≤g) {cur:Array Value} (hcur:w'.heap[g]? = some (.cells cur 5 (0,0))) (u:Value):TG mb base w (w'.setCell ⟨g,k,none⟩ u) :=
 ⟨h.os,h.tape,h.output,by simpa [World.setCell] using h.size,fun i hi hm hp=>by
  by_cases e:i=g
  ·subst e
   have he:=h.block i hi hm hp
   rcases hp with hp | hp
   ·omega
   ·rw [he] at hcur; exact absurd hcur (hp.1 cur)
  ·exact (Below.heap_setCell _ _ _ _ e).trans (h.block i hi hm hp),h.kp.behind hm hm1 hg hk hcur u⟩
theorem TG.box {w w':World} (ht:TG mb base w w') {k:Nat} {cs:Array Value} {t:TypeId} (h:w.heap[k]? = some (.cells cs t)) (hm:k≠mb) (h1:t≠5) (h2:t≠343):w'.heap[k]? = some (.cells cs t) :=
 (ht.block k (Array.getElem?_eq_some_iff.1 h).1 hm (.inr ⟨fun c hc=>by rw [h] at hc; simp at hc; exact h1 hc.2,fun c hc=>by rw [h] at hc; simp at hc; exact h2 hc.2⟩)).trans h
end
theorem no_cells {w:World} {d:Nat} {o:Obj} (h:w.heap[d]? = some o) (ho : ∀ cs t f,o≠.cells cs t f):(∀ cur,w.heap[d]?≠some (.cells cur 5 (0,0)))∧∀ cur,w.heap[d]?≠some (.cells cur 343 (0,0)) :=
 ⟨fun c hc=>by rw [h] at hc; exact ho _ _ _ (Option.some.inj hc),fun c hc=>by rw [h] at hc; exact ho _ _ _ (Option.some.inj hc)⟩
theorem TG.other {mb base:Nat} {w w':World} (ht:TG mb base w w') {d:Nat} {o:Obj} (h:w.heap[d]? = some o) (hm:d≠mb) (ho : ∀ cs t f,o≠.cells cs t f):w'.heap[d]? = w.heap[d]? :=
 ht.block d (Array.getElem?_eq_some_iff.1 h).1 hm (.inr (no_cells h ho))
abbrev Pl:=List (Str×Nat)
def MsgN (w:World) (mb base d:Nat) (l:Str) (ps:Pl):Prop:=∃ vb vp,MsgAt w mb vb vp∧OwnB w base vb l∧OwnP w base vp ps∧(∀ g,vb.ownBlock=some g→g≠d)∧∀ g,vp.ownBlock=some g→g≠d
def Msg (w:World) (mb base:Nat) (l:Str) (ps:Pl):Prop:=∃ vb vp,MsgAt w mb vb vp∧OwnB w base vb l∧OwnP w base vp ps
theorem own_kindP {W:World} {base g:Nat} {v:Value} {ps:Pl} (h:OwnP W base v ps) (hg:v.ownBlock=some g) : ∃ cur,W.heap[g]? = some (.cells cur 343 (0,0)):=by
 obtain ⟨_,⟨rfl,_⟩ | ⟨g',cap,cur,rfl,_,hcur,_⟩⟩:=h
 ·simp [Value.ownBlock] at hg
 ·simp only [Value.ownBlock,Option.some.injEq] at hg
  subst hg
  exact ⟨cur,hcur⟩
section
variable {w w':World} {mb base d:Nat} {l:Str} {ps:Pl}
theorem MsgN.msg (h:MsgN w mb base d l ps):Msg w mb base l ps:=by
 obtain ⟨vb,vp,h1,h2,h3,_⟩:=h
 exact ⟨vb,vp,h1,h2,h3⟩
theorem Msg.lt (h:Msg w mb base l ps):mb<w.heap.size:=by
 obtain ⟨vb,vp,h1,_⟩:=h
 exact h1.lt
theorem Msg.away (h:Msg w mb base l ps) (hd:(∀ cur,w.heap[d]?≠some (.cells cur 5 (0,0)))∧∀ cur,w.heap[d]?≠some (.cells cur 343 (0,0))):MsgN w mb base d l ps:=by
 obtain ⟨vb,vp,h1,h2,h3⟩:=h
 refine ⟨vb,vp,h1,h2,h3,fun g hg e=>?_,fun g hg e=>?_⟩
 ·obtain ⟨cur,hcur⟩:=own_kindB h2 hg
  rw [e] at hcur; exact hd.1 cur hcur
 ·obtain ⟨cur,hcur⟩:=own_kindP h3 hg
  rw [e] at hcur; exact hd.2 cur hcur
theorem Msg.new (h:Msg w mb base l ps) (hd:w.heap.size≤d):MsgN w mb base d l ps:=h.away ⟨fun cur hc=>by have:=(Array.getElem?_eq_some_iff.1 hc).1; omega,fun cur hc=>by have:=(Array.getElem?_eq_some_iff.1 hc).1; omega⟩
theorem Msg.below (h:Msg w mb base l ps) (hb:Below w.heap.size w w'):Msg w' mb base l ps:=by
 obtain ⟨vb,vp,h1,h2,h3⟩:=h
 exact ⟨vb,vp,h1.kept (hb.block mb h1.lt),own_below h2 hb,own_below h3 hb⟩
theorem MsgN.keeps (h:MsgN w mb base d l ps) (hk:It.Keeps d w w') (hm:mb≠d):MsgN w' mb base d l ps:=by
 obtain ⟨vb,vp,h1,h2,h3,h4,h5⟩:=h
 exact ⟨vb,vp,h1.kept (hk.block mb h1.lt hm),own_kept h2 fun g hg=>hk.block g (World.ownsRow.lt h2 g hg).2 (h4 g hg),own_kept h3 fun g hg=>hk.block g (World.ownsRow.lt h3 g hg).2 (h5 g hg),h4,h5⟩
theorem MsgN.put (h:MsgN w mb base d l ps) (o:Obj) (hm:mb≠d):Msg (w.putObj d o) mb base l ps:=(h.keeps (It.Keeps.put (d:=d) w d o) hm).msg
end
namespace Ma
open Ka Kd Rg Ia Wa Wb Wc Wd We Wf Wg Wh Wi Wj Wk Wl Wm Wn Wo Wp Ws Re
theorem own_tfP {w w':World} {mb base:Nat} {vb vp:Value} {ps:Pl} (h:OwnP w base vp ps) (hm:MsgAt w mb vb vp) (ht:TF mb base w w'):OwnP w' base vp ps :=
 own_kept h fun g hg=>by
  obtain ⟨cur,hcur⟩:=own_kindP h hg
  refine ht.block g (World.ownsRow.lt h g hg).2 (fun e=>?_) (.inr fun c hc=>?_)
  ·rw [e,hm] at hcur; simp at hcur
  ·rw [hcur] at hc; simp at hc
theorem put_m (mb base g cap:Nat) (fs:List Fd) (l:Str) (ps:Pl) (w:World) (hm:Msg w mb base l ps) (hbs:base≤w.heap.size)
  (hok : ∀ f∈fs,f.Ok) (hlt:g<w.heap.size) (hgm:g≠mb) (hkeep:g<base∨∀ cur,w.heap[g]?≠some (.cells cur 5 (0,0))) (hcells : ∀ j (h:j<fs.length),w.cell? ⟨g,j,none⟩=some (.iface fs[j].t fs[j].x))
  (hn:fs.length≤cap) (hc:fs.length≤1000000) (hl:l.length+(outs fs).length≤1000000) :
  Calls Tryz.prog 139 #[.pointer (some ⟨mb,0,none⟩),.slice (some ⟨g,0,none⟩) fs.length cap] w fun e w' =>
   e=.returned (.tuple #[])∧Msg w' mb base (l++outs fs) ps∧TG mb base w w':=by
 obtain ⟨vb,vp,h1,h2,h3⟩:=hm
 refine (put_any mb base g cap fs vb vp l w h1 h2 hbs hok hlt hgm hkeep hcells hn hc hl).mono ?_
 rintro e w' ⟨rfl,⟨vb',k1,k2⟩,k3⟩
 exact ⟨rfl,⟨vb',vp,k1,k2,own_tfP h3 h1 k3⟩,TG.of_tf k3⟩
def learnP (ps:Pl) (x:Str) (n:Nat):Pl:=if n<16384 then ps++[(x,n)] else ps
theorem learnP_len (ps:Pl) (x:Str) (n:Nat):(learnP ps x n).length≤ps.length+1:=by unfold learnP; split <;> simp
theorem learnP_ge (ps:Pl) (x:Str) (n:Nat):ps.length≤(learnP ps x n).length:=by unfold learnP; split <;> simp
theorem learn_skip (mb:Nat) (x:Str) (n:Nat) (w:World) (hn : ¬ n<16384) (hn2:n≤1000000) :
  Calls Tryz.prog 202 #[.pointer (some ⟨mb,0,none⟩),.string (B x),.int .i64 (n:Int)] w fun e w'=>e=.returned (.tuple #[])∧w'=w:=by
 have hnI : ¬ (n:Int)<16384:=by omega
 go_enter Tryz.func202,Tryz.ntmps202
 go_wp2
 refine bodyPost_end (v:=.tuple #[]) (by simp [results,Tryz.results202]) rfl ?_
 exact ⟨rfl,rfl⟩
def findP:Pl→Str→Option Nat
 | [],_=>none
 | p :: t,x=>if p.1 == x then some p.2 else findP t x
theorem findP_miss : ∀ (ps:Pl) (x:Str),findP ps x=none→∀ j (h:j<ps.length),(ps[j].1 == x)=false
 | [],_,_,j,h=>by simp at h
 | p :: t,x,hf,j,h=>by
  unfold findP at hf
  split at hf
  ·cases hf
  ·rename_i hp
   match j,h with
   | 0,_=>simpa using hp
   | j+1,h=>exact findP_miss t x hf j (by simpa using h)
theorem findP_hit : ∀ (ps:Pl) (x:Str) (n:Nat),findP ps x=some n→∃ j,∃ h:j<ps.length,ps[j].2=n∧ps[j].1=x∧∀ i (hi:i<j),(ps[i].1 == x)=false
 | [],_,_,hf=>by cases hf
 | p :: t,x,n,hf=>by
  unfold findP at hf
  split at hf
  ·rename_i hp
   exact ⟨0,by simp,by simpa using hf,by simpa using hp,fun i hi=>by omega⟩
  ·rename_i hp
   obtain ⟨j,hj,h1,h2,h3⟩:=findP_hit t x n hf
   refine ⟨j+1,by simpa using hj,by simpa using h1,by simpa using h2,fun i hi=>?_⟩
   match i,hi with
   | 0,_=>simpa using hp
   | i+1,hi=>simpa using h3 i (by omega)
theorem placeOf_miss (mb base:Nat) (x:Str) (vb vp:Value) (ps:Pl) (w:World) (hm:MsgAt w mb vb vp) (ho:OwnP w base vp ps) (hb : ∀ j (h:j<ps.length),(ps[j].1 == x)=false) (hl:ps.length≤1000) :
  Calls Tryz.prog 339 #[.pointer (some ⟨mb,0,none⟩),.string (B x)] w fun e w' =>
   e=.returned (.tuple #[.int .i64 0,.bool false])∧Below w.heap.size w w':=by
 by_cases hne:ps = []
 ·subst hne
  obtain ⟨a,n,c,rfl⟩:=own_slice ho
  obtain rfl:n=0:=by
   obtain ⟨_,⟨e,hz⟩ | ⟨g',cap',cur',e,_⟩⟩:=ho
   ·cases e; rfl
   ·cases e; rfl
  have hc0:=hm.cells.2
  clear hm ho hb
  go_enter Tryz.func339,Tryz.ntmps339
  go_wp2_with fail
  refine wp_loop_rounds 1 ?_
  rw [rounds_succ]
  go_wp2_with fail
  go_ret2
  exact ⟨rfl,Below.refl _ _⟩
 obtain ⟨g,cap,rfl,hg,hcap,hcell⟩:=place_at ho hne
 have hc0:=hm.cells.2
 have HC:=aH hcell
 have HB:=aH hb
 clear hm ho hcell hb hne
 go_enter Tryz.func339,Tryz.ntmps339
 go_wp2_with fail
 go_loopw [13] (fun i wr=>∃ k:Nat,i=.int .i64 k∧k≤ps.length∧Below w.heap.size w wr) (fun i _=>ps.length - (intOf i).toNat)
 case atStart=>exact ⟨0,rfl,Nat.zero_le _,Below.refl _ _⟩
 case round =>
  obtain ⟨k,rfl,hk,hbr⟩:=hrel
  have HBR:=aH hbr
  have hs:=hbr.size
  by_cases hkl:k<ps.length
  ·have hkI:(k:Int)<(ps.length:Int):=by omega
   obtain ⟨c0,c1⟩:=aU HC k hkl
   have d0:=(hbr.cell (p:=⟨g,k*2,none⟩) hg).trans c0
   have d1:=(hbr.cell (p:=⟨g,k*2+1,none⟩) hg).trans c1
   have hBB:((B ps[k].1).toList == (B x).toList)=(ps[k].1 == x):=B_inj
   clear c0 c1 hbr
   rw [aU HB k hkl] at hBB
   generalize ps[k].2=pn at *
   generalize B ps[k].1=pb at *
   go_wp2_with fail
   go_roundw
   case rel=>exact ⟨k+1,by go_num,by omega,(aU HBR).alloc hs _⟩
   case measure=>simp [intOf]; omega
  ·obtain rfl:k=ps.length:=by omega
   clear hbr
   go_wp2_with fail
   go_ret2
   exact ⟨rfl,aU HBR⟩
theorem placeOf_any (mb base:Nat) (x:Str) (l:Str) (ps:Pl) (w:World) (hm:Msg w mb base l ps) (hl:ps.length≤1000) :
  Calls Tryz.prog 339 #[.pointer (some ⟨mb,0,none⟩),.string (B x)] w fun e w' =>
   e=.returned (.tuple #[.int .i64 ((findP ps x).getD 0:Nat),.bool (findP ps x).isSome])∧Below w.heap.size w w':=by
 obtain ⟨vb,vp,h1,h2,h3⟩:=hm
 cases hf:findP ps x with
 | none=>exact placeOf_miss mb base x vb vp ps w h1 h3 (findP_miss ps x hf) hl
 | some n =>
  obtain ⟨j,hj,e1,e2,e3⟩:=findP_hit ps x n hf
  have:=placeOf_hit mb base j x vb vp ps w h1 h3 hj e2 e3 hl
  rw [e1] at this
  exact this
end Ma
end Go.Proofs.YtkkpahmoljiepaaGreatDoor

namespace Go.Proofs.YtkkpahmoljiepaaGreatDoor
open Go.RowKit
namespace Ih
variable {P:Program} {ops:Array Oper} {Q:Exit→Act→World→Prop} {S:World→Prop} {l:Nat}
def Only (Q:Exit→Act→World→Prop) (e:Exit) (a:Act) (w:World):Prop:=e=.normal∧Q .normal a w
theorem Only.no {e:Exit} {a:Act} {w:World} (h:Only Q e a w) (he:e≠.normal):False:=he h.1
theorem Only.out (h:LetsOut (Only Q)):False:=by
 obtain ⟨a,w,h⟩:=h
 cases h.1
theorem opIn_of_held {i:Nat} {K K':Act→World→Prop} (hK : ∀ a w,K a w→K' a w) {a:Act} {w:World} (h:wpOp P ops (Only Q) i K a w):wpOpIn Fence.wide 0 P ops Q i K' a w:=by
 unfold wpOp at h
 unfold wpOpIn
 split
 ·rename_i ho; simp only [ho] at h; exact hK _ _ h
 ·rename_i o ho
  simp only [ho] at h
  split
  ·rename_i hw
   simp only [hw,if_true] at h
   rcases h with h | ⟨_,h⟩
   ·unfold Oper.wp at h
    unfold Oper.wpIn
    refine ⟨fun _ _=>trivial,?_⟩
    rw [show Fence.wide.round=none from rfl,Oper.semAt_none]
    generalize (execOp a.eval o).run P w=r at *
    cases r with
    | ok x w' =>
     cases x <;> simp only [Oper.upon] at h
     all_goals first
      | exact hK _ _ h
      | exact h.elim
      | (refine ⟨fun h'=>by simp [Fence.wide] at h',callsIn_wide.2 (h.mono fun e w'' he=>?_)⟩
         cases e with
         | returned v=>exact hK _ _ he
         | panicked c=>exact (Only.no he (by simp)).elim
         | outgrown=>exact (Only.out he).elim)
      | skip
     exact ⟨fun h'=>by simp [Fence.wide] at h',fun c cs _=>let ⟨v,w'',r,s⟩:=h c cs; ⟨v,w'',hK _ _ r,stepsIn_wide.2 s⟩⟩
    | halt x w' =>
     cases x <;> simp only [Oper.upon] at h
     all_goals first
      | exact (Only.no h (by simp)).elim
      | exact h.elim
   ·exact (Only.out h).elim
  ·rename_i hw
   simp only [hw] at h
   exact ⟨fun _ _=>trivial,hK _ _ h⟩
theorem anyIn_of_held {md:Region.Mode} : ∀ (fuel:Nat) (listed:Array Bool) (a:Act) (w:World),wpAnyH P md ops (Only Q) S fuel listed a w→wpAnyIn Fence.wide 0 P md ops Q fuel listed a w
 | 0,_,_,_,h=>⟨h.1,h.2.2⟩
 | fuel+1,_,_,_,h=>⟨fun h0=>(h.1 h0).2,fun i hi=>opIn_of_held (fun a' w' h'=>anyIn_of_held fuel _ a' w' h'.2) (h.2 i hi)⟩
theorem region_held {id:Nat} {a:Act} {w:World} (S:World→Prop) (hm:P.follows .mixedOrders=true) (hnd : ∀ (i:Nat) (o:Oper),ops[i]? = some o→∀ c,o.op≠.defer c) (hS:S w.drew)
  (h:S w.drew→wpAnyH P .any ops (Only Q) S ops.size (Array.replicate ops.size false) a w.drew):(Code.region id ops true).wpIn (Fence.wide.inRound l) 0 P Q a w :=
 Ir.region_round hm hnd (anyIn_of_held _ _ _ _ (h hS))
end Ih
end Go.Proofs.YtkkpahmoljiepaaGreatDoor
