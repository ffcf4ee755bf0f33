import Derived.Test.YtkkpahmoljiepaaGreatDoorJ01
import Derived.RangeFuncKeeps
import Derived.Test.YtkkpahmoljiepaaGreatDoorJ02
set_option maxRecDepth 1000000
set_option maxHeartbeats 12800000
set_option linter.unusedSimpArgs false
set_option linter.unusedVariables false
namespace Go.Proofs.YtkkpahmoljiepaaGreatDoor
open Go.RowKit Go.Proofs.Tryz
section
variable {P:Program} {α:Type}
def MX(d:Nat)(ks:List Nat)(I:World->Prop)(Ix:Code->World->Prop)(W:World):Exit->Act->World->Prop
 | .normal,_,W'=>b_ d W W'/\(∀k∈ks,W'.heap[k]? = W.heap[k]?)/\I W'
 | .ret,_,W'=>b_ d W W'/\Ix .ret W'
 | .exit id,_,W'=>b_ d W W'/\Ix (.exit id) W'
 | .goto t,_,W'=>b_ d W W'/\Ix (.goto t) W'
 | .panic _,_,_=>False
 | .outgrown,_,_=>False
structure cF(d:Nat)(A B:World):Prop where
 os:B.os=A.os
 tape:B.tape=A.tape
 output:B.output=A.output
 size:A.heap.size<=B.heap.size
 block:∀k,k<A.heap.size->k≠d->B.heap[k]? = A.heap[k]?
theorem cF.vg{d:Nat}{A B:World}(h:aw A B):cF d A B:=⟨h.os,h.tape,h.output,h.size,fun k hk _=>h.block k hk⟩
theorem cF.put{d:Nat}(A:World)(k:Nat)(o:Obj)(h:k=d:=by rfl):cF d A (A.putObj k o):=⟨rfl,rfl,rfl,by rw[World.putObj_size];exact aL _,fun j _ hj=>World.putObj_heap_other ae⟩
theorem cF.below{d n:Nat}{A B:World}(h:cF d A B)(hn:n<=d)(hs:n<=A.heap.size):Below n A B:=⟨h.os,h.tape,h.output,h.size,fun k hk=>h.block k ae ae⟩
theorem Ao{g:Operand}{ps:Array Tmp}{assign body:Code}{Q:Exit->Act->World->Prop}{a:Act}{w:World}
  {gf:Nat} {lb:Array Value} (hg:a.eval g=.func (.func gf) #[] lb) (eg:∀args w,(callFunc gf args).run P w=.ok (.enter gf args) w)
  {encs:α->Array Value} {xs:List α} {St Kp Kx:World->World->Prop} (iJ:∀x,(encs x).size=ps.size)
  (hseq:∀r,pQ P gf lb encs xs St Kp Kx ((w.alloc (.deferred (some []))).alloc (.loop r)))
  (ks:List Nat) (Ap:∀k∈ks,k<w.heap.size)
  (iX:∀A B,w.heap.size+2<=A.heap.size->St A B->Below (w.heap.size+2) A B)
  (nE:∀A B,(∀k∈ks,B.heap[k]? = A.heap[k]?)->b_ (w.heap.size+2) A B->Kp A B)
  (hKx:∀A B,b_ (w.heap.size+2) A B->Kx A B)
  (I:Nat->World->Prop) (Ix:Code->World->Prop)
  (hI:∀i A B,I i A->Below w.heap.size A B->I i B) (kX:∀c A B,Ix c A->Below w.heap.size A B->Ix c B)
  (h0:I 0 w)
  (qM:∀(l i:Nat) (x:α) (V W:World),xs[i]? = some x->I i W->w.heap.size+2<=W.heap.size ->
   assign.wpIn (Fence.wide.inRound l) 0 P (Exit.then (fun a₁ V'=>V'=V/\body.wpIn (Fence.wide.inRound l) 0 P (MX w.heap.size ks (I (i+1)) Ix W) a₁ W) (fun _ _ _=>False)) { tmps:=(ps.zip (encs x)).foldl (fun t (p,v)=>t.setIfInBounds p v) a.tmps,defers:=[] } V)
  (hdone:∀W,I xs.length W->W.heap[w.heap.size]? = some (.deferred (some []))->w.heap.size+2<=W.heap.size->Q .normal { a with defers:={ target:=.collected w.heap.size,args:=#[] } :: a.defers } W)
  (oQ:∀c W,Ix c W->W.heap[w.heap.size]? = some (.deferred (some []))->w.heap.size+2<=W.heap.size->c.wpIn Fence.wide 0 P Q { a with defers:={ target:=.collected w.heap.size,args:=#[] } :: a.defers } W) :
  (Code.rangeFunc g ps assign body).wpIn Fence.wide 0 P Q a w:=by
 have hput:∀(A:World) (r:Loop) (o:Obj),A.heap[w.heap.size+1]? = some (.loop r)->Below w.heap.size A (A.putObj (w.heap.size+1) o):=fun A r o cA =>
  belowK_b (w:=w) aB A _ _ o ae cA rfl rfl
 have hab:∀(W:World) (r r' r'':Loop) (Wc:World),W.heap[w.heap.size+1]? = some (.loop r)->b_ w.heap.size (W.putObj (w.heap.size+1) (.loop r')) Wc->b_ (w.heap.size+2) W (Wc.putObj (w.heap.size+1) (.loop r'')):=by
  intro W r r' r'' Wc cA hk;have hs:=hk.1;rw[World.putObj_size]at hs;refine⟨by rw[World.putObj_size];exact hs,fun k dN hk2=>?_⟩;rw[World.putObj_heap_other ae,hk.2 _ ae (by rw[World.putObj_size];omega),World.putObj_heap_other ae]
 refine Fo (Kb:=fun A B=>b_ w.heap.size A B/\∀k∈ks,B.heap[k]? = A.heap[k]?) (nD:=fun A B=>b_ w.heap.size A B) hg eg iJ hseq
  (fun i W=>I i W/\w.heap.size+2<=W.heap.size) (fun c W=>Ix c W/\w.heap.size+2<=W.heap.size) ?_ ?_ ?_ ?_ ?_ ?_ ?_ ?_ ?_ (fun W h=>hdone W h.1) (fun c W h=>oQ c W h.1)
 ·intro A B hA hst;have:=iX A B hA hst;exact⟨this.size,this.block _ ae,this.block _ ae⟩
 ·intro i A B hA hst;have:=iX A B hA.2 hst;exact⟨hI i A B hA.1 (this.mono ae),a_ hA.2 this.size⟩
 ·intro c A B hA hst;have:=iX A B hA.2 hst;exact⟨kX c A B hA.1 (this.mono ae),a_ hA.2 this.size⟩
 ·exact fun i A r o h cA=>⟨hI i A _ h.1 (hput A r o cA),by rw[World.putObj_size];exact h.2⟩
 ·exact fun c A r o h cA=>⟨kX c A _ h.1 (hput A r o cA),by rw[World.putObj_size];exact h.2⟩
 ·exact fun r=>⟨hI 0 w _ h0 ((bj.alloc aB _).alloc ak _),ak⟩
 ·intro W r r' r'' Wc cA hk hL;refine nE _ _ (fun k gU=>?_) (hab W r r' r'' Wc cA hk.1);have:=Ap k gU;rw[World.putObj_heap_other ae,hk.2 k gU,World.putObj_heap_other ae]
 ·intro W r r' r'' Wc cA hk hL;exact hKx _ _ (hab W r r' r'' Wc cA hk)
 ·intro l i x V W hx au hsz;refine wpIn_mono (qM l i x V W hx au.1 hsz) ?_;rintro e0 a0 V0 jf;have eY:e0=.normal:=by cases e0 <;> first|rfl|exact jf.elim
  subst eY;obtain⟨j_,jg⟩:=jf;refine⟨j_,wpIn_mono jg ?_⟩;rintro e a3 W3 hp;cases e with
  | normal=>exact⟨⟨hp.1.1,hp.1.2 _ aB ae,hp.1.2 _ ae ae⟩,⟨hp.1,hp.2.1⟩,hp.2.2,a_ hsz hp.1.1⟩
  | ret=>exact⟨⟨hp.1.1,hp.1.2 _ aB ae,hp.1.2 _ ae ae⟩,hp.1,hp.2,a_ hsz hp.1.1⟩
  | exit id=>exact⟨⟨hp.1.1,hp.1.2 _ aB ae,hp.1.2 _ ae ae⟩,hp.1,hp.2,a_ hsz hp.1.1⟩
  | goto t=>exact⟨⟨hp.1.1,hp.1.2 _ aB ae,hp.1.2 _ ae ae⟩,hp.1,hp.2,a_ hsz hp.1.1⟩
  | panic ch=>exact hp.elim
  | outgrown=>exact hp.elim
theorem acS{g:Operand}{ps:Array Tmp}{assign body:Code}{Q:Exit->Act->World->Prop}{a:Act}{w:World}
  {gf:Nat} {lb:Array Value} (hg:a.eval g=.func (.func gf) #[] lb) (eg:∀args w,(callFunc gf args).run P w=.ok (.enter gf args) w)
  {encs:α->Array Value} {xs:List α} {St Kp Kx:World->World->Prop} (iJ:∀x,(encs x).size=ps.size)
  (hseq:∀r,pQ P gf lb encs xs St Kp Kx ((w.alloc (.deferred (some []))).alloc (.loop r)))
  (ks:List Nat) (Ap:∀k∈ks,k<w.heap.size)
  (iX:∀A B,St A B->aw A B)
  (nE:∀A B,(∀k∈ks,B.heap[k]? = A.heap[k]?)->b_ (w.heap.size+2) A B->Kp A B)
  (hKx:∀A B,b_ (w.heap.size+2) A B->Kx A B)
  (I:Nat->World->Prop) (Ix:Code->World->Prop)
  (hI:∀i A B,I i A->w.heap.size<=A.heap.size->cF (w.heap.size+1) A B->I i B) (kX:∀c A B,Ix c A->w.heap.size+2<=A.heap.size->cF (w.heap.size+1) A B->Ix c B)
  (h0:I 0 w)
  (qM:∀(l i:Nat) (x:α) (V W:World),xs[i]? = some x->I i W->w.heap.size+2<=W.heap.size ->
   assign.wpIn (Fence.wide.inRound l) 0 P (Exit.then (fun a₁ V'=>V'=V/\body.wpIn (Fence.wide.inRound l) 0 P (MX w.heap.size ks (I (i+1)) Ix W) a₁ W) (fun _ _ _=>False)) { tmps:=(ps.zip (encs x)).foldl (fun t (p,v)=>t.setIfInBounds p v) a.tmps,defers:=[] } V)
  (hdone:∀W,I xs.length W->W.heap[w.heap.size]? = some (.deferred (some []))->w.heap.size+2<=W.heap.size->Q .normal { a with defers:={ target:=.collected w.heap.size,args:=#[] } :: a.defers } W)
  (oQ:∀c W,Ix c W->W.heap[w.heap.size]? = some (.deferred (some []))->w.heap.size+2<=W.heap.size->c.wpIn Fence.wide 0 P Q { a with defers:={ target:=.collected w.heap.size,args:=#[] } :: a.defers } W) :
  (Code.rangeFunc g ps assign body).wpIn Fence.wide 0 P Q a w:=by
 have hput:∀(A:World) (r:Loop) (o:Obj),A.heap[w.heap.size+1]? = some (.loop r)->cF (w.heap.size+1) A (A.putObj (w.heap.size+1) o):=fun A r o cA=>cF.put A _ o;have hab:∀(W:World) (r r' r'':Loop) (Wc:World),W.heap[w.heap.size+1]? = some (.loop r)->b_ w.heap.size (W.putObj (w.heap.size+1) (.loop r')) Wc->b_ (w.heap.size+2) W (Wc.putObj (w.heap.size+1) (.loop r'')):=by{intro W r r' r'' Wc cA hk;have hs:=hk.1;rw[World.putObj_size]at hs;refine⟨by rw[World.putObj_size];exact hs,fun k dN hk2=>?_⟩;rw[World.putObj_heap_other ae,hk.2 _ ae (by rw[World.putObj_size];omega),World.putObj_heap_other ae]};refine Fo (Kb:=fun A B=>b_ w.heap.size A B/\∀k∈ks,B.heap[k]? = A.heap[k]?) (nD:=fun A B=>b_ w.heap.size A B) hg eg iJ hseq (fun i W=>I i W/\w.heap.size+2<=W.heap.size) (fun c W=>Ix c W/\w.heap.size+2<=W.heap.size) ?_ ?_ ?_ ?_ ?_ ?_ ?_ ?_ ?_ (fun W h=>hdone W h.1) (fun c W h=>oQ c W h.1);{intro A B hA hst;have:=iX A B hst;exact⟨this.size,this.block _ ae,this.block _ ae⟩};{intro i A B hA hst;have:=iX A B hst;exact⟨hI i A B hA.1 ae (cF.vg this),a_ hA.2 this.size⟩};{intro c A B hA hst;have:=iX A B hst;exact⟨kX c A B hA.1 hA.2 (cF.vg this),a_ hA.2 this.size⟩};{exact fun i A r o h cA=>⟨hI i A _ h.1 ae (hput A r o cA),by rw[World.putObj_size];exact h.2⟩};{exact fun c A r o h cA=>⟨kX c A _ h.1 h.2 (hput A r o cA),by rw[World.putObj_size];exact h.2⟩};{exact fun r=>⟨hI 0 w _ h0 aB (cF.vg ((bj.alloc aB _).alloc ak _)),ak⟩};{intro W r r' r'' Wc cA hk hL;refine nE _ _ (fun k gU=>?_) (hab W r r' r'' Wc cA hk.1);have:=Ap k gU;rw[World.putObj_heap_other ae,hk.2 k gU,World.putObj_heap_other ae]};{intro W r r' r'' Wc cA hk hL;exact hKx _ _ (hab W r r' r'' Wc cA hk)};{
 intro l i x V W hx au hsz;refine wpIn_mono (qM l i x V W hx au.1 hsz) ?_;rintro e0 a0 V0 jf;have eY:e0=.normal:=by cases e0 <;> first|rfl|exact jf.elim
 subst eY;obtain⟨j_,jg⟩:=jf;refine⟨j_,wpIn_mono jg ?_⟩;rintro e a3 W3 hp;cases e with
 | normal=>exact⟨⟨hp.1.1,hp.1.2 _ aB ae,hp.1.2 _ ae ae⟩,⟨hp.1,hp.2.1⟩,hp.2.2,a_ hsz hp.1.1⟩
 | ret=>exact⟨⟨hp.1.1,hp.1.2 _ aB ae,hp.1.2 _ ae ae⟩,hp.1,hp.2,a_ hsz hp.1.1⟩
 | exit id=>exact⟨⟨hp.1.1,hp.1.2 _ aB ae,hp.1.2 _ ae ae⟩,hp.1,hp.2,a_ hsz hp.1.1⟩
 | goto t=>exact⟨⟨hp.1.1,hp.1.2 _ aB ae,hp.1.2 _ ae ae⟩,hp.1,hp.2,a_ hsz hp.1.1⟩
 | panic ch=>exact hp.elim
 | outgrown=>exact hp.elim}
def Jd(d:Nat)(ks:List Nat)(I:World->Prop)(Ix:Code->World->Prop)(W:World):Exit->Act->World->Prop
 | .normal,_,W'=>gq d W W'/\(∀k∈ks,W'.heap[k]? = W.heap[k]?)/\I W'
 | .ret,_,W'=>gq d W W'/\Ix .ret W'
 | .exit id,_,W'=>gq d W W'/\Ix (.exit id) W'
 | .goto t,_,W'=>gq d W W'/\Ix (.goto t) W'
 | .panic _,_,_=>False
 | .outgrown,_,_=>False
theorem acT{g:Operand}{ps:Array Tmp}{assign body:Code}{Q:Exit->Act->World->Prop}{a:Act}{w:World}
  {gf:Nat} {lb:Array Value} (hg:a.eval g=.func (.func gf) #[] lb) (eg:∀args w,(callFunc gf args).run P w=.ok (.enter gf args) w)
  {encs:α->Array Value} {xs:List α} {St Kp Kx:World->World->Prop} (iJ:∀x,(encs x).size=ps.size)
  (hseq:∀r,pQ P gf lb encs xs St Kp Kx ((w.alloc (.deferred (some []))).alloc (.loop r)))
  (ks:List Nat) (Ap:∀k∈ks,k<w.heap.size)
  (iX:∀A B,St A B->aw A B)
  (nE:∀A B,(∀k∈ks,B.heap[k]? = A.heap[k]?)->A.heap.size<=B.heap.size->Kp A B)
  (hKx:∀A B,Kx A B)
  (I:Nat->World->Prop) (Ix:Code->World->Prop)
  (hI:∀i A B,I i A->w.heap.size<=A.heap.size->cF (w.heap.size+1) A B->I i B) (kX:∀c A B,Ix c A->w.heap.size+2<=A.heap.size->cF (w.heap.size+1) A B->Ix c B)
  (h0:I 0 w)
  (qM:∀(l i:Nat) (x:α) (V W:World),xs[i]? = some x->I i W->w.heap.size+2<=W.heap.size ->
   assign.wpIn (Fence.wide.inRound l) 0 P (Exit.then (fun a₁ V'=>V'=V/\body.wpIn (Fence.wide.inRound l) 0 P (Jd w.heap.size ks (I (i+1)) Ix W) a₁ W) (fun _ _ _=>False)) { tmps:=(ps.zip (encs x)).foldl (fun t (p,v)=>t.setIfInBounds p v) a.tmps,defers:=[] } V)
  (hdone:∀W,I xs.length W->W.heap[w.heap.size]? = some (.deferred (some []))->w.heap.size+2<=W.heap.size->Q .normal { a with defers:={ target:=.collected w.heap.size,args:=#[] } :: a.defers } W)
  (oQ:∀c W,Ix c W->W.heap[w.heap.size]? = some (.deferred (some []))->w.heap.size+2<=W.heap.size->c.wpIn Fence.wide 0 P Q { a with defers:={ target:=.collected w.heap.size,args:=#[] } :: a.defers } W) :
  (Code.rangeFunc g ps assign body).wpIn Fence.wide 0 P Q a w:=by
 have hput:∀(A:World) (r:Loop) (o:Obj),A.heap[w.heap.size+1]? = some (.loop r)->cF (w.heap.size+1) A (A.putObj (w.heap.size+1) o):=fun A r o cA=>cF.put A _ o;refine Fo (Kb:=fun A B=>∀k∈ks,B.heap[k]? = A.heap[k]?) (nD:=fun _ _=>True) hg eg iJ hseq (fun i W=>I i W/\w.heap.size+2<=W.heap.size) (fun c W=>Ix c W/\w.heap.size+2<=W.heap.size) ?_ ?_ ?_ ?_ ?_ ?_ ?_ ?_ ?_ (fun W h=>hdone W h.1) (fun c W h=>oQ c W h.1);{intro A B hA hst;have:=iX A B hst;exact⟨this.size,this.block _ ae,this.block _ ae⟩};{intro i A B hA hst;have:=iX A B hst;exact⟨hI i A B hA.1 ae (cF.vg this),a_ hA.2 this.size⟩};{intro c A B hA hst;have:=iX A B hst;exact⟨kX c A B hA.1 hA.2 (cF.vg this),a_ hA.2 this.size⟩};{exact fun i A r o h cA=>⟨hI i A _ h.1 ae (hput A r o cA),by rw[World.putObj_size];exact h.2⟩};{exact fun c A r o h cA=>⟨kX c A _ h.1 h.2 (hput A r o cA),by rw[World.putObj_size];exact h.2⟩};{exact fun r=>⟨hI 0 w _ h0 aB (cF.vg ((bj.alloc aB _).alloc ak _)),ak⟩};{intro W r r' r'' Wc cA hk hL;refine nE _ _ (fun k gU=>?_) ?_;{have:=Ap k gU;rw[World.putObj_heap_other ae,hk k gU,World.putObj_heap_other ae]};{have:=hL.1;rw[World.putObj_size]at this ⊢;exact this}};{intro W r r' r'' Wc cA hk hL;exact hKx _ _};{
 intro l i x V W hx au hsz;refine wpIn_mono (qM l i x V W hx au.1 hsz) ?_;rintro e0 a0 V0 jf;have eY:e0=.normal:=by cases e0 <;> first|rfl|exact jf.elim
 subst eY;obtain⟨j_,jg⟩:=jf;refine⟨j_,wpIn_mono jg ?_⟩;rintro e a3 W3 hp;cases e with
 | normal=>exact⟨hp.1,hp.2.1,hp.2.2,a_ hsz hp.1.1⟩
 | ret=>exact⟨hp.1,aY,hp.2,a_ hsz hp.1.1⟩
 | exit id=>exact⟨hp.1,aY,hp.2,a_ hsz hp.1.1⟩
 | goto t=>exact⟨hp.1,aY,hp.2,a_ hsz hp.1.1⟩
 | panic ch=>exact hp.elim
 | outgrown=>exact hp.elim}
/-! ### a block of one cell -/
def aM(W:World)(k:Nat)(v:Value)(t:TypeId):Prop:=W.heap[k]? = some (.cells #[v] t)
theorem aM.cell{W:World}{k:Nat}{v:Value}{t:TypeId}(h:aM W k v t):W.cell? (ar k 0)=some v:=by unfold aM at h;simp[World.cell?,h]
theorem aM.frozen{W:World}{k:Nat}{v:Value}{t:TypeId}(h:aM W k v t):W.frozen? (ar k 0)=false:=by unfold aM at h;simp[World.frozen?,h]
theorem aM.lt{W:World}{k:Nat}{v:Value}{t:TypeId}(h:aM W k v t):k<W.heap.size:=(di.1 h).1
theorem aM.set{W:World}{k:Nat}{v:Value}{t:TypeId}(h:aM W k v t)(u:Value):aM (W.setCell ⟨k,0,none⟩ u) k u t:=by unfold aM at *;simp only[World.setCell];rw[iq,aP rfl,h];rfl
theorem aM.below{W W':World}{k n:Nat}{v:Value}{t:TypeId}(h:aM W k v t)(hb:Below n W W')(hk:k<n):aM W' k v t:=(hb.block k hk).trans h
theorem aM.put{W:World}{k d:Nat}{v:Value}{t:TypeId}{o:Obj}(h:aM W k v t)(hk:k≠d):aM (W.putObj d o) k v t:=(World.putObj_heap_other hk).trans h
theorem aM.ke(W:World)(v:Value)(t:TypeId):aM (W.alloc (.cells #[v] t)) W.heap.size v t:=World.alloc_heap_new W _
theorem aM.alloc{W:World}{k:Nat}{v:Value}{t:TypeId}(h:aM W k v t)(o:Obj):aM (W.alloc o) k v t:=(bV W o k h.lt).trans h
theorem b_.setCell{d:Nat}(W:World)(k:Nat)(v:Value)(hk:k<d):b_ d W (W.setCell ⟨k,0,none⟩ v) :=
 ⟨by simp[World.setCell],fun j hj _=>bf _ _ _ _ (by show j≠k;omega)⟩
end
theorem vh(d:Nat)(A:World):cF d A A:=⟨rfl,rfl,rfl,aL _,fun _ _ _=>rfl⟩
theorem CX{d:Nat}{A B C:World}(h:cF d A B)(k:cF d B C):cF d A C :=
 ⟨k.os.trans h.os,k.tape.trans h.tape,k.output.trans h.output,a_ h.size k.size,fun i au aD=>(k.block i (eQ au h.size) aD).trans (h.block i au aD)⟩
theorem qN{d:Nat}{A B:World}(h:cF d A B)(o:Nat)(v:Value):cF d A (B.setCell ⟨d,o,none⟩ v) :=
 CX h ⟨rfl,rfl,rfl,by simp[World.setCell],fun k _ hk=>bf _ _ _ _ hk⟩
def cB(w:World)(b:Nat)(s:ai)(br:Bool):Prop:=w.heap[b]? = some (.cells #[.string (ah s),.bool br] 215)
section
variable {w:World} {b:Nat} {s:ai} {br:Bool}
theorem cB.lt(h:cB w b s br):b<w.heap.size:=(di.1 h).1
theorem cB.cells(h:cB w b s br):w.cell? (ar b 0)=some (.string (ah s))/\w.cell? (ar b 1)=some (.bool br):=by unfold cB at h;constructor <;> simp[World.cell?,h]
theorem cB.frozen(h:cB w b s br)(i:Nat):w.frozen? (ar b i)=false:=by unfold cB at h;simp[World.frozen?,h]
theorem cB.set0(h:cB w b s br)(t:ai):cB (w.setCell ⟨b,0,none⟩ (.string (ah t))) b t br:=by unfold cB at *; simp only[World.setCell];rw[iq,aP rfl,h];rfl
theorem cB.set1(h:cB w b s br)(t:Bool):cB (w.setCell ⟨b,1,none⟩ (.bool t)) b s t:=by unfold cB at *; simp only[World.setCell];rw[iq,aP rfl,h];rfl
theorem cB.kept{w':World}{d:Nat}(h:cB w b s br)(hk:cF d w w')(aD:b≠d):cB w' b s br:=(hk.block b h.lt aD).trans h
end
theorem MZ(s:ai)(n:Nat)(h:n<=s.length):(ah s).extract 0 n=ah (s.take n):=by apply Iu;simp[ah,Mo]
theorem M0(s:ai)(n m:Nat)(h:m=s.length):(ah s).extract n m=ah (s.drop n):=by subst h;apply Iu;simp[ah,Mo];exact z8 ak
theorem M3(b n:Nat)(s:ai)(br:Bool)(w:World)(h:cB w b s br)(hn:n<=s.length)(hl:s.length<=1000000000) :
  aF 148 #[aO b,aq n] w fun e w' =>
   e=.returned (.string (ah (s.take n)))/\cB w' b (s.drop n) br/\cF b w w'/\w'.heap.size=w.heap.size:=by obtain⟨h0,h1⟩:=h.cells;have hf:=h.frozen;have aT:=ag h;clear h;have hs:(ah s).size=s.length:=dt s;have dJ:=ag (MZ s n hn);have HD:=ag (M0 s n _ rfl);have aD:¬s.length<n:=ae;go_enter func148,ntmps148;go_wp2;go_ret;rw[af HD];refine⟨?_,aT.set0 _,qN (vh _ _) _ _,by simp[World.setCell]⟩;show Ending.returned (.string ((ah s).extract 0 n))=_;rw[af dJ]
theorem M5(b n:Nat)(s:ai)(br:Bool)(w:World)(h:cB w b s br)(hn:s.length<n)(hl:n<=1000000000) :
  aF 148 #[aO b,aq n] w fun e w' =>
   e=.returned (.string (ah []))/\cB w' b [] true/\cF b w w'/\w'.heap.size=w.heap.size:=by obtain⟨h0,h1⟩:=h.cells;have hf:=h.frozen;have aT:=ag h;clear h;have hs:(ah s).size=s.length:=dt s;go_enter func148,ntmps148;go_wp2;go_ret;exact⟨rfl,(aT.set1 _).set0 [],qN (qN (vh _ _) _ _) _ _,by simp[World.setCell]⟩
theorem acU(b:Nat)(c:UInt8)(s:ai)(br:Bool)(w:World)(h:cB w b (c :: s) br)(hl:s.length<1000000000) :
  aF 198 #[aO b] w fun e w' =>
   e=.returned (aq c.toNat)/\cB w' b s br/\cF b w w'/\w'.heap.size=w.heap.size:=by have HC:=ag (M3 b 1 (c :: s) br w h ak aX);clear h;go_enter func198,ntmps198;go_wp2_with fail;refine HC.mono ?_;rintro e w1 ⟨rfl,hr,hk,hz⟩;have bg:=ag (bQ hr (bQ hk hz));clear hr hk hz HC;have e1:ah (List.take 1 (c :: s))=⟨#[c]⟩:=rfl;rw[e1];have HW:Hid (wrap64 (c.toNat:Int)=c.toNat):=by{have:=jX c;show wrap64 _=_;unfold wrap64;omega};go_wp2;go_ret;refine⟨?_,bg⟩;show Ending.returned (aq (wrap64 (c.toNat:Int)))=_;rw[af HW]
theorem acV(b:Nat)(br:Bool)(w:World)(h:cB w b [] br) :
  aF 198 #[aO b] w fun e w' =>
   e=.returned (aq 0)/\cB w' b [] true/\cF b w w'/\w'.heap.size=w.heap.size:=by have HC:=ag (M5 b 1 [] br w h ak ae);clear h;go_enter func198,ntmps198;go_wp2_with fail;refine HC.mono ?_;rintro e w1 ⟨rfl,hr,hk,hz⟩;have bg:=ag (bQ hr (bQ hk hz));clear hr hk hz HC;have e1:ah []=⟨#[]⟩:=rfl;rw[e1];go_wp2;go_ret;exact⟨rfl,bg⟩
def cY:ai->Bool->Nat×ai×Bool
 | [],_=>(0,[],true)
 | c :: s,br=>(c.toNat,s,br)
theorem CY(s:ai)(br:Bool):(cY s br).1<256:=by cases s <;> simp[cY];exact jX _
theorem vk(s:ai)(br:Bool):(cY s br).2.1.length<=s.length:=by cases s <;> simp[cY]
theorem oT(b:Nat)(s:ai)(br:Bool)(w:World)(h:cB w b s br)(hl:s.length<=1000000000) :
  aF 198 #[aO b] w fun e w' =>
   e=.returned (aq (cY s br).1)/\cB w' b (cY s br).2.1 (cY s br).2.2/\cF b w w'/\w'.heap.size=w.heap.size:=by
 cases s with
 | nil=>exact acV b br w h
 | cons c s=>exact acU b c s br w h (by simp at hl;omega)
theorem Fs(a b:Nat)(ha:a<9223372036854775808)(hb:b<9223372036854775808):bits .or .i64 (a:Int) (b:Int)=((a ||| b:Nat):Int):=by
 have hx:a ||| b<2 ^ 63:=Ff ae ae
 show IntKind.i64.wrap ((BitVec.ofInt 64 (a:Int) ||| BitVec.ofInt 64 (b:Int)).toNat:Int)=_;rw[BitVec.toNat_or,yf a ae,yf b ae];generalize a ||| b=x at *
 rw[gM];first|omega|(unfold wrap64;omega)
theorem acW(a b:Nat)(ha:a<256)(hb:b<256):bits .or .i64 ((a:Int)*256) b=((a*256+b:Nat):Int):=by have e:((a:Int)*256)=((a*256:Nat):Int):=ae;rw[e,Fs _ _ ae ae,<- Nat.shiftLeft_eq a 8,SG ae]
def cZ(s:ai)(br:Bool):Nat×ai×Bool :=
 let x:=cY s br
 let y:=cY x.2.1 x.2.2
 (x.1*256+y.1,y.2.1,y.2.2)
theorem kt(b:Nat)(s:ai)(br:Bool)(w:World)(h:cB w b s br)(hl:s.length<=1000000000) :
  aF 129 #[aO b] w fun e w' =>
   e=.returned (aq (cZ s br).1)/\cB w' b (cZ s br).2.1 (cZ s br).2.2/\cF b w w'/\w'.heap.size=w.heap.size:=by have HC:=ag (oT b s br w h hl);have eE:=ag (vk s br);have h1:=CY s br;have bu:Hid (cZ s br=((cY s br).1*256+(cY (cY s br).2.1 (cY s br).2.2).1,(cY (cY s br).2.1 (cY s br).2.2).2.1,(cY (cY s br).2.1 (cY s br).2.2).2.2)):=rfl;generalize cY s br=x at *;obtain⟨n1,s1,b1⟩:=x;simp only at HC eE h1 bu;clear h;go_enter func129,ntmps129;go_wp2_with fail;refine HC.mono ?_;rintro e w1 ⟨rfl,hr,hk,hz⟩;have HD:=ag (oT b s1 b1 w1 hr (a_ (af eE) hl));have bg:=ag (bQ hk hz);have h2:=CY s1 b1;generalize cY s1 b1=y at *;obtain⟨n2,s2,b2⟩:=y;simp only at HD h2 bu;clear hr hk hz HC;go_wp2_with fail;refine HD.mono ?_;rintro e w2 ⟨rfl,hr,hk,hz⟩;have HG:=ag (bQ hr (bQ (CX bg.1 hk) (hz.trans bg.2)));clear hr hk hz HD bg;go_wp2;go_ret;rw[af bu];refine⟨?_,HG⟩;show Ending.returned (aq (bits .or .i64 ((n1:Int)*256) n2))=.returned (aq ((n1*256+n2:Nat):Int));rw[acW n1 n2 h1 h2]
theorem acX(most:Nat)(l:ai):kV most l<=most:=by
 unfold kV pN;cases l with
 | nil=>simp
 | cons c r =>{
 simp only[];split;{simp};{
 cases h:lM most 0 (c :: r)with
 | none=>simp
 | some m=>simpa using Ta _ _ _ h (dY _)}}
theorem acY(k:Int)(b:Nat)(x:ByteArray)(w:World)(hg:bH w)(hat:pO w b 0 (ft 32 x))(hx:x.size<=3000) :
  aF 170 #[aq k,aU b 0 (ft 32 x).length (ft 32 x).length] w (cS (.bool (eF k (aS 32 x.data.toList))) w):=by rw[<- rU];refine acH k b _ _ w hg hat (fun y hy=>a_ (Fi 32 x y hy) hx) ?_;have:=yl 32 x.data.toList;rw[<- rU,hE,jv]at this;omega
theorem acZ(s x0 x1 x2 x3:ByteArray)(w:World)(hg:bH w)(hs:s.size<=3000)(h4:qL s = [x0,x1,x2,x3]) :
  aF 99 #[.string s] w fun e w' =>
   e=.returned (qK (if kU x0.data.toList && fL 86400 x1.data.toList && eF (u_ x2.data.toList) (aS 32 x3.data.toList)then some (x0.data.toList,kV 86400 x1.data.toList,u_ x2.data.toList,x3.data.toList)else none))/\aw w w':=by
 have yo:=Td s (w.alloc (.cells #[.string ⟨#[]⟩,.int .i64 0,.int .i64 0,.string ⟨#[]⟩] 47)) (hg.alloc _) hs;have hsz:=acJ s;have hat:=acK (w.alloc (.cells #[.string ⟨#[]⟩,.int .i64 0,.int .i64 0,.string ⟨#[]⟩] 47)) (qL s) (min 4 (s.size+1));rw[h4]at yo hsz hat;have wW:bH ((w.alloc (.cells #[.string ⟨#[]⟩,.int .i64 0,.int .i64 0,.string ⟨#[]⟩] 47)).alloc (.cells (Lib.cellsOf [x0,x1,x2,x3] (min 4 (s.size+1))) 9)):=(hg.alloc _).alloc _;have qO:aw w ((w.alloc (.cells #[.string ⟨#[]⟩,.int .i64 0,.int .i64 0,.string ⟨#[]⟩] 47)).alloc (.cells (Lib.cellsOf [x0,x1,x2,x3] (min 4 (s.size+1))) 9)) := (bj.alloc aB _).alloc ak _;have r0:((w.alloc (.cells #[.string ⟨#[]⟩,.int .i64 0,.int .i64 0,.string ⟨#[]⟩] 47)).alloc (.cells (Lib.cellsOf [x0,x1,x2,x3] (min 4 (s.size+1))) 9)).cell? (ar w.heap.size 0)=some (.string ⟨#[]⟩):=ak;have r1:((w.alloc (.cells #[.string ⟨#[]⟩,.int .i64 0,.int .i64 0,.string ⟨#[]⟩] 47)).alloc (.cells (Lib.cellsOf [x0,x1,x2,x3] (min 4 (s.size+1))) 9)).cell? (ar w.heap.size 1)=some (aq 0):=ak;have r2:((w.alloc (.cells #[.string ⟨#[]⟩,.int .i64 0,.int .i64 0,.string ⟨#[]⟩] 47)).alloc (.cells (Lib.cellsOf [x0,x1,x2,x3] (min 4 (s.size+1))) 9)).cell? (ar w.heap.size 2)=some (aq 0):=ak;have r3:((w.alloc (.cells #[.string ⟨#[]⟩,.int .i64 0,.int .i64 0,.string ⟨#[]⟩] 47)).alloc (.cells (Lib.cellsOf [x0,x1,x2,x3] (min 4 (s.size+1))) 9)).cell? (ar w.heap.size 3)=some (.string ⟨#[]⟩):=ak;have Tg:∀i,((w.alloc (.cells #[.string ⟨#[]⟩,.int .i64 0,.int .i64 0,.string ⟨#[]⟩] 47)).alloc (.cells (Lib.cellsOf [x0,x1,x2,x3] (min 4 (s.size+1))) 9)).frozen? (ar w.heap.size i)=false:=by intro i;simp
 have hzz:w.heap.size+1<((w.alloc (.cells #[.string ⟨#[]⟩,.int .i64 0,.int .i64 0,.string ⟨#[]⟩] 47)).alloc (.cells (Lib.cellsOf [x0,x1,x2,x3] (min 4 (s.size+1))) 9)).heap.size:=ak;rw[dI]at hat yo;generalize (w.alloc (.cells #[.string ⟨#[]⟩,.int .i64 0,.int .i64 0,.string ⟨#[]⟩] 47)).alloc (.cells (Lib.cellsOf [x0,x1,x2,x3] (min 4 (s.size+1))) 9)=W at *;have c0:W.cell? (ar (w.heap.size+1) 0)=some (.string x0):=hat.2 0 ak;have az:W.cell? (ar (w.heap.size+1) 1)=some (.string x1):=hat.2 1 ak;have c2:W.cell? (ar (w.heap.size+1) 2)=some (.string x2):=hat.2 2 ak;have c3:W.cell? (ar (w.heap.size+1) 3)=some (.string x3):=hat.2 3 ak;have t0:x0.size<=3000:=by have:=hsz x0 ak;omega
 have t1:x1.size<=3000:=by have:=hsz x1 ak;omega
 have t3:x3.size<=3000:=by have:=hsz x3 ak;omega
 have s0:x0.size<=maxLen:=by unfold maxLen;omega
 have s1:x1.size<=maxLen:=by unfold maxLen;omega
 simp only[cU,fV,kR,Nat.reduceAdd]at yo;have hz0:w.heap.size<W.heap.size:=ae;have HC:=ag yo;have aZ:=ag qO;clear yo qO hat hsz h4;cases v0:kU x0.data.toList;{go_enter func99,ntmps99;go_wp2_with fail;refine HC.mono ?_;rintro e w' ⟨rfl,rfl⟩;go_wp2_with fail;refine(Fk x0 _ wW s0).mono ?_;rintro e w1 ⟨rfl,hb1⟩;obtain⟨bc,Je⟩:=Ja hb1;go_wp2_with fail;refine df (v:=qK none) (by simp[results,results99,go_sem,qK,aj.pP,aj.zero,aj.owner,aj.aV,aj.type,aj.data,ah,bc,r0,r1,r2,r3,hz0]) rfl ⟨ak,?_⟩;exact((((aZ.trans (hb1.mono ae)).setCell aB _).setCell aB _).setCell aB _).setCell aB _};cases v1:fL 86400 x1.data.toList;{go_enter func99,ntmps99;go_wp2_with fail;refine HC.mono ?_;rintro e w' ⟨rfl,rfl⟩;go_wp2_with fail;refine(Fk x0 _ wW s0).mono ?_;rintro e w1 ⟨rfl,hb1⟩;obtain⟨bc,Je⟩:=Ja hb1;go_wp2_with fail;refine(MS x1 86400 _ s1 ae).mono ?_;rintro e w2 ⟨rfl,rfl⟩;go_wp2_with fail;refine(S9 x2 _).mono ?_;rintro e w2 ⟨rfl,rfl⟩;go_wp2_with fail;refine df (v:=qK none) (by simp[results,results99,go_sem,qK,aj.pP,aj.zero,aj.owner,aj.aV,aj.type,aj.data,ah, bc,r0,r1,r2,r3,hz0]) rfl ⟨ak,?_⟩;exact((((aZ.trans (hb1.mono ae)).setCell aB _).setCell aB _).setCell aB _).setCell aB _};cases v2:eF (u_ x2.data.toList) (aS 32 x3.data.toList);all_goals(
 go_enter func99,ntmps99;go_wp2_with fail;refine HC.mono ?_;rintro e w' ⟨rfl,rfl⟩;go_wp2_with fail;refine(Fk x0 _ wW s0).mono ?_;rintro e w1 ⟨rfl,hb1⟩;obtain⟨bc,Je⟩:=Ja hb1;have hg1:=wW.below hb1;go_wp2_with fail;refine(MS x1 86400 _ s1 ae).mono ?_;rintro e w2 ⟨rfl,rfl⟩;go_wp2_with fail;refine(S9 x2 _).mono ?_;rintro e w2 ⟨rfl,rfl⟩;go_wp2_with fail;refine(ve x3 32 _ hg1 ae).mono ?_;rintro e w3 ⟨rfl,hw3⟩;have hb3:aw w2 w3:=by rw[hw3];exact bj.alloc aB _
 have Th:pO w3 w2.heap.size 0 (ft 32 x3):=by rw[hw3];exact Fj _ _
 have hg3:=hg1.below hb3;clear hw3;have apO:(kV 86400 x1.data.toList:Int)<=86400:=by have:=acX 86400 x1.data.toList;omega
 go_wp2_with fail;refine(acY _ _ x3 _ hg3 Th t3).mono ?_;rintro e w4 ⟨rfl,hb4⟩;have nG:Below w'.heap.size w' w4:=hb1.trans ((hb3.trans (hb4.mono hb3.size)).mono hb1.size);clear bc Je Th hg3 hb3 hb4 hb1 hg1;obtain⟨bc,Je⟩:=Ja nG;go_wp2_with fail)
 {refine df (v:=qK none) (by simp[results,results99,go_sem,qK,aj.pP,aj.zero,aj.owner,aj.aV,aj.type,aj.data,ah, bc,r0,r1,r2,r3,hz0]) rfl ⟨ak,?_⟩;exact((((aZ.trans (nG.mono ae)).setCell aB _).setCell aB _).setCell aB _).setCell aB _};{go_region;all_goals(go_wp2;refine df (v:=qK (some (x0.data.toList,kV 86400 x1.data.toList,u_ x2.data.toList,x3.data.toList))) (by simp[results,results99,go_sem,qK,aj.pP,aj.owner,aj.aV,aj.type,aj.data,MT,bc,r0,r1,r2,r3,hz0]) rfl ⟨ak,?_⟩;exact(((((aZ.trans (nG.mono ae)).setCell aB _).setCell aB _).setCell aB _).setCell aB _).drew)}
theorem Ti(s:ByteArray)(w:World)(hg:bH w)(hs:s.size<=3000) :
  aF 99 #[.string s] w (cS (qK (oP s.data.toList)) w):=by
 by_cases h4:(qL s).length=4;{
 match h:qL s,h4 with
 | [x0,x1,x2,x3],_ =>
 have e:oP s.data.toList=if kU x0.data.toList && fL 86400 x1.data.toList && eF (u_ x2.data.toList) (aS 32 x3.data.toList)then some (x0.data.toList,kV 86400 x1.data.toList,u_ x2.data.toList,x3.data.toList)else none:=by{unfold oP;rw[<- MV,h];rfl}
 rw[e];exact acZ s x0 x1 x2 x3 w hg hs h};{have e:oP s.data.toList=none:=by{unfold oP;split;{rename_i he;rw[<- MV]at he;exact absurd (by have:=ek List.length he;simpa using this) h4};{rfl}};rw[e];exact acL s w hg hs h4}
def mj:List ai->Option (List aj)
 | []=>some []
 | l :: t=>(oP l).bind fun r=>(mj t).map (r :: ·)
def tO:ai:=[111,114,105,103,105,110,32]
def Fu:List ai->Option (ai×List aj)
 | []=>none
 | f :: t=>if Lib.hasPrefix f tO && fG (Lib.trimPrefix f tO)then(mj t).map (fun rs=>(Lib.trimPrefix f tO,rs))else none
def ku(l:ai):Option (ai×List aj) :=
 if Lib.hasSuffix l [10]then Fu (aS 10 (Lib.trimSuffix l [10]))else none
def fM(rs:List aj):List Value:=rs.flatMap aj.aN
theorem ac0(rs:List aj)(r:aj):fM (rs++[r])=fM rs++r.aN:=by simp[fM]
theorem Fv(rs:List aj):(fM rs).length=rs.length*4:=by
 induction rs with
 | nil=>rfl
 | cons r t ih=>simp only[fM,tG,bU]at *; rw[ih];simp[aj.aN];omega
def rX(w:World)(base:Nat)(v:Value)(rs:List aj):Prop:=w.ownsRow base 47 4 v rs.length (fM rs)/\(v=bK ↔ rs = [])
theorem oq{w w':World}{B e size n:Nat}{v:Value}{xs:List Value}(h:w.ownsRow B e size v n xs)(hb:aw w w'):w'.ownsRow B e size v n xs :=
 h.kept (row:=none) ⟨hb.os,hb.tape,hb.output,hb.size,fun k hk _=>hb.block k hk⟩ (Classical.em _)
theorem Jf{w:World}{B B' e size n:Nat}{v:Value}{xs:List Value}(h:w.ownsRow B e size v n xs)(hb:B'<=B):w.ownsRow B' e size v n xs:=by obtain⟨hl,h|⟨g,cap,cur,hv,hg,h1,h2,h3,h4,h5⟩⟩:=h;{exact⟨hl,.inl h⟩};{exact⟨hl,.inr ⟨g,cap,cur,hv,a_ hb hg,h1,h2,h3,h4,h5⟩⟩}
theorem rX.below{w w':World}{B:Nat}{v:Value}{rs:List aj}(h:rX w B v rs)(hb:aw w w'):rX w' B v rs:=⟨oq h.1 hb,h.2⟩
theorem rX.base{w:World}{B B':Nat}{v:Value}{rs:List aj}(h:rX w B v rs)(hb:B'<=B):rX w B' v rs:=⟨Jf h.1 hb,h.2⟩
theorem ac1(s:ByteArray)(w:World)(hg:bH w)(hs:s.size<=3000)(h:oP s.data.toList=none) :
  aF 99 #[.string s] w (cS (.tuple #[.agg #[.string ⟨#[]⟩,aq 0,aq 0,.string ⟨#[]⟩],.bool false]) w):=by have:=Ti s w hg hs;rw[h]at this;exact this
theorem ac2(s:ByteArray)(r:aj)(w:World)(hg:bH w)(hs:s.size<=3000)(h:oP s.data.toList=some r) :
  aF 99 #[.string s] w (cS (.tuple #[.agg #[.string (ah r.owner),aq r.aV,aq r.type,.string (ah r.data)],.bool true]) w):=by have:=Ti s w hg hs;rw[h]at this;exact this
theorem CZ:(prog.info? 47).map (fun i=>(i.zero,i.size,i.bytes))=some (some (.agg #[.string ⟨#[]⟩,aq 0,aq 0,.string ⟨#[]⟩]),4,48):=aK
theorem Jg:prog.underlying 41=some (.slice 47):=aK
def Fw:Value:=.tuple #[.string ⟨#[]⟩,bK,.bool false]
def M6(o:Option (ai×List aj))(base:Nat)(e:Ending)(w':World):Prop :=
 match o with
 | none=>e=.returned Fw
 | some (o,rs)=>∃v,e=.returned (.tuple #[.string (ah o),v,.bool true])/\rX w' base v rs
theorem M7{base:Nat}{e:Ending}{w':World}(h:e=.returned Fw):M6 none base e w':=h
theorem ac3(s:ByteArray)(w:World)(hs:s.size<=3000)(h:Lib.hasSuffix s.data.toList [10]=false) :
  aF 56 #[.string s] w (cS Fw w):=by go_enter func56,ntmps56;go_wp2_with (go_at_call 96;refine(Tryz.strings_CutSuffix s _ _ ae).mono ?_;rintro e w' ⟨rfl,rfl⟩);go_ret3;exact⟨rfl,bW _ _⟩
theorem ac4(l p:ai):(Lib.trimSuffix l p).length<=l.length:=by unfold Lib.trimSuffix;split;{simp};{exact aL _}
theorem ac5(l p:ai):(Lib.trimPrefix l p).length<=l.length:=by unfold Lib.trimPrefix;split;{simp};{exact aL _}
theorem ac6(s:ByteArray)(w:World)(hg:bH w)(hs:s.size<=3000)(h:Lib.hasSuffix s.data.toList [10]=true) :
  aF 56 #[.string s] w fun e w' =>
   M6 (ku s.data.toList) w.heap.size e w'/\aw w w':=by
 have hz:Hid (ku s.data.toList=Fu (aS 10 (Lib.trimSuffix s.data.toList [10]))):=by unfold ku;rw[Hid,aP h]
 have hcut:=Tryz.strings_CutSuffix s ⟨#[10]⟩ w ae;rw[h]at hcut;obtain⟨body,Fq⟩:∃body:ByteArray,⟨(Lib.trimSuffix s.data.toList [10]).toArray⟩=body:=⟨_,rfl⟩;have jg:body.data.toList=Lib.trimSuffix s.data.toList [10]:=by rw[<- Fq]
 have bL:body.size<=3000:=by{have:=ac4 s.data.toList [10];rw[<- jg,jv,jv]at this;omega};have hcut':aF 96 #[.string s,.string ⟨#[10]⟩] w fun e w'=>e=.returned (.tuple #[.string body,.bool true])/\w'=w:=by rw[<- Fq];exact hcut
 rw[<- jg,<- rU]at hz;have iJ:=ag (Fi 10 body);have hlen:(ft 10 body).length<=3001:=by{have:=yl 10 body.data.toList;rw[<- rU,hE,jv]at this;omega};have hat:=Fj w (ft 10 body);have rV:=ve body 10 w hg ae;have hb0:aw w (w.alloc (.cells ((ft 10 body).map Value.string).toArray 9)):=bj.alloc aB _;have M8:1<=(ft 10 body).length:=by have:=S6 10 body;omega
 clear Fq jg hcut;generalize ft 10 body=L at *;cases L with
 | nil=>simp at M8
 | cons f t =>
 have vr:_:=hat.2 0 ak;have apP:f.size<=3000:=a_ (iJ f ak) bL;have hst:∀x∈t,x.size<=3000:=fun x hx=>a_ (iJ x (by simp[hx])) bL;have HST:=ag hst;clear hst iJ;generalize w.alloc (.cells ((f :: t).map Value.string).toArray 9)=W at *;have apQ:W.cell? (ar w.heap.size 0)=some (.string f):=vr;have wW:=hg.below hb0;have hlt:(t.length:Int)<=3000:=by simp at hlen;omega
 rw[cU]at rV;have fQ:=ag hcut';have HC:=ag rV;have aZ:=ag hb0;have dV:=ag hat;clear rV hb0 hat hcut' vr hlen M8;have ml:=Tryz.strings_CutPrefix f ⟨#[111,114,105,103,105,110,32]⟩ W;obtain⟨org,M9⟩:∃org:ByteArray,⟨(Lib.trimPrefix f.data.toList tO).toArray⟩=org:=⟨_,rfl⟩;have M_:org.data.toList=Lib.trimPrefix f.data.toList tO:=by rw[<- M9]
 have Na:org.size<=maxLen:=by{have:=ac5 f.data.toList tO;rw[<- M_,jv,jv]at this;unfold maxLen;omega};obtain⟨hp,Jh⟩:=bP (Lib.hasPrefix f.data.toList tO);have Tj:aF 98 #[.string f,.string ⟨#[111,114,105,103,105,110,32]⟩] W fun e w'=>e=.returned (.tuple #[.string org,.bool hp])/\w'=W:=by rw[<- M9,Jh];exact ml
 have bG:=ag Tj;clear ml Tj;have hrl:Hid (ku s.data.toList=if hp && fG org.data.toList then(mj (t.map (·.data.toList))).map (fun rs=>(org.data.toList,rs))else none):=by{rw[Hid,af hz,og,Fu,Jh,M_]};clear hz M9 M_ Jh;cases hp;{go_enter func56,ntmps56;go_wp2_with fail;refine fQ.mono ?_;rintro e w ⟨rfl,rfl⟩;go_wp2_with fail;refine HC.mono ?_;rintro e W ⟨rfl,rfl⟩;go_wp2_with fail;refine bG.mono ?_;rintro e W ⟨rfl,rfl⟩;go_wp2;go_ret3;rw[af hrl];exact⟨M7 rfl,aZ⟩};cases hpl:fG org.data.toList;{go_enter func56,ntmps56;go_wp2_with fail;refine fQ.mono ?_;rintro e w ⟨rfl,rfl⟩;go_wp2_with fail;refine HC.mono ?_;rintro e W ⟨rfl,rfl⟩;go_wp2_with fail;refine bG.mono ?_;rintro e W ⟨rfl,rfl⟩;go_wp2_with fail;refine(tK org _ wW Na).mono ?_;rintro e w1 ⟨rfl,hb1⟩;go_wp2;go_ret3;rw[af hrl,hpl];exact⟨M7 rfl,aZ.trans (hb1.mono aZ.size)⟩};have Nb:Hid (ku s.data.toList=(mj (t.map (·.data.toList))).map (fun rs=>(org.data.toList,rs))):=by{rw[Hid,af hrl,hpl];rfl};clear hrl;have hrl:=Nb;clear Nb;cases t with
 | nil =>{
 go_enter func56,ntmps56;go_wp2_with fail;refine fQ.mono ?_;rintro e w ⟨rfl,rfl⟩;go_wp2_with fail;refine HC.mono ?_;rintro e W ⟨rfl,rfl⟩;go_wp2_with fail;refine bG.mono ?_;rintro e W ⟨rfl,rfl⟩;go_wp2_with fail;refine(tK org _ wW Na).mono ?_;rintro e w1 ⟨rfl,hb1⟩;go_wp2_with fail;go_loop [10,41] (fun v i=>v=bK/\i=aq 0) (fun _ _=>0);case atStart=>exact⟨rfl,rfl⟩
 case round =>(obtain⟨rfl,rfl⟩:=hrel;go_wp2;go_ret3;rw[af hrl];exact⟨⟨_,by rw[MT];rfl,iI _ _ _ _,ak⟩,aZ.trans (hb1.mono aZ.size)⟩)}
 | cons t0 ts =>{
 generalize hT:t0 :: ts=t at *;have htn:¬t = []:=by rw[<- hT];simp
 have kY:0<t.length:=by rw[<- hT];simp
 clear hT;go_enter func56,ntmps56;go_wp2_with fail;refine fQ.mono ?_;rintro e w ⟨rfl,rfl⟩;go_wp2_with fail;refine HC.mono ?_;rintro e W ⟨rfl,rfl⟩;go_wp2_with fail;refine bG.mono ?_;rintro e W ⟨rfl,rfl⟩;go_wp2_with fail;refine(tK org _ wW Na).mono ?_;rintro e w1 ⟨rfl,hb1⟩;go_wp2_with fail;have ac7:=wW.below hb1;have Nc:aw w w1:=aZ.trans (hb1.mono aZ.size);have hs1:=Nc.size;have mo:=ag Nc;clear Nc;have Tk:=dV.below hb1;have rW:=ag Tk;clear Tk HC fQ bG;go_loopw [10,41] (fun v i wr=>∃(k:Nat) (rs:List aj),k<=t.length/\i=aq k/\rs.length=k/\rX wr w1.heap.size v rs/\mj (t.map (·.data.toList))=(mj ((t.map (·.data.toList)).drop k)).map (rs++·)/\aw w1 wr) (fun _ i _=>t.length - (intOf i).toNat);case atStart=>exact⟨0,[],dY _,rfl,rfl,⟨iI _ _ _ _,ak⟩,ak,bW _ _⟩
 case round =>(
 obtain⟨k,rs,hk,rfl,mO,hown,Tl,hbr⟩:=hrel;have aT:=ag Tl;have HO:=ag hown;clear Tl hown;have hgr:=ac7.below hbr;have rY:=hbr.size;by_cases hlk:k<t.length;{
 have hck:wr.cell? (ar w.heap.size (1+k))=some (.string t[k]):=by{have:=(rW.below hbr).2 (k+1) (by simpa using hlk);rw[show 0+(k+1)=1+k from ae]at this;simpa using this};have hdr:Hid ((t.map (·.data.toList)).drop k=t[k].data.toList :: (t.map (·.data.toList)).drop (k+1)):=by{rw[Hid,nA (by simpa using hlk),CM]};have C0:=af HST t[k] (iV hlk);generalize t[k]=x at *;cases hr:oP x.data.toList with
 | none =>{have aJ:Hid (ku s.data.toList=none):=by{rw[Hid,af hrl,af aT,af hdr,mj,hr];rfl};go_wp2_with fail;refine(ac1 x _ hgr C0 hr).mono ?_;rintro e w2 ⟨rfl,hb2⟩;go_wp2;go_ret3;rw[af aJ];exact⟨M7 rfl,(mo.trans ((hbr.mono hs1).trans (hb2.mono ae))).alloc (by have:=hb2.size;omega) _⟩}
 | some r =>{
 obtain⟨i0,au,hz0,hz1,hz2⟩:=kS CZ;have aJ:Hid (mj (t.map (·.data.toList))=(mj ((t.map (·.data.toList)).drop (k+1))).map ((rs++[r])++·)):=by{rw[Hid,af aT,af hdr,mj,hr];simp[Option.map_map,Function.comp_def]};go_wp2_with fail;refine(ac2 x r _ hgr C0 hr).mono ?_;rintro e w2 ⟨rfl,hb2⟩;have hown2:=HO.below hb2;have h9:=ag hown2;clear hown2;have yq:=hb2.size;go_wp2_with (at_builtin;refine I5 _ rfl (.tmp 52) (.tmp 54) 41 rfl w1.heap.size 47 i0 (.agg #[.string ⟨#[]⟩,aq 0,aq 0,.string ⟨#[]⟩]) 4 48 Jg au hz0 hz1 hz2 rfl aC _ rs.length (fM rs) rfl ((h9.1.alloc _).alloc _) (ar (w2.heap.size+1) 0) 1 1 r.aN rfl rfl ?az ?c2 ?c3 ?bw ?dm ?_);case az =>(
 intro j u hj;match j,hj with
 | 0,hj=>simp[aj.aN]at hj;subst hj;simp[Addr.add]
 | 1,hj=>simp[aj.aN]at hj;subst hj;simp[Addr.add]
 | 2,hj=>simp[aj.aN]at hj;subst hj;simp[Addr.add]
 | 3,hj=>simp[aj.aN]at hj;subst hj;simp[Addr.add]
 | n+4,hj=>simp[aj.aN]at hj)
 case c2=>intro u hu;simp[aj.aN]at hu;rcases hu with rfl|rfl|rfl|rfl <;> rfl
 case c3=>unfold maxLen;omega
 case bw=>omega
 case dm=>simp;omega
 intro v' w3 hown' hgrow hnil;have Tm:rX w3 w1.heap.size v' (rs++[r]):=by{refine⟨?_,?_⟩;{rw[ac0,bU,mO];exact hown'};{exact⟨fun h=>absurd h hnil,fun h=>by simp at h⟩}};have gu:aw w1 w3:=by{refine((((hbr.trans (hb2.mono ae)).alloc ae _).alloc aX _)).grown hgrow aX ?_;intro k' gU;exact(h9.1.lt k' gU).1};have eV:=ag Tm;have jI:=ag gu;clear Tm gu hown' hgrow hnil;go_wp2;go_roundw;case rel=>exact⟨k+1,rs++[r],ae,dD,by simp[mO],eV,aJ,jI⟩
 case measure=>simp[intOf];omega}};{have aJ:Hid (ku s.data.toList=some (org.data.toList,rs)):=by{rw[Hid,af hrl,af aT,pJ aX];simp[mj]};go_wp2;go_ret3;rw[af aJ];exact⟨⟨_,by rw[MT];rfl,HO.base mo.size⟩,mo.trans (hbr.mono hs1)⟩})}
theorem ac8(s:ByteArray)(w:World)(hg:bH w)(hs:s.size<=3000) :
  aF 56 #[.string s] w fun e w'=>M6 (ku s.data.toList) w.heap.size e w'/\aw w w':=by
 cases h:Lib.hasSuffix s.data.toList [10];{
 have e:ku s.data.toList=none:=by unfold ku;rw[h];rfl
 rw[e];exact ac3 s w hs h};{exact ac6 s w hg hs h}
def Fx(w:World)(base:Nat)(v:Value)(ls:List ai):Prop:=w.ownsRow base 9 1 v ls.length (ls.map fun l=>aA l)/\(v=bK ↔ ls = [])
theorem Tn:(prog.info? 9).map (fun i=>(i.zero,i.size,i.bytes))=some (some (.string ⟨#[]⟩),1,16):=aK
theorem Tp:prog.underlying 49=some (.slice 9):=aK
def dh(s:ai)(br:Bool)(n:Nat):ai×ai×Bool:=if n<=s.length then(s.take n,s.drop n,br)else([],[],true)
theorem vu(s:ai)(br:Bool)(n:Nat):(dh s br n).2.1.length<=s.length:=by unfold dh;split <;> simp
theorem pR(b n:Nat)(s:ai)(br:Bool)(w:World)(h:cB w b s br)(hn:n<=1000000000)(hl:s.length<=1000000000) :
  aF 148 #[aO b,aq n] w fun e w' =>
   e=.returned (aA (dh s br n).1)/\cB w' b (dh s br n).2.1 (dh s br n).2.2/\cF b w w'/\w'.heap.size=w.heap.size:=by by_cases hc:n<=s.length;{unfold dh;rw[aP hc];exact M3 b n s br w h hc hl};{unfold dh;rw[aG hc];exact M5 b n s br w h ae hn}
def kZ:Nat->Nat->ai->Bool->Nat->List ai->List ai×ai×Bool
 | 0,_,s,br,_,acc=>(acc,s,br)
 | f+1,n,s,br,size,acc =>
  if n=0 then(acc,s,br)
  else if 63<n\/255<size+1+n then([],s,true)
  else kZ f (cY (dh s br n).2.1 (dh s br n).2.2).1 (cY (dh s br n).2.1 (dh s br n).2.2).2.1 (cY (dh s br n).2.1 (dh s br n).2.2).2.2 (size+1+n) (acc++[(dh s br n).1])
def pS(s:ai)(br:Bool):List ai×ai×Bool:=kZ 256 (cY s br).1 (cY s br).2.1 (cY s br).2.2 1 []
theorem ac9{d:Nat}{w A C:World}{row:Option Nat}(h:cF d w A)(hg:A.grownBy C row)(hr:∀k,row=some k->w.heap.size<=k):cF d w C :=
 ⟨hg.os.trans h.os,hg.tape.trans h.tape,hg.output.trans h.output,a_ h.size hg.size,
  fun k hk aD=>(hg.block k (eQ hk h.size) (fun e=>by have:=hr k e.symm;omega)).trans (h.block k hk aD)⟩
theorem ac_{d:Nat}{w A:World}(h:cF d w A)(o:Obj):cF d w (A.alloc o) :=
 ⟨h.os,h.tape,h.output,a_ h.size ak,fun k hk aD=>(bV _ _ _ (eQ hk h.size)).trans (h.block k hk aD)⟩
theorem Tq{w w':World}{base d:Nat}{t:TypeId}{sz n:Nat}{v:Value}{xs:List Value}(h:w.ownsRow base t sz v n xs)(hk:cF d w w')(aD:d<base):w'.ownsRow base t sz v n xs:=by obtain⟨h1,h2⟩:=h;refine⟨h1,?_⟩;rcases h2 with h2|⟨g,cap,cur,rfl,hb,bp,hr⟩;{exact .inl h2};{exact .inr ⟨g,cap,cur,rfl,hb,(hk.block g (di.1 bp).1 ae).trans bp,hr⟩}
theorem ada(b:Nat)(s:ai)(br:Bool)(w:World)(h:cB w b s br)(hl:s.length<=1000000000) :
  aF 201 #[aO b] w fun e w' =>
   ∃v,e=.returned v/\Fx w' w.heap.size v (pS s br).1/\cB w' b (pS s br).2.1 (pS s br).2.2/\cF b w w':=by
 have wX:=h.lt;have HC:=ag (oT b s br w h hl);have eE:=ag (a_ (vk s br) hl);have dv:=ag (CY s br);have bu:Hid (pS s br=kZ 256 (cY s br).1 (cY s br).2.1 (cY s br).2.2 1 []):=rfl;generalize cY s br=x at *;obtain⟨n0,s0,adb⟩:=x;simp only at HC eE dv bu;clear h hl;generalize pS s br=R at *;go_enter func201,ntmps201;go_wp2_with fail;refine HC.mono ?_;rintro e w1 ⟨rfl,hr1,dN,hz1⟩;have fN:=ag hr1;have Aq:=ag dN;clear hr1 dN HC;go_wp2_with fail;go_loopw [3,4,5] (fun v sz n wr=>∃(f size k:Nat) (t:ai) (bt:Bool) (acc:List ai),sz=aq size/\n=aq k/\k<256/\size<=255/\256<=f+size/\0<f/\t.length<=1000000000/\acc.length<=size/\cB wr b t bt/\Fx wr w.heap.size v acc/\cF b w wr/\R=kZ f k t bt size acc) (fun _ sz _ _=>256 - (intOf sz).toNat);case atStart=>exact⟨256,1,n0,s0,adb,[],rfl,rfl,dv,ae,ae,ae,eE,ak,fN,⟨iI _ _ _ _,ak⟩,Aq,bu⟩
 case round =>(
 obtain⟨f,size,k,t,bt,acc,rfl,rfl,hk,hsize,hf,hf0,kY,yr,wY,hown,yt,hR⟩:=hrel;have tP:=ag wY;have HO:=ag hown;have ot:=ag yt;have aT:=ag hR;have hfz:=wY.frozen;have hc1:=wY.cells.2;have hsz:=yt.size;clear wY hown yt hR;obtain⟨f,rfl⟩:∃g,f=g+1:=⟨f - 1,ae⟩;by_cases h0:k=0;{
 subst h0;have bg:Hid (R=(acc,t,bt)):=by rw[Hid,af aT];simp[kZ]
 clear aT;go_wp2;go_ret;rw[af bg];exact⟨_,rfl,HO,tP,ot⟩};{
 by_cases Tr:63<k\/255<size+1+k;{
 have bg:Hid (R=([],t,true)):=by rw[Hid,af aT,kZ,aG h0,aP Tr]
 clear aT;have pT:0<k:=ae;by_cases h63:63<k;{go_wp2;go_ret;rw[af bg];exact⟨_,rfl,⟨iI _ _ _ _,ak⟩,tP.set1 _,qN (af ot) _ _⟩};{have iw:255<size+1+k:=ae;go_wp2;go_ret;rw[af bg];exact⟨_,rfl,⟨iI _ _ _ _,ak⟩,tP.set1 _,qN (af ot) _ _⟩}};{
 have pT:0<k:=ae;have h63:¬63<k:=ae;have iw:¬255<size+1+k:=ae;have bg:Hid (R=kZ f (cY (dh t bt k).2.1 (dh t bt k).2.2).1 (cY (dh t bt k).2.1 (dh t bt k).2.2).2.1 (cY (dh t bt k).2.1 (dh t bt k).2.2).2.2 (size+1+k) (acc++[(dh t bt k).1])):=by{rw[Hid,af aT,kZ,aG h0,aG Tr]};have dJ:=ag (pR b k t bt wr (af tP) ae kY);have C3:=ag (a_ (vu t bt k) kY);generalize dh t bt k=y at *;obtain⟨t1,t2,Fy⟩:=y;simp only at bg dJ C3;obtain⟨i0,au,hz0,ade,hz2⟩:=kS Tn;clear aT;go_wp2_with fail;refine dJ.mono ?_;rintro e w2 ⟨rfl,hr2,hk2,hs2⟩;have h9:=ag (Tq HO.1 hk2 wX);have Nd:=ag hr2;have Ar:=ag (CX (af ot) hk2);have dO:=ag hs2;clear hr2 hk2 hs2 dJ;go_wp2_with (at_builtin;go_loud (refine I5 _ rfl (.tmp 25) (.tmp 29) 49 rfl w.heap.size 9 i0 (.string ⟨#[]⟩) 1 16 Tp au hz0 ade hz2 rfl aC _ acc.length _ rfl (h9.alloc _) (ar w2.heap.size 0) 1 1 [aA t1] rfl rfl ?az ?c2 ?c3 ?bw ?dm ?_));case az =>(
 intro j u hj;match j,hj with
 | 0,hj=>simp at hj;subst hj;simp[Addr.add]
 | n+1,hj=>simp at hj)
 case c2=>intro u hu;simp at hu;subst hu;rfl
 case c3=>unfold maxLen;omega
 case bw=>omega
 case dm=>have:=af dO;simp;omega
 intro v' w3 hown' hgrow hnil;have eV:Hid (Fx w3 w.heap.size v' (acc++[t1])):=by{refine⟨?_,fun h=>absurd h hnil,fun h=>by simp at h⟩;rw[bU,n_];exact hown'};have Fz:Hid (cF b w w3):=ac9 (ac_ (af Ar) _) hgrow fun k' gU=>(h9.lt k' gU).1;have Ji:Hid (cB w3 b t2 Fy):=by{have hlt:=Nd.lt;refine(hgrow.block b aX ?_).trans ((bV _ _ _ hlt).trans Nd);intro e;have:=(h9.lt b e.symm).1;omega};have HC:=ag (oT b t2 Fy w3 (af Ji) (af C3));have C5:=ag (a_ (vk t2 Fy) (af C3));have Au:=ag (CY t2 Fy);generalize cY t2 Fy=z at *;obtain⟨n4,t4,adf⟩:=z;simp only at HC C5 Au bg;clear hown' hgrow hnil Ji Nd h9 Ar;go_wp2_with fail;refine HC.mono ?_;rintro e w4 ⟨rfl,hr4,hk4,fO⟩;have oU:=ag hr4;have adg:=ag (CX (af Fz) hk4);have Nf:Hid (Fx w4 w.heap.size v' (acc++[t1])):=⟨Tq eV.1 hk4 wX,eV.2⟩;clear hr4 hk4 fO HC;go_wp2_with fail;go_roundw;case rel=>exact⟨f,size+1+k,n4,t4,adf,acc++[t1],dD,rfl,Au,ae,ae,ae,C5,aX,oU,Nf,adg,bg⟩
 case measure=>simp[intOf];omega}})
def dz(w:World)(b off:Nat)(rs:List aj):Prop:=b<w.heap.size/\∀j,j<rs.length->∀i u,(aj.aN rs[j]!)[i]? = some u->w.cell? (ar b (off+j*4+i))=some u
theorem dz.below{w w':World}{b off:Nat}{rs:List aj}(h:dz w b off rs)(hb:aw w w'):dz w' b off rs :=
 ⟨eQ h.1 hb.size,fun j hj i u hu=>(hb.cell (p:=⟨b,off+j*4+i,none⟩) h.1).trans (h.2 j hj i u hu)⟩
def gV(w:World)(v:Value)(rs:List aj):Prop:=(v=bK/\rs = [])\/∃b off cap,v=aU b off rs.length cap/\rs.length<=cap/\dz w b off rs
theorem gV.below{w w':World}{v:Value}{rs:List aj}(h:gV w v rs)(hb:aw w w'):gV w' v rs:=by rcases h with h|⟨b,off,cap,hv,hc,hr⟩;{exact .inl h};{exact .inr ⟨b,off,cap,hv,hc,hr.below hb⟩}
theorem Ts(rs:List aj)(j i:Nat)(hj:j<rs.length)(au:i<4):(fM rs)[j*4+i]? = (aj.aN rs[j]!)[i]?:=by
 induction rs generalizing j with
 | nil=>simp at hj
 | cons r t ih =>{
 have e:fM (r :: t)=r.aN++fM t:=by simp[fM]
 have hl:r.aN.length=4:=rfl;rw[e];cases j with
 | zero=>rw[CJ ae];simp
 | succ j =>{rw[wK ae,hl,show(j+1)*4+i - 4=j*4+i from ae,ih j (by simpa using hj)];simp}}
theorem Tt{w:World}{b off:Nat}{rs:List aj}(hb:b<w.heap.size)(h:∀j u,(fM rs)[j]? = some u->w.cell? (ar b (off+j))=some u):dz w b off rs:=by refine⟨hb,fun j hj i u hu=>?_⟩;have au:i<4:=by{rcases ab5 i 4 with h|h;{exact h};{rw[Mw (by simpa [aj.aN]using h)]at hu;cases hu}};have:=h (j*4+i) u (by rw[Ts rs j i hj au];exact hu);rwa [<- uX]at this
theorem rX.rv{w:World}{B:Nat}{v:Value}{rs:List aj}(h:rX w B v rs):gV w v rs:=by obtain⟨⟨hl,h|⟨g,cap,cur,hv,hg,h1,h2,h3,h4,h5⟩⟩,hn⟩:=h;{exact .inl ⟨h.1,hn.1 h.1⟩};{refine .inr ⟨g,0,cap,hv,h2,Tt (di.1 h1).1 fun j u hu=>?_⟩;have hj:cur[j]? = some u:=by{rw[<- h5]at hu;have FA:j<(cur.toList.take (rs.length*4)).length:=(iu.1 hu).1;rw[wM]at hu;split at hu;{simpa using hu};{cases hu}};simp[World.cell?,h1,hj]}
theorem dz.drop{w:World}{b off:Nat}{rs:List aj}(h:dz w b off rs)(k:Nat):dz w b (off+k*4) (rs.drop k):=by refine⟨h.1,fun j hj i u hu=>?_⟩;rw[iW]at hj;have e:(rs.drop k)[j]! = rs[k+j]!:=ak;rw[e]at hu;have:=h.2 (k+j) ae i u hu;rwa [show off+(k+j)*4+i=off+k*4+j*4+i from ae]at this
theorem dz.take{w:World}{b off:Nat}{rs:List aj}(h:dz w b off rs)(k:Nat):dz w b off (rs.take k):=by refine⟨h.1,fun j hj i u hu=>?_⟩;rw[jU]at hj;have e:(rs.take k)[j]! = rs[j]!:=by{rw[Sq,Sq,wM,aP ae]};rw[e]at hu;exact h.2 j ae i u hu
theorem dz.four{w:World}{b off:Nat}{rs:List aj}(h:dz w b off rs)(j:Nat)(hj:j<rs.length) :
  w.cell? (ar b (off+j*4))=some (.string (ah rs[j].owner))/\w.cell? (ar b (off+j*4+1))=some (aq rs[j].aV) /\
  w.cell? (ar b (off+j*4+2))=some (aq rs[j].type)/\w.cell? (ar b (off+j*4+3))=some (.string (ah rs[j].data)):=by have e:rs[j]! = rs[j]:=CR rs j hj;have:=h.2 j hj;rw[e]at this;exact⟨this 0 _ rfl,this 1 _ rfl,this 2 _ rfl,this 3 _ rfl⟩
def nH(k:Int)(r:aj):Bool:=r.type == k
theorem adh(r:aj)(k:Int)(bk:Nat)(W:World)(hc:W.cell? (ar bk 0)=some (aq k))(hb:bk<W.heap.size) :
  aF 172 #[.agg #[aA r.owner,aq r.aV,aq r.type,aA r.data],aO bk] W (cS (.bool (nH k r)) W):=by go_enter func172,ntmps172;go_wp2;go_ret;exact⟨rfl,bj.alloc aB _⟩
theorem adi(k:Int)(bk:Nat)(w:World)(hc:w.cell? (ar bk 0)=some (aq k))(hb:bk<w.heap.size) :
  PredBelow prog 172 #[aO bk] (fun x=>.agg (aj.aN x).toArray) (nH k) w:=by intro W r hB;refine(adh r k bk W ((hB.cell (p:=⟨bk,0,none⟩) hb).trans hc) (eQ hb hB.size)).mono ?_;rintro e w' ⟨rfl,hb'⟩;exact⟨rfl,hB.trans (hb'.mono hB.size)⟩
theorem adj(k:Int)(bk b off cap:Nat)(rs:List aj)(w:World)(hc:w.cell? (ar bk 0)=some (aq k))(hb:bk<w.heap.size)(hr:dz w b off rs)(hl:rs.length<=3001) :
  aF 171 #[aU b off rs.length cap,.func (.func 172) #[] #[aO bk]] w fun e w' =>
   e=.returned (.bool (rs.any (nH k)))/\aw w w':=by have:=AnyQ.slices_ContainsFunc Tryz.Te 4 Tryz.isAgg47 Tryz.sizeOf47 aj.aN (fun _=>rfl) (nH k) 172 #[aO bk] (enters_of func172 aK rfl) b off rs.length cap rs w (adi k bk w hc hb) aB ae hr.1 hr.2;rw[jV]at this;exact this
theorem Ng(k:Int)(b off cap:Nat)(rs:List aj)(w:World)(hr:dz w b off rs)(hl:rs.length<=3001) :
  aF 101 #[aU b off rs.length cap,aq k] w (cS (.bool (rs.any (nH k))) w):=by have hb0:aw w (w.alloc (.cells #[.int .i64 k] 3)):=bj.alloc aB _;have HC:=ag (adj k w.heap.size b off cap rs (w.alloc (.cells #[.int .i64 k] 3)) ak ak (hr.below hb0) hl);clear hr;go_enter func101,ntmps101;go_wp2_with fail;refine HC.mono ?_;rintro e w' ⟨rfl,hb'⟩;go_wp2;go_ret;exact⟨rfl,hb0.trans (hb'.mono ak)⟩
theorem adk(f:Value)(w:World) :
  aF 230 #[bK,f] w fun e w'=>e=.returned (aq (-1))/\w'=w:=by
 go_enter func230,ntmps230;go_wp2_with fail;go_loop [8] (fun i=>i=aq 0) (fun _=>0);case atStart=>rfl
 case round =>(obtain rfl:=hrel;go_wp2;go_ret;exact⟨rfl,rfl⟩)
theorem adl(k:Int)(w:World) :
  aF 101 #[bK,aq k] w (cS (.bool false) w):=by have HC:Hid (∀f w,aF 171 #[bK,f] w fun e w'=>e=.returned (.bool false)/\w'=w):=by{intro f w;go_enter func171,ntmps171;go_wp2_with (go_at_call 230;refine(adk _ _).mono ?_;rintro e w' ⟨rfl,rfl⟩);go_ret;exact⟨rfl,rfl⟩};go_enter func101,ntmps101;go_wp2_with fail;refine(HC _ _).mono ?_;rintro e w' ⟨rfl,rfl⟩;go_wp2;go_ret;exact⟨rfl,bj.alloc aB _⟩
theorem Nh(k:Int)(v:Value)(rs:List aj)(w:World)(hv:gV w v rs)(hl:rs.length<=3001) :
  aF 101 #[v,aq k] w (cS (.bool (rs.any (nH k))) w):=by rcases hv with⟨rfl,rfl⟩|⟨b,off,cap,rfl,_,hr⟩;{exact adl k w};{exact Ng k b off cap rs w hr hl}
def qP(o:ai)(rs:List aj):Bool :=
 match rs with
 | []=>false
 | r :: t=>decide (rs.length<=60) && (r.owner == o && r.type == 6 && !t.any (nH 6))
theorem Ni(o:ai)(v:Value)(rs:List aj)(w:World)(hv:gV w v rs)(hl:rs.length<=3001) :
  aF 58 #[aA o,v] w (cS (.bool (qP o rs)) w):=by
 rcases hv with⟨rfl,rfl⟩|⟨b,off,cap,rfl,fw,hr⟩;{go_enter func58,ntmps58;go_wp2;go_ret;exact⟨rfl,bW _ _⟩};cases rs with
 | nil =>{go_enter func58,ntmps58;go_wp2;go_ret;exact⟨rfl,bW _ _⟩}
 | cons r t =>{
 rw[cU]at fw hl ⊢;obtain⟨c0,_,c2,_⟩:=hr.four 0 ak;have aD:=hr.drop 1;have he:dz w b off []:=⟨hr.1,fun j hj=>by simp at hj⟩;simp only[Ad,tI,dS,IX,List.drop_succ_cons,zW]at c0 c2 aD;have HD:=ag aD;have bu:=ag he;have hb:=hr.1;clear aD he hr;by_cases apR:(60:Int)<(t.length:Int)+1;{have aJ:Hid (qP o (r :: t)=false):=by{unfold qP;rw[Hid,cU,hP ae];rfl};go_enter func58,ntmps58;go_wp2;go_ret;exact⟨fu aJ.symm,bW _ _⟩};have aJ:Hid (qP o (r :: t)=(r.owner == o && r.type == 6 && !t.any (nH 6))):=by{unfold qP;rw[Hid,cU,jY ae];rfl};have h_:((ah r.owner).toList == (ah o).toList)=(r.owner == o):=by rw[CT];rfl
 cases ho:r.owner == o;{rw[ho]at h_;go_enter func58,ntmps58;go_wp2;go_ret;exact⟨fu (by rw[af aJ,ho];rfl),bW _ _⟩};rw[ho]at h_;cases ht:r.type == 6;{go_enter func58,ntmps58;go_wp2;go_ret;exact⟨fu (by rw[af aJ,ho,ht];rfl),bW _ _⟩};by_cases hc1:cap=1;{subst hc1;obtain rfl:t = []:=gS ae;go_enter func58,ntmps58;go_wp2_with fail;refine(Ng 6 b off 0 [] w (af bu) ak).mono ?_;rintro e w' ⟨rfl,hb'⟩;go_wp2;go_ret;exact⟨fu (by rw[af aJ,ho,ht];rfl),hb'⟩};{have apS:2<=cap:=ae;go_enter func58,ntmps58;go_wp2_with fail;refine(Ng 6 b (off+4) _ t w (af HD) ae).mono ?_;rintro e w' ⟨rfl,hb'⟩;go_wp2;go_ret;exact⟨fu (by rw[af aJ,ho,ht];rfl),hb'⟩}}
end Go.Proofs.YtkkpahmoljiepaaGreatDoor
