import Derived.Test.YtkkpahmoljiepaaGreatDoorJ09
import Derived.Test.YtkkpahmoljiepaaGreatDoorJ0h
set_option maxRecDepth 1000000
set_option maxHeartbeats 12800000
set_option linter.unusedSimpArgs false
set_option linter.unusedVariables false
namespace Go.Proofs.YtkkpahmoljiepaaGreatDoor
open Go.RowKit Go.Proofs.Tryz
section
variable {P:Program} {α:Type}
theorem afl{g:Operand}{ps:Array Tmp}{assign body:Code}{Q:Exit->Act->World->Prop}{a:Act}{w:World}
  {gf:Nat} {lb:Array Value} (hg:a.eval g=.func (.func gf) #[] lb) (eg:∀args w,(callFunc gf args).run P w=.ok (.enter gf args) w)
  {encs:α->Array Value} {xs:List α} {St Kp Kx:World->World->Prop} (iJ:∀x,(encs x).size=ps.size)
  (hseq:∀r,pQ P gf lb encs xs St Kp Kx ((w.alloc (.deferred (some []))).alloc (.loop r)))
  (I:Nat->World->Prop) (Ix:Code->World->Prop)
  (iX:∀A B,w.heap.size+2<=A.heap.size->St A B->gq w.heap.size A B)
  (hI:∀i A B,I i A->St A B->I i B) (kX:∀c A B,Ix c A->St A B->Ix c B)
  (oo:∀i A r o,I i A->A.heap[w.heap.size+1]? = some (.loop r)->I i (A.putObj (w.heap.size+1) o))
  (mN:∀c A r o,Ix c A->A.heap[w.heap.size+1]? = some (.loop r)->Ix c (A.putObj (w.heap.size+1) o))
  (h0:∀r,I 0 ((w.alloc (.deferred (some []))).alloc (.loop r)))
  (Kb:World->World->Prop)
  (nE:∀W r r' r'' Wc,W.heap[w.heap.size+1]? = some (.loop r)->Kb (W.putObj (w.heap.size+1) (.loop r')) Wc->gq w.heap.size (W.putObj (w.heap.size+1) (.loop r')) Wc->Kp W (Wc.putObj (w.heap.size+1) (.loop r'')))
  (nD:World->World->Prop)
  (hKx:∀W r r' r'' Wc,W.heap[w.heap.size+1]? = some (.loop r)->nD (W.putObj (w.heap.size+1) (.loop r')) Wc->gq w.heap.size (W.putObj (w.heap.size+1) (.loop r')) Wc->Kx W (Wc.putObj (w.heap.size+1) (.loop r'')))
  (qM:∀(l i:Nat) (x:α) (V W:World),xs[i]? = some x->I i W->w.heap.size+2<=W.heap.size->W.heap[w.heap.size]? = some (.deferred (some []))->(∃r,W.heap[w.heap.size+1]? = some (.loop r)) ->
   assign.wpIn (Fence.wide.inRound l) 0 P (Exit.then (fun a₁ V'=>V'=V/\body.wpIn (Fence.wide.inRound l) 0 P (MW w.heap.size Kb nD (I (i+1)) Ix W) a₁ W) (fun _ _ _=>False)) { tmps:=(ps.zip (encs x)).foldl (fun t (p,v)=>t.setIfInBounds p v) a.tmps,defers:=[] } V)
  (hdone:∀W,I xs.length W->W.heap[w.heap.size]? = some (.deferred (some []))->w.heap.size+2<=W.heap.size->Q .normal { a with defers:={ target:=.collected w.heap.size,args:=#[] } :: a.defers } W)
  (oQ:∀c W,Ix c W->W.heap[w.heap.size]? = some (.deferred (some []))->w.heap.size+2<=W.heap.size->c.wpIn Fence.wide 0 P Q { a with defers:={ target:=.collected w.heap.size,args:=#[] } :: a.defers } W) :
  (Code.rangeFunc g ps assign body).wpIn Fence.wide 0 P Q a w:=by
 refine wpIn_rangeFunc fun fn hfn=>?_;obtain⟨D,hD⟩:=bP w.heap.size;obtain⟨rec,cA⟩:∃rec:LoopState->Option Code->Loop,rec=fun st pe=>{ state:=st,pending:=pe,fn,tmps:=a.tmps,params:=ps,assign,body,defers:=w.heap.size }:=⟨_,rfl⟩
 have Fp:=run_enterLoop_outer (P:=P) (w:=w) fn a.tmps ps assign body;refine⟨w.heap.size+1,[{ target:=.collected w.heap.size,args:=#[] }],(w.alloc (.deferred (some []))).alloc (.loop (rec .ready none)),
  { target:=.fn (.func gf) lb,args:=#[.func (.yield (w.heap.size+1)) #[] #[]] },(w.alloc (.deferred (some []))).alloc (.loop (rec .ready none)),gf,
  #[.func (.yield (w.heap.size+1)) #[] #[]]++lb,(w.alloc (.deferred (some []))).alloc (.loop (rec .ready none)),?_,?_,fun _ _=>aY,?_,fun h=>by simp[Fence.wide]at h,?_⟩
 ·rw[cA];exact Fp
 ·simp only[resolve,hg];simp[go_sem]
 ·simp[invoke,go_sem,eg]
 ·obtain⟨W1,hW1⟩:∃W1,(w.alloc (.deferred (some []))).alloc (.loop (rec .ready none))=W1:=⟨_,rfl⟩
  have dg:W1.heap[w.heap.size+1]? = some (.loop (rec .ready none)):=by
   rw[<- hW1];have:=World.alloc_heap_new (w.alloc (.deferred (some []))) (.loop (rec .ready none));rwa [dI]at this
  have fH:W1.heap[w.heap.size]? = some (.deferred (some [])):=by
   rw[<- hW1];exact(bV _ _ _ ak).trans (World.alloc_heap_new w _)
  have hsz:∀W:World,(∃o,W.heap[w.heap.size+1]? = some o)->w.heap.size+2<=W.heap.size:=fun W ⟨o,h⟩=>by
   have:=(di.1 h).1;omega
  have hs:=hseq (rec .ready none) (w.heap.size+1)
   (fun i W=>I i W/\W.heap[w.heap.size+1]? = some (.loop (rec .ready none))/\W.heap[w.heap.size]? = some (.deferred (some [])))
   (fun W=>∃c,Ix c W/\W.heap[w.heap.size+1]? = some (.loop (rec .done (some c)))/\W.heap[w.heap.size]? = some (.deferred (some [])))
   (fun i A B hA hst=>by
    obtain⟨h1,h2,h3⟩:=hA;have hL:=iX A B (hsz A ⟨_,h2⟩) hst;exact⟨hI i A B h1 hst,hL.2.2.trans h2,hL.2.1.trans h3⟩)
   (fun A B hA hst=>by
    obtain⟨c,h1,h2,h3⟩:=hA;have hL:=iX A B (hsz A ⟨_,h2⟩) hst;exact⟨c,kX c A B h1 hst,hL.2.2.trans h2,hL.2.1.trans h3⟩)
   (fun i x W hx hj=>by
    obtain⟨h1,h2,h3⟩:=hj;have hy:=run_yield (P:=P) (args:=encs x) h2 (by rw[cA];exact iJ x);rw[cA]at hy;have hlt:w.heap.size+1<W.heap.size:=(di.1 h2).1;have e2:(W.putObj (w.heap.size+1) (.loop { rec .ready none with state:=.busy })).heap[w.heap.size+1]? = some (.loop { rec .ready none with state:=.busy }):=World.putObj_heap_same hlt;have e3:(W.putObj (w.heap.size+1) (.loop { rec .ready none with state:=.busy })).heap[w.heap.size]? = some (.deferred (some [])):=(World.putObj_heap_other ae).trans h3;refine⟨fn,_,assign,body,hy,roundIn_of_wpIn hfn (wpIn_mono (qM _ i x W (W.putObj (w.heap.size+1) (.loop { rec .ready none with state:=.busy })) hx (oo i W _ _ h1 h2) (by rw[World.putObj_size];omega) e3 ⟨_,e2⟩) ?_)⟩;rintro e0 a0 V0 jf;have eY:e0=.normal:=by cases e0 <;> first|rfl|exact jf.elim
    subst eY;obtain⟨j_,jg⟩:=jf
    replace j_:=j_.symm
    subst j_;refine⟨_,run_beginRound h2 (by rw[cA]),wpIn_mono jg ?_⟩;have fin:∀(jump:Option Code) (W3:World),gq w.heap.size (W.putObj (w.heap.size+1) (.loop { rec .ready none with state:=.busy })) W3 ->
      (Instr.endRound (w.heap.size+1) jump).run P W3=.ok (.bool jump.isNone) (W3.putObj (w.heap.size+1) (.loop (rec (if jump.isNone then .ready else .done) jump))) /\
      W3.heap[w.heap.size+1]? = some (.loop { rec .ready none with state:=.busy }) /\
      (W3.putObj (w.heap.size+1) (.loop (rec (if jump.isNone then .ready else .done) jump))).heap[w.heap.size+1]? = some (.loop (rec (if jump.isNone then .ready else .done) jump)) /\
      (W3.putObj (w.heap.size+1) (.loop (rec (if jump.isNone then .ready else .done) jump))).heap[w.heap.size]? = some (.deferred (some [])):=fun jump W3 hL=>by
     have l3:=hL.2.2.trans e2;have hr:=run_endRound (P:=P) jump l3;refine⟨?_,l3,World.putObj_heap_same (di.1 l3).1,(World.putObj_heap_other ae).trans (hL.2.1.trans e3)⟩;rw[hr,cA]
    rintro e a3 W3 hp;cases e with
    | normal =>
     obtain⟨hL,hk,au⟩:=hp;obtain⟨f1,f2,f3,f4⟩:=fin none W3 hL;exact⟨_,_,f1,.inl ⟨rfl,⟨oo _ _ _ _ au f2,f3,f4⟩,nE W _ _ _ W3 h2 hk hL⟩⟩
    | ret =>
     obtain⟨hL,hk,au⟩:=hp;obtain⟨f1,f2,f3,f4⟩:=fin (some .ret) W3 hL;exact⟨_,_,f1,.inr ⟨rfl,⟨.ret,mN _ _ _ _ au f2,f3,f4⟩,hKx W _ _ _ W3 h2 hk hL⟩⟩
    | exit id =>
     obtain⟨hL,hk,au⟩:=hp;obtain⟨f1,f2,f3,f4⟩:=fin (some (.exit id)) W3 hL;exact⟨_,_,f1,.inr ⟨rfl,⟨.exit id,mN _ _ _ _ au f2,f3,f4⟩,hKx W _ _ _ W3 h2 hk hL⟩⟩
    | goto t =>
     obtain⟨hL,hk,au⟩:=hp;obtain⟨f1,f2,f3,f4⟩:=fin (some (.goto t)) W3 hL;exact⟨_,_,f1,.inr ⟨rfl,⟨.goto t,mN _ _ _ _ au f2,f3,f4⟩,hKx W _ _ _ W3 h2 hk hL⟩⟩
    | panic ch=>exact hp.elim
    | outgrown=>exact hp.elim)
   (by rw[hW1];exact⟨by rw[<- hW1];exact h0 _,dg,fH⟩)
  refine hs.mono ?_;rintro e W2 ⟨⟨v,rfl⟩,⟨au,hl,hk⟩|⟨c,au,hl,hk⟩⟩
  ·have:=run_endLoop (P:=P) hl (by rw[cA];simp);exact⟨none,_,by rw[this,cA],hdone _ (oo _ _ _ _ au hl) ((World.putObj_heap_other ae).trans hk) (by rw[World.putObj_size];exact hsz _ ⟨_,hl⟩)⟩
  ·have:=run_endLoop (P:=P) hl (by rw[cA];simp);exact⟨some c,_,by rw[this,cA],oQ c _ (mN _ _ _ _ au hl) ((World.putObj_heap_other ae).trans hk) (by rw[World.putObj_size];exact hsz _ ⟨_,hl⟩)⟩
theorem N3{g:Operand}{ps:Array Tmp}{assign body:Code}{Q:Exit->Act->World->Prop}{a:Act}{w:World}
  {gf:Nat} {lb:Array Value} (hg:a.eval g=.func (.func gf) #[] lb) (eg:∀args w,(callFunc gf args).run P w=.ok (.enter gf args) w)
  {encs:α->Array Value} {xs:List α} {St Kp Kx:World->World->Prop} (iJ:∀x,(encs x).size=ps.size)
  (hseq:∀r,pQ P gf lb encs xs St Kp Kx ((w.alloc (.deferred (some []))).alloc (.loop r)))
  (ks:List Nat) (Ap:∀k∈ks,k<w.heap.size)
  (iX:∀A B,St A B->aw A B)
  (nE:∀A B,(∀k∈ks,B.heap[k]? = A.heap[k]?)->A.heap.size<=B.heap.size->Kp A B)
  (hKx:∀A B,Kx A B)
  (I:Nat->World->Prop) (Ix:Code->World->Prop)
  (hI:∀i A B,I i A->w.heap.size<=A.heap.size->cF (w.heap.size+1) A B->I i B) (kX:∀c A B,Ix c A->w.heap.size+2<=A.heap.size->cF (w.heap.size+1) A B->Ix c B)
  (h0:I 0 w)
  (qM:∀(l i:Nat) (x:α) (V W:World),xs[i]? = some x->I i W->w.heap.size+2<=W.heap.size->W.heap[w.heap.size]? = some (.deferred (some []))->(∃r,W.heap[w.heap.size+1]? = some (.loop r)) ->
   assign.wpIn (Fence.wide.inRound l) 0 P (Exit.then (fun a₁ V'=>V'=V/\body.wpIn (Fence.wide.inRound l) 0 P (Jd w.heap.size ks (I (i+1)) Ix W) a₁ W) (fun _ _ _=>False)) { tmps:=(ps.zip (encs x)).foldl (fun t (p,v)=>t.setIfInBounds p v) a.tmps,defers:=[] } V)
  (hdone:∀W,I xs.length W->W.heap[w.heap.size]? = some (.deferred (some []))->w.heap.size+2<=W.heap.size->Q .normal { a with defers:={ target:=.collected w.heap.size,args:=#[] } :: a.defers } W)
  (oQ:∀c W,Ix c W->W.heap[w.heap.size]? = some (.deferred (some []))->w.heap.size+2<=W.heap.size->c.wpIn Fence.wide 0 P Q { a with defers:={ target:=.collected w.heap.size,args:=#[] } :: a.defers } W) :
  (Code.rangeFunc g ps assign body).wpIn Fence.wide 0 P Q a w:=by
 have hput:∀(A:World) (r:Loop) (o:Obj),A.heap[w.heap.size+1]? = some (.loop r)->cF (w.heap.size+1) A (A.putObj (w.heap.size+1) o):=fun A r o cA=>cF.put A _ o;refine afl (Kb:=fun A B=>∀k∈ks,B.heap[k]? = A.heap[k]?) (nD:=fun _ _=>True) hg eg iJ hseq (fun i W=>I i W/\w.heap.size+2<=W.heap.size) (fun c W=>Ix c W/\w.heap.size+2<=W.heap.size) ?_ ?_ ?_ ?_ ?_ ?_ ?_ ?_ ?_ (fun W h=>hdone W h.1) (fun c W h=>oQ c W h.1);{intro A B hA hst;have:=iX A B hst;exact⟨this.size,this.block _ ae,this.block _ ae⟩};{intro i A B hA hst;have:=iX A B hst;exact⟨hI i A B hA.1 ae (cF.vg this),a_ hA.2 this.size⟩};{intro c A B hA hst;have:=iX A B hst;exact⟨kX c A B hA.1 hA.2 (cF.vg this),a_ hA.2 this.size⟩};{exact fun i A r o h cA=>⟨hI i A _ h.1 ae (hput A r o cA),by rw[World.putObj_size];exact h.2⟩};{exact fun c A r o h cA=>⟨kX c A _ h.1 h.2 (hput A r o cA),by rw[World.putObj_size];exact h.2⟩};{exact fun r=>⟨hI 0 w _ h0 aB (cF.vg ((bj.alloc aB _).alloc ak _)),ak⟩};{intro W r r' r'' Wc cA hk hL;refine nE _ _ (fun k gU=>?_) ?_;{have:=Ap k gU;rw[World.putObj_heap_other ae,hk k gU,World.putObj_heap_other ae]};{have:=hL.1;rw[World.putObj_size]at this ⊢;exact this}};{intro W r r' r'' Wc cA hk hL;exact hKx _ _};{
 intro l i x V W hx au hsz fH nN;refine wpIn_mono (qM l i x V W hx au.1 hsz fH nN) ?_;rintro e0 a0 V0 jf;have eY:e0=.normal:=by cases e0 <;> first|rfl|exact jf.elim
 subst eY;obtain⟨j_,jg⟩:=jf;refine⟨j_,wpIn_mono jg ?_⟩;rintro e a3 W3 hp;cases e with
 | normal=>exact⟨hp.1,hp.2.1,hp.2.2,a_ hsz hp.1.1⟩
 | ret=>exact⟨hp.1,aY,hp.2,a_ hsz hp.1.1⟩
 | exit id=>exact⟨hp.1,aY,hp.2,a_ hsz hp.1.1⟩
 | goto t=>exact⟨hp.1,aY,hp.2,a_ hsz hp.1.1⟩
 | panic ch=>exact hp.elim
 | outgrown=>exact hp.elim}
theorem aM.kept{W W':World}{k:Nat}{v:Value}{t:TypeId}(h:aM W k v t)(e:W'.heap[k]? = W.heap[k]?):aM W' k v t:=e.trans h
end
section
attribute [local go_sem] Oper.semAt_some undef
theorem nO{w w':World}{base n sz:Nat}{t:TypeId}{v:Value}{xs:List Value}(h:w.ownsRow base t sz v n xs)(hg:∀g,v.ownBlock=some g->w'.heap[g]? = w.heap[g]?):w'.ownsRow base t sz v n xs:=by obtain⟨h1,h2⟩:=h;refine⟨h1,?_⟩;rcases h2 with h2|⟨g,cap,cur,rfl,hb,bp,hr⟩;{exact .inl h2};{exact .inr ⟨g,cap,cur,rfl,hb,(hg g rfl).trans bp,hr⟩}
theorem yM{W:World}{base g:Nat}{v:Value}{l:ai}(h:d_ W base v l)(hg:v.ownBlock=some g):∃cur,W.heap[g]? = some (.cells cur 5 (0,0)):=by obtain⟨_,⟨rfl,_⟩|⟨g',cap,cur,rfl,_,bp,_⟩⟩:=h;{simp[Value.ownBlock]at hg};{simp only[Value.ownBlock,pL]at hg;subst hg;exact⟨cur,bp⟩}
theorem afm(n:Nat)(h:n<16384):bits .or .i64 49152 (n:Int)=((49152+n:Nat):Int):=by
 have h1:=Fs 49152 n ae ae;have h2:49152+n=49152 ||| n:=Nat.two_pow_add_eq_or_of_lt (i:=14) (b:=n) ae 3
 rw[h2];exact h1
theorem afn (s : ByteArray) (W : World) : (method 521 291 (.string s) "beacon/wire.writeTo").run prog W = .ok (338, .string s) W := by kernel_rfl
theorem afo(args:Array Value)(W:World):(callFunc 338 args).run prog W=.ok (.enter 338 args) W:=aK
def JM(n:Nat):ai:=[au (49152+n),eO (49152+n)]
end
structure bF(mb base:Nat)(w w':World):Prop where
 os:w'.os=w.os
 tape:w'.tape=w.tape
 output:w'.output=w.output
 size:w.heap.size<=w'.heap.size
 block:∀i,i<w.heap.size->i≠mb->(i<base\/((∀cur,w.heap[i]?≠some (.cells cur 5 (0,0)))/\∀cur,w.heap[i]?≠some (.cells cur 343 (0,0))))->w'.heap[i]? = w.heap[i]?
 kp:iC mb w w'
section
variable {mb base:Nat} {A B C:World}
theorem bF.refl(mb base:Nat)(w:World):bF mb base w w:=⟨rfl,rfl,rfl,aL _,fun _ _ _ _=>rfl,iC.refl _ _⟩
theorem bF.same{w:World}(h:bF mb base w A)(h1:B.os=A.os)(h2:B.tape=A.tape)(h3:B.output=A.output)(h4:A.heap.size<=B.heap.size)(hb:∀i,i<w.heap.size->B.heap[i]? = A.heap[i]?):bF mb base w B :=
 ⟨h1.trans h.os,h2.trans h.tape,h3.trans h.output,a_ h.size h4,fun i au hm hp=>(hb i au).trans (h.block i au hm hp),h.kp.same hb⟩
theorem bF.trans(h:bF mb base A B)(k:bF mb base B C):bF mb base A C :=
 ⟨k.os.trans h.os,k.tape.trans h.tape,k.output.trans h.output,a_ h.size k.size,fun i au hm hp=>by
  have e:=h.block i au hm hp;refine(k.block i (eQ au h.size) hm ?_).trans e;rw[e];exact hp,h.kp.trans k.kp h.size⟩
theorem bF.mX(h:aw A B):bF mb base A B:=⟨h.os,h.tape,h.output,h.size,fun i au _ _=>h.block i au,iC.below h⟩
theorem bF.Va(h:jb mb base A B):bF mb base A B:=⟨h.os,h.tape,h.output,h.size,fun i au hm hp=>h.block i au hm (hp.imp id And.left),h.kp⟩
theorem bF.keeps{w:World}{d:Nat}(h:bF mb base w A)(hk:cF d A B)(aD:w.heap.size<=d):bF mb base w B :=
 h.same hk.os hk.tape hk.output hk.size fun i au=>hk.block i (eQ au h.size) ae
theorem bH.tg{w w':World}(h:bH w)(ht:bF mb base w w')(hb:0<base)(hm:0<mb):bH w':=by obtain⟨h0,m,hc⟩:=h;exact⟨eQ h0 ht.size,m,(dC (ht.block 0 h0 ae (.inl hb))).trans hc⟩
theorem bF.Vb{w w':World}(h:bF mb base w w'){vb vp v1 p1:Value}(hm:cG w mb vb vp)(hm1:cG w' mb v1 p1){g k:Nat}(hg:v1.ownBlock=some g)(hk:AX vb<=k)(hb:base<=g){cur:Array Value}(bp:w'.heap[g]? = some (.cells cur 5 (0,0)))(u:Value):bF mb base w (w'.setCell ⟨g,k,none⟩ u) :=
 ⟨h.os,h.tape,h.output,by simpa [World.setCell]using h.size,fun i au hm hp=>by
  by_cases e:i=g
  ·subst e;have he:=h.block i au hm hp;rcases hp with hp|hp
   ·omega
   ·rw[he]at bp;exact absurd bp (hp.1 cur)
  ·exact(bf _ _ _ _ e).trans (h.block i au hm hp),h.kp.aep hm hm1 hg hk bp u⟩
theorem bF.box{w w':World}(ht:bF mb base w w'){k:Nat}{cs:Array Value}{t:TypeId}(h:w.heap[k]? = some (.cells cs t))(hm:k≠mb)(h1:t≠5)(h2:t≠343):w'.heap[k]? = some (.cells cs t) :=
 (ht.block k (di.1 h).1 hm (.inr ⟨fun c hc=>by rw[h]at hc;simp at hc;exact h1 hc.2,fun c hc=>by rw[h]at hc;simp at hc;exact h2 hc.2⟩)).trans h
end
theorem Gb{w:World}{d:Nat}{o:Obj}(h:w.heap[d]? = some o)(ho:∀cs t f,o≠.cells cs t f):(∀cur,w.heap[d]?≠some (.cells cur 5 (0,0)))/\∀cur,w.heap[d]?≠some (.cells cur 343 (0,0)) :=
 ⟨fun c hc=>by rw[h]at hc;exact ho _ _ _ (gT hc),fun c hc=>by rw[h]at hc;exact ho _ _ _ (gT hc)⟩
theorem bF.other{mb base:Nat}{w w':World}(ht:bF mb base w w'){d:Nat}{o:Obj}(h:w.heap[d]? = some o)(hm:d≠mb)(ho:∀cs t f,o≠.cells cs t f):w'.heap[d]? = w.heap[d]? :=
 ht.block d (di.1 h).1 hm (.inr (Gb h ho))
abbrev cH:=List (ai×Nat)
def ll(w:World)(mb base d:Nat)(l:ai)(ps:cH):Prop:=∃vb vp,cG w mb vb vp/\d_ w base vb l/\jC w base vp ps/\(∀g,vb.ownBlock=some g->g≠d)/\∀g,vp.ownBlock=some g->g≠d
def dB(w:World)(mb base:Nat)(l:ai)(ps:cH):Prop:=∃vb vp,cG w mb vb vp/\d_ w base vb l/\jC w base vp ps
theorem yN{W:World}{base g:Nat}{v:Value}{ps:cH}(h:jC W base v ps)(hg:v.ownBlock=some g):∃cur,W.heap[g]? = some (.cells cur 343 (0,0)):=by obtain⟨_,⟨rfl,_⟩|⟨g',cap,cur,rfl,_,bp,_⟩⟩:=h;{simp[Value.ownBlock]at hg};{simp only[Value.ownBlock,pL]at hg;subst hg;exact⟨cur,bp⟩}
section
variable {w w':World} {mb base d:Nat} {l:ai} {ps:cH}
theorem ll.msg(h:ll w mb base d l ps):dB w mb base l ps:=by obtain⟨vb,vp,h1,h2,h3,_⟩:=h;exact⟨vb,vp,h1,h2,h3⟩
theorem dB.lt(h:dB w mb base l ps):mb<w.heap.size:=by obtain⟨vb,vp,h1,_⟩:=h;exact h1.lt
theorem dB.away(h:dB w mb base l ps)(aD:(∀cur,w.heap[d]?≠some (.cells cur 5 (0,0)))/\∀cur,w.heap[d]?≠some (.cells cur 343 (0,0))):ll w mb base d l ps:=by obtain⟨vb,vp,h1,h2,h3⟩:=h;refine⟨vb,vp,h1,h2,h3,fun g hg e=>?_,fun g hg e=>?_⟩;{obtain⟨cur,bp⟩:=yM h2 hg;rw[e]at bp;exact aD.1 cur bp};{obtain⟨cur,bp⟩:=yN h3 hg;rw[e]at bp;exact aD.2 cur bp}
theorem dB.afp(h:dB w mb base l ps)(aD:w.heap.size<=d):ll w mb base d l ps:=h.away ⟨fun cur hc=>by have:=(di.1 hc).1;omega,fun cur hc=>by have:=(di.1 hc).1;omega⟩
theorem dB.below(h:dB w mb base l ps)(hb:aw w w'):dB w' mb base l ps:=by obtain⟨vb,vp,h1,h2,h3⟩:=h;exact⟨vb,vp,h1.kept (hb.block mb h1.lt),oq h2 hb,oq h3 hb⟩
theorem ll.keeps(h:ll w mb base d l ps)(hk:cF d w w')(hm:mb≠d):ll w' mb base d l ps:=by obtain⟨vb,vp,h1,h2,h3,h4,h5⟩:=h;exact⟨vb,vp,h1.kept (hk.block mb h1.lt hm),nO h2 fun g hg=>hk.block g (nC h2 g hg).2 (h4 g hg),nO h3 fun g hg=>hk.block g (nC h3 g hg).2 (h5 g hg),h4,h5⟩
theorem ll.put(h:ll w mb base d l ps)(o:Obj)(hm:mb≠d):dB (w.putObj d o) mb base l ps:=(h.keeps (cF.put (d:=d) w d o) hm).msg
end
theorem Vc{w w':World}{mb base:Nat}{vb vp:Value}{ps:cH}(h:jC w base vp ps)(hm:cG w mb vb vp)(ht:jb mb base w w'):jC w' base vp ps :=
 nO h fun g hg=>by
  obtain⟨cur,bp⟩:=yN h hg;refine ht.block g (nC h g hg).2 (fun e=>?_) (.inr fun c hc=>?_)
  ·rw[e,hm]at bp;simp at bp
  ·rw[bp]at hc;simp at hc
theorem Gc(mb base g cap:Nat)(fs:List iD)(l:ai)(ps:cH)(w:World)(hm:dB w mb base l ps)(bL:base<=w.heap.size)
  (bE:∀f∈fs,f.nL) (hlt:g<w.heap.size) (ub:g≠mb) (AZ:g<base\/∀cur,w.heap[g]?≠some (.cells cur 5 (0,0))) (oX:∀j (h:j<fs.length),w.cell? (ar g j)=some (.iface fs[j].t fs[j].x))
  (hn:fs.length<=cap) (hc:fs.length<=1000000) (hl:l.length+(bY fs).length<=1000000) :
  aF 139 #[aO mb,aU g 0 fs.length cap] w fun e w' =>
   e=.returned (.tuple #[])/\dB w' mb base (l++bY fs) ps/\bF mb base w w':=by obtain⟨vb,vp,h1,h2,h3⟩:=hm;refine(F9 mb base g cap fs vb vp l w h1 h2 bL bE hlt ub AZ oX hn hc hl).mono ?_;rintro e w' ⟨rfl,⟨cE,k1,k2⟩,k3⟩;exact⟨rfl,⟨cE,vp,k1,k2,Vc h3 h1 k3⟩,bF.Va k3⟩
def oC(ps:cH)(x:ai)(n:Nat):cH:=if n<16384 then ps++[(x,n)]else ps
theorem Vd(ps:cH)(x:ai)(n:Nat):(oC ps x n).length<=ps.length+1:=by unfold oC;split <;> simp
theorem afq(ps:cH)(x:ai)(n:Nat):ps.length<=(oC ps x n).length:=by unfold oC;split <;> simp
theorem afr(mb:Nat)(x:ai)(n:Nat)(w:World)(hn:¬n<16384)(wV:n<=1000000) :
  aF 202 #[aO mb,aA x,aq (n:Int)] w fun e w'=>e=.returned (.tuple #[])/\w'=w:=by have afd:¬(n:Int)<16384:=ae;go_enter func202,ntmps202;go_wp2;refine fy (v:=.tuple #[]) (by simp[results,results202]) rfl ?_;exact⟨rfl,rfl⟩
def lq:cH->ai->Option Nat
 | [],_=>none
 | p :: t,x=>if p.1 == x then some p.2 else lq t x
theorem Ve:∀(ps:cH) (x:ai),lq ps x=none->∀j (h:j<ps.length),(ps[j].1 == x)=false
 | [],_,_,j,h=>by simp at h
 | p :: t,x,hf,j,h=>by
  unfold lq at hf;split at hf;{cases hf};{
  rename_i hp;match j,h with
  | 0,_=>simpa using hp
  | j+1,h=>exact Ve t x hf j (by simpa using h)}
theorem N4:∀(ps:cH) (x:ai) (n:Nat),lq ps x=some n->∃j,∃h:j<ps.length,ps[j].2=n/\ps[j].1=x/\∀i (au:i<j),(ps[i].1 == x)=false
 | [],_,_,hf=>by cases hf
 | p :: t,x,n,hf=>by
  unfold lq at hf;split at hf;{rename_i hp;exact⟨0,ak,by simpa using hf,by simpa using hp,fun i au=>ae⟩};{
  rename_i hp;obtain⟨j,hj,h1,h2,h3⟩:=N4 t x n hf;refine⟨j+1,by simpa using hj,by simpa using h1,by simpa using h2,fun i au=>?_⟩;match i,au with
  | 0,_=>simpa using hp
  | i+1,au=>simpa using h3 i ae}
theorem afs(mb base:Nat)(x:ai)(vb vp:Value)(ps:cH)(w:World)(hm:cG w mb vb vp)(ho:jC w base vp ps)(hb:∀j (h:j<ps.length),(ps[j].1 == x)=false)(hl:ps.length<=30000) :
  aF 339 #[aO mb,aA x] w fun e w' =>
   e=.returned (.tuple #[aq 0,.bool false])/\aw w w':=by
 by_cases hne:ps = [];{subst hne;obtain⟨a,n,c,rfl⟩:=oy ho;obtain rfl:n=0:=by{obtain⟨_,⟨e,hz⟩|⟨g',cap',cur',e,_⟩⟩:=ho;{cases e;rfl};{cases e;rfl}};have hc0:=hm.cells.2;clear hm ho hb;go_enter func339,ntmps339;go_wp2_with fail;refine SQ 1 ?_;rw[rounds_succ];go_wp2;go_ret2;exact⟨rfl,bW _ _⟩};obtain⟨g,cap,rfl,hg,fw,hcell⟩:=U9 ho hne;have hc0:=hm.cells.2;have HC:=ag hcell;have aZ:=ag hb;clear hm ho hcell hb hne;go_enter func339,ntmps339;go_wp2_with fail;go_loopw [13] (fun i wr=>∃k:Nat,i=aq k/\k<=ps.length/\aw w wr) (fun i _=>ps.length - (intOf i).toNat);case atStart=>exact⟨0,rfl,dY _,bW _ _⟩
 case round =>(
 obtain⟨k,rfl,hk,hbr⟩:=hrel;have kF:=ag hbr;have hs:=hbr.size;by_cases eJ:k<ps.length;{
 have tQ:(k:Int)<(ps.length:Int):=ae;obtain⟨c0,az⟩:=af HC k eJ;have bI:=(hbr.cell (p:=⟨g,k*2,none⟩) hg).trans c0;have d1:=(hbr.cell (p:=⟨g,k*2+1,none⟩) hg).trans az;have h_:((ah ps[k].1).toList == (ah x).toList)=(ps[k].1 == x):=yu;clear c0 az hbr;rw[af aZ k eJ]at h_;generalize ps[k].2=pn at *;generalize ah ps[k].1=pb at *;go_wp2_with fail;go_roundw;case rel=>exact⟨k+1,dD,ae,kF.alloc hs _⟩
 case measure=>simp[intOf];omega};{obtain rfl:k=ps.length:=ae;clear hbr;go_wp2;go_ret2;exact⟨rfl,kF⟩})
theorem aft(mb base:Nat)(x:ai)(l:ai)(ps:cH)(w:World)(hm:dB w mb base l ps)(hl:ps.length<=30000) :
  aF 339 #[aO mb,aA x] w fun e w' =>
   e=.returned (.tuple #[aq ((lq ps x).getD 0:Nat),.bool (lq ps x).isSome])/\aw w w':=by
 obtain⟨vb,vp,h1,h2,h3⟩:=hm;cases hf:lq ps x with
 | none=>exact afs mb base x vb vp ps w h1 h3 (Ve ps x hf) hl
 | some n =>{obtain⟨j,hj,e1,e2,e3⟩:=N4 ps x n hf;have:=aff mb base j x vb vp ps w h1 h3 hj e2 e3 hl;rw[e1]at this;exact this}
section
variable {P:Program} {ops:Array Oper} {Q:Exit->Act->World->Prop} {S:World->Prop} {l:Nat}
def gP(Q:Exit->Act->World->Prop)(e:Exit)(a:Act)(w:World):Prop:=e=.normal/\Q .normal a w
theorem gP.ki{e:Exit}{a:Act}{w:World}(h:gP Q e a w)(he:e≠.normal):False:=he h.1
theorem gP.out(h:LetsOut (gP Q)):False:=by obtain⟨a,w,h⟩:=h;cases h.1
theorem afu{i:Nat}{K K':Act->World->Prop}(hK:∀a w,K a w->K' a w){a:Act}{w:World}(h:wpOp P ops (gP Q) i K a w):wpOpIn Fence.wide 0 P ops Q i K' a w:=by
 unfold wpOp at h;unfold wpOpIn;split
 ·rename_i ho;simp only[ho]at h;exact hK _ _ h
 ·rename_i o ho;simp only[ho]at h;split
  ·rename_i hw;simp only[hw,pM]at h;rcases h with h|⟨_,h⟩
   ·unfold Oper.wp at h;unfold Oper.wpIn;refine⟨fun _ _=>aY,?_⟩;rw[show Fence.wide.round=none from rfl,Oper.semAt_none];generalize (execOp a.eval o).run P w=r at *;cases r with
    | ok x w' =>
     cases x <;> simp only[Oper.upon]at h
     all_goals first
      | exact hK _ _ h
      | exact h.elim
      | (refine⟨fun h'=>by simp[Fence.wide]at h',callsIn_wide.2 (h.mono fun e w'' he=>?_)⟩
         cases e with
         | returned v=>exact hK _ _ he
         | panicked c=>exact(gP.ki he ak).elim
         | outgrown=>exact(gP.out he).elim)
      | skip
     exact⟨fun h'=>by simp[Fence.wide]at h',fun c cs _=>let ⟨v,w'',r,s⟩:=h c cs;⟨v,w'',hK _ _ r,stepsIn_wide.2 s⟩⟩
    | halt x w' =>
     cases x <;> simp only[Oper.upon]at h
     all_goals first
      | exact(gP.ki h ak).elim
      | exact h.elim
   ·exact(gP.out h).elim
  ·rename_i hw;simp only[hw]at h;exact⟨fun _ _=>aY,hK _ _ h⟩
theorem Vf{md:Region.Mode} : ∀(fuel:Nat) (listed:Array Bool) (a:Act) (w:World),wpAnyH P md ops (gP Q) S fuel listed a w->wpAnyIn Fence.wide 0 P md ops Q fuel listed a w
 | 0,_,_,_,h=>⟨h.1,h.2.2⟩
 | fuel+1,_,_,_,h=>⟨fun h0=>(h.1 h0).2,fun i au=>afu (fun a' w' h'=>Vf fuel _ a' w' h'.2) (h.2 i au)⟩
theorem Vg{id:Nat}{a:Act}{w:World}(S:World->Prop)(hm:P.follows .mixedOrders=true)(iy:∀(i:Nat) (o:Oper),ops[i]? = some o->∀c,o.op≠.defer c)(hS:S w.drew)
  (h:S w.drew->wpAnyH P .any ops (gP Q) S ops.size (Array.replicate ops.size false) a w.drew):(Code.region id ops true).wpIn (Fence.wide.inRound l) 0 P Q a w :=
 Aw hm iy (Vf _ _ _ _ (h hS))
end
section
attribute [local go_sem] Oper.semAt_some undef
def vK(e:ai):ai:=(Lib.cut e [46]).1
theorem N5(a b:ai)(h:(46:UInt8) ∉ a):vK (a++46 :: b)=a:=by unfold vK Lib.cut;rw[Lib.index_one,I_ 46 a b h,aP ae];simp[Iz]
theorem N6(l:ai)(h:(46:UInt8) ∉ l):vK l=l:=by unfold vK Lib.cut;rw[Lib.index_one,I9 46 l h,aG aC]
theorem afv(l:ai):(vK l).length+(fW l).length<=l.length:=by by_cases hc:(46:UInt8)∈l;{obtain⟨a,b,rfl,ha⟩:=E_ hc;rw[AE a b ha,N5 a b ha];simp};{rw[Da l hc,N6 l hc];simp}
theorem N7:∀(f:Nat) (n:ai),n.length<=f->(cu n).length<=n.length
 | 0,n,h=>by obtain rfl:n = []:=gS ae;simp[oW]
 | f+1,n,h=>by by_cases hn:n = [];{subst hn;simp[oW]};{have h1:=yx n hn;rw[pW n hn,cU];have:=N7 f (fW n) ae;omega}
def nP(e:ai):ai:=UInt8.ofNat (vK e).length :: vK e
def gw(ps:cH):Prop:=∀p∈ps,p.2<16384
def gh:List ai->ai->cH->ai×cH
 | [],l,ps=>(l++[0],ps)
 | e :: es,l,ps=>match lq ps e with
  | some n=>(l++JM n,ps)
  | none=>gh es (l++nP e) (oC ps e l.length)
theorem Gd{e:ai}{es:List ai}{l:ai}{ps:cH}{n:Nat}(h:lq ps e=some n):gh (e :: es) l ps=(l++JM n,ps):=by rw[gh,h]
theorem Ge{e:ai}{es:List ai}{l:ai}{ps:cH}(h:lq ps e=none):gh (e :: es) l ps=gh es (l++nP e) (oC ps e l.length):=by rw[gh,h]
theorem Vh{ps:cH}(h:gw ps)(x:ai)(n:Nat):gw (oC ps x n):=by intro p hp;unfold oC at hp;split at hp;{rename_i hn;rw[kP]at hp;rcases hp with hp|hp;{exact h p hp};{simp at hp;subst hp;exact hn}};{exact h p hp}
theorem afw{ps:cH}(h:gw ps){x:ai}{n:Nat}(hf:lq ps x=some n):n<16384:=by obtain⟨j,hj,e1,_⟩:=N4 ps x n hf;rw[<- e1];exact h _ (iV hj)
theorem afx(mb base:Nat)(x:ai)(n:Nat)(l:ai)(ps:cH)(vb vp:Value)(w:World)(h1:cG w mb vb vp)(h2:d_ w base vb l)(h3:jC w base vp ps)(bL:base<=w.heap.size)(hl:ps.length<=30000)(hn:n<=1000000) :
  aF 202 #[aO mb,aA x,aq (n:Int)] w fun e w' =>
   e=.returned (.tuple #[])/\∃cC,cG w' mb vb cC/\d_ w' base vb l/\jC w' base cC (oC ps x n)/\bF mb base w w':=by unfold oC;split;{rename_i hlt;refine(U8 mb base x n vb vp ps w h1 h3 bL hl hlt).mono ?_;rintro e w' ⟨rfl,cC,k1,k2,_,k5,k4⟩;refine⟨rfl,cC,k1,nO h2 fun g hg=>?_,k2,k4.os,k4.tape,k4.output,k4.size,fun i au uh hp=>?_,k5⟩;{obtain⟨cur,bp⟩:=yM h2 hg;refine k4.block g (nC h2 g hg).2 ⟨fun e=>?_,fun e=>?_⟩;{rw[e,h1]at bp;simp at bp};{obtain⟨cur',JN⟩:=yN h3 e.symm;rw[bp]at JN;simp at JN}};{refine k4.block i au ⟨uh,fun e=>?_⟩;rcases hp with hp|hp;{have:=(nC h3 i e.symm).1;omega};{obtain⟨cur',JN⟩:=yN h3 e.symm;exact hp.2 cur' JN}}};{rename_i hlt;refine(afr mb x n w hlt hn).mono ?_;rintro e w' ⟨rfl,rfl⟩;exact⟨rfl,vp,h1,h2,h3,bF.refl _ _ _⟩}
theorem afy(mb base:Nat)(x:ai)(l:ai)(ps:cH)(w:World)(hm:dB w mb base l ps)(hg:bH w)(bL:base<=w.heap.size)(hb0:0<base)(hm0:0<mb)(lR:x.length<=3000)(bE:gw ps)(hpl:ps.length+x.length<=30000)(hl:l.length<=60000) :
  aF 338 #[aA x,aO mb] w fun e w' =>
   e=.returned (.tuple #[])/\dB w' mb base (gh (cu x) l ps).1 (gh (cu x) l ps).2/\bF mb base w w':=by
 refine(bR (n:=0)).1 ?_;refine callsIn_of_wp_marks func338 rfl aY ?_;simp only[ntmps338,lK,cU,fV,Nat.reduceAdd,Nat.reduceSub,l_,mf,mh,mg,fF,dX];have bA:=ag hm;have HG:=ag hg;have ew:=ag bE;have hlt:=hm.lt;have hg0:=hg.1;have hmx:prog.follows .mixedOrders=true:=aK;have afz:=N7 _ x aB;clear hm hg bE;obtain⟨R,hR⟩:=bP (gh (cu x) l ps);rw[<- hR];have aT:=ag hR;clear hR;gi_wp2_with fail;refine⟨aY,rfl,?_⟩;refine(bR.2 (Jo _ _)).mono ?_;rintro e W2 ⟨rfl,e4,hb2,e2⟩;have e0:aM W2 w.heap.size (aO mb) 216:=(aM.ke _ _ _).below hb2 ak;have e5:aw w W2:=(bj.alloc aB _).trans (hb2.mono ak);simp only[dI]at e4 e2;have s2:w.heap.size+2<=W2.heap.size:=ae;have jn:=ag (bA.below e5);have ji:Hid (bF mb base w W2):=bF.mX e5;have yO:=ag (HG.below e5);clear e4 e5 hb2;gi_wp2_with fail;have hgrow:∀r,aw W2 ((W2.alloc (.deferred (some []))).alloc (.loop r)):=fun r=>(bj.alloc aB _).alloc ak _;refine N3 (xs:=cu x) (encs:=fun e:ai=>#[aA e]) (St:=fun A B=>aw A B) (Kp:=fun A B=>A.heap.size<=B.heap.size/\B.heap[0]? = A.heap[0]?) (Kx:=fun _ _=>True) (gf:=241) (lb:=#[aO (w.heap.size+1)]) rfl (enters_of func241 aK rfl) (fun _=>rfl) ?seq [0] aX (fun A B h=>h) (fun A B h h'=>⟨h',h _ ak⟩) (fun _ _=>aY) (fun i W=>(∃y li lu,(cu x).drop i=cu y/\R=gh (cu y) li lu/\li.length+y.length<=l.length+x.length+i/\lu.length<=ps.length+i/\gw lu/\ll W mb base (W2.heap.size+1) li lu)/\bF mb base w W/\aM W w.heap.size (aO mb) 216/\bH W) (fun c W=>c=.ret/\ll W mb base (W2.heap.size+1) R.1 R.2/\bF mb base w W) (fun i A B h hA hk=>by{obtain⟨⟨y,li,lu,q1,q2,q3,q4,q5,q6⟩,hT,hB,hG⟩:=h;refine⟨⟨y,li,lu,q1,q2,q3,q4,q5,q6.keeps hk ae⟩,hT.keeps hk ae,aM.kept hB (hk.block _ (aM.lt hB) ae),?_⟩;obtain⟨g0,m,hc⟩:=hG;exact⟨eQ g0 hk.size,m,(dC (hk.block 0 g0 ae)).trans hc⟩}) (fun c A B h hA hk=>⟨h.1,h.2.1.keeps hk ae,h.2.2.keeps hk ae⟩) ⟨⟨x,l,ps,rfl,aT,ae,ae,ew,jn.afp ae⟩,ji,e0,yO⟩ ?round ?done ?stop;case seq =>(intro r;have hg:=hgrow r;exact Jp _ x _ ((hg.cell (p:=⟨w.heap.size+1,0,none⟩) (by show w.heap.size+1<W2.heap.size;omega)).trans e2) (yO.below hg) lR)
 case round =>(
 intro l' i y' afA W hy hI hsz fH nN;obtain⟨⟨y,li,lu,q1,q2,q3,q4,q5,q6⟩,hT,hB,Dp⟩:=hI;have N8:i<(cu x).length:=(iu.1 hy).1;have Dq:y'.length<=x.length:=Jn (qH hy);have JO:y≠[]:=by{intro h;subst h;rw[oW]at q1;have:=ek List.length q1;simp at this;omega};have afB:y'=y/\(cu x).drop (i+1)=cu (fW y):=by{
 rw[pW y JO]at q1;have h1:((cu x).drop i)[0]? = some y':=by simpa using hy
 rw[q1]at h1;refine⟨by simpa using h1.symm,?_⟩;rw[<- qE,q1];rfl};obtain⟨rfl,q7⟩:=afB;rw[pW y' JO]at q2;have afC:=afv y';have Dr:=aft mb base y' li lu W q6.msg ae;have dJ:=ag hT;have aZ:=ag hB;have Vi:=ag Dp;have Gf:=ag q6;have mY:=q6.msg.lt;have cb:=aM.cell hB;have JP:=ag q7;have p2:=ag q5;have o9:=ag fH;have Vj:=ag nN;have afD:=hT.size;clear hT hB Dp q6 q1 q7 fH nN hy;cases hf:lq lu y' with
 | some pn =>{
 have vJ:=afw (af p2) hf;rw[hf]at Dr;have rp:Hid (aF 339 #[aO mb,aA y'] W (cS (.tuple #[aq (pn:Int),.bool true]) W)):=Dr;rw[Gd hf]at q2;have mS:=ag q2;clear q2 hf Dr;gi_wp2_with fail;refine⟨aY,?_⟩;gi_wp2_with fail;refine⟨aY,rfl,?_⟩;refine(CallsIn.inRound l' (bR.2 (af rp))).mono ?_;rintro e W3 ⟨rfl,hb3⟩;have cI:=Gf.msg.below hb3;have gu:=aM.below aZ hb3 (aM.lt (af aZ));have hs3:=hb3.size;have c3:=aM.cell gu;have afE:=afm pn vJ;have hwr:IntKind.u16.wrap ((49152+pn:Nat):Int)=((49152+pn:Nat):Int):=by rw[jZ];omega
 have hnew:=World.alloc_heap_new W3 (.cells #[.iface 284 (.int .u16 ((49152+pn:Nat):Int))] 297);have o_:=ag (Gc mb base W3.heap.size 1 [dA (49152+pn)] li lu (W3.alloc (.cells #[.iface 284 (.int .u16 ((49152+pn:Nat):Int))] 297)) (cI.below (bj.alloc aB _)) aX (fun f hf=>by simp at hf;subst hf;exact kC _ ae) ak (by have:=cI.lt;omega) (.inr fun cur h=>by rw[hnew]at h;simp at h) (fun j hj=>by{
 match j,hj with
 | 0,_=>unfold World.cell?; rw[hnew];rfl
 | j+1,hj=>simp at hj}) ak ak (by simp[bY,dA];omega))
 obtain⟨q,hq⟩:=bP (49152+pn);rw[<- hq]at o_ hwr afE;have tY:=ag hq;have jI:=ag hb3;clear hq hnew cI gu hb3 rp cb;gi_wp2_with fail;refine⟨aY,rfl,?_⟩;refine(CallsIn.inRound l' (bR.2 (af o_))).mono ?_;rintro e W4 ⟨rfl,hm4,Gg⟩;have Gh:bF mb base W W4:=(bF.mX (af jI)).trans ((bF.mX (bj.alloc aB _)).trans Gg);have d1:=af o9;obtain⟨r,d2⟩:=af Vj;have g1:W4.heap[W2.heap.size]? = W.heap[W2.heap.size]?:=Gh.other d1 ae (fun _ _ _ h=>by cases h);have g2:W4.heap[W2.heap.size+1]? = W.heap[W2.heap.size+1]?:=Gh.other d2 ae (fun _ _ _ h=>by cases h);have bu:Hid (gq W2.heap.size W W4/\ll W4 mb base (W2.heap.size+1) R.1 R.2/\bF mb base w W4):=by{refine⟨⟨Gh.size,g1,g2⟩,?_,dJ.trans Gh⟩;rw[af mS,show JM pn=bY [dA q] by rw[af tY];rfl];exact hm4.away (Gb (g2.trans d2) (fun _ _ _ h=>by cases h))};clear hm4 Gg Gh d1 d2 g1 g2 o_;gi_wp2_with fail;exact⟨bu.1,rfl,bu.2⟩}
 | none =>{
 rw[hf]at Dr;have rp:Hid (aF 339 #[aO mb,aA y'] W (cS (.tuple #[aq 0,.bool false]) W)):=Dr;rw[Ge hf]at q2;have mS:=ag q2;clear q2 hf Dr;gi_wp2_with fail;refine⟨aY,?_⟩;gi_wp2_with fail;refine⟨aY,rfl,?_⟩;refine(CallsIn.inRound l' (bR.2 (af rp))).mono ?_;rintro e W3 ⟨rfl,hb3⟩;obtain⟨N9,Gi,m3,b3,fD⟩:=Gf.msg.below hb3;have N_:=aM.below aZ hb3 (aM.lt (af aZ));have hs3:=hb3.size;have c3:=aM.cell N_;obtain⟨ab,nb,cb3,rfl⟩:=oy b3;obtain rfl:nb=li.length:=by{obtain⟨_,⟨e,hz⟩|⟨g',cap',cur',e,_⟩⟩:=b3;{cases e;omega};{cases e;rfl}};have Vk:=m3.cells.1;have A4:aw W3 W3.drew:=bj.drew;have Vl:aM W3.drew w.heap.size (aO mb) 216:=N_;have yP:=ag (afx mb base y' li.length li lu _ Gi W3.drew (m3.kept rfl) (oq b3 A4) (oq fD A4) (by show base<=W3.heap.size;omega) ae ae);have T3:bF mb base W W3.drew:=bF.mX (hb3.trans (A4.mono hs3));have nQ:=ag T3;have mU:=ag (bQ m3 (bQ b3 fD));clear m3 b3 fD hb3 A4 T3 rp cb;gi_wp2_with fail;refine Vg (fun W=>W.cell? (ar w.heap.size 0)=some (aO mb)/\W.cell? (ar mb 0)=some (.slice ab li.length cb3)) hmx (wZ aK) ⟨c3,Vk⟩ fun hS=>?_;refine kT 0 hS (fun _ _ _ h=>(gP.ki h ak).elim) ?_;refine kT 1 hS (fun _ _ _ h=>(gP.ki h ak).elim) ?_;refine kT 2 hS (fun _ _ _ h=>(gP.ki h ak).elim) ?_;refine kT 3 hS (fun _ _ _ h=>(gP.ki h ak).elim) ?_;refine kT 4 hS (fun _ _ _ h=>(gP.ki h ak).elim) ?_;refine kT 5 hS (fun _ _ _ h=>(gP.ki h ak).elim) ?_;refine kT 6 hS (fun _ _ _ h=>(gP.ki h ak).elim) ?_;refine SV (rs:=[7]) aK ak (SR rfl (fun K hK=>?_) SS);go_simp;refine yP.mono ?_;rintro e W4 ⟨rfl,afF,m4,b4,p4,g4⟩;have x4:=g4.box Vl ae aC aC;refine hK.out _ _ ⟨aM.cell x4,m4.cells.1⟩ (fun hS=>?_);clear hK K hS;refine SU aK ?_ _;refine⟨rfl,?_⟩;have Vm:=(Vi.tg (nQ.trans g4) hb0 hm0);have T4:bF mb base W W4:=nQ.trans g4;have aqg:=T4.size;have Vn:=ag (adI y' W4 Vm ae);have Ds:Hid (dB W4 mb base li (oC lu y' li.length)):=⟨_,_,m4,b4,p4⟩;have Oa:=ag x4;have afG:=ag T4;have bw:=aM.cell x4;clear m4 b4 p4 g4 x4 T4 Vm yP c3 Vk N_ Vl;gi_wp2_with fail;refine⟨aY,rfl,?_⟩;refine(CallsIn.inRound l' (bR.2 (af Vn))).mono ?_;rintro e W5 ⟨rfl,hb5⟩;have vL:Hid ((Lib.cut y' [46]).1=vK y'):=rfl;rw[af vL];have vM:=Ds.below hb5;have Ob:=aM.below Oa hb5 (aM.lt (af Oa));have dm:=aM.cell Ob;have hs5:=hb5.size;have ui:=Vd lu y' li.length;obtain⟨fl,sH⟩:=bP (vK y');have vN:Hid (nP y'=UInt8.ofNat fl.length :: fl):=by rw[sH];rfl
 rw[<- sH]at afC ⊢;obtain⟨oc,A5⟩:=bP (UInt8.ofNat fl.length);have aqh:IntKind.u8.wrap (fl.length:Int)=(oc.toNat:Int):=by rw[MO,A5,rQ];omega
 rw[<- A5]at vN;have A6:(ah fl).size=fl.length:=dt fl;have hnew:=World.alloc_heap_new W5 (.cells #[.iface 292 (.int .u8 oc.toNat),.iface 224 (.string (ah fl))] 297);have o_:=ag (Gc mb base W5.heap.size 2 [jN oc,ct fl] li _ (W5.alloc (.cells #[.iface 292 (.int .u8 oc.toNat),.iface 224 (.string (ah fl))] 297)) (vM.below (bj.alloc aB _)) aX (fun f hf=>by{simp at hf;rcases hf with rfl|rfl;{exact vG _};{exact iO _}}) ak (by have:=vM.lt;omega) (.inr fun cur h=>by rw[hnew]at h;simp at h) (fun j hj=>by{
 match j,hj with
 | 0,_=>unfold World.cell?; rw[hnew];rfl
 | 1,_=>unfold World.cell?; rw[hnew];rfl
 | j+2,hj=>simp at hj;omega}) ak ak (by simp[bY,jN,ct];omega))
 have T5:bF mb base W W5:=afG.trans (bF.mX hb5);have afH:=ag T5;have Oc:=ag Ob;clear sH A5 hnew vM Ob hb5 T5 Vn Ds Oa bw vL;gi_wp2_with fail;refine⟨aY,rfl,?_⟩;refine(CallsIn.inRound l' (bR.2 (af o_))).mono ?_;rintro e W6 ⟨rfl,yQ,Vo⟩;have T6:bF mb base W W6:=afH.trans ((bF.mX (bj.alloc aB _)).trans Vo);have d1:=af o9;obtain⟨r,d2⟩:=af Vj;have g1:W6.heap[W2.heap.size]? = W.heap[W2.heap.size]?:=T6.other d1 ae (fun _ _ _ h=>by cases h);have g2:W6.heap[W2.heap.size+1]? = W.heap[W2.heap.size+1]?:=T6.other d2 ae (fun _ _ _ h=>by cases h);have bu:Hid (gq W2.heap.size W W6/\(∀k∈[0],W6.heap[k]? = W.heap[k]?)/\(∃y li lu,(cu x).drop (i+1)=cu y/\R=gh (cu y) li lu/\li.length+y.length<=l.length+x.length+(i+1)/\lu.length<=ps.length+(i+1)/\gw lu/\ll W6 mb base (W2.heap.size+1) li lu)/\bF mb base w W6/\aM W6 w.heap.size (aO mb) 216/\bH W6):=by{
 refine⟨⟨T6.size,g1,g2⟩,fun k hk=>?_,⟨fW y',li++nP y',_,JP,mS,?_,ae,Vh (af p2) _ _,?_⟩,dJ.trans T6,T6.box (af aZ) ae aC aC,Vi.tg T6 hb0 hm0⟩;{
 obtain rfl:k=0:=by simpa using hk
 exact T6.block 0 ae ae (.inl hb0)};{rw[af vN,bU,cU];omega};{
 rw[af vN];have:li++bY [jN oc,ct fl]=li++oc :: fl:=by simp[bY,jN,ct]
 rw[<- this];exact yQ.away (Gb (g2.trans d2) (fun _ _ _ h=>by cases h))}};clear yQ Vo T6 d1 d2 g1 g2 o_;gi_wp2_with fail;exact⟨bu.1,bu.2.1,bu.2.2⟩})
 case done =>(
 intro W hI cD hsz;obtain⟨⟨y,li,lu,q1,q2,q3,q4,q5,q6⟩,hT,hB,Dp⟩:=hI;have JO:y = []:=by{rw[x_]at q1;by_cases h:y = [];{exact h};{rw[pW y h]at q1;cases q1}};subst JO;rw[oW]at q2;have c3:=aM.cell hB;have cI:=q6.msg;have afD:=hT.size;have hnew:=World.alloc_heap_new W (.cells #[.iface 292 (.int .u8 (0:UInt8).toNat)] 297);have o_:Hid (aF 139 #[aO mb,aU W.heap.size 0 1 1] (W.alloc (.cells #[.iface 292 (.int .u8 0)] 297)) fun e w'=>e=.returned (.tuple #[])/\dB w' mb base (li++[0]) lu/\bF mb base (W.alloc (.cells #[.iface 292 (.int .u8 0)] 297)) w') := Gc mb base W.heap.size 1 [jN 0] li lu (W.alloc (.cells #[.iface 292 (.int .u8 (0:UInt8).toNat)] 297)) (cI.below (bj.alloc aB _)) aX (fun f hf=>by simp at hf;subst hf;exact vG _) ak (by have:=cI.lt;omega) (.inr fun cur h=>by rw[hnew]at h;simp at h) (fun j hj=>by{
 match j,hj with
 | 0,_=>unfold World.cell?; rw[hnew];rfl
 | j+1,hj=>simp at hj}) ak ak (by simp[bY,jN];simp at q3;omega)
 have mS:=ag q2;have dJ:=ag hT;have HD:=ag cD;clear q1 q2 hT hB Dp q6 cI hnew cD;gi_wp2_with fail;refine⟨aY,rfl,?_⟩;refine(bR.2 (af o_)).mono ?_;rintro e W4 ⟨rfl,hm4,Gg⟩;have T4:bF mb base W W4:=(bF.mX (bj.alloc aB _)).trans Gg;have Dt:W4.heap[W2.heap.size]? = some (.deferred (some [])):=(T4.other (af HD) ae (fun _ _ _ h=>by cases h)).trans (af HD);have hN:=hm4.away (d:=W2.heap.size) (Gb Dt (fun _ _ _ h=>by cases h));have bg:Hid (ll W4 mb base W2.heap.size R.1 R.2/\bF mb base w W4/\W4.heap[W2.heap.size]? = some (.deferred (some []))):=⟨by rw[af mS];exact hN,dJ.trans T4,Dt⟩;clear hm4 Gg T4 Dt hN o_ HD c3;gi_wp2_with fail;refine⟨ak,.inl ⟨_,_,rfl,run_takeDeferred bg.2.2,?_⟩⟩;exact⟨.tuple #[],by simp[results,results338],rfl,bg.1.put _ ae,bg.2.1.keeps (cF.put (d:=W2.heap.size) W4 W2.heap.size (.deferred none)) ae⟩)
 case stop =>(intro c W hI cD hsz;obtain⟨rfl,h2,h3⟩:=hI;have H:=ag (bQ h2 h3);have hN:=h2.msg.away (d:=W2.heap.size) (Gb cD (fun _ _ _ h=>by cases h));have dv:=ag hN;clear h2 h3 hN;gi_wp2_with fail;refine⟨ak,.inl ⟨_,_,rfl,run_takeDeferred cD,?_⟩⟩;exact⟨.tuple #[],by simp[results,results338],rfl,dv.put _ ae,H.2.keeps (cF.put (d:=W2.heap.size) W W2.heap.size (.deferred none)) ae⟩)
end
def Vp(mb base:Nat)(I:World->Prop)(fn:FuncId)(x:Value)(step:ai->cH->ai×cH):Prop:=∀(l:ai) (ps:cH) (w:World),I w->dB w mb base l ps->base<=w.heap.size->gw ps->(step l ps).1.length<=50000->(step l ps).2.length<=20000 ->
 aF fn #[x,aO mb] w fun e w'=>e=.returned (.tuple #[])/\dB w' mb base (step l ps).1 (step l ps).2/\bF mb base w w'
structure dH where
 t:TypeId
 x:Value
 fn:FuncId
 vO:ai->cH->ai×cH
structure dH.uj(f:dH)(mb base:Nat)(I:World->Prop):Prop where
 meth : ∀ W : World, (method 521 f.t f.x "beacon/wire.writeTo").run prog W = .ok (f.fn, f.x) W
 call:∀(args:Array Value) (W:World),(callFunc f.fn args).run prog W=.ok (.enter f.fn args) W
 wr:Vp mb base I f.fn f.x f.vO
 JQ:∀l ps,l.length<=(f.vO l ps).1.length/\ps.length<=(f.vO l ps).2.length/\(gw ps->gw (f.vO l ps).2)
def en(fs:List dH)(l:ai)(ps:cH):ai×cH:=fs.foldl (fun s f=>f.vO s.1 s.2) (l,ps)
def Du(mb base:Nat)(I:World->Prop):Prop:=∀w w',I w->bF mb base w w'->I w'
def mZ(mb:Nat)(w:World)(g:Nat)(fs:List dH):Prop:=g≠mb/\(∃cs t,w.heap[g]? = some (.cells cs t)/\t≠5/\t≠343)/\∀j (h:j<fs.length),w.cell? (ar g j)=some (.iface fs[j].t fs[j].x)
theorem mZ.tg{mb base g:Nat}{fs:List dH}{w w':World}(h:mZ mb w g fs)(ht:bF mb base w w'):mZ mb w' g fs:=by obtain⟨h1,⟨cs,t,h2,h3,h4⟩,h5⟩:=h;have e:=ht.box h2 h1 h3 h4;exact⟨h1,⟨cs,t,e,h3,h4⟩,fun j hj=>(dC (e.trans h2.symm)).trans (h5 j hj)⟩
theorem Vq(l:ai)(ps:cH):en [] l ps=(l,ps):=rfl
theorem JR(f:dH)(fs:List dH)(l:ai)(ps:cH):en (f :: fs) l ps=en fs (f.vO l ps).1 (f.vO l ps).2:=rfl
theorem Vr(fs gs:List dH)(l:ai)(ps:cH):en (fs++gs) l ps=en gs (en fs l ps).1 (en fs l ps).2:=by unfold en;rw[CH]
theorem Vs(fs:List dH)(k:Nat)(h:k<fs.length)(l:ai)(ps:cH):en (fs.take (k+1)) l ps=fs[k].vO (en (fs.take k) l ps).1 (en (fs.take k) l ps).2:=by rw[kQ h,Vr];rfl
theorem Dv{mb base:Nat}{I:World->Prop} : ∀(fs:List dH),(∀f∈fs,f.uj mb base I)->∀l ps,l.length<=(en fs l ps).1.length/\ps.length<=(en fs l ps).2.length/\(gw ps->gw (en fs l ps).2)
 | [],_,l,ps=>⟨aL _,aL _,id⟩
 | f :: fs,h,l,ps=>by have h1:=(h f ak).JQ l ps;have h2:=Dv fs (fun g hg=>h g (by simp[hg])) (f.vO l ps).1 (f.vO l ps).2;rw[JR];exact⟨ae,ae,fun h=>h2.2.2 (h1.2.2 h)⟩
theorem afI{mb base:Nat}{I:World->Prop}(fs:List dH)(bE:∀f∈fs,f.uj mb base I)(l:ai)(ps:cH)(k:Nat):(en (fs.take k) l ps).1.length<=(en fs l ps).1.length/\(en (fs.take k) l ps).2.length<=(en fs l ps).2.length:=by
 have e:en fs l ps=en (fs.drop k) (en (fs.take k) l ps).1 (en (fs.take k) l ps).2:=by rw[<- Vr,jH]
 have:=Dv (fs.drop k) (fun f hf=>bE f (IL hf)) (en (fs.take k) l ps).1 (en (fs.take k) l ps).2;rw[e];exact⟨this.1,this.2.1⟩
theorem Od(mb base g cap:Nat)(I:World->Prop)(fs:List dH)(l:ai)(ps:cH)(w:World)(hI:I w)(hst:Du mb base I)(hm:dB w mb base l ps)(bL:base<=w.heap.size)(kG:gw ps)
  (bE:∀f∈fs,f.uj mb base I) (A6:mZ mb w g fs) (hn:fs.length<=cap) (hc:fs.length<=1000000) (hl:(en fs l ps).1.length<=50000) (hp:(en fs l ps).2.length<=20000) :
  aF 139 #[aO mb,aU g 0 fs.length cap] w fun e w' =>
   e=.returned (.tuple #[])/\dB w' mb base (en fs l ps).1 (en fs l ps).2/\bF mb base w w':=by
 have bA:=ag hm;have ew:=ag bE;have HC:=ag A6;have fp:=ag hI;have HST:=ag hst;have rp:=ag kG;have Dw:g<w.heap.size:=by obtain⟨_,⟨cs,t,h2,_⟩,_⟩:=A6;exact(di.1 h2).1
 clear hm bE A6 hI hst kG;go_enter func139,ntmps139;go_wp2_with fail;go_loopw [8] (fun i wr=>∃(k:Nat),i=aq k/\k<=fs.length/\dB wr mb base (en (fs.take k) l ps).1 (en (fs.take k) l ps).2/\bF mb base w wr) (fun i _=>fs.length - (intOf i).toNat);case atStart=>exact⟨0,rfl,dY _,bA,bF.refl _ _ _⟩
 case round =>(obtain⟨k,rfl,hk,nR,ht⟩:=hrel;have c4:=ag nR;have ja:=ag ht;have hsz:=ht.size;clear nR ht;by_cases hlk:k<fs.length;{have hcell:wr.cell? (ar g k)=some (.iface fs[k].t fs[k].x):=(HC.tg (af ja)).2.2 k hlk;have xj:=af ew fs[k] (iV hlk);have bu:=ag (Vs fs k hlk l ps);have h1:=afI fs (af ew) l ps (k+1);rw[Vs fs k hlk l ps]at h1;have gy:=(Dv (fs.take k) (fun f hf=>af ew f (Fa hf)) l ps).2.2 (af rp);generalize fs[k]=f at *;have aeu:=xj.meth;have vr:=xj.call;have HW:=ag (xj.wr _ _ wr (HST w wr fp ja) (af c4) ae gy ae ae);clear xj h1 gy;go_wp2_with fail;refine HW.mono ?_;rintro e w2 ⟨rfl,h1,h3⟩;rw[<- af bu]at h1;have bg:=ag (bQ h1 (ja.trans h3));clear h1 h3 HW;go_wp2;exact⟨⟨k+1,dD,ae,bg.1,bg.2⟩,gN⟩};{have eJ:k=fs.length:=ae;subst eJ;have h9:=af c4;rw[jV]at h9;have eV:=ag h9;clear h9;go_wp2;refine fy (v:=.tuple #[]) (by simp[results,results139]) rfl ?_;exact⟨rfl,eV,ja⟩})
def ik(f:iD):dH:=⟨f.t,f.x,f.fn,fun l ps=>(l++f.out,ps)⟩
theorem oD{f:iD}(h:f.nL)(mb base:Nat)(I:World->Prop):(ik f).uj mb base I where
 meth:=h.1
 call:=h.2.1
 wr:=fun l ps w _ hm bL _ hl _=>by
  obtain⟨vb,vp,h1,h2,h3⟩:=hm;simp only[ik,bU]at hl;refine(h.2.2 mb base vb vp l w h1 h2 bL ae).mono ?_;rintro e w' ⟨rfl,⟨cE,k1,k2⟩,k3⟩;exact⟨rfl,⟨cE,vp,k1,k2,Vc h3 h1 k3⟩,bF.Va k3⟩
 JQ:=fun l ps=>⟨by simp[ik],aL _,id⟩
def sI(x:ai):dH:=⟨291,aA x,338,fun l ps=>gh (cu x) l ps⟩
theorem JS:∀(es:List ai) (l:ai) (ps:cH),l.length<=(gh es l ps).1.length/\ps.length<=(gh es l ps).2.length/\(gw ps->gw (gh es l ps).2)
 | [],l,ps=>⟨by simp[gh],aL _,id⟩
 | e :: es,l,ps=>by
  cases hf:lq ps e with
  | some n=>rw[Gd hf];exact⟨ak,aL _,id⟩
  | none =>{rw[Ge hf];have h1:=JS es (l++nP e) (oC ps e l.length);have h2:=afq ps e l.length;rw[bU]at h1;exact⟨ae,ae,fun h=>h1.2.2 (Vh h _ _)⟩}
theorem Dx(x:ai)(hx:x.length<=300)(mb base:Nat)(I:World->Prop)(afJ:∀w,I w->bH w)(hb0:0<base)(hm0:0<mb):(sI x).uj mb base I where
 meth:=afn _
 call:=afo
 wr:=fun l ps w hI hm bL kG hl hp=>by
  have h1:=JS (cu x) l ps;exact afy mb base x l ps w hm (afJ w hI) bL hb0 hm0 ae kG (by have:(gh (cu x) l ps).2.length<=20000:=hp;omega) (by have:(gh (cu x) l ps).1.length<=50000:=hl;omega)
 JQ:=fun l ps=>JS (cu x) l ps
def A7(l:ai)(n:Nat)(k:Nat):ai:=(l.set n (au k)).set (n+1) (eO k)
theorem Oe(l:ai)(n k:Nat):(A7 l n k).length=l.length:=by simp[A7]
def A8(fs:List dH)(l:ai)(ps:cH):ai×cH :=
 (A7 (en fs (l++[0,0]) ps).1 l.length ((en fs (l++[0,0]) ps).1.length - (l.length+2)),(en fs (l++[0,0]) ps).2)
def JT(g cap:Nat)(fs:List dH):dH:=⟨293,aU g 0 fs.length cap,342,A8 fs⟩
theorem afK(mb base g cap:Nat)(I:World->Prop)(fs:List dH)(hst:Du mb base I)(hI:∀w,I w->mZ mb w g fs)(bE:∀f∈fs,f.uj mb base I)(hn:fs.length<=cap)(hc:fs.length<=1000000) :
  Vp mb base I 342 (aU g 0 fs.length cap) (A8 fs):=by
 intro l ps w Vt hm bL kG hl hp;have Dy:=Dv fs bE (l++[0,0]) ps;rw[bU]at Dy;simp only[cU,fV]at Dy;simp only[A8,Oe]at hl hp;have bA:=ag hm;have Vu:=ag Vt;have HST:=ag hst;have fp:=ag hI;have ew:=ag bE;have rp:=ag kG;have hlt:=hm.lt;clear hm Vt hst hI bE kG;go_enter func342,ntmps342;go_wp2_with fail;have hnew:=World.alloc_heap_new w (.cells #[.iface 284 (.int .u16 0)] 297);refine(Gc mb base w.heap.size 1 [dA 0] l ps _ (bA.below (bj.alloc aB _)) aX ?_ ak ae (.inr ?_) ?_ ak ak ?_).mono ?_;{intro f hf;simp at hf;subst hf;exact kC _ ae};{intro cur h;rw[hnew]at h;simp at h};{
 intro j hj;match j,hj with
 | 0,_=>unfold World.cell?; rw[hnew];rfl
 | j+1,hj=>simp at hj};{simp[bY,dA];omega};rintro e w2 ⟨rfl,h1,h3⟩;have T2:Hid (bF mb base w w2):=(bF.mX (bj.alloc aB _)).trans h3;have jn:Hid (dB w2 mb base (l++[0,0]) ps):=h1;have sJ:Hid (∃vb vp,cG w mb vb vp/\AX vb=l.length):=by{obtain⟨vb,vp,q1,q2,_⟩:=af bA;exact⟨vb,vp,q1,afi q2⟩};clear h1 h3 hnew bA;obtain⟨Dj,xo,m2,o2,gB⟩:=af jn;obtain⟨g2,cap2,yR,rfl,hb2,Gj,hc2,_⟩:=N2 o2 ak;have c2:=m2.cells.1;have hs2:=T2.size;rw[bU]at c2;simp only[cU,fV]at c2;have bG:=ag (Od mb base g cap I fs (l++[0,0]) ps w2 (HST w w2 Vu T2) (af HST) (af jn) ae (af rp) (af ew) (fp _ (HST w w2 Vu T2)) hn hc hl hp);clear Gj hb2 m2 o2 gB hc2;go_wp2_with fail;refine bG.mono ?_;rintro e w3 ⟨rfl,h1,h3⟩;have T3:Hid (bF mb base w w3):=T2.trans h3;clear h3 bG c2;obtain⟨N9,Gi,m3,o3,fD⟩:=h1;obtain⟨st,Og⟩:=bP (en fs (l++[0,0]) ps);have Oh:Hid (A8 fs l ps=(A7 st.1 l.length (st.1.length - (l.length+2)),st.2)):=by rw[Hid,Og];rfl
 rw[<- Og]at Dy hl hp o3 fD;obtain⟨s1,s2⟩:=st;simp only at Dy hl hp o3 fD Oh;have hne:s1≠[]:=by intro h;subst h;simp at Dy
 obtain⟨g3,cap3,afL,rfl,hb3,Gk,hc3,cI⟩:=N2 o3 hne;have c3:=m3.cells.1;have ub:mb≠g3:=fun e=>by{rw[cG,e,Gk]at m3;simp at m3};have k0:w3.frozen? (ar g3 l.length)=false:=by simp[World.frozen?,Gk]
 have k1:∀u,(w3.setCell ⟨g3,l.length,none⟩ u).frozen? (ar g3 (l.length+1))=false:=fun u=>by{simp[World.frozen?,World.setCell,iq,Gk]};have hx0:∃u,w3.cell? (ar g3 l.length)=some (.int .u8 u):=⟨_,by{rw[Aj o3 l.length ae];rw[CL,mM ae];rfl}⟩;have hx1:∃u,w3.cell? (ar g3 (l.length+1))=some (.int .u8 u):=⟨_,by{rw[Aj o3 (l.length+1) ae];rw[CL,mM ae];rfl}⟩;obtain⟨u0,hx0⟩:=hx0;obtain⟨u1,hx1⟩:=hx1;obtain⟨L,hL⟩:∃L,s1.length=l.length+2+L:=⟨s1.length - (l.length+2),ae⟩;have Vv:s1.length - (l.length+2)=L:=ae;rw[Vv]at Oh;have mU:=ag Gk;have eV:=ag o3;have eN:=ag m3;have pd:=ag fD;have aqi:=ag hL;have hl0:l.length<s1.length:=ae;have dg:l.length+1<s1.length:=ae;rw[hL]at c3 hc3;clear Gk o3 m3 fD Og;have e1:(l.length:Int)+2+(L:Int) - ((l.length:Int)+2)=(L:Int):=ae;have Vw:l.length+L+2<=60000:=ae;clear Dy hl hp hL Vv hne jn;go_wp2_with fail;go_region;have eh:(L:Int)/256=((au L).toNat:Int):=by unfold au;rw[rQ];omega
 have el:(L:Int)%256=((eO L).toNat:Int):=by unfold eO;rw[rQ];omega
 rw[eh,el];have Vx:=U_ (U_ (af eV) l.length (au L) hl0) (l.length+1) (eO L) aX;have JU:∀k,k≠g3->((w3.setCell ⟨g3,l.length,none⟩ (.int .u8 (au L).toNat)).setCell ⟨g3,l.length+1,none⟩ (.int .u8 (eO L).toNat)).heap[k]? = w3.heap[k]?:=fun k hk=>(bf _ _ _ _ hk).trans (bf _ _ _ _ hk);have M4:=eN.kept (w':=((w3.setCell ⟨g3,l.length,none⟩ (.int .u8 (au L).toNat)).setCell ⟨g3,l.length+1,none⟩ (.int .u8 (eO L).toNat))) (JU mb ub);have P4:jC ((w3.setCell ⟨g3,l.length,none⟩ (.int .u8 (au L).toNat)).setCell ⟨g3,l.length+1,none⟩ (.int .u8 (eO L).toNat)) base Gi s2:=nO (af pd) fun k hk=>JU k fun e=>by{obtain⟨cur,bp⟩:=yN (af pd) hk;rw[e,af mU]at bp;simp at bp};have T4:bF mb base w ((w3.setCell ⟨g3,l.length,none⟩ (.int .u8 (au L).toNat)).setCell ⟨g3,l.length+1,none⟩ (.int .u8 (eO L).toNat)):=by{obtain⟨vb0,aqj,q1,q2⟩:=af sJ;exact(T3.Vb q1 (af eN) rfl (Nat.le_of_eq q2) hb3 (af mU) _).Vb q1 (eN.kept (bf _ _ _ _ ub)) rfl (by rw[q2];omega) hb3 (cur:=afL.setIfInBounds l.length (.int .u8 (au L).toNat)) (by simp only[World.setCell];rw[iq,aP rfl,af mU];rfl) _};have bg:Hid (dB ((w3.setCell ⟨g3,l.length,none⟩ (.int .u8 (au L).toNat)).setCell ⟨g3,l.length+1,none⟩ (.int .u8 (eO L).toNat)) mb base (A7 s1 l.length L) s2/\bF mb base w ((w3.setCell ⟨g3,l.length,none⟩ (.int .u8 (au L).toNat)).setCell ⟨g3,l.length+1,none⟩ (.int .u8 (eO L).toNat))):=⟨⟨_,_,M4,Vx,P4⟩,T4⟩;clear Vx M4 P4 T4 eh el JU;generalize ((w3.setCell ⟨g3,l.length,none⟩ (.int .u8 (au L).toNat)).setCell ⟨g3,l.length+1,none⟩ (.int .u8 (eO L).toNat))=w4 at *;go_wp2_with fail;refine fy (v:=.tuple #[]) (by simp[results,results342]) rfl ?_;refine⟨rfl,?_,bg.2.trans (bF.mX bj.drew)⟩;rw[af Oh];exact bg.1.below bj.drew
theorem Vy(mb base g cap:Nat)(I:World->Prop)(fs:List dH)(hst:Du mb base I)(hI:∀w,I w->mZ mb w g fs)(bE:∀f∈fs,f.uj mb base I)(hn:fs.length<=cap)(hc:fs.length<=1000000):(JT g cap fs).uj mb base I where
 meth:=afj _ _ _
 call:=afk
 wr:=afK mb base g cap I fs hst hI bE hn hc
 JQ:=fun l ps=>by
  have h:=Dv fs bE (l++[0,0]) ps;rw[bU]at h;refine⟨?_,h.2⟩;show l.length<=(A7 _ _ _).length;rw[Oe];have:=h.1;simp at this;omega
end Go.Proofs.YtkkpahmoljiepaaGreatDoor
