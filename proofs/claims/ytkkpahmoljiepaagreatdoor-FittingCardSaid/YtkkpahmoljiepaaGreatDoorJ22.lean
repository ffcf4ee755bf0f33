/- Contract: wire's putQuestion: the question as it came, and where the ends of its name stand. -/
import Derived.Test.YtkkpahmoljiepaaGreatDoorJ18
import Derived.Test.YtkkpahmoljiepaaGreatDoorJ11
import Derived.Test.YtkkpahmoljiepaaGreatDoorJ16
set_option linter.unusedSimpArgs false
set_option linter.unusedVariables false
set_option maxRecDepth 1000000
set_option maxHeartbeats 12800000
namespace Go.Proofs.YtkkpahmoljiepaaGreatDoor
open Go.RowKit
open Pu (Str aH aU)
attribute [local go_sem] Oper.semAt_some undef
def plcs (s:Nat) (n:Str):List (Str×Nat):=(ends n).map fun e=>(e,s+n.length - e.length)
namespace Wy
open Ka Kd Rg Ia Iow Ie Zb Zc Za La Wa Wb Wc Wd We Wf Wg Wh Wi Wj Wk Wl Wm Wn Wo Wp Ws Re
theorem plcs_take (s:Nat) (n:Str) {i:Nat} {x:Str} (h:(ends n)[i]? = some x):(plcs s n).take (i+1)=(plcs s n).take i++[(x,s+n.length - x.length)]:=by
 have:(plcs s n)[i]? = some (x,s+n.length - x.length):=by simp [plcs,h]
 obtain ⟨hi,e⟩:=List.getElem?_eq_some_iff.1 this
 rw [List.take_succ_eq_append_getElem hi,e]
theorem ends_few : ∀ (f:Nat) (n:Str),n.length≤f→(ends n).length≤n.length
 | 0,n,h=>by
  obtain rfl:n = []:=List.eq_nil_of_length_eq_zero (by omega)
  simp [ends_nil]
 | f+1,n,h=>by
  by_cases hn:n = []
  ·subst hn; simp [ends_nil]
  ·have h1:=after_len n hn
   rw [ends_cons n hn,List.length_cons]
   have:=ends_few f (after n) (by omega)
   omega
theorem own_neP {W:World} {base i:Nat} {v:Value} {ps:List (Str×Nat)} (h:OwnP W base v ps) (hi : ∀ cur,W.heap[i]?≠some (.cells cur 343 (0,0))):some i≠v.ownBlock:=fun e=>by
 obtain ⟨_,⟨rfl,_⟩ | ⟨g,cap,cur,rfl,_,hcur,_⟩⟩:=h
 ·simp [Value.ownBlock] at e
 ·simp only [Value.ownBlock,Option.some.injEq] at e
  subst e
  exact hi cur hcur
theorem own_kindP {W:World} {base g:Nat} {v:Value} {ps:List (Str×Nat)} (h:OwnP W base v ps) (hg:v.ownBlock=some g) : ∃ cur,W.heap[g]? = some (.cells cur 343 (0,0)):=by
 obtain ⟨_,⟨rfl,_⟩ | ⟨g',cap,cur,rfl,_,hcur,_⟩⟩:=h
 ·simp [Value.ownBlock] at hg
 ·simp only [Value.ownBlock,Option.some.injEq] at hg
  subst hg
  exact ⟨cur,hcur⟩
def QB (W:World) (b:Nat) (h0 h1 h2 h3 h4 h5:Int) (q n:Str) (k c:Int) (op:Bool) (sz ver:Int):Prop:=W.heap[b]? = some (.cells #[.int .i64 h0,.int .i64 h1,.int .i64 h2,.int .i64 h3,.int .i64 h4,.int .i64 h5,.string (B q),.string (B n),.int .i64 k,.int .i64 c,.bool op,.int .i64 sz,.int .i64 ver] 137)
theorem QB.cells {W:World} {b:Nat} {h0 h1 h2 h3 h4 h5:Int} {q n:Str} {k c:Int} {op:Bool} {sz ver:Int} (h:QB W b h0 h1 h2 h3 h4 h5 q n k c op sz ver):W.cell? ⟨b,6,none⟩=some (.string (B q))∧W.cell? ⟨b,7,none⟩=some (.string (B n)):=by
 unfold QB at h
 constructor <;> simp [World.cell?,h]
theorem QB.lt {W:World} {b:Nat} {h0 h1 h2 h3 h4 h5:Int} {q n:Str} {k c:Int} {op:Bool} {sz ver:Int} (h:QB W b h0 h1 h2 h3 h4 h5 q n k c op sz ver):b<W.heap.size:=(Array.getElem?_eq_some_iff.1 h).1
theorem putQuestion_g (mb base:Nat) (h0 h1 h2 h3 h4 h5:Int) (q n:Str) (k c:Int) (op:Bool) (sz ver:Int) (vb:Value) (l:Str) (w:World) (hm:MsgAt w mb vb (.slice none 0 0)) (ho:OwnB w base vb l) (hg:G w) (hbs:base≤w.heap.size) (hb0:0<base) (hm0:base≤mb) (hn:n.length≤900) (hl:l.length+q.length≤10000) :
  Calls Tryz.prog 135 #[.pointer (some ⟨mb,0,none⟩),qVal h0 h1 h2 h3 h4 h5 q n k c op sz ver] w fun e w' =>
   e=.returned (.tuple #[])∧(∃ vb' vp',MsgAt w' mb vb' vp'∧OwnB w' base vb' (l++q)∧OwnP w' base vp' (plcs l.length n))∧Below base w w':=by
 unfold qVal
 refine (callsIn_wide (n:=0)).1 ?_
 refine callsIn_of_wp_marks Tryz.func135 rfl trivial ?_
 simp only [Tryz.ntmps135,List.size_toArray,List.length_cons,List.length_nil,Nat.reduceAdd,Nat.reduceSub,Array.replicate_succ,Array.replicate_zero,List.push_toArray,List.append_toArray,List.nil_append,List.cons_append]
 have HM:=aH hm
 have HO:=aH ho
 have HG:=aH hg
 have hlt:=hm.lt
 have hg0:=hg.1
 have hmx:Tryz.prog.follows .mixedOrders=true:=by kernel_rfl
 have hvb:Hid (∀ g,vb.ownBlock=some g→g<w.heap.size):=fun g hg=>(World.ownsRow.lt ho g hg).2
 have hef:=ends_few _ n (Nat.le_refl _)
 clear hm ho hg
 gi_wp2_with fail
 refine ⟨trivial,rfl,?_⟩
 refine (callsIn_wide.2 (ends_o _ _)).mono ?_
 rintro e W2 ⟨rfl,e4,hb2,e2⟩
 have e0:It.Box W2 w.heap.size (.pointer (some ⟨mb,0,none⟩)) 216:=((It.Box.new _ _ _).alloc _).below hb2 (by simp <;> omega)
 have e1:QB W2 (w.heap.size+1) h0 h1 h2 h3 h4 h5 q n k c op sz ver:=by
  refine (hb2.block _ (by simp)).trans ?_
  have:=World.alloc_heap_new (w.alloc (.cells #[.pointer (some ⟨mb,0,none⟩)] 216)) (.cells #[.int .i64 h0,.int .i64 h1,.int .i64 h2,.int .i64 h3,.int .i64 h4,.int .i64 h5,.string (B q),.string (B n),.int .i64 k,.int .i64 c,.bool op,.int .i64 sz,.int .i64 ver] 137)
  simpa using this
 have e5:Below w.heap.size w W2:=(((Below.refl _ _).alloc (Nat.le_refl _) _).alloc (by simp) _).trans (hb2.mono (by simp <;> omega))
 simp only [World.size_alloc] at e4 e2
 have HM2:=aH ((aU HM).kept (e5.block mb hlt))
 have HO2:Hid (OwnB W2 base vb l):=own_below (aU HO) e5
 have HG2:=aH ((aU HG).below e5)
 gi_wp2_with fail
 have hgrow : ∀ r,Below W2.heap.size W2 ((W2.alloc (.deferred (some []))).alloc (.loop r)):=fun r=>((Below.refl _ _).alloc (Nat.le_refl _) _).alloc (by simp) _
 have hB2:Below base w W2:=e5.mono hbs
 have hlen0:l.length≤10000:=by omega
 refine It.rangeE (xs:=ends n) (encs:=fun e:Str=>#[.string (B e)]) (St:=fun A B=>Below A.heap.size A B) (Kp:=fun A B=>A.heap.size≤B.heap.size∧B.heap[0]? = A.heap[0]?) (Kx:=fun _ _=>True)
  (gf:=241) (lb:=#[.pointer (some ⟨w.heap.size+1+1,0,none⟩)]) rfl (enters_of Tryz.func241 (by kernel_rfl) rfl) (fun _=>rfl) ?seq
  [0] (by simp; omega) (fun A B h=>h) (fun A B h h'=>⟨h',h _ (by simp)⟩) (fun _ _=>trivial)
  (fun i W=>Below base w W∧OwnB W base vb l∧It.Box W w.heap.size (.pointer (some ⟨mb,0,none⟩)) 216∧QB W (w.heap.size+1) h0 h1 h2 h3 h4 h5 q n k c op sz ver∧∃ vp',MsgAt W mb vb vp'∧OwnP W base vp' ((plcs l.length n).take i)∧∀ g,vp'.ownBlock=some g→g≠W2.heap.size+1)
  (fun _ _=>False)
  (fun i A B h hA hk=>⟨h.1.trans (hk.below (by omega) (by omega)),own_kept h.2.1 (fun g hg=>hk.block g (World.ownsRow.lt h.2.1 g hg).2 (by have:=aU hvb g hg; omega)),It.Box.kept h.2.2.1 (hk.block _ (It.Box.lt h.2.2.1) (by omega)),(hk.block _ h.2.2.2.1.lt (by omega)).trans h.2.2.2.1,by
   obtain ⟨vp',p1,p2,p3⟩:=h.2.2.2.2
   exact ⟨vp',p1.kept (hk.block mb p1.lt (by omega)),own_kept p2 (fun g hg=>hk.block g (World.ownsRow.lt p2 g hg).2 (p3 g hg)),p3⟩⟩)
  (fun c A B h hA hk=>h)
  ⟨hB2,aU HO2,e0,e1,.slice none 0 0,aU HM2,World.ownsRow_nil _ _ _ _,fun g hg=>by simp [Value.ownBlock] at hg⟩
  ?round ?done ?stop
 case seq =>
  intro r
  have hg:=hgrow r
  exact ends_seq _ n _ ((hg.cell (p:=⟨w.heap.size+1+1,0,none⟩) (by show w.heap.size+1+1<W2.heap.size; omega)).trans e2) ((aU HG2).below hg) (by omega)
 case round =>
  intro l' i x V0 W hx hI hsz hd1 hd2
  obtain ⟨hBW,hoW,hxW,hqW,vp,hmW,hpW,hpn⟩:=hI
  have hxl:=ends_mem_len (List.mem_of_getElem? hx)
  have hil:i<(ends n).length:=(List.getElem?_eq_some_iff.1 hx).1
  obtain ⟨ab,nb,cb,rfl⟩:=own_slice hoW
  have hnb:nb=l.length:=by
   obtain ⟨_,⟨e,hz⟩ | ⟨g',cap',cur',e,_⟩⟩:=hoW
   ·cases e; omega
   ·cases e; rfl
  subst hnb
  obtain ⟨c0,c1⟩:=hmW.cells
  have cx:=hxW.cell
  obtain ⟨cq,cn⟩:=hqW.cells
  have hxs:(B x).size=x.length:=size_B x
  have hns:(B n).size=n.length:=size_B n
  have hgM:0<mb:=by omega
  have hd:Below W.heap.size W W.drew:=(Below.refl _ _).drew
  have HLE:=aH (learn_w0 mb base x (l.length+n.length - x.length) _ vp _ W.drew (hmW.kept rfl) (own_below hpW hd) (by show base≤W.heap.size; have:=hBW.size; omega) (by simp [plcs]; omega) (by omega))
  have heq:((l.length+n.length - x.length:Nat):Int)=(l.length:Int)+(n.length:Int) - (x.length:Int):=by omega
  have HAFT:Hid (∀ W4,(∃ vp',MsgAt W4 mb (.slice ab l.length cb) vp'∧OwnP W4 base vp' ((plcs l.length n).take i++[(x,l.length+n.length - x.length)])∧(vp'.ownBlock=vp.ownBlock∨∃ g,vp'.ownBlock=some g∧W.drew.heap.size≤g)∧Fr (fun i=>i≠mb∧some i≠vp.ownBlock) W.drew W4) →
    It.Loops W2.heap.size W W4∧(∀ k∈[0],W4.heap[k]? = W.heap[k]?)∧Below base w W4∧OwnB W4 base (.slice ab l.length cb) l∧It.Box W4 w.heap.size (.pointer (some ⟨mb,0,none⟩)) 216∧QB W4 (w.heap.size+1) h0 h1 h2 h3 h4 h5 q n k c op sz ver∧∃ vp',MsgAt W4 mb (.slice ab l.length cb) vp'∧OwnP W4 base vp' ((plcs l.length n).take (i+1))∧∀ g,vp'.ownBlock=some g→g≠W2.heap.size+1):=by
   rintro W4 ⟨vp',p1,p2,p3,p4⟩
   have hk : ∀ j,j<W.heap.size→j≠mb→(∀ cur,W.heap[j]?≠some (.cells cur 343 (0,0)))→W4.heap[j]? = W.heap[j]?:=fun j hj hjm hjc=>p4.block j hj ⟨hjm,own_neP hpW hjc⟩
   have hlow : ∀ j,j<base→W4.heap[j]? = W.heap[j]?:=fun j hj=>p4.block j (by show j<W.heap.size; have:=hBW.size; omega) ⟨by omega,fun e=>by
    have:=(World.ownsRow.lt hpW j e.symm).1; omega⟩
   have hs4:W.heap.size≤W4.heap.size:=p4.size
   refine ⟨⟨hs4,hk _ (by omega) (by omega) (fun cur hc=>by rw [hd1] at hc; cases hc),hk _ (by omega) (by omega) (fun cur hc=>by obtain ⟨r,hr⟩:=hd2; rw [hr] at hc; cases hc)⟩,fun j hj=>?_,?_,?_,?_,?_,vp',p1,?_,?_⟩
   ·obtain rfl:j=0:=by simpa using hj
    exact hlow 0 (by omega)
   ·exact hBW.trans ⟨p4.os,p4.tape,p4.output,hs4,fun j hj=>hlow j (by omega)⟩
   ·refine own_kept hoW fun g hg=>?_
    obtain ⟨cur,hcur⟩:=own_kindB hoW hg
    exact hk g (World.ownsRow.lt hoW g hg).2 (fun e=>by subst e; rw [hmW] at hcur; simp at hcur) (fun c hc=>by rw [hcur] at hc; simp at hc)
   ·exact hxW.kept (hk _ hxW.lt (by omega) (fun c hc=>by rw [hxW] at hc; simp at hc))
   ·exact (hk _ hqW.lt (by omega) (fun c hc=>by rw [hqW] at hc; simp at hc)).trans hqW
   ·rw [plcs_take _ _ hx]; exact p2
   ·intro g hg
    rcases p3 with h | ⟨g',h,hge⟩
    ·exact hpn g (by rw [← h]; exact hg)
    ·rw [hg] at h; cases h
     have:W.heap.size≤g:=hge
     omega
  rw [heq] at HLE
  have y1:IntKind.i64.wrap ((l.length:Int)+(n.length:Int))=(l.length:Int)+(n.length:Int):=by rw [IntKind.wrap_i64]; first | omega | (unfold wrap64; omega)
  have y2:IntKind.i64.wrap ((l.length:Int)+(n.length:Int) - (x.length:Int))=(l.length:Int)+(n.length:Int) - (x.length:Int):=by rw [IntKind.wrap_i64]; first | omega | (unfold wrap64; omega)
  have HC:=aH (And.intro hmW (And.intro hpW (And.intro hoW (And.intro hxW hqW))))
  clear hmW hpW hoW hxW hqW hpn hBW hd1 hd2 hx heq
  gi_wp2_with fail
  refine ⟨trivial,?_⟩
  gi_wp2_with fail
  refine Ih.region_held (fun W=>W.cell? ⟨w.heap.size,0,none⟩=some (.pointer (some ⟨mb,0,none⟩))∧W.cell? ⟨w.heap.size+1,7,none⟩=some (.string (B n))∧W.cell? ⟨mb,0,none⟩=some (.slice ab l.length cb)) hmx (Ir.noDefer_spec (by kernel_rfl)) ⟨cx,cn,c0⟩ fun hS=>?_
  refine wpAnyH_take (i:=0) (v:=?_) rfl (by kernel_rfl) (by kernel_rfl) (by kernel_rfl) (fun _ _ _ h=>(Ih.Only.no h (by simp)).elim) (Or.inl ⟨by rfl,by intro w hw; go_simp; first | done | with_reducible rfl⟩) hS ?_
  refine wpAnyH_take (i:=1) (v:=?_) rfl (by kernel_rfl) (by kernel_rfl) (by kernel_rfl) (fun _ _ _ h=>(Ih.Only.no h (by simp)).elim) (Or.inl ⟨by rfl,by intro w hw; go_simp; first | done | with_reducible rfl⟩) hS ?_
  refine wpAnyH_take (i:=2) (v:=?_) rfl (by kernel_rfl) (by kernel_rfl) (by kernel_rfl) (fun _ _ _ h=>(Ih.Only.no h (by simp)).elim) (Or.inl ⟨by rfl,by intro w hw; go_simp; first | done | with_reducible rfl⟩) hS ?_
  refine wpAnyH_take (i:=3) (v:=?_) rfl (by kernel_rfl) (by kernel_rfl) (by kernel_rfl) (fun _ _ _ h=>(Ih.Only.no h (by simp)).elim) (Or.inl ⟨by rfl,by intro w hw; go_simp; first | done | with_reducible rfl⟩) hS ?_
  refine wpAnyH_take (i:=4) (v:=?_) rfl (by kernel_rfl) (by kernel_rfl) (by kernel_rfl) (fun _ _ _ h=>(Ih.Only.no h (by simp)).elim) (Or.inl ⟨by rfl,by intro w hw; go_simp; first | done | with_reducible rfl⟩) hS ?_
  refine wpAnyH_take (i:=5) (v:=?_) rfl (by kernel_rfl) (by kernel_rfl) (by kernel_rfl) (fun _ _ _ h=>(Ih.Only.no h (by simp)).elim) (Or.inl ⟨by rfl,by intro w hw; go_simp; first | done | with_reducible rfl⟩) hS ?_
  refine wpAnyH_take (i:=6) (v:=?_) rfl (by kernel_rfl) (by kernel_rfl) (by kernel_rfl) (fun _ _ _ h=>(Ih.Only.no h (by simp)).elim) (Or.inl ⟨by rfl,by intro w hw; go_simp; first | done | with_reducible rfl⟩) hS ?_
  refine wpAnyH_take (i:=7) (v:=?_) rfl (by kernel_rfl) (by kernel_rfl) (by kernel_rfl) (fun _ _ _ h=>(Ih.Only.no h (by simp)).elim) (Or.inl ⟨by rfl,by intro w hw; go_simp; first | done | with_reducible rfl⟩) hS ?_
  refine wpAnyH_take (i:=8) (v:=?_) rfl (by kernel_rfl) (by kernel_rfl) (by kernel_rfl) (fun _ _ _ h=>(Ih.Only.no h (by simp)).elim) (Or.inl ⟨by rfl,by intro w hw; go_simp; first | done | with_reducible rfl⟩) hS ?_
  refine wpAnyH_take (i:=9) (v:=?_) rfl (by kernel_rfl) (by kernel_rfl) (by kernel_rfl) (fun _ _ _ h=>(Ih.Only.no h (by simp)).elim) (Or.inl ⟨by rfl,by intro w hw; go_simp; first | done | with_reducible rfl⟩) hS ?_
  refine wpAnyH_take (i:=10) (v:=?_) rfl (by kernel_rfl) (by kernel_rfl) (by kernel_rfl) (fun _ _ _ h=>(Ih.Only.no h (by simp)).elim) (Or.inl ⟨by rfl,by intro w hw; go_simp; first | done | with_reducible rfl⟩) hS ?_
  refine wpAnyH_take (i:=11) (v:=?_) rfl (by kernel_rfl) (by kernel_rfl) (by kernel_rfl) (fun _ _ _ h=>(Ih.Only.no h (by simp)).elim) (Or.inl ⟨by rfl,by intro w hw; go_simp; first | done | with_reducible rfl⟩) hS ?_
  refine wpAnyH_take (i:=12) (v:=?_) rfl (by kernel_rfl) (by kernel_rfl) (by kernel_rfl) (fun _ _ _ h=>(Ih.Only.no h (by simp)).elim) (Or.inl ⟨by rfl,by intro w hw; go_simp; first | done | with_reducible rfl⟩) hS ?_
  refine wpAnyH_take (i:=13) (v:=?_) rfl (by kernel_rfl) (by kernel_rfl) (by kernel_rfl) (fun _ _ _ h=>(Ih.Only.no h (by simp)).elim) (Or.inl ⟨by rfl,by intro w hw; go_simp; first | done | with_reducible rfl⟩) hS ?_
  refine wpAnyH_ready (rs:=[14]) (by kernel_rfl) (by simp) (AllReadyH.cons rfl (fun K hK=>?_) AllReadyH.nil)
  go_simp
  refine (aU HLE).mono ?_
  rintro e W4 ⟨rfl,hpost⟩
  have HE:=aH (aU HAFT W4 hpost)
  clear hpost
  obtain ⟨_,_,_,_,hx4,hq4,vp4,hm4,_⟩:=aU HE
  refine hK.out _ _ ⟨hx4.cell,hq4.cells.2,hm4.cells.1⟩ (fun hS=>?_)
  clear hK K hx4 hq4 hm4
  refine wpAnyH_done (by kernel_rfl) ?_ _
  refine ⟨rfl,?_⟩
  gi_wp2_with fail
  exact ⟨(aU HE).1,(aU HE).2.1,(aU HE).2.2⟩
 case done =>
  intro W hI hdef hsz
  obtain ⟨hBW,hoW,hxW,hqW,vp,hmW,hpW,hpn⟩:=hI
  rw [show (ends n).length=(plcs l.length n).length by simp [plcs],List.take_length] at hpW
  have cx:=hxW.cell
  have cq:=hqW.cells.1
  have hmlt:=hmW.lt
  have hbs2:=hBW.size
  have hnew:=World.alloc_heap_new W (.cells #[.iface 224 (.string (B q))] 297)
  have HPUT:=aH (put_any mb base W.heap.size 1 [fRaw q] vb vp l (W.alloc (.cells #[.iface 224 (.string (B q))] 297)) ((Below.heap_alloc _ _ _ hmlt).trans hmW) (hoW.alloc _) (by simp; omega)
   (fun f hf=>by simp at hf; subst hf; exact raw_ok _) (by simp) (by omega) (.inr fun cur h=>by rw [hnew] at h; simp at h)
   (fun j hj=>by
    match j,hj with
    | 0,_=>unfold World.cell?; rw [hnew]; rfl
    | j+1,hj=>simp at hj) (by simp) (by simp) (by simp [outs,fRaw]; omega))
  have HC:=aH (And.intro hBW (And.intro hmW (And.intro hpW hdef)))
  have hmW2:W2.heap.size≠mb:=by omega
  have E4:=aH e4
  clear hmW hpW hoW hxW hqW hpn hBW hdef hnew e4
  gi_wp2_with fail
  refine ⟨trivial,rfl,?_⟩
  refine (callsIn_wide.2 (aU HPUT)).mono ?_
  rintro e W4 ⟨rfl,⟨vb4,h1,h2⟩,h3⟩
  have T4:Hid (TF mb base W W4):=(TF.of_below ((Below.refl _ _).alloc (Nat.le_refl _) _)).trans h3
  have H12:Hid (MsgAt W4 mb vb4 vp∧OwnB W4 base vb4 (l++q)):=⟨h1,by simpa [outs,fRaw] using h2⟩
  clear h1 h2 h3 HPUT
  obtain ⟨hBW,hmW,hpW,hdef⟩:=aU HC
  have hdef4:W4.heap[W2.heap.size]? = some (.deferred (some [])):=((aU T4).block _ (by omega) hmW2 (.inr fun c hc=>by rw [hdef] at hc; cases hc)).trans hdef
  have HD4:=aH hdef4
  clear hBW hmW hpW hdef hdef4
  gi_wp2_with fail
  refine ⟨by simp,.inl ⟨_,_,rfl,run_takeDeferred (aU HD4),?_⟩⟩
  have e4:=aU E4
  obtain ⟨hBW,hmW,hpW,hdef⟩:=aU HC
  obtain ⟨h1,h2⟩:=aU H12
  have hkp:=It.Keeps.put (d:=W2.heap.size) W4 W2.heap.size (.deferred none)
  have hpk : ∀ g,vp.ownBlock=some g→W4.heap[g]? = W.heap[g]?∧g≠W2.heap.size:=fun g hg=>by
   obtain ⟨cur,hcur⟩:=own_kindP hpW hg
   refine ⟨(aU T4).block g (World.ownsRow.lt hpW g hg).2 (fun e=>?_) (.inr fun c hc=>?_),fun e=>?_⟩
   ·rw [e,hmW] at hcur; simp at hcur
   ·rw [hcur] at hc; simp at hc
   ·rw [e,hdef] at hcur; cases hcur
  have hp4:OwnP W4 base vp (plcs l.length n):=own_kept hpW fun g hg=>(hpk g hg).1
  have hB4:Below base w W4:=hBW.trans ⟨(aU T4).os,(aU T4).tape,(aU T4).output,(aU T4).size,fun k hk=>(aU T4).block k (by omega) (by omega) (.inl hk)⟩
  exact ⟨.tuple #[],by simp [results,Tryz.results135],rfl,⟨vb4,vp,h1.kept (hkp.block mb h1.lt (by omega)),own_kept h2 fun g hg=>hkp.block g (World.ownsRow.lt h2 g hg).2 (fun e=>by
   obtain ⟨cur,hcur⟩:=own_kindB h2 hg
   rw [e,aU HD4] at hcur
   cases hcur),own_kept hp4 fun g hg=>hkp.block g (World.ownsRow.lt hp4 g hg).2 (hpk g hg).2⟩,hB4.trans (hkp.below (by omega) (by have:=hB4.size; omega))⟩
 case stop =>
  intro c W hI hdef hsz
  exact hI.elim
end Wy
end Go.Proofs.YtkkpahmoljiepaaGreatDoor

namespace Go.Proofs.YtkkpahmoljiepaaGreatDoor
open Go.RowKit
open Pu (Str aH aU)
namespace Lk
open Ka Kd Rf Rg Ia Iow Ie Zb Zc Za La Lb Re Lc Le Lf Lg Lh Li Ld Lj
end Lk
namespace Wx
open Ka Kd Rf Rg Ia Iow Ie Zb Zc Za La Lb Re Lc Le Lf Lg Lh Li Ld Lj Wg Wh
theorem qanswer_plain (zb b off cap:Nat) (k:Int) (o n q:Str) (h0 h1 h2 h3 h4 h5:Int) (rs:List Rec) (w:World) (hz:aN w zb o b off cap rs) (hg:G w) (hp:Plain o n rs k) (hk1:(k != 0)=true) (hk2:(k != 41)=true) (hk3:k<249) :
  Calls Tryz.prog 74 #[qVal h0 h1 h2 h3 h4 h5 q n k 1 false 0 0,.pointer (some ⟨zb,0,none⟩)] w fun e w' =>
   (∃ va vb,e=.returned (.agg #[.int .i64 (stepRc o rs n),.bool (decide ((cutP o rs n).length=0)),va,vb,.slice none 0 0])∧OwnR w' w.heap.size va (aQ o rs k n)∧OwnR w' w.heap.size vb (aP o rs k n))∧Below w.heap.size w w':=by
 have HA:=aH (fun W (hb:Below w.heap.size w W)=>answer_plain zb b off cap k o n rs W (hz.below hb) (hg.below hb) hp)
 have HK:Hid (∀ W:World,Calls Tryz.prog 140 #[.int .i64 k] W fun e w'=>e=.returned (.bool true)∧w'=W):=fun W=>isAskable_yes k W hk1 hk2 hk3
 have hb1:Below w.heap.size w ((w.alloc (.cells #[.int .i64 h0,.int .i64 h1,.int .i64 h2,.int .i64 h3,.int .i64 h4,.int .i64 h5,.string (B q),.string (B n),.int .i64 k,.int .i64 1,.bool false,.int .i64 0,.int .i64 0] 137)).alloc (.cells #[.int .i64 0,.bool false,.slice none 0 0,.slice none 0 0,.slice none 0 0] 43)):=((Below.refl _ _).alloc (Nat.le_refl _) _).alloc (by simp) _
 have HB1:=aH hb1
 clear hz hg hp hk1 hk2 hk3 hb1
 unfold qVal
 go_enter Tryz.func74,Tryz.ntmps74
 go_wp2_with fail
 refine (aU HK _).mono ?_
 rintro e w1 ⟨rfl,hw1⟩
 have hB1:Below w.heap.size w w1:=by rw [hw1]; exact aU HB1
 have r1:aL w1 (w.heap.size+1) (.int .i64 0) (.bool false) (.slice none 0 0) (.slice none 0 0) (.slice none 0 0):=by
  rw [hw1]
  have:=World.alloc_heap_new (w.alloc (.cells #[.int .i64 h0,.int .i64 h1,.int .i64 h2,.int .i64 h3,.int .i64 h4,.int .i64 h5,.string (B q),.string (B n),.int .i64 k,.int .i64 1,.bool false,.int .i64 0,.int .i64 0] 137)) (.cells #[.int .i64 0,.bool false,.slice none 0 0,.slice none 0 0,.slice none 0 0] 43)
  simpa [aL] using this
 have hq:w1.cell? ⟨w.heap.size,7,none⟩=some (.string (B n))∧w1.cell? ⟨w.heap.size,8,none⟩=some (.int .i64 k):=by
  rw [hw1]; constructor <;> go_simp
 obtain ⟨q7,q8⟩:=hq
 have rl:=(Array.getElem?_eq_some_iff.1 r1).1
 clear hw1 HK HB1
 go_wp2_with fail
 refine (aU HA w1 hB1).mono ?_
 rintro e w7 ⟨⟨va,vb,rfl,hva,hvb⟩,hb7⟩
 have r7:aL w7 (w.heap.size+1) (.int .i64 0) (.bool false) (.slice none 0 0) (.slice none 0 0) (.slice none 0 0):=(hb7.block (w.heap.size+1) rl).trans r1
 obtain ⟨aa,ca,rfl⟩:=hva.slice
 obtain ⟨ab,cb',rfl⟩:=hvb.slice
 obtain ⟨k0,k1,k2,k3,k4⟩:=aL.cells r7
 have kf0:=aL.frozen r7 0
 have kf1:=aL.frozen r7 1
 have kf2:=aL.frozen r7 2
 have kf3:=aL.frozen r7 3
 have kf4:=aL.frozen r7 4
 have hRV:=aH (And.intro hva hvb)
 have R7:=aH r7
 clear hva hvb r1 r7
 obtain ⟨au,hau⟩ : ∃ au:Bool,au=decide ((cutP o rs n).length=0):=⟨_,rfl⟩
 rw [← hau]
 have HAU:=aH hau
 clear hau
 go_wp2_with fail
 have A9:=(((((aU R7).set0 (.int .i64 (stepRc o rs n))).set1 (.bool au)).set2 (.slice aa (aQ o rs k n).length ca)).set3 (.slice ab (aP o rs k n).length cb')).set4 (.slice none 0 0)
 obtain ⟨n0,n1,n2,n3,n4⟩:=A9.cells
 have hB7:=hB1.trans (hb7.mono hB1.size)
 have hs2:=hB1.size
 have hrvs:=aU hRV
 refine bodyPost_ret (v:=.agg #[.int .i64 (stepRc o rs n),.bool au,.slice aa (aQ o rs k n).length ca,.slice ab (aP o rs k n).length cb',.slice none 0 0]) ?_ rfl ?_
 ·simp [results,Tryz.results74,go_sem,n0,n1,n2,n3,n4]
 ·refine ⟨⟨_,_,by rw [aU HAU],?_,?_⟩,?_⟩
  ·exact (((((hrvs.1.set_low (k:=w.heap.size+1) (i:=0) (by omega) _).set_low (k:=w.heap.size+1) (i:=1) (by omega) _).set_low (k:=w.heap.size+1) (i:=2) (by omega) _).set_low (k:=w.heap.size+1) (i:=3) (by omega) _).set_low (k:=w.heap.size+1) (i:=4) (by omega) _).base (by omega)
  ·exact (((((hrvs.2.set_low (k:=w.heap.size+1) (i:=0) (by omega) _).set_low (k:=w.heap.size+1) (i:=1) (by omega) _).set_low (k:=w.heap.size+1) (i:=2) (by omega) _).set_low (k:=w.heap.size+1) (i:=3) (by omega) _).set_low (k:=w.heap.size+1) (i:=4) (by omega) _).base (by omega)
  ·exact ((((hB7.setCell (p:=⟨w.heap.size+1,0,none⟩) (by show w.heap.size≤w.heap.size+1; omega) _).setCell (p:=⟨w.heap.size+1,1,none⟩) (by show w.heap.size≤w.heap.size+1; omega) _).setCell (p:=⟨w.heap.size+1,2,none⟩) (by show w.heap.size≤w.heap.size+1; omega) _).setCell (p:=⟨w.heap.size+1,3,none⟩) (by show w.heap.size≤w.heap.size+1; omega) _).setCell (p:=⟨w.heap.size+1,4,none⟩) (by show w.heap.size≤w.heap.size+1; omega) _
end Wx
end Go.Proofs.YtkkpahmoljiepaaGreatDoor
