/- Contract: (query).answer of a plain search, with an OPT. -/
import Derived.Test.YtkkpahmoljiepaaGreatDoorJ11
import Derived.Test.YtkkpahmoljiepaaGreatDoorJ28
import Derived.Test.YtkkpahmoljiepaaGreatDoorJ32
import Derived.Test.YtkkpahmoljiepaaGreatDoorJ26
set_option linter.unusedSimpArgs false
set_option linter.unusedVariables false
namespace Go.Proofs.YtkkpahmoljiepaaGreatDoor
open Go.RowKit
open Pu (Str aH aU)
namespace Ml
open Ka Kd Rf Rg Ia Iow Ie Zb Zc Za La Lb Re Lc Le Lf Lg Lh Li Ld Lj Wg Wh Wx
end Ml
namespace Mf
open Ka Kd Rf Rg Ia Iow Ie Zb Zc Za La Lb Lg Wa Wb Wc Wd We Wf Wg Wh Wi Wj Wk Wl Wm Wn Wo Wp Wq Ws Wt Wu Ma Mb Mc Md Me Re
theorem msgN_below {w w':World} {mb base d:Nat} {l:Str} {ps:Pl} (h:MsgN w mb base d l ps) (hb:Below w.heap.size w w'):MsgN w' mb base d l ps:=by
 obtain ⟨vb,vp,h1,h2,h3,h4,h5⟩:=h
 exact ⟨vb,vp,h1.kept (hb.block mb h1.lt),own_below h2 hb,own_below h3 hb,h4,h5⟩
theorem msg_self {w:World} {mb base:Nat} {l:Str} {ps:Pl} (h:Msg w mb base l ps):MsgN w mb base mb l ps:=by
 have h0:=h
 obtain ⟨vb,vp,h1,_⟩:=h0
 exact h.away ⟨fun cur hc=>by rw [h1] at hc; simp at hc,fun cur hc=>by rw [h1] at hc; simp at hc⟩
theorem msgN_but {w w':World} {mb base d x:Nat} {l:Str} {ps:Pl} (h:MsgN w mb base d l ps) (hx:(∀ cur,w.heap[x]?≠some (.cells cur 5 (0,0)))∧∀ cur,w.heap[x]?≠some (.cells cur 343 (0,0))) (hm:mb≠x) (hk : ∀ k,k≠x→w'.heap[k]? = w.heap[k]?):MsgN w' mb base d l ps:=by
 obtain ⟨vb,vp,h1,h2,h3,h4,h5⟩:=h
 refine ⟨vb,vp,h1.kept (hk mb hm),own_kept h2 fun g hg=>hk g fun e=>?_,own_kept h3 fun g hg=>hk g fun e=>?_,h4,h5⟩
 ·obtain ⟨cur,hcur⟩:=own_kindB h2 hg
  rw [e] at hcur; exact hx.1 cur hcur
 ·obtain ⟨cur,hcur⟩:=own_kindP h3 hg
  rw [e] at hcur; exact hx.2 cur hcur
theorem box_tg {mb base k:Nat} {W W':World} {v:Value} {t:TypeId} (h:It.Box W k v t) (ht:TG mb base W W') (hm:k≠mb) (h8:t≠5) (h9:t≠343):It.Box W' k v t:=ht.box h hm h8 h9
theorem fb_tg {s mb base:Nat} {size:Int} {cs:List Int} {W W':World} (h:FB s mb size cs W) (ht:TG mb base W W') (hm:mb<s):FB s mb size cs W':=by
 have hl:=h.lt
 refine ⟨box_tg h.b0 ht (by omega) (by decide) (by decide),box_tg h.b1 ht (by omega) (by decide) (by decide),box_tg h.b2 ht (by omega) (by decide) (by decide),?_,box_tg h.b4 ht (by omega) (by decide) (by decide)⟩
 have:=h.b3
 unfold NumsAt at this ⊢
 exact ht.box this (by omega) (by decide) (by decide)
structure FJ (mb base s lb:Nat) (size:Int) (vs:Array Value) (w:World) (ds:List Nat) (cs:List Int) (d:Nat) (S:Str×Pl) (W:World):Prop where
 fb:FB s mb size cs W
 lists:W.heap[lb]? = some (.cells vs 41)
 msg:MsgN W mb base d S.1 S.2
 po:PlOk S.2
 g:G W
 tg:TG mb base w W
 defs : ∀ x∈ds,W.heap[x]? = some (.deferred (some []))
section
variable {mb base s lb:Nat} {size:Int} {vs:Array Value} {w:World} {ds:List Nat} {cs:List Int} {d:Nat} {S S':Str×Pl} {W B:World}
theorem FJ.re (h:FJ mb base s lb size vs w ds cs d S W) (d':Nat) (hd:(∀ cur,W.heap[d']?≠some (.cells cur 5 (0,0)))∧∀ cur,W.heap[d']?≠some (.cells cur 343 (0,0))):FJ mb base s lb size vs w ds cs d' S W :=
 ⟨h.fb,h.lists,h.msg.msg.away hd,h.po,h.g,h.tg,h.defs⟩
theorem FJ.keeps (h:FJ mb base s lb size vs w ds cs d S W) (hk:It.Keeps d W B) (h1:s+4<d) (h2:lb<d) (h3:mb<d) (h4:w.heap.size≤d) (h6 : ∀ x∈ds,x≠d):FJ mb base s lb size vs w ds cs d S B:=by
 have hl:=h.fb.lt
 obtain ⟨g0,gm,gc⟩:=h.g
 exact ⟨h.fb.kept fun k k1 k2=>hk.block k (by omega) (by omega),(hk.block lb (Array.getElem?_eq_some_iff.1 h.lists).1 (by omega)).trans h.lists,h.msg.keeps hk (by omega),h.po,
  ⟨Nat.lt_of_lt_of_le g0 hk.size,gm,(World.cell?_of_block (hk.block 0 g0 (by omega))).trans gc⟩,h.tg.keeps hk h4,fun x hx=>(hk.block x (Array.getElem?_eq_some_iff.1 (h.defs x hx)).1 (h6 x hx)).trans (h.defs x hx)⟩
theorem FJ.below (h:FJ mb base s lb size vs w ds cs d S W) (hb:Below W.heap.size W B):FJ mb base s lb size vs w ds cs d S B:=by
 have hl:=h.fb.lt
 exact ⟨h.fb.kept fun k k1 k2=>hb.block k (by omega),(hb.block lb (Array.getElem?_eq_some_iff.1 h.lists).1).trans h.lists,msgN_below h.msg hb,h.po,h.g.below hb,h.tg.trans (TG.of_below hb),fun x hx=>(hb.block x (Array.getElem?_eq_some_iff.1 (h.defs x hx)).1).trans (h.defs x hx)⟩
theorem FJ.fit (h:FJ mb base s lb size vs w ds cs d S W) (ht:TG mb base W B) (hm:Msg B mb base S'.1 S'.2) (hpo:PlOk S'.2) (h0:mb<s) (h1:lb≠mb) (h2:0<base) (h3:0<mb) (h4 : ∀ x∈ds,x≠mb) (hd:(∀ cur,B.heap[d]?≠some (.cells cur 5 (0,0)))∧∀ cur,B.heap[d]?≠some (.cells cur 343 (0,0))):FJ mb base s lb size vs w ds cs d S' B :=
 ⟨fb_tg h.fb ht h0,ht.box h.lists h1 (by decide) (by decide),hm.away hd,hpo,h.g.tg ht h2 h3,h.tg.trans ht,fun x hx=>(ht.other (h.defs x hx) (h4 x hx) (fun _ _ _ e=>by cases e)).trans (h.defs x hx)⟩
theorem FJ.set (h:FJ mb base s lb size vs w ds cs d S W) (k:Nat) (x:Int) (h0:mb<s) (h1:lb<s) (h2:w.heap.size≤s) (h3 : ∀ y∈ds,y≠s+3):FJ mb base s lb size vs w ds (cs.set k x) d S (W.setCell ⟨s+3,k,none⟩ (.int .i64 x)):=by
 have hnum:=h.fb.b3
 unfold NumsAt at hnum
 have hne : ∀ k',k'≠s+3→(W.setCell ⟨s+3,k,none⟩ (.int .i64 x)).heap[k']? = W.heap[k']?:=fun k' hk=>Below.heap_setCell _ _ _ _ hk
 refine ⟨h.fb.set k x,(hne lb (by omega)).trans h.lists,msgN_but h.msg ⟨fun c hc=>?_,fun c hc=>?_⟩ (by omega) hne,h.po,?_,⟨h.tg.os,h.tg.tape,h.tg.output,Nat.le_trans h.tg.size (by simp [World.setCell]),fun i hi hm hp=>(hne i (by omega)).trans (h.tg.block i hi hm hp)⟩,fun y hy=>(hne y (h3 y hy)).trans (h.defs y hy)⟩
 ·rw [hnum] at hc; simp at hc
 ·rw [hnum] at hc; simp at hc
 ·obtain ⟨g0,gm,gc⟩:=h.g
  exact ⟨by simpa [World.setCell] using g0,gm,(World.cell?_of_block (hne 0 (by omega))).trans gc⟩
end
theorem recsStep_nil (df:Rec→List Fe) (S:Str×Pl):aC df [] S.1 S.2=S:=rfl
theorem tkS_le (df:Rec→List Fe) (rs:List Rec) (hok : ∀ r∈rs,RrG r (df r)) (i:Nat) (l:Str) (ps:Pl):(aC df (tk rs i) l ps).1.length≤(aC df rs l ps).1.length∧(aC df (tk rs i) l ps).2.length≤(aC df rs l ps).2.length:=by
 have h:rs=tk rs i++((runs aD rs).drop i).flatMap (·.2):=by
  unfold tk
  rw [← List.flatMap_append,List.take_append_drop]
  exact (runs_cat aD _ _ _ (Nat.le_refl _)).symm
 have hq : ∀ r∈((runs aD rs).drop i).flatMap (·.2),RrG r (df r):=fun r hr=>hok r (by rw [h]; exact List.mem_append_right _ hr)
 have e:aC df rs l ps=aC df (((runs aD rs).drop i).flatMap (·.2)) (aC df (tk rs i) l ps).1 (aC df (tk rs i) l ps).2:=by rw [← recsStep_app,← h]
 have:=recsStep_more df _ hq (aC df (tk rs i) l ps).1 (aC df (tk rs i) l ps).2
 rw [e]; exact ⟨this.1,this.2.1⟩
theorem tkS_po (df:Rec→List Fe) (rs:List Rec) (hok : ∀ r∈rs,RrG r (df r)) (i:Nat) (l:Str) (ps:Pl) (hp:PlOk ps):PlOk (aC df (tk rs i) l ps).2:=by
 have h:rs=tk rs i++((runs aD rs).drop i).flatMap (·.2):=by
  unfold tk
  rw [← List.flatMap_append,List.take_append_drop]
  exact (runs_cat aD _ _ _ (Nat.le_refl _)).symm
 exact (recsStep_more df (tk rs i) (fun r hr=>hok r (by rw [h]; exact List.mem_append_left _ hr)) l ps).2.2 hp
end Mf
end Go.Proofs.YtkkpahmoljiepaaGreatDoor
