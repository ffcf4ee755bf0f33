/- Contract: a machine's work, where the card is honest: the loop over the frames. -/
import Derived.Test.YtkkpahmoljiepaaGreatDoorJ23
import Derived.Test.YtkkpahmoljiepaaGreatDoorJ22
import Derived.Defers
import Derived.Recover
set_option linter.unusedSimpArgs false
set_option linter.unusedVariables false
set_option maxRecDepth 1000000
set_option maxHeartbeats 12800000
namespace Go.Proofs.YtkkpahmoljiepaaGreatDoor
open Go.RowKit
open Pu (Str aH aU)
attribute [local go_sem] Oper.semAt_some
namespace Nee
open Ka Wa Wb Wc Wd We Wf Wg Wh Wi Wj Wk Wl Wm Ha Hb Hc Re Qa Qb Qc Qd Qe Qf Qg Qh Qi Qj Qk Ql Qm Qn Qo Qp Qr Qq Qs Qu Qv Qw Qx Na Nb Nc Nd
section
variable {w w':World} {xb zb rb sb mb bb base:Nat} {mac ip:Str} {bs:Str} {wild:Bool} {cnt st rav rus:Nat} {rout:List Bool} {sav sus:Nat} {sout:List Bool} {n s d:Nat} {br:Bool}
theorem mem_cells (h:Mem w mb bb base bs wild cnt st) (hk : ∀ (i:Nat) (cur:Array Value) (t:TypeId) (p:Nat×Nat),w.heap[i]? = some (Obj.cells cur t p)→w'.heap[i]? = w.heap[i]?):Mem w' mb bb base bs wild cnt st:=by
 obtain ⟨vl,vm,ns,⟨early,d0,d1,hm⟩,hr,ho,hl,ms,hms,hml⟩:=h
 refine ⟨vl,vm,ns,⟨early,d0,d1,aF.of hm (hk mb _ _ _ hm)⟩,RowB.of hr (hk bb _ _ _ hr.2),own_keep ho fun g hg=>?_,hl,ms,own_keep hms fun g hg=>?_,hml⟩
 ·obtain ⟨_,cur,hc⟩:=own_at ho hg
  exact hk g _ _ _ hc
 ·obtain ⟨_,cur,hc⟩:=own_at hms hg
  exact hk g _ _ _ hc
theorem Mac.cells (h:Mac w xb zb rb sb mb bb base mac ip bs wild cnt st rav rus rout sav sus sout n s d br) (hs:w.heap.size≤w'.heap.size) (hk : ∀ (i:Nat) (cur:Array Value) (t:TypeId) (p:Nat×Nat),w.heap[i]? = some (Obj.cells cur t p)→w'.heap[i]? = w.heap[i]?):Mac w' xb zb rb sb mb bb base mac ip bs wild cnt st rav rus rout sav sus sout n s d br :=
 ⟨mem_cells h.mem hk,(hk rb _ _ _ h.rr).trans h.rr,(hk sb _ _ _ h.sr).trans h.sr,(hk xb _ _ _ h.mac).trans h.mac,Nat.le_trans h.hb hs⟩
theorem Mac.other {b:Nat} {cs:List Value} (h:Mac w xb zb rb sb mb bb base mac ip bs wild cnt st rav rus rout sav sus sout n s d br) (hb:aB w b cs 4) (hs:w.heap.size≤w'.heap.size) (hk : ∀ i,i<w.heap.size→i≠b→w'.heap[i]? = w.heap[i]?):Mac w' xb zb rb sb mb bb base mac ip bs wild cnt st rav rus rout sav sus sout n s d br:=by
 obtain ⟨⟨c1,h1⟩,⟨c2,h2⟩⟩:=mem_blk h.mem
 exact ⟨mem_keep h.mem b _ _ hb (by decide) (by decide) (blk_ne hb h1 (by decide)) (blk_ne hb h2 (by decide)) hk,(hk rb (aB.lt h.rr) (blk_ne h.rr hb (by decide))).trans h.rr,(hk sb (aB.lt h.sr) (blk_ne h.sr hb (by decide))).trans h.sr,(hk xb (aB.lt h.mac) (blk_ne h.mac hb (by decide))).trans h.mac,Nat.le_trans h.hb hs⟩
theorem Mac.load {cnt':Nat} (h:Mac w xb zb rb sb mb bb base mac ip bs wild cnt st rav rus rout sav sus sout n s d br) (hm:Mem w' mb bb base bs wild cnt' st) (hF:MF mb bb base w w'):Mac w' xb zb rb sb mb bb base mac ip bs wild cnt' st rav rus rout sav sus sout n s d br:=by
 obtain ⟨a1,a2,a3,a4,a5,a6,a7,a8,a9⟩:=h.apart
 have hG:GF (fun i=>i≠mb∧i≠bb) base w w':=GF.of_mf hF fun i hp=>hp
 exact ⟨hm,hG.blk h.rr ⟨a6,a7⟩ (by decide) (by decide),hG.blk h.sr ⟨a8,a9⟩ (by decide) (by decide),hG.blk h.mac ⟨a3,a4⟩ (by decide) (by decide),Nat.le_trans h.hb hF.size⟩
theorem Mac.lts (h:Mac w xb zb rb sb mb bb base mac ip bs wild cnt st rav rus rout sav sus sout n s d br):xb<w.heap.size∧rb<w.heap.size∧sb<w.heap.size∧mb<w.heap.size∧bb<w.heap.size :=
 ⟨aB.lt h.mac,aB.lt h.rr,aB.lt h.sr,(mem_lt h.mem).1,(mem_lt h.mem).2⟩
theorem GF.high {p:Nat→Prop} {A B C:World} (h:GF p base A B) (h1:C.os=B.os) (h2:C.tape=B.tape) (h3:C.output=B.output) (h4:B.heap.size≤C.heap.size) (h5 : ∀ i,i<A.heap.size→C.heap[i]? = B.heap[i]?):GF p base A C :=
 ⟨h1.trans h.os,h2.trans h.tape,h3.trans h.output,Nat.le_trans h.size h4,fun i hi hp hq=>(h5 i hi).trans (h.block i hi hp hq)⟩
theorem GF.obj {p:Nat→Prop} {A B:World} {i:Nat} (h:GF p base A B) (hp:p i) (ho:(∃ r,A.heap[i]? = some (.loop r))∨∃ x,A.heap[i]? = some (.deferred x)):B.heap[i]? = A.heap[i]?:=by
 rcases ho with ⟨r,hr⟩ | ⟨x,hx⟩
 ·exact h.block i (Array.getElem?_eq_some_iff.1 hr).1 hp (.inr ⟨fun cur e=>by rw [hr] at e; simp at e,fun cur e=>by rw [hr] at e; simp at e⟩)
 ·exact h.block i (Array.getElem?_eq_some_iff.1 hx).1 hp (.inr ⟨fun cur e=>by rw [hx] at e; simp at e,fun cur e=>by rw [hx] at e; simp at e⟩)
end
theorem frames_o (rb:Nat) (w:World) :
  Calls Tryz.prog 162 #[.pointer (some ⟨rb,0,none⟩)] w fun e w'=>e=.returned (.func (.func 219) #[] #[.pointer (some ⟨w.heap.size,0,none⟩)])∧w'=w.alloc (.cells #[.pointer (some ⟨rb,0,none⟩)] 162):=by
 have hmf : ∀ (fn:Fn) (first cap:Array Value) (w:World),(Instr.makeFunc fn first cap).run Tryz.prog w=.ok (.func fn first cap) w:=fun _ _ _ _=>rfl
 go_enter Tryz.func162,Tryz.ntmps162
 go_wp2
 go_ret
 exact ⟨rfl,rfl⟩
theorem put_cells {A:World} {k:Nat} {r:Loop} (h:A.heap[k]? = some (.loop r)) (ob:Obj) : ∀ (i:Nat) (cur:Array Value) (t:TypeId) (p:Nat×Nat),A.heap[i]? = some (Obj.cells cur t p)→(A.putObj k ob).heap[i]? = A.heap[i]?:=fun i cur t p hc =>
 World.putObj_heap_other (fun e=>by subst e; rw [h] at hc; simp at hc)
theorem put_cells_d {A:World} {k:Nat} {x:Option (List Deferred)} (h:A.heap[k]? = some (.deferred x)) (ob:Obj) : ∀ (i:Nat) (cur:Array Value) (t:TypeId) (p:Nat×Nat),A.heap[i]? = some (Obj.cells cur t p)→(A.putObj k ob).heap[i]? = A.heap[i]?:=fun i cur t p hc =>
 World.putObj_heap_other (fun e=>by subst e; rw [h] at hc; simp at hc)
theorem at_zero {xb zb rb sb mb bb base:Nat} {mac ip bs:Str} {wild:Bool} {cnt st rav rus sav sus o n s d:Nat} {id:Nat→Nat} {fr ans:Nat→Str} {W:World} (h:Mac W xb zb rb sb mb bb base mac ip bs wild cnt st rav rus (tr 8) sav sus (tr o) n s d false):At xb zb rb sb mb bb base mac ip bs wild cnt st rav rus sav sus o n s d id fr ans 0 W:=by
 unfold At
 have e:sk o 0=0:=by unfold sk; omega
 rw [e]
 exact h
theorem work_ok (xb zb rb sb mb bb base:Nat) (mac ip bs:Str) (wild:Bool) (cnt st rav rus sav sus o n s d f c:Nat) (sout:List Bool) (O:Nat→List Bool) (ids id:Nat→Nat) (fr ans:Nat→Str) (w:World) (h:Mac w xb zb rb sb mb bb base mac ip bs wild cnt st rav rus (tr 8) sav sus sout n s d false)
  (hl:bs.length=25600) (hsus:sus+f<65536) (hsol:sout.length=8) (hf:rdN bs 770 2=sus+f) (hfo:f≤cOut sout) (hO0:O 0=sout) (hOs : ∀ k,k<f→O (k+1)=(O k).set (ids k) false) (hids : ∀ k,k<f→ids k<8∧(O k)[ids k]? = some true∧rdN bs (772+8*((sus+k)%8)) 4=ids k) (hOf:O f=tr o) (ho8:o≤8)
  (hc8:c≤8) (hrf:rdN bs 258 2=rus+c) (hav:rav+c<65536) (hus:rus+c<65536) (hsv:sav+c<65536) (hcnt:cnt≤600000) (hst:st≤600000) (hsd:s+d≤900000) (hnn:n≤900000)
  (hid8 : ∀ k,k<c→id k<8) (hid : ∀ k,k<c→rdN bs (260+8*((rus+k)%8)) 4=id k) (hln : ∀ k,k<c→rdN bs (260+8*((rus+k)%8)+4) 4=12+(fr k).length) (hfl : ∀ k,k<c→(fr k).length≤1524) (hal : ∀ k,k<c→(ans k).length≤1524) (hane : ∀ k,k<c→ans k≠[]) (hlie : ∀ k,k<c→LiesB bs (1024+1536*id k+12) (fr k))
  (hH : ∀ k W,k<c→GF (Off xb rb sb mb bb) base w W→Calls Tryz.prog 37 #[.pointer (some ⟨zb,0,none⟩),.agg #[.string (B mac),.string (B ip)],.string (B (fr k))] W fun e w'=>e=.returned (.string (B (ans k)))∧Below W.heap.size W w') :
  Calls Tryz.prog 95 #[.pointer (some ⟨xb,0,none⟩)] w fun e w' =>
   e=.returned (.bool true)∧At xb zb rb sb mb bb base mac ip bs wild (cnt+4+4*f) st rav rus sav (sus+f) o n s d id fr ans c w'∧GF (Off xb rb sb mb bb) base w w':=by
 obtain ⟨a1,a2,a3,a4,a5,a6,a7,a8,a9⟩:=h.apart
 obtain ⟨l1,l2,l3,l4,l5⟩:=Mac.lts h
 have hf8:f≤8:=Nat.le_trans hfo (by unfold cOut; exact Nat.le_trans (List.length_filter_le _ _) (by omega))
 have hbb:=h.hb
 obtain ⟨wA,hwA⟩ : ∃ wA,wA=(w.alloc (.cells #[.pointer (some ⟨xb,0,none⟩)] 73)).alloc (.cells #[.bool false] 4):=⟨_,rfl⟩
 have hBA:Below w.heap.size w wA:=by rw [hwA]; exact ((Below.refl _ _).alloc (Nat.le_refl _) _).alloc (by simp) _
 have hsA:wA.heap.size=w.heap.size+2:=by rw [hwA]; simp
 have hA1:aB wA w.heap.size [.pointer (some ⟨xb,0,none⟩)] 73:=by rw [hwA]; exact (aB.new w _ _).alloc _
 have hA2:aB wA (w.heap.size+1) [.bool false] 4:=by
  have:=aB.new (w.alloc (.cells #[.pointer (some ⟨xb,0,none⟩)] 73)) [.bool false] 4
  rw [World.size_alloc] at this
  rw [hwA]; exact this
 have hMA:=h.below hBA
 have HRC:=aH (reclaim_ok sb mb bb base 512 13312 sav sus f _ sout O ids wild cnt st bs wA hMA.mem hMA.sr hMA.hb (by omega) hl hsus hsol hf hfo hO0 hOs (fun k hk=>by have:=hids k hk; rw [show 512+(260+8*((sus+k)%8))=772+8*((sus+k)%8) by omega]; exact this) (by omega) (by decide) (by decide) a8 a9)
 rw [hOf] at HRC
 have x2:((w.alloc (.cells #[.pointer (some ⟨xb,0,none⟩)] 73)).alloc (.cells #[.bool false] 4)).cell? ⟨xb,4,none⟩=some (.pointer (some ⟨sb,0,none⟩)):=by rw [← hwA]; exact aB.cell hMA.mac 4 (by simp)
 have x3:=aB.cell h.mac 4 (by simp)
 simp only [List.getElem_cons_zero,List.getElem_cons_succ] at x3
 have hxne:xb≠w.heap.size:=by omega
 have HA1:=aH hA1
 have HA2:=aH hA2
 have HMA:=aH hMA
 have HBA:=aH hBA
 have HH:=aH hH
 have H8:=aH hid8
 have HI:=aH hid
 have HLN:=aH hln
 have HFL:=aH hfl
 have HAL:=aH hal
 have HNE:=aH hane
 have HLI:=aH hlie
 have HRF:=aH hrf
 rw [hwA] at HRC
 clear h hf hfo hO0 hOs hids hOf hH hid8 hid hln hfl hal hane hlie hA1 hA2 hMA hrf
 refine (callsIn_wide (n:=0)).1 ?_
 refine callsIn_of_wp_marks Tryz.func95 rfl trivial ?_
 simp only [Tryz.ntmps95,List.size_toArray,List.length_cons,List.length_nil,Nat.reduceAdd,Nat.reduceSub,Array.replicate_succ,Array.replicate_zero,List.push_toArray,List.append_toArray,List.nil_append,List.cons_append]
 gi_wp2_with fail
 refine ⟨trivial,rfl,?_⟩
 refine (callsIn_wide.2 (aU HRC)).mono ?_
 rw [← hwA]
 rintro e w1 ⟨rfl,hm1,hr1,hF1⟩
 have hz1:=hF1.size
 have hM1:Mac w1 xb zb rb sb mb bb base mac ip bs wild (cnt+2+4*f) st rav rus (tr 8) sav (sus+f) (tr o) n s d false:=⟨hm1,hF1.blk (aU HMA).rr ⟨a5,a6,a7⟩ (by decide) (by decide),hr1,hF1.blk (aU HMA).mac ⟨a2,a3,a4⟩ (by decide) (by decide),Nat.le_trans (aU HMA).hb hz1⟩
 have hb1:aB w1 w.heap.size [.pointer (some ⟨xb,0,none⟩)] 73:=hF1.blk (aU HA1) ⟨by omega,by omega,by omega⟩ (by decide) (by decide)
 have hb2:aB w1 (w.heap.size+1) [.bool false] 4:=hF1.blk (aU HA2) ⟨by omega,by omega,by omega⟩ (by decide) (by decide)
 have y1:w1.cell? ⟨w.heap.size,0,none⟩=some (.pointer (some ⟨xb,0,none⟩)):=aB.cell hb1 0 (by simp)
 have y3:w1.cell? ⟨xb,3,none⟩=some (.pointer (some ⟨rb,0,none⟩)):=aB.cell hM1.mac 3 (by simp)
 have HFw1:=aH ((GF.of_below (p:=Off xb rb sb mb bb) (base:=base) (aU HBA)).trans (hF1.mono fun i hp=>⟨hp.2.2.1,hp.2.2.2⟩))
 have HM1:=aH hM1
 have HB1:=aH hb1
 have HB2:=aH hb2
 clear hm1 hr1 hF1 hM1 hb1 hb2 HRC HMA HA1 HA2 HBA x2 hwA
 gi_wp2_with fail
 refine ⟨trivial,rfl,?_⟩
 refine (callsIn_wide.2 (frames_o rb w1)).mono ?_
 rintro e W2 ⟨rfl,hW2⟩
 have hBW2:Below w1.heap.size w1 W2:=by rw [hW2]; exact (Below.refl _ _).alloc (Nat.le_refl _) _
 have hzW2:W2.heap.size=w1.heap.size+1:=by rw [hW2]; simp
 have hib:aB W2 w1.heap.size [.pointer (some ⟨rb,0,none⟩)] 162:=by rw [hW2]; exact aB.new _ _ _
 have hM2:=(aU HM1).below hBW2
 have hq1:aB W2 w.heap.size [.pointer (some ⟨xb,0,none⟩)] 73:=(hBW2.block _ (aU HB1).lt).trans (aU HB1)
 have hq2:aB W2 (w.heap.size+1) [.bool false] 4:=(hBW2.block _ (aU HB2).lt).trans (aU HB2)
 have HFw2:=aH ((aU HFw1).trans (GF.of_below hBW2))
 clear hBW2 HM1 HB1 HB2 HFw1 hW2 y1 y3
 gi_wp2_with fail
 have hOff : ∀ i,w.heap.size≤i→Off xb rb sb mb bb i:=fun i hi=>⟨by omega,by omega,by omega,by omega,by omega⟩
 refine It.rangeJ (α:=Nat) (xs:=List.range c) (encs:=fun k=>#[.string (B (fr k)),.bool true]) (gf:=219) (lb:=#[.pointer (some ⟨w1.heap.size,0,none⟩)]) rfl (enters_of Tryz.func219 (by kernel_rfl) rfl) (fun _=>rfl)
  (fun W=>Mac W xb zb rb sb mb bb base mac ip bs wild (cnt+2+4*f) st rav rus (tr 8) sav (sus+f) (tr o) n s d false∧GF (Off xb rb sb mb bb) base W2 W)
  (fun k W=>At xb zb rb sb mb bb base mac ip bs wild (cnt+4+4*f) st rav rus sav (sus+f) o n s d id fr ans k W∧GF (Off xb rb sb mb bb) base W2 W)
  (fun k x W=>x=k∧Got xb zb rb sb mb bb base mac ip bs wild (cnt+4+4*f) st rav rus sav (sus+f) o n s d id fr ans k W∧GF (Off xb rb sb mb bb) base W2 W)
  ?iter ?p1 ?p2 ?h0 ?round ?done
 case h0 =>
  intro r
  have hg:Below W2.heap.size W2 ((W2.alloc (.deferred (some []))).alloc (.loop r)):=((Below.refl _ _).alloc (Nat.le_refl _) _).alloc (by simp) _
  exact ⟨hM2.below hg,GF.of_below hg⟩
 case p1 =>
  rintro i A r ob ⟨hA,hG⟩ hl'
  exact ⟨Mac.cells hA (by rw [World.putObj_size]; exact Nat.le_refl _) (put_cells hl' ob),GF.high hG rfl rfl rfl (by rw [World.putObj_size]; exact Nat.le_refl _) (fun i hi=>World.putObj_heap_other (by omega))⟩
 case p2 =>
  rintro i x A r ob ⟨hx,hA,hG⟩ hl'
  exact ⟨hx,Mac.cells hA (by rw [World.putObj_size]; exact Nat.le_refl _) (put_cells hl' ob),GF.high hG rfl rfl rfl (by rw [World.putObj_size]; exact Nat.le_refl _) (fun i hi=>World.putObj_heap_other (by omega))⟩
 case iter =>
  rintro r hY W0 ⟨hM0,hG0⟩ hL0
  have hoff : ∀ {i},w.heap.size≤i→Off xb rb sb mb bb i:=fun hi=>hOff _ hi
  refine (frames_iter (W2.heap.size+1) w1.heap.size rb c fr
   (fun k W=>(At xb zb rb sb mb bb base mac ip bs wild (cnt+4+4*f) st rav rus sav (sus+f) o n s d id fr ans k W∧GF (Off xb rb sb mb bb) base W2 W)∧It.LL W2.heap.size r W)
   (fun k W=>(k=k∧Got xb zb rb sb mb bb base mac ip bs wild (cnt+4+4*f) st rav rus sav (sus+f) o n s d id fr ans k W∧GF (Off xb rb sb mb bb) base W2 W)∧It.LL W2.heap.size r W)
   W0 (by omega) (aB.cell (hG0.blk hib (hoff (by omega)) (by decide) (by decide)) 0 (by simp)) (fun k W h=>aB.cell (h.1.2.blk hib (hoff (by omega)) (by decide) (by decide)) 0 (by simp)) ?fr ?nx ?Y).mono ?fin
  case fr =>
   refine (fresh_any rb mb bb base 0 1024 rav rus c _ true true true true true true true true wild (cnt+2+4*f) st bs W0 hM0.mem hM0.rr hM0.hb (by omega) hl (by omega) (by omega) (by rw [Nat.zero_add,aU HRF]; omega) (by decide) (by decide) a6 a7).mono ?_
   rintro e W' ⟨rfl,hm',hF'⟩
   have kd:decide ((c:Int)≤(cOut [true,true,true,true,true,true,true,true]:Nat))=true:=decide_eq_true (by show (c:Int)≤((8:Nat):Int); omega)
   rw [kd]
   have hG':GF (Off xb rb sb mb bb) base W0 W':=GF.of_mf hF' fun i hp=>hp.2.2.2
   have hm2:Mem W' mb bb base bs wild (cnt+4+4*f) st:=by rw [show cnt+4+4*f=cnt+2+4*f+2 by omega]; exact hm'
   exact ⟨rfl,⟨at_zero (Mac.load hM0 hm2 hF'),hG0.trans hG'⟩,hL0.of (GF.obj hG' (hoff (by omega)) (.inr ⟨_,hL0.2⟩)) (GF.obj hG' (hoff (by omega)) (.inl ⟨_,hL0.1⟩))⟩
  case nx =>
   rintro k W hk ⟨⟨hA,hG⟩,hL⟩
   refine (next_at c k W hk hc8 hA hl hav hus (by omega) hst (aU H8) (aU HI) (aU HLN) (aU HFL) (aU HAL) (aU HLI)).mono ?_
   rintro e W' ⟨rfl,hGot,hF'⟩
   have hG':GF (Off xb rb sb mb bb) base W W':=hF'.mono fun i hp=>⟨hp.2.1,hp.2.2.2⟩
   exact ⟨rfl,⟨rfl,hGot,hG.trans hG'⟩,hL.of (GF.obj hG' (hoff (by omega)) (.inr ⟨_,hL.2⟩)) (GF.obj hG' (hoff (by omega)) (.inl ⟨_,hL.1⟩))⟩
  case Y =>
   rintro k W hk ⟨hg,hL⟩
   exact hY k k W (by simp [hk]) hg hL
  case fin =>
   rintro e W' ⟨hv,hI',hL'⟩
   rw [List.length_range]
   exact ⟨hv,hI',hL'⟩
 case round =>
  intro l' i x V W hx hI hsz hdef hlp
  obtain ⟨rfl,hGot,hG⟩:=hI
  have hik:x<c:=by
   have:=(List.getElem?_eq_some_iff.1 hx).1
   simpa using this
  gi_wp2_with fail
  refine ⟨trivial,?_⟩
  have hb1:=hG.blk hq1 (hOff _ (Nat.le_refl _)) (by decide) (by decide)
  have c1:W.cell? ⟨w.heap.size,0,none⟩=some (.pointer (some ⟨xb,0,none⟩)):=aB.cell hb1 0 (by simp)
  obtain ⟨nk,hnk⟩ : ∃ nk,nk=n+x:=⟨_,rfl⟩
  obtain ⟨nk1,hnk1⟩ : ∃ nk1,nk1=n+(x+1):=⟨_,rfl⟩
  have c5:W.cell? ⟨xb,5,none⟩=some (.int .i64 nk):=by rw [hnk]; exact aB.cell hGot.mac 5 (by simp)
  have kn:(nk:Int)+1=(nk1:Int):=by omega
  have cf:=aB.frozen hGot.mac
  have hUP:=got_up x W hGot
  rw [← hnk1] at hUP
  have d1:(W.setCell ⟨xb,5,none⟩ (.int .i64 nk1)).cell? ⟨w.heap.size,0,none⟩=some (.pointer (some ⟨xb,0,none⟩)):=by
   rw [World.cell?_setCell_other _ _ _ _ (fun e=>by have:=congrArg Addr.block e; simp at this; omega),c1]
  have hGs:GF (Off xb rb sb mb bb) base W (W.setCell ⟨xb,5,none⟩ (.int .i64 nk1)):=GF.of_set (rb:=xb) W 5 _ fun i hp=>hp.1
  have HAN:=aH (answer_at c x _ hik hc8 ho8 (by rw [hnk1] at hUP ⊢; exact hUP) hsv hst hsd (aU HAL) (aU HNE) (aU HH x (W.setCell ⟨xb,5,none⟩ (.int .i64 nk1)).drew hik (((aU HFw2).trans (hG.trans hGs)).trans (GF.of_below (Below.refl _ _).drew))))
  have HGs:=aH hGs
  have HG:=aH hG
  have hnb:nk≤1000000:=by omega
  clear hGot hG hUP hGs hb1 hnk hnk1
  gi_wp2_with fail
  refine ⟨trivial,rfl,?_⟩
  refine (CallsIn.inRound l' (callsIn_wide.2 (aU HAN))).mono ?_
  rintro e W3 ⟨rfl,hA3,hF3⟩
  have hG3:=(aU HGs).trans hF3
  have HL3:Hid (It.Loops W2.heap.size W W3):=⟨hG3.size,GF.obj hG3 (hOff _ (by omega)) (.inr ⟨_,hdef⟩),GF.obj hG3 (hOff _ (by omega)) (.inl hlp)⟩
  have HA3:=aH hA3
  have HG3:=aH ((aU HG).trans hG3)
  clear hA3 hF3 hG3 HAN HGs HG
  gi_wp2_with fail
  exact ⟨aU HL3,aU HA3,aU HG3⟩
 case done =>
  intro W hI hdef hsz
  rw [List.length_range] at hI
  obtain ⟨hA,hG⟩:=hI
  have hb2:=hG.blk hq2 (hOff _ (by omega)) (by decide) (by decide)
  have cb:W.cell? ⟨w.heap.size+1,0,none⟩=some (.bool false):=aB.cell hb2 0 (by simp)
  have cf:=aB.frozen hb2
  have hdef2:(W.setCell ⟨w.heap.size+1,0,none⟩ (.bool true)).heap[W2.heap.size]? = some (.deferred (some [])):=(Below.heap_setCell _ _ _ _ (by show W2.heap.size≠w.heap.size+1; omega)).trans hdef
  have hA2:At xb zb rb sb mb bb base mac ip bs wild (cnt+4+4*f) st rav rus sav (sus+f) o n s d id fr ans c (W.setCell ⟨w.heap.size+1,0,none⟩ (.bool true)):=Mac.other hA hb2 (by simp [World.setCell]) (fun i _ hne=>Below.heap_setCell _ _ _ _ hne)
  have HA3:=aH (Mac.cells hA2 (by rw [World.putObj_size]; exact Nat.le_refl _) (put_cells_d hdef2 (.deferred none)))
  have HF3:Hid (GF (Off xb rb sb mb bb) base w ((W.setCell ⟨w.heap.size+1,0,none⟩ (.bool true)).putObj W2.heap.size (.deferred none))) :=
   GF.high ((aU HFw2).trans hG) rfl rfl rfl (by rw [World.putObj_size]; simp [World.setCell]) (fun i hi=>(World.putObj_heap_other (by omega)).trans (Below.heap_setCell _ _ _ _ (by show i≠w.heap.size+1; omega)))
  have cr:((W.setCell ⟨w.heap.size+1,0,none⟩ (.bool true)).putObj W2.heap.size (.deferred none)).cell? ⟨w.heap.size+1,0,none⟩=some (.bool true) :=
   (World.cell?_of_block (World.putObj_heap_other (by dsimp only; omega))).trans (aB.cell (aB.set hb2 0 (.bool true)) 0 (by simp))
  clear hA hG hb2 hA2
  gi_wp2_with fail
  refine ⟨by simp,.inl ⟨_,_,rfl,run_takeDeferred hdef2,?_⟩⟩
  refine ⟨.bool true,by simp [results,Tryz.results95,go_sem,cr],rfl,aU HA3,aU HF3⟩
end Nee
end Go.Proofs.YtkkpahmoljiepaaGreatDoor

set_option maxRecDepth 1000000
set_option maxHeartbeats 12800000
namespace Go.Proofs.YtkkpahmoljiepaaGreatDoor
open Go.RowKit
open Pu (Str aH aU)
namespace Nf
open Ka Wa Wb Wc Wd We Wf Wg Wh Wi Wj Wk Wl Wm Ha Hb Hc Re Qa Qb Qc Qd Qe Qf Qg Qh Qi Qj Qk Ql Qm Qn Qr Qq Qs Na
theorem guard_end (p q:Addr) (w:World) (hp:w.cell? p=some (.bool true)) :
  CallsD Tryz.prog 151 #[.pointer (some p),.pointer (some q)] .returning w fun e u' w'=>e=.returned (.tuple #[])∧u'=.returning∧w'=w:=by
 refine callsD_of_wpS Tryz.func151 rfl fun c₀ cs hu=>?_
 apply wpS_seq
 apply wpS_region
 simp [wpOpsS,go_sem,recoverD,hu,hp,Tryz.ntmps151,Exit.thenS]
 refine wpS_cond (t:=false) (by simp [Act.eval,Array.replicate]) ?_
 simp only [Bool.false_eq_true,if_false]
 refine wpS_of_wp (wp_skip ?_)
 cases c₀
 simp_all [bodyPostS,results,Tryz.results151]
theorem cf_work (args:Array Value) (W:World):(callFunc 95 args).run Tryz.prog W=.ok (.enter 95 args) W:=by kernel_rfl
theorem cf_new1 (args:Array Value) (W:World):(callFunc 89 args).run Tryz.prog W=.ok (.enter 89 args) W:=by kernel_rfl
def gW (w:World) (xb:Nat):World:=(w.alloc (.cells #[.pointer (some ⟨xb,0,none⟩)] 73)).alloc (.cells #[.bool false] 4)
theorem gW_two (w:World) (xb:Nat):aB (gW w xb) (w.heap.size+1) [.bool false] 4:=by
 have:=aB.new (w.alloc (.cells #[.pointer (some ⟨xb,0,none⟩)] 73)) [.bool false] 4
 rw [World.size_alloc] at this
 exact this
theorem gW_below (w:World) (xb:Nat):Below w.heap.size w (gW w xb):=((Below.refl _ _).alloc (Nat.le_refl _) _).alloc (by simp) _
theorem gW_size (w:World) (xb:Nat):(gW w xb).heap.size=w.heap.size+2:=by simp [gW]
theorem guard_work (xb:Nat) (w:World) (K:World→Prop) (hC:Calls Tryz.prog 95 #[.pointer (some ⟨xb,0,none⟩)] (gW w xb) fun e W'=>e=.returned (.bool true)∧K W'∧aB W' (w.heap.size+1) [.bool false] 4) :
  Calls Tryz.prog 88 #[.pointer (some ⟨xb,0,none⟩),.func (.func 95) #[.pointer (some ⟨xb,0,none⟩)] #[]] w fun e w'=>e=.returned (.tuple #[])∧∃ W',K W'∧aB W' (w.heap.size+1) [.bool false] 4∧w'=W'.setCell ⟨w.heap.size+1,0,none⟩ (.bool true):=by
 have hmf : ∀ (fn:Fn) (first cap:Array Value) (w:World),(Instr.makeFunc fn first cap).run Tryz.prog w=.ok (.func fn first cap) w:=fun _ _ _ _=>rfl
 have hcf:=cf_work
 have HC:=aH hC
 unfold gW at HC
 have c0:=aB.cell (gW_two w xb) 0 (by simp)
 have f0:=aB.frozen (gW_two w xb) 0
 unfold gW at c0 f0
 clear hC
 go_enter_defers Tryz.func88,Tryz.ntmps88
 go_wp2_with fail
 refine (aU HC).mono ?_
 rintro e W' ⟨rfl,hK,hb⟩
 have HK:=aH hK
 have c1:W'.cell? ⟨w.heap.size+1,0,none⟩=some (.bool false):=aB.cell hb 0 (by simp)
 have f1:=aB.frozen hb 0
 have h2:=aB.cell (aB.set hb 0 (.bool true)) 0 (by simp)
 have HB:=aH hb
 clear hK HC hb
 go_wp2_with fail
 refine leaves_cons (f:=151) (args:=#[.pointer (some ⟨w.heap.size+1,0,none⟩),.pointer (some ⟨w.heap.size,0,none⟩)]) (by simp) (by simp [go_sem]) ?_
 refine (guard_end ⟨w.heap.size+1,0,none⟩ ⟨w.heap.size,0,none⟩ _ h2).mono ?_
 rintro e u' w'' ⟨rfl,rfl,rfl⟩
 simp [Leaves,settle,results,Tryz.results88,go_sem]
 exact ⟨W',aU HK,aU HB,rfl⟩
theorem guard_new (xb b1 b2:Nat) (w:World) (K:World→Prop) (hC:Calls Tryz.prog 89 #[.pointer (some ⟨b1,0,none⟩),.pointer (some ⟨b2,0,none⟩)] (gW w xb) fun e W'=>e=.returned (.bool true)∧K W'∧aB W' (w.heap.size+1) [.bool false] 4) :
  Calls Tryz.prog 88 #[.pointer (some ⟨xb,0,none⟩),.func (.func 89) #[] #[.pointer (some ⟨b1,0,none⟩),.pointer (some ⟨b2,0,none⟩)]] w fun e w'=>e=.returned (.tuple #[])∧∃ W',K W'∧aB W' (w.heap.size+1) [.bool false] 4∧w'=W'.setCell ⟨w.heap.size+1,0,none⟩ (.bool true):=by
 have hmf : ∀ (fn:Fn) (first cap:Array Value) (w:World),(Instr.makeFunc fn first cap).run Tryz.prog w=.ok (.func fn first cap) w:=fun _ _ _ _=>rfl
 have hcf:=cf_new1
 have HC:=aH hC
 unfold gW at HC
 have c0:=aB.cell (gW_two w xb) 0 (by simp)
 have f0:=aB.frozen (gW_two w xb) 0
 unfold gW at c0 f0
 clear hC
 go_enter_defers Tryz.func88,Tryz.ntmps88
 go_wp2_with fail
 refine (aU HC).mono ?_
 rintro e W' ⟨rfl,hK,hb⟩
 have HK:=aH hK
 have c1:W'.cell? ⟨w.heap.size+1,0,none⟩=some (.bool false):=aB.cell hb 0 (by simp)
 have f1:=aB.frozen hb 0
 have h2:=aB.cell (aB.set hb 0 (.bool true)) 0 (by simp)
 have HB:=aH hb
 clear hK HC hb
 go_wp2_with fail
 refine leaves_cons (f:=151) (args:=#[.pointer (some ⟨w.heap.size+1,0,none⟩),.pointer (some ⟨w.heap.size,0,none⟩)]) (by simp) (by simp [go_sem]) ?_
 refine (guard_end ⟨w.heap.size+1,0,none⟩ ⟨w.heap.size,0,none⟩ _ h2).mono ?_
 rintro e u' w'' ⟨rfl,rfl,rfl⟩
 simp [Leaves,settle,results,Tryz.results88,go_sem]
 exact ⟨W',aU HK,aU HB,rfl⟩
theorem counts_any (xb zb rb sb:Nat) (mac ip:Str) (n s d:Nat) (br:Bool) (w:World) (h:MacAt w xb zb rb sb mac ip n s d br) :
  Calls Tryz.prog 55 #[.pointer (some ⟨xb,0,none⟩)] w fun e w'=>e=.returned (.agg #[.int .i64 n,.int .i64 s,.int .i64 d,.bool br])∧Below w.heap.size w w':=by
 have hb:MacAt (w.alloc (.cells #[.int .i64 0,.int .i64 0,.int .i64 0,.bool false] 101)) xb zb rb sb mac ip n s d br:=(Below.heap_alloc _ _ _ (aB.lt h)).trans h
 have c5:=aB.cell hb 5 (by simp)
 have c6:=aB.cell hb 6 (by simp)
 have c7:=aB.cell hb 7 (by simp)
 have c8:=aB.cell hb 8 (by simp)
 simp only [List.getElem_cons_zero,List.getElem_cons_succ] at c5 c6 c7 c8
 have d5:=aB.cell h 5 (by simp)
 have d6:=aB.cell h 6 (by simp)
 have d7:=aB.cell h 7 (by simp)
 have d8:=aB.cell h 8 (by simp)
 simp only [List.getElem_cons_zero,List.getElem_cons_succ] at d5 d6 d7 d8
 have hne:xb≠w.heap.size:=by have:=aB.lt h; omega
 clear h hb
 go_enter Tryz.func55,Tryz.ntmps55
 go_wp2
 refine bodyPost_ret (v:=.agg #[.int .i64 n,.int .i64 s,.int .i64 d,.bool br]) ?_ rfl ?_
 ·simp [results,Tryz.results55,go_sem]
 ·refine ⟨rfl,?_⟩
  repeat (first | exact Below.refl _ _ | refine Below.alloc ?_ (Nat.le_refl _) _ | refine Below.setCell ?_ (Nat.le_refl _) _)
end Nf
namespace Nh
open Ka Wa Wb Wc Wd We Wf Wg Wh Wi Wj Wk Wl Wm Ha Hb Hc Re Qa Qb Qc Qd Qe Qf Qg Qh Qi Qj Qk Ql Qm Qn Qo Qp Qr Qq Qs Qu Qv Qw Qx Na Nb Nc Nd Nee Nf
theorem poll_ok (xb zb rb sb mb bb base:Nat) (mac ip bs:Str) (wild:Bool) (cnt st rav rus sav sus o n s d f c:Nat) (sout:List Bool) (O:Nat→List Bool) (ids id:Nat→Nat) (fr ans:Nat→Str) (w:World) (h:Mac w xb zb rb sb mb bb base mac ip bs wild cnt st rav rus (tr 8) sav sus sout n s d false)
  (hl:bs.length=25600) (hsus:sus+f<65536) (hsol:sout.length=8) (hf:rdN bs 770 2=sus+f) (hfo:f≤cOut sout) (hO0:O 0=sout) (hOs : ∀ k,k<f→O (k+1)=(O k).set (ids k) false) (hids : ∀ k,k<f→ids k<8∧(O k)[ids k]? = some true∧rdN bs (772+8*((sus+k)%8)) 4=ids k) (hOf:O f=tr o) (ho8:o≤8)
  (hc8:c≤8) (hrf:rdN bs 258 2=rus+c) (hav:rav+c<65536) (hus:rus+c<65536) (hsv:sav+c<65536) (hcnt:cnt≤600000) (hst:st≤600000) (hsd:s+d≤900000) (hnn:n≤900000)
  (hid8 : ∀ k,k<c→id k<8) (hid : ∀ k,k<c→rdN bs (260+8*((rus+k)%8)) 4=id k) (hln : ∀ k,k<c→rdN bs (260+8*((rus+k)%8)+4) 4=12+(fr k).length) (hfl : ∀ k,k<c→(fr k).length≤1524) (hal : ∀ k,k<c→(ans k).length≤1524) (hane : ∀ k,k<c→ans k≠[]) (hlie : ∀ k,k<c→LiesB bs (1024+1536*id k+12) (fr k))
  (hH : ∀ k W,k<c→GF (Off xb rb sb mb bb) base w W→Calls Tryz.prog 37 #[.pointer (some ⟨zb,0,none⟩),.agg #[.string (B mac),.string (B ip)],.string (B (fr k))] W fun e w'=>e=.returned (.string (B (ans k)))∧Below W.heap.size W w') :
  Calls Tryz.prog 54 #[.pointer (some ⟨xb,0,none⟩)] w fun e w' =>
   e=.returned (.int .i64 0)∧At xb zb rb sb mb bb base mac ip bs wild (cnt+4+4*f) st rav rus sav (sus+f) o n s d id fr ans c w'∧GF (Off xb rb sb mb bb) base w w':=by
 obtain ⟨l1,l2,l3,l4,l5⟩:=Mac.lts h
 have hB:=gW_below w xb
 have HG:=aH (guard_work xb w (fun W'=>At xb zb rb sb mb bb base mac ip bs wild (cnt+4+4*f) st rav rus sav (sus+f) o n s d id fr ans c W'∧GF (Off xb rb sb mb bb) base w W')
  ((work_ok xb zb rb sb mb bb base mac ip bs wild cnt st rav rus sav sus o n s d f c sout O ids id fr ans (gW w xb) (h.below hB) hl hsus hsol hf hfo hO0 hOs hids hOf ho8 hc8 hrf hav hus hsv hcnt hst hsd hnn hid8 hid hln hfl hal hane hlie (fun k W hk hF=>hH k W hk ((GF.of_below hB).trans hF))).mono (by
    rintro e W' ⟨rfl,hA,hF⟩
    exact ⟨rfl,⟨hA,(GF.of_below hB).trans hF⟩,hF.blk (gW_two w xb) ⟨by omega,by omega,by omega,by omega,by omega⟩ (by decide) (by decide)⟩)))
 have c8:w.cell? ⟨xb,8,none⟩=some (.bool false):=aB.cell h.mac 8 (by simp)
 have hmf : ∀ (fn:Fn) (first cap:Array Value) (w:World),(Instr.makeFunc fn first cap).run Tryz.prog w=.ok (.func fn first cap) w:=fun _ _ _ _=>rfl
 clear h hf hfo hO0 hOs hids hOf hH hid8 hid hln hfl hal hane hlie hrf
 go_enter Tryz.func54,Tryz.ntmps54
 go_wp2_with fail
 refine (aU HG).mono ?_
 rintro e w1 ⟨rfl,W',⟨hA,hF⟩,hb,rfl⟩
 have hA2:At xb zb rb sb mb bb base mac ip bs wild (cnt+4+4*f) st rav rus sav (sus+f) o n s d id fr ans c (W'.setCell ⟨w.heap.size+1,0,none⟩ (.bool true)):=Mac.other hA hb (by simp [World.setCell]) (fun i _ hne=>Below.heap_setCell _ _ _ _ hne)
 have HF2:=aH (GF.high (C:=W'.setCell ⟨w.heap.size+1,0,none⟩ (.bool true)) hF rfl rfl rfl (by simp [World.setCell]) (fun i hi=>Below.heap_setCell _ _ _ _ (by show i≠w.heap.size+1; omega)))
 have d8:(W'.setCell ⟨w.heap.size+1,0,none⟩ (.bool true)).cell? ⟨xb,8,none⟩=some (.bool false):=aB.cell hA2.mac 8 (by simp)
 have HA2:=aH hA2
 generalize W'.setCell ⟨w.heap.size+1,0,none⟩ (.bool true)=W2 at *
 clear hA hF hb hA2 HG
 go_wp2_with fail
 go_ret
 exact ⟨rfl,aU HA2,aU HF2⟩
end Nh
namespace Ni
open Qg Qh Qr Qw Nc
--BEGIN
section
variable (bs:Str) (rav sav o:Nat) (id:Nat→Nat) (ans:Nat→Str)
theorem nxB_rd (av i p l:Nat) (h1:p+l≤132+2*(av%8)∨134+2*(av%8)≤p) (h2:p+l≤130∨132≤p):rdN (nxB bs 0 av i) p l=rdN bs p l:=by
 unfold nxB; rw [aR _ _ _ _ _ _ (by omega),aR _ _ _ _ _ _ (by omega)]
theorem snB_get' (av j i:Nat) (s:Str) (h0:i<13312+1536*j∨13312+1536*j+12+s.length≤i) (h1:i<520+16*j∨524+16*j≤i) (h2:i<644+2*(av%8)∨646+2*(av%8)≤i) (h3:i<642∨644≤i):(snB bs 512 13312 av j s)[i]? = bs[i]?:=by
 unfold snB; rw [wrN_get _ _ _ _ _ (by omega),wrN_get _ _ _ _ _ (by omega),wrN_get _ _ _ _ _ (by omega),wrS_get _ _ _ _ _ (by omega),wrN_get _ _ _ _ _ (by omega)]
theorem snB_rd (av j p l:Nat) (s:Str) (h0:p+l≤13312) (h1:p+l≤520+16*j∨524+16*j≤p) (h2:p+l≤644+2*(av%8)∨646+2*(av%8)≤p) (h3:p+l≤642∨644≤p):rdN (snB bs 512 13312 av j s) p l=rdN bs p l :=
 rdN_congr l fun i a b=>snB_get' bs av j i s (by omega) (by omega) (by omega) (by omega)
theorem bsK_130 (hl:bs.length=25600) (h:rdN bs 130 2=rav) (k:Nat) (hk:rav+k<65536) (hk8:o+k≤100) (ha : ∀ j,j<k→(ans j).length≤1524):rdN (bsK bs rav sav o id ans k) 130 2=rav+k:=by
 cases k with
 | zero=>simpa [bsK] using h
 | succ k =>
  have e:rdN (nxB (bsK bs rav sav o id ans k) 0 (rav+k) (id k)) 130 2=rav+(k+1):=by
   unfold nxB
   rw [Nat.zero_add,rdN_wrN _ _ _ _ (by rw [aT,bsK_len,hl]; omega)]
   omega
  rw [bsK]; split
  ·rw [snB_rd _ _ _ _ _ _ (by omega) (by omega) (by omega) (by omega),e]
  ·exact e
theorem bsK_avail (hl:bs.length=25600) (h : ∀ j,j<8→rdN bs (132+2*j) 2=j) (k:Nat) (hid : ∀ j,j<k→id j=(rav+j)%8) (ha : ∀ j,j<k→(ans j).length≤1524) : ∀ j,j<8→rdN (bsK bs rav sav o id ans k) (132+2*j) 2=j:=by
 induction k with
 | zero=>simpa [bsK] using h
 | succ k ih =>
  have ih:=ih (fun j hj=>hid j (by omega)) (fun j hj=>ha j (by omega))
  intro j hj
  have hi:=hid k (by omega)
  have e:rdN (nxB (bsK bs rav sav o id ans k) 0 (rav+k) (id k)) (132+2*j) 2=j:=by
   by_cases hj2:j=id k
   ·unfold nxB
    rw [aR _ _ _ _ _ _ (by omega),Nat.zero_add,← hi,← hj2,rdN_wrN _ _ _ _ (by rw [bsK_len,hl]; omega)]
    omega
   ·rw [nxB_rd _ _ _ _ _ (by omega) (by omega)]; exact ih j hj
  rw [bsK]; split
  ·rw [snB_rd _ _ _ _ _ _ (by omega) (by omega) (by omega) (by omega),e]
  ·exact e
theorem bsK_642 (hl:bs.length=25600) (h:rdN bs 642 2=sav) (k:Nat) (hk:sav+k<65536) (ha : ∀ j,j<k→(ans j).length≤1524):rdN (bsK bs rav sav o id ans k) 642 2=sav+sk o k:=by
 induction k with
 | zero=>simpa [bsK,sk] using h
 | succ k ih =>
  have ih:=ih (by omega) (fun j hj=>ha j (by omega))
  rw [bsK]; split
  ·rename_i hf
   unfold snB
   rw [rdN_wrN _ _ _ _ (by rw [aT,aT,wrS_len,aT,nxB_len,bsK_len,hl]; omega)]
   unfold sk; omega
  ·rw [nxB_rd _ _ _ _ _ (by omega) (by omega),ih]; unfold sk; omega
theorem bsK_desc (j:Nat) (hj:j<8) (k:Nat) (ha : ∀ j,j<k→(ans j).length≤1524):rdN (bsK bs rav sav o id ans k) (512+16*j) 8=rdN bs (512+16*j) 8:=by
 induction k with
 | zero=>rfl
 | succ k ih =>
  have ih:=ih (fun j hj=>ha j (by omega))
  rw [bsK]; split
  ·rw [snB_rd _ _ _ _ _ _ (by omega) (by omega) (by omega) (by omega),nxB_rd _ _ _ _ _ (by omega) (by omega),ih]
  ·rw [nxB_rd _ _ _ _ _ (by omega) (by omega),ih]
theorem bsK_sent (hl:bs.length=25600) (k:Nat) (hk:k≤8) (ha : ∀ j,j<k→(ans j).length≤1524) : ∀ q,q<sk o k→rdN (bsK bs rav sav o id ans k) (644+2*((sav+q)%8)) 2=o+q∧rdN (bsK bs rav sav o id ans k) (512+16*(o+q)+8) 4=12+(ans q).length∧LiesB (bsK bs rav sav o id ans k) (13312+1536*(o+q)+12) (ans q):=by
 induction k with
 | zero=>intro q hq; unfold sk at hq; omega
 | succ k ih =>
  have ih:=ih (by omega) (fun j hj=>ha j (by omega))
  intro q hq
  have hak:=ha k (by omega)
  rw [bsK]; split
  ·rename_i hf
   by_cases hqk:q=k
   ·subst hqk
    have hln:(nxB (bsK bs rav sav o id ans q) 0 (rav+q) (id q)).length=25600:=by rw [nxB_len,bsK_len,hl]
    refine ⟨?_,?_,?_⟩
    ·unfold snB
     rw [aR _ _ _ _ _ _ (by omega),show 512+(132+2*((sav+q)%8))=644+2*((sav+q)%8) by omega,rdN_wrN _ _ _ _ (by rw [aT,wrS_len,aT,hln]; omega)]
     omega
    ·unfold snB
     rw [aR _ _ _ _ _ _ (by omega),aR _ _ _ _ _ _ (by omega),show 512+(16*(o+q)+8)=512+16*(o+q)+8 by omega,rdN_wrN _ _ _ _ (by rw [wrS_len,aT,hln]; omega)]
     omega
    ·unfold snB
     refine lies_congr (lies_wrS (wrN (nxB (bsK bs rav sav o id ans q) 0 (rav+q) (id q)) (13312+1536*(o+q)) 0 12) (13312+1536*(o+q)+12) (ans q) (by rw [aT,hln]; omega)) fun i h1 h2=>?_
     rw [wrN_get _ _ _ _ _ (by omega),wrN_get _ _ _ _ _ (by omega),wrN_get _ _ _ _ _ (by omega)]
   ·have hqs:q<sk o k:=by unfold sk at hq ⊢; omega
    have hqk2:q<k:=by unfold sk at hq; omega
    obtain ⟨i1,i2,i3⟩:=ih q hqs
    have haq:=ha q (by omega)
    refine ⟨?_,?_,?_⟩
    ·rw [snB_rd _ _ _ _ _ _ (by omega) (by omega) (by omega) (by omega),nxB_rd _ _ _ _ _ (by omega) (by omega),i1]
    ·rw [snB_rd _ _ _ _ _ _ (by omega) (by omega) (by omega) (by omega),nxB_rd _ _ _ _ _ (by omega) (by omega),i2]
    ·refine lies_congr i3 fun i h1 h2=>?_
     rw [snB_get' _ _ _ _ _ (by omega) (by omega) (by omega) (by omega),nxB_get _ _ _ _ (by omega)]
  ·have hqs:q<sk o k:=by unfold sk at hq ⊢; omega
   obtain ⟨i1,i2,i3⟩:=ih q hqs
   have hoq:o+q<8:=by unfold sk at hqs; omega
   refine ⟨?_,?_,?_⟩
   ·rw [nxB_rd _ _ _ _ _ (by omega) (by omega),i1]
   ·rw [nxB_rd _ _ _ _ _ (by omega) (by omega),i2]
   ·refine lies_congr i3 fun i h1 h2=>?_
    rw [nxB_get _ _ _ _ (by omega)]
theorem cntK_m (cnt m:Nat) (fr:Nat→Str) (k:Nat) (hf : ∀ j,j<k→(fr j).length≤m):cntK cnt fr k≤cnt+(8+m)*k:=by
 induction k with
 | zero=>simp [cntK]
 | succ k ih=>have:=ih (fun j hj=>hf j (by omega)); have:=hf k (by omega); rw [cntK,Nat.mul_succ]; omega
theorem stK_m (st m:Nat) (k:Nat) (hf : ∀ j,j<k→(ans j).length≤m):stK st o ans k≤st+(24+m)*k:=by
 induction k with
 | zero=>simp [stK]
 | succ k ih=>have:=ih (fun j hj=>hf j (by omega)); have:=hf k (by omega); rw [stK,Nat.mul_succ]; split <;> omega
end
--END
end Ni
namespace Nj
open Qg Qh Qr Qw Nc Ni
--BEGIN
def cdB (bs:Str) (n:Nat) (f:Str):Str:=wrN (wrN (wrN (wrS bs (1024+1536*(n%8)+12) f f.length) (260+8*(n%8)) (n%8) 4) (264+8*(n%8)) (12+f.length) 4) 258 (n+1) 2
def cdK (bs:Str) (n:Nat) (fr:Nat→Str):Nat→Str
 | 0=>bs
 | j+1=>cdB (cdK bs n fr j) (n+j) (fr j)
def bkK (bs:Str) (n:Nat):Nat→Str
 | 0=>bs
 | k+1=>wrN (bkK bs n k) (772+8*((n+k)%8)) k 4
section
variable (bs:Str) (n:Nat) (fr:Nat→Str)
theorem cdB_len (f:Str):(cdB bs n f).length=bs.length:=by unfold cdB; rw [aT,aT,aT,wrS_len]
theorem cdK_len (j:Nat):(cdK bs n fr j).length=bs.length:=by
 induction j with
 | zero=>rfl
 | succ j ih=>rw [cdK,cdB_len,ih]
theorem cdB_get (f:Str) (i:Nat) (h0:i<1024+1536*(n%8)+12∨1024+1536*(n%8)+12+f.length≤i) (h1:i<260+8*(n%8)∨268+8*(n%8)≤i) (h2:i<258∨260≤i):(cdB bs n f)[i]? = bs[i]?:=by
 unfold cdB; rw [wrN_get _ _ _ _ _ (by omega),wrN_get _ _ _ _ _ (by omega),wrN_get _ _ _ _ _ (by omega),wrS_get _ _ _ _ _ (by omega)]
theorem cdK_get (j i:Nat) (hf : ∀ q,q<j→(fr q).length≤1524) (h:i<258∨(324≤i∧i<1024)∨13312≤i):(cdK bs n fr j)[i]? = bs[i]?:=by
 induction j with
 | zero=>rfl
 | succ j ih =>
  have hj:=hf j (by omega)
  rw [cdK,cdB_get _ _ _ _ (by omega) (by omega) (by omega),ih (fun q hq=>hf q (by omega))]
theorem cdK_rd (j p l:Nat) (hf : ∀ q,q<j→(fr q).length≤1524) (h:p+l≤258∨(324≤p∧p+l≤1024)∨13312≤p):rdN (cdK bs n fr j) p l=rdN bs p l :=
 rdN_congr l fun i h1 h2=>cdK_get bs n fr j i hf (by omega)
theorem cdK_258 (hl:bs.length=25600) (h:rdN bs 258 2=n) (j:Nat) (hn:n+j<65536):rdN (cdK bs n fr j) 258 2=n+j:=by
 cases j with
 | zero=>exact h
 | succ j =>
  rw [cdK,cdB,rdN_wrN _ _ _ _ (by rw [aT,aT,wrS_len,cdK_len,hl]; omega)]; omega
theorem cdK_in (hl:bs.length=25600) (j:Nat) (hj:j≤8) (hf : ∀ q,q<j→(fr q).length≤1524) : ∀ q,q<j→rdN (cdK bs n fr j) (260+8*((n+q)%8)) 4=(n+q)%8∧rdN (cdK bs n fr j) (260+8*((n+q)%8)+4) 4=12+(fr q).length∧LiesB (cdK bs n fr j) (1024+1536*((n+q)%8)+12) (fr q):=by
 induction j with
 | zero=>intro q hq; omega
 | succ j ih =>
  have ih:=ih (by omega) (fun q hq=>hf q (by omega))
  intro q hq
  have hfj:=hf j (by omega)
  have hfq:=hf q hq
  have hln:(cdK bs n fr j).length=25600:=by rw [cdK_len,hl]
  by_cases hqj:q=j
  ·subst hqj
   refine ⟨?_,?_,?_⟩
   ·rw [cdK,cdB,aR _ _ _ _ _ _ (by omega),aR _ _ _ _ _ _ (by omega),rdN_wrN _ _ _ _ (by rw [wrS_len,hln]; omega)]; omega
   ·rw [cdK,cdB,aR _ _ _ _ _ _ (by omega),show 260+8*((n+q)%8)+4=264+8*((n+q)%8) by omega,rdN_wrN _ _ _ _ (by rw [aT,wrS_len,hln]; omega)]; omega
   ·rw [cdK,cdB]
    refine lies_congr (lies_wrS (cdK bs n fr q) (1024+1536*((n+q)%8)+12) (fr q) (by rw [hln]; omega)) fun i h1 h2=>?_
    rw [wrN_get _ _ _ _ _ (by omega),wrN_get _ _ _ _ _ (by omega),wrN_get _ _ _ _ _ (by omega)]
  ·obtain ⟨i1,i2,i3⟩:=ih q (by omega)
   refine ⟨?_,?_,?_⟩
   ·rw [cdK,rdN_congr (b:=cdK bs n fr j) 4 (fun i h1 h2=>cdB_get _ _ _ _ (by omega) (by omega) (by omega)),i1]
   ·rw [cdK,rdN_congr (b:=cdK bs n fr j) 4 (fun i h1 h2=>cdB_get _ _ _ _ (by omega) (by omega) (by omega)),i2]
   ·rw [cdK]; exact lies_congr i3 fun i h1 h2=>cdB_get _ _ _ _ (by omega) (by omega) (by omega)
theorem bkK_len (k:Nat):(bkK bs n k).length=bs.length:=by
 induction k with
 | zero=>rfl
 | succ k ih=>rw [bkK,aT,ih]
theorem bkK_get (k i:Nat) (h:i<772∨836≤i):(bkK bs n k)[i]? = bs[i]?:=by
 induction k with
 | zero=>rfl
 | succ k ih=>rw [bkK,wrN_get _ _ _ _ _ (by omega),ih]
theorem bkK_rd (k p l:Nat) (h:p+l≤772∨836≤p):rdN (bkK bs n k) p l=rdN bs p l:=rdN_congr l fun i h1 h2=>bkK_get bs n k i (by omega)
theorem bkK_lies (k p:Nat) (s:Str) (h:836≤p) (hs:LiesB bs p s):LiesB (bkK bs n k) p s:=lies_congr hs fun i h1 h2=>bkK_get bs n k i (by omega)
theorem bkK_at (hl:bs.length=25600) (k:Nat) (hk:k≤8) : ∀ q,q<k→rdN (bkK bs n k) (772+8*((n+q)%8)) 4=q:=by
 induction k with
 | zero=>intro q hq; omega
 | succ k ih =>
  have ih:=ih (by omega)
  intro q hq
  by_cases hqk:q=k
  ·subst hqk
   rw [bkK,rdN_wrN _ _ _ _ (by rw [bkK_len,hl]; omega)]; omega
  ·rw [bkK,aR _ _ _ _ _ _ (by omega)]; exact ih q (by omega)
end
def Ok (m k:Nat):List Bool:=List.replicate k false++List.replicate (m - k) true++List.replicate (8 - m) false
theorem Ok_zero : ∀ m,m<9→Ok m 0=tr m:=by decide
theorem Ok_all : ∀ m,m<9→Ok m m=tr 0:=by decide
theorem Ok_step : ∀ m,m<9→∀ k,k<m→Ok m (k+1)=(Ok m k).set k false:=by decide
theorem Ok_at : ∀ m,m<9→∀ k,k<m→(Ok m k)[k]? = some true:=by decide
--END
end Nj
end Go.Proofs.YtkkpahmoljiepaaGreatDoor
