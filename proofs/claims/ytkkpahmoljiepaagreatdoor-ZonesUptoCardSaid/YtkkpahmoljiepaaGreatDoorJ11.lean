/- Contracts: zone.isRight. -/
import Derived.Test.YtkkpahmoljiepaaGreatDoorJ10
import Derived.Test.YtkkpahmoljiepaaGreatDoorJ03
import Derived.Deep.RegionHeld
import Derived.Test.YtkkpahmoljiepaaGreatDoorJ09
set_option linter.unusedSimpArgs false
set_option linter.unusedVariables false
set_option maxRecDepth 1000000
set_option maxHeartbeats 12800000
namespace Go.Proofs.YtkkpahmoljiepaaGreatDoor
open Go.RowKit
open Pu (Str aH aU)
attribute [local go_sem] Oper.semAt_some undef
def rightOwner (o:Str) (rs:List Rec) (n:Str) (l:List Rec):Bool :=
 Sp.under n o && !(l.any (Rf.hasP 5) && decide (1<l.length)) && (n == o || !l.any (Rf.hasP 2) || rightCut rs n)
def rightP (o:Str) (rs:List Rec):Bool :=
 (runs aD rs).all (fun x=>Rg.rightSet x.2) && ((runs aG rs).all (fun x=>rightOwner o rs (aI x) x.2) && decide (0<(setP (ofP rs o) 2).length))
namespace Zg
open Ka Kd Rf Rg Ia Iow Ie Zb Zc Za Ze
theorem isRightSet_piece (l:List Rec) (b off:Nat) (w:World) (hr:bE w b off l) (hpos:0<l.length) (hl:l.length≤3001) :
  Calls Tryz.prog 108 #[.slice (some ⟨b,off,none⟩) l.length l.length] w fun e w'=>e=.returned (.bool (rightSet l))∧Below w.heap.size w w':=by
 cases l with
 | nil=>simp at hpos
 | cons r t=>exact isRightSet_any r t b off _ w hr hl (Nat.le_refl _)
theorem owners_o (a:Option Addr) (n c:Nat) (w:World) :
  Calls Tryz.prog 109 #[.slice a n c] w fun e w'=>e=.returned (.func (.func 179) #[] #[.pointer (some ⟨w.heap.size,0,none⟩)])∧w'.heap.size=w.heap.size+1∧Below w.heap.size w w'∧w'.cell? ⟨w.heap.size,0,none⟩=some (.slice a n c):=by
 refine (owners_any _ _ _ _).mono ?_
 rintro e w' ⟨rfl,rfl⟩
 exact ⟨rfl,by simp,(Below.refl _ _).alloc (Nat.le_refl _) _,by go_simp⟩
theorem isRight_any (b off cap:Nat) (o:Str) (rs:List Rec) (w:World) (hr:bE w b off rs) (hcap:rs.length≤cap) (hlen:rs.length≤3001) (hol:o.length≤3000) (ho : ∀ r∈rs,r.owner.length≤3000) :
  Calls Tryz.prog 60 #[.string (B o),.slice (some ⟨b,off,none⟩) rs.length cap] w fun e w'=>e=.returned (.bool (rightP o rs))∧Below w.heap.size w w':=by
 refine (callsIn_wide (n:=0)).1 ?_
 refine callsIn_of_wp_marks Tryz.func60 rfl trivial ?_
 simp only [Tryz.ntmps60,List.size_toArray,List.length_cons,List.length_nil,Nat.reduceAdd,Nat.reduceSub,Array.replicate_succ,Array.replicate_zero,List.push_toArray,List.append_toArray,List.nil_append,List.cons_append]
 have HR:=aH hr
 have HO:=aH ho
 have hb:=hr.1
 have hbx:Below w.heap.size w (((w.alloc (.cells #[.string (B o)] 9)).alloc (.cells #[.slice (some ⟨b,off,none⟩) rs.length cap] 41)).alloc (.cells #[.bool false] 4)):=(((Below.refl _ _).alloc (Nat.le_refl _) _).alloc (by simp) _).alloc (by simp; omega) _
 have HV:=aH (show RV _ (.slice (some ⟨b,off,none⟩) rs.length cap) rs from .inr ⟨b,off,cap,rfl,hcap,hr.below hbx⟩)
 clear hr ho
 gi_wp2_with fail
 refine ⟨trivial,rfl,?_⟩
 refine (callsIn_wide.2 (sets_o _ rs _ (aU HV))).mono ?_
 rintro e W2 ⟨rfl,e4,hb2,e2,e3⟩
 have e0:It.Box W2 w.heap.size (.string (B o)) 9:=(((It.Box.new _ _ _).alloc _).alloc _).below hb2 (by simp <;> omega)
 have e1:It.Box W2 (w.heap.size+1) (.slice (some ⟨b,off,none⟩) rs.length cap) 41:=by
  have:=((It.Box.new (w.alloc (.cells #[.string (B o)] 9)) (.slice (some ⟨b,off,none⟩) rs.length cap) 41).alloc (.cells #[.bool false] 4)).below hb2 (by simp <;> omega)
  rwa [World.size_alloc] at this
 have e1b:It.Box W2 (w.heap.size+1+1) (.bool false) 4:=by
  have:=(It.Box.new ((w.alloc (.cells #[.string (B o)] 9)).alloc (.cells #[.slice (some ⟨b,off,none⟩) rs.length cap] 41)) (.bool false) 4).below hb2 (by simp <;> omega)
  rwa [World.size_alloc,World.size_alloc] at this
 have e5:Below w.heap.size w W2:=hbx.trans (hb2.mono (by simp <;> omega))
 simp only [World.size_alloc] at e4 e2 e3
 clear hbx hb2 HV
 gi_wp2_with fail
 have hgrow : ∀ r,Below W2.heap.size W2 ((W2.alloc (.deferred (some []))).alloc (.loop r)):=fun r=>((Below.refl _ _).alloc (Nat.le_refl _) _).alloc (by simp) _
 have HR2:=aH ((aU HR).below e5)
 refine It.rangeB (xs:=runs aD rs) (encs:=fun x:Nat×List Rec=>#[.slice (some ⟨b,off+x.1*4,none⟩) x.2.length x.2.length]) (St:=fun A B=>Below A.heap.size A B) (Kp:=It.Keep3 (w.heap.size+1+1+1) (w.heap.size+1+1+1+1) b) (Kx:=fun _ _=>True)
  (gf:=233) (lb:=#[.pointer (some ⟨w.heap.size+1+1+1,0,none⟩),.pointer (some ⟨w.heap.size+1+1+1+1,0,none⟩)]) rfl (enters_of Tryz.func233 (by kernel_rfl) rfl) (fun _=>rfl) ?seq
  [w.heap.size+1+1+1,w.heap.size+1+1+1+1,b] (by simp; omega) (fun A B hA h=>h.mono hA) (fun A B h h'=>⟨h'.1,h _ (by simp),h _ (by simp),h _ (by simp)⟩) (fun _ _ _=>trivial)
  (fun i W=>((runs aD rs).drop i).all (fun x=>rightSet x.2)=(runs aD rs).all (fun x=>rightSet x.2)∧Below w.heap.size w W∧It.Box W w.heap.size (.string (B o)) 9∧It.Box W (w.heap.size+1) (.slice (some ⟨b,off,none⟩) rs.length cap) 41∧It.Box W (w.heap.size+1+1) (.bool false) 4)
  (fun c W=>c=.ret∧rightP o rs=false∧Below w.heap.size w W∧It.Box W (w.heap.size+1+1) (.bool false) 4)
  (fun i A B h hb=>⟨h.1,h.2.1.trans (hb.mono (by omega)),h.2.2.1.below hb (by omega),h.2.2.2.1.below hb (by omega),h.2.2.2.2.below hb (by omega)⟩)
  (fun c A B h hb=>⟨h.1,h.2.1,h.2.2.1.trans (hb.mono (by omega)),h.2.2.2.below hb (by omega)⟩)
  ⟨rfl,e5,e0,e1,e1b⟩
  ?round ?done ?stop
 case seq =>
  intro r
  have hg:=hgrow r
  exact Ib.seq b off cap _ _ rs _ ((hg.cell (p:=⟨w.heap.size+1+1+1,0,none⟩) (by show w.heap.size+1+1+1<W2.heap.size; omega)).trans e2) ((hg.cell (p:=⟨w.heap.size+1+1+1+1,0,none⟩) (by show w.heap.size+1+1+1+1<W2.heap.size; omega)).trans e3) ((aU HR2).below hg) (by have:=hg.size; omega) (by have:=hg.size; omega) hlen hcap
 case round =>
  intro l' i x V W hx hI hsz
  gi_wp2_with fail
  refine ⟨trivial,?_⟩
  obtain ⟨hf,hB,hn0,hn1,hc⟩:=hI
  have hmem:x∈runs aD rs:=List.mem_of_getElem? hx
  have hP:=bE.piece ((aU HR).below hB) hmem
  have hpos:=(runs_piece hmem).2.1
  have hrl:=runs_len hmem
  have hst:=all_step (p:=fun x=>rightSet x.2) hx
  rw [hf] at hst
  have HS:=aH hst
  have HC:=aH (isRightSet_piece x.2 b (off+x.1*4) W hP hpos (by omega))
  have HN0:=aH hn0
  have HN1:=aH hn1
  have HCB:=aH hc
  clear hf hst hn0 hn1 hc hmem hP
  cases hs:rightSet x.2
  ·have HF:Hid (rightP o rs=false):=by unfold rightP; rw [Hid,aU HS,hs]; rfl
   gi_wp2_with fail
   refine ⟨trivial,rfl,?_⟩
   refine (CallsIn.inRound l' (callsIn_wide.2 (aU HC))).mono ?_
   rintro e W4 ⟨rfl,hb4⟩
   have hb5:=(aU HCB).below hb4 (aU HCB).lt
   have cb:=hb5.cell
   have cf:=hb5.frozen
   have HB5:=aH hb5
   have hb4s:=hb4.size
   clear hb5
   gi_wp2_with fail
   exact ⟨(It.Above.of_grown hb4).trans (It.Above.setCell W4 _ _ (by omega)),rfl,aU HF,(hB.trans (hb4.mono hB.size)).setCell (by show w.heap.size≤w.heap.size+1+1; omega) _,(aU HB5).set _⟩
  ·have HF:Hid (((runs aD rs).drop (i+1)).all (fun x=>rightSet x.2)=(runs aD rs).all (fun x=>rightSet x.2)):=by rw [Hid,aU HS,hs]; rfl
   gi_wp2_with fail
   refine ⟨trivial,rfl,?_⟩
   refine (CallsIn.inRound l' (callsIn_wide.2 (aU HC))).mono ?_
   rintro e W4 ⟨rfl,hb4⟩
   have HN04:=aH ((aU HN0).below hb4 (aU HN0).lt)
   have HN14:=aH ((aU HN1).below hb4 (aU HN1).lt)
   have HCB4:=aH ((aU HCB).below hb4 (aU HCB).lt)
   gi_wp2_with fail
   exact ⟨It.Above.of_grown hb4,fun k hk=>hb4.block k (by simp at hk; omega),aU HF,hB.trans (hb4.mono hB.size),aU HN04,aU HN14,aU HCB4⟩
 case stop =>
  intro c W hI hdef hsz
  obtain ⟨rfl,hof,hB,hc⟩:=hI
  have HF:=aH hof
  clear hof
  have cb:=hc.cell
  gi_wp2_with fail
  refine ⟨by simp,.inl ⟨_,_,rfl,run_takeDeferred hdef,?_⟩⟩
  have cr:=(hc.put (d:=W2.heap.size) (o:=.deferred none) (by omega)).cell
  have hB':=hB.trans (belowK_b (w:=W2) (show w.heap.size≤W2.heap.size by omega) W _ _ (.deferred none) (Nat.le_refl _) hdef rfl rfl)
  exact ⟨.bool false,by simp [results,Tryz.results60,go_sem,cr],by rw [aU HF],hB'⟩
 case done =>
  intro W hI hdef hsz
  obtain ⟨hf,hB,hn0,hn1,hc⟩:=hI
  have hall:(runs aD rs).all (fun x=>rightSet x.2)=true:=by
   rw [← hf,List.drop_of_length_le (Nat.le_refl _)]; rfl
  have HRP:Hid (rightP o rs=((runs aG rs).all (fun x=>rightOwner o rs (aI x) x.2) && decide (0<(setP (ofP rs o) 2).length))):=by unfold rightP; rw [Hid,hall]; rfl
  clear hf hall
  have cn1:=hn1.cell
  have HN0:=aH hn0
  have HN1:=aH hn1
  have HCB:=aH hc
  clear hn0 hn1 hc
  gi_wp2_with fail
  refine ⟨trivial,rfl,?_⟩
  refine (callsIn_wide.2 (owners_o _ _ _ _)).mono ?_
  rintro e W5 ⟨rfl,e7,e8,e6⟩
  rw [e4] at hdef hsz
  have hBs:=hB.size
  have HR5:=aH (((aU HR).below hB).below e8)
  have I0:=aH ((aU HN0).below e8 (aU HN0).lt)
  have I1:=aH ((aU HN1).below e8 (aU HN1).lt)
  have I2:=aH ((aU HCB).below e8 (aU HCB).lt)
  clear cn1
  gi_wp2_with fail
  have hgrow5 : ∀ r,Below W5.heap.size W5 ((W5.alloc (.deferred (some []))).alloc (.loop r)):=fun r=>((Below.refl _ _).alloc (Nat.le_refl _) _).alloc (by simp) _
  have hgsz5 : ∀ r,((W5.alloc (.deferred (some []))).alloc (.loop r)).heap.size=W5.heap.size+2:=fun r=>by simp
  refine It.rangeB (xs:=runs aG rs) (encs:=fun x:Nat×List Rec=>#[.string (B (aI x)),.slice (some ⟨b,off+x.1*4,none⟩) x.2.length x.2.length]) (St:=fun A B=>Below (W5.heap.size+2) A B) (Kp:=fun A B=>B.heap[b]? = A.heap[b]?∧It.Above (W5.heap.size+2) A B) (Kx:=fun A B=>It.Above (W5.heap.size+2) A B)
   (gf:=179) (lb:=#[.pointer (some ⟨W.heap.size,0,none⟩)]) rfl (enters_of Tryz.func179 (by kernel_rfl) rfl) (fun _=>rfl) ?seq2
   [b] (by simp; omega) (fun _ _ _ h=>h) (fun A B h h'=>⟨h _ (by simp),h'⟩) (fun _ _ h=>h)
   (fun i V=>((runs aG rs).drop i).all (fun x=>rightOwner o rs (aI x) x.2)=(runs aG rs).all (fun x=>rightOwner o rs (aI x) x.2)∧Below w.heap.size w V∧It.Box V w.heap.size (.string (B o)) 9∧It.Box V (w.heap.size+1) (.slice (some ⟨b,off,none⟩) rs.length cap) 41∧It.Box V (w.heap.size+1+1) (.bool false) 4∧V.heap[w.heap.size+5]? = some (.deferred (some [])))
   (fun c V=>c=.ret∧rightP o rs=false∧Below w.heap.size w V∧It.Box V (w.heap.size+1+1) (.bool false) 4∧V.heap[w.heap.size+5]? = some (.deferred (some [])))
   (fun i A B h hb=>⟨h.1,h.2.1.trans (hb.mono (by omega)),h.2.2.1.below hb (by omega),h.2.2.2.1.below hb (by omega),h.2.2.2.2.1.below hb (by omega),(hb.block _ (by omega)).trans h.2.2.2.2.2⟩)
   (fun c A B h hb=>⟨h.1,h.2.1,h.2.2.1.trans (hb.mono (by omega)),h.2.2.2.1.below hb (by omega),(hb.block _ (by omega)).trans h.2.2.2.2⟩)
   ⟨rfl,hB.trans (e8.mono hBs),aU I0,aU I1,aU I2,(e8.block _ (by omega)).trans hdef⟩
   ?round2 ?done2 ?stop2
  case seq2 =>
   intro r
   have hg:=hgrow5 r
   have:=owners_seq b off cap W.heap.size rs ((W5.alloc (.deferred (some []))).alloc (.loop r)) ((hg.cell (p:=⟨W.heap.size,0,none⟩) (by show W.heap.size<W5.heap.size; omega)).trans e6) ((aU HR5).below hg) (by have:=hg.size; omega) hlen hcap
   rw [hgsz5 r] at this
   exact this
  case round2 =>
   intro l' i x V' V hx hI hsz2
   gi_wp2_with fail
   refine ⟨trivial,?_⟩
   obtain ⟨hf,hBV,hn0,hn1,hc,hd1⟩:=hI
   have hmem:x∈runs aG rs:=List.mem_of_getElem? hx
   have hP:=bE.piece ((aU HR).below hBV) hmem
   have hrl:=runs_len hmem
   obtain ⟨r,hrm,hro⟩:=owner_mem hmem
   have hxl:(aI x).length≤3000:=by rw [← hro]; exact aU HO r hrm
   have hst:=all_step (p:=fun x=>rightOwner o rs (aI x) x.2) hx
   rw [hf] at hst
   have HS:=aH hst
   have cn0:=hn0.cell
   have HN0:=aH hn0
   have HN1:=aH hn1
   have HCB2:=aH hc
   have HD1:=aH hd1
   have HP:=aH hP
   have HCU:Hid (Calls Tryz.prog 110 #[.string (B (aI x)),.string (B o)] V fun e w'=>e=.returned (.bool (Sp.under (aI x) o))∧w'=V) :=
    under_any (B (aI x)) (B o) V (by rw [size_B]; omega) (by rw [size_B]; omega)
   have HSTOP:Hid (rightOwner o rs (aI x) x.2=false→∀ W4,Below V.heap.size V W4→It.Above W5.heap.size V (W4.setCell ⟨w.heap.size+1+1,0,none⟩ (.bool false))∧rightP o rs=false∧Below w.heap.size w (W4.setCell ⟨w.heap.size+1+1,0,none⟩ (.bool false))∧It.Box (W4.setCell ⟨w.heap.size+1+1,0,none⟩ (.bool false)) (w.heap.size+1+1) (.bool false) 4∧(W4.setCell ⟨w.heap.size+1+1,0,none⟩ (.bool false)).heap[w.heap.size+5]? = some (.deferred (some []))):=by
    intro hs W4 hb4
    have hb4s:=hb4.size
    have HF:rightP o rs=false:=by rw [aU HRP,aU HS,hs]; rfl
    exact ⟨(It.Above.of_grown hb4).trans (It.Above.setCell W4 _ _ (by omega)),HF,(hBV.trans (hb4.mono hBV.size)).setCell (by show w.heap.size≤w.heap.size+1+1; omega) _,((aU HCB2).below hb4 (aU HCB2).lt).set _,(Below.heap_setCell _ _ _ _ (by show w.heap.size+5≠w.heap.size+1+1; omega)).trans ((hb4.block _ (by omega)).trans (aU HD1))⟩
   have HGO:Hid (rightOwner o rs (aI x) x.2=true→∀ W4,Below V.heap.size V W4→It.Above W5.heap.size V W4∧(∀ k∈[b],W4.heap[k]? = V.heap[k]?)∧(((runs aG rs).drop (i+1)).all (fun x=>rightOwner o rs (aI x) x.2)=(runs aG rs).all (fun x=>rightOwner o rs (aI x) x.2)∧Below w.heap.size w W4∧It.Box W4 w.heap.size (.string (B o)) 9∧It.Box W4 (w.heap.size+1) (.slice (some ⟨b,off,none⟩) rs.length cap) 41∧It.Box W4 (w.heap.size+1+1) (.bool false) 4∧W4.heap[w.heap.size+5]? = some (.deferred (some [])))):=by
    intro hs W4 hb4
    exact ⟨It.Above.of_grown hb4,fun k hk=>hb4.block k (by simp at hk; omega),by rw [aU HS,hs]; rfl,hBV.trans (hb4.mono hBV.size),(aU HN0).below hb4 (aU HN0).lt,(aU HN1).below hb4 (aU HN1).lt,(aU HCB2).below hb4 (aU HCB2).lt,(hb4.block _ (by omega)).trans (aU HD1)⟩
   have HBX:Hid (∀ W4,Below V.heap.size V W4→W4.cell? ⟨w.heap.size,0,none⟩=some (.string (B o))∧W4.cell? ⟨w.heap.size+1,0,none⟩=some (.slice (some ⟨b,off,none⟩) rs.length cap)∧W4.cell? ⟨w.heap.size+1+1,0,none⟩=some (.bool false)∧W4.frozen? ⟨w.heap.size+1+1,0,none⟩=false):=fun W4 hb4 =>
    ⟨((aU HN0).below hb4 (aU HN0).lt).cell,((aU HN1).below hb4 (aU HN1).lt).cell,((aU HCB2).below hb4 (aU HCB2).lt).cell,((aU HCB2).below hb4 (aU HCB2).lt).frozen⟩
   have hRVx:Hid (∀ W4,Below V.heap.size V W4→RV W4 (.slice (some ⟨b,off+x.1*4,none⟩) x.2.length x.2.length) x.2):=fun W4 hb4=>.inr ⟨b,off+x.1*4,x.2.length,rfl,Nat.le_refl _,(aU HP).below hb4⟩
   have HRV4:Hid (∀ W4,Below V.heap.size V W4→bE W4 b off rs):=fun W4 hb4=>((aU HR).below hBV).below hb4
   clear hf hst hn0 hn1 hc hmem hP hro hrm hd1
   have hBB:((B (aI x)).toList == (B o).toList)=(aI x == o):=B_inj
   cases hu:Sp.under (aI x) o
   ·have hs:rightOwner o rs (aI x) x.2=false:=by unfold rightOwner; rw [hu]; rfl
    have HE:=aH (aU HSTOP hs V (Below.refl _ _))
    obtain ⟨_,_,cb,cf⟩:=aU HBX V (Below.refl _ _)
    gi_wp2_with fail
    refine ⟨trivial,rfl,?_⟩
    refine (CallsIn.inRound l' (callsIn_wide.2 (aU HCU))).mono ?_
    rintro e V ⟨rfl,rfl⟩
    clear HSTOP HGO HBX hRVx HRV4 HCU HP HD1 HCB2 HN1 HN0 HS hs hBB hgsz5 hgrow5 I0 I1 I2 HR5 hx
    gi_wp2_with fail
    refine ⟨trivial,?_⟩
    gi_wp2_with fail
    exact ⟨(aU HE).1,rfl,(aU HE).2⟩
   cases h5:x.2.any (hasP 5) && decide (1<x.2.length)
   ·have hr1:Hid (rightOwner o rs (aI x) x.2=(aI x == o || !x.2.any (hasP 2) || rightCut rs (aI x))):=by unfold rightOwner; rw [hu,h5]; rfl
    have h5':(x.2.any (hasP 5)=false)∨(x.2.any (hasP 5)=true∧(x.2.length:Int)≤1):=by
     cases hh:x.2.any (hasP 5)
     ·exact .inl rfl
     ·rw [hh] at h5; simp at h5; exact .inr ⟨rfl,by omega⟩
    clear h5
    have HC5:=aH (fun W4 (h:Below V.heap.size V W4)=>has_any 5 _ x.2 W4 (aU hRVx W4 h) (by omega))
    have HC2:=aH (fun W4 (h:Below V.heap.size V W4)=>has_any 2 _ x.2 W4 (aU hRVx W4 h) (by omega))
    have HCC:=aH (fun W4 (h:Below V.heap.size V W4)=>isRightCut_any b off cap (aI x) rs W4 (aU HRV4 W4 h) hcap hlen hxl (aU HO))
    clear HS HP hRVx HRV4 HN0 HN1 HCB2 HD1
    cases hno:aI x == o
    ·rw [hno] at hBB
     cases h2:x.2.any (hasP 2)
     ·have hs:=aH (show rightOwner o rs (aI x) x.2=true by rw [aU hr1,hno,h2]; rfl)
      rcases h5' with h5 | ⟨h5,h5l⟩
      all_goals
       gi_wp2_with fail
       refine ⟨trivial,rfl,?_⟩
       refine (CallsIn.inRound l' (callsIn_wide.2 (aU HCU))).mono ?_
       rintro e V ⟨rfl,rfl⟩
       gi_wp2_with fail
       refine ⟨trivial,rfl,?_⟩
       refine (CallsIn.inRound l' (callsIn_wide.2 (aU HC5 _ (Below.refl _ _)))).mono ?_
       rintro e W4 ⟨rfl,hb4⟩
       obtain ⟨d0,d1,d2,d3⟩:=aU HBX W4 hb4
       gi_wp2_with fail
       refine ⟨trivial,rfl,?_⟩
       refine (CallsIn.inRound l' (callsIn_wide.2 (aU HC2 _ hb4))).mono ?_
       rintro e W6 ⟨rfl,hb6⟩
       have HE:=aH (aU HGO (aU hs) W6 (hb4.trans (hb6.mono hb4.size)))
       clear HGO
       gi_wp2_with fail
       refine ⟨trivial,?_⟩
       gi_wp2_with fail
       exact aU HE
     ·cases hct:rightCut rs (aI x)
      ·have hs:=aH (show rightOwner o rs (aI x) x.2=false by rw [aU hr1,hno,h2,hct]; rfl)
       rcases h5' with h5 | ⟨h5,h5l⟩
       all_goals
        gi_wp2_with fail
        refine ⟨trivial,rfl,?_⟩
        refine (CallsIn.inRound l' (callsIn_wide.2 (aU HCU))).mono ?_
        rintro e V ⟨rfl,rfl⟩
        gi_wp2_with fail
        refine ⟨trivial,rfl,?_⟩
        refine (CallsIn.inRound l' (callsIn_wide.2 (aU HC5 _ (Below.refl _ _)))).mono ?_
        rintro e W4 ⟨rfl,hb4⟩
        obtain ⟨d0,d1,d2,d3⟩:=aU HBX W4 hb4
        gi_wp2_with fail
        refine ⟨trivial,rfl,?_⟩
        refine (CallsIn.inRound l' (callsIn_wide.2 (aU HC2 _ hb4))).mono ?_
        rintro e W6 ⟨rfl,hb6⟩
        have hb46:=hb4.trans (hb6.mono hb4.size)
        obtain ⟨f0,f1,f2,f3⟩:=aU HBX W6 hb46
        gi_wp2_with fail
        refine ⟨trivial,rfl,?_⟩
        refine (CallsIn.inRound l' (callsIn_wide.2 (aU HCC _ hb46))).mono ?_
        rintro e W7 ⟨rfl,hb7⟩
        have hb47:=hb46.trans (hb7.mono hb46.size)
        obtain ⟨g0,g1,g2,g3⟩:=aU HBX W7 hb47
        have HE:=aH (aU HSTOP (aU hs) W7 hb47)
        clear HSTOP HGO
        gi_wp2_with fail
        exact ⟨(aU HE).1,rfl,(aU HE).2⟩
      ·have hs:=aH (show rightOwner o rs (aI x) x.2=true by rw [aU hr1,hno,h2,hct]; rfl)
       rcases h5' with h5 | ⟨h5,h5l⟩
       all_goals
        gi_wp2_with fail
        refine ⟨trivial,rfl,?_⟩
        refine (CallsIn.inRound l' (callsIn_wide.2 (aU HCU))).mono ?_
        rintro e V ⟨rfl,rfl⟩
        gi_wp2_with fail
        refine ⟨trivial,rfl,?_⟩
        refine (CallsIn.inRound l' (callsIn_wide.2 (aU HC5 _ (Below.refl _ _)))).mono ?_
        rintro e W4 ⟨rfl,hb4⟩
        obtain ⟨d0,d1,d2,d3⟩:=aU HBX W4 hb4
        gi_wp2_with fail
        refine ⟨trivial,rfl,?_⟩
        refine (CallsIn.inRound l' (callsIn_wide.2 (aU HC2 _ hb4))).mono ?_
        rintro e W6 ⟨rfl,hb6⟩
        have hb46:=hb4.trans (hb6.mono hb4.size)
        obtain ⟨f0,f1,f2,f3⟩:=aU HBX W6 hb46
        gi_wp2_with fail
        refine ⟨trivial,rfl,?_⟩
        refine (CallsIn.inRound l' (callsIn_wide.2 (aU HCC _ hb46))).mono ?_
        rintro e W7 ⟨rfl,hb7⟩
        have HE:=aH (aU HGO (aU hs) W7 (hb46.trans (hb7.mono hb46.size)))
        clear HSTOP HGO
        gi_wp2_with fail
        exact aU HE
    ·rw [hno] at hBB
     have hs:=aH (show rightOwner o rs (aI x) x.2=true by rw [aU hr1,hno]; rfl)
     rcases h5' with h5 | ⟨h5,h5l⟩
     all_goals
      gi_wp2_with fail
      refine ⟨trivial,rfl,?_⟩
      refine (CallsIn.inRound l' (callsIn_wide.2 (aU HCU))).mono ?_
      rintro e V ⟨rfl,rfl⟩
      gi_wp2_with fail
      refine ⟨trivial,rfl,?_⟩
      refine (CallsIn.inRound l' (callsIn_wide.2 (aU HC5 _ (Below.refl _ _)))).mono ?_
      rintro e W4 ⟨rfl,hb4⟩
      obtain ⟨d0,d1,d2,d3⟩:=aU HBX W4 hb4
      have HE:=aH (aU HGO (aU hs) W4 hb4)
      clear HSTOP HGO
      gi_wp2_with fail
      refine ⟨trivial,?_⟩
      gi_wp2_with fail
      refine ⟨trivial,?_⟩
      gi_wp2_with fail
      exact aU HE
   ·have hs:=aH (show rightOwner o rs (aI x) x.2=false by unfold rightOwner; rw [hu,h5]; rfl)
    rw [Bool.and_eq_true] at h5
    obtain ⟨h5a,h5b⟩:=h5
    have h5l:(1:Int)<(x.2.length:Int):=by simp at h5b; omega
    clear h5b
    have HC5:=aH (has_any 5 _ x.2 V (aU hRVx V (Below.refl _ _)) (by omega))
    gi_wp2_with fail
    refine ⟨trivial,rfl,?_⟩
    refine (CallsIn.inRound l' (callsIn_wide.2 (aU HCU))).mono ?_
    rintro e V ⟨rfl,rfl⟩
    gi_wp2_with fail
    refine ⟨trivial,rfl,?_⟩
    refine (CallsIn.inRound l' (callsIn_wide.2 (aU HC5))).mono ?_
    rintro e W4 ⟨rfl,hb4⟩
    obtain ⟨d0,d1,d2,d3⟩:=aU HBX W4 hb4
    have HE:=aH (aU HSTOP (aU hs) W4 hb4)
    clear HSTOP HGO
    gi_wp2_with fail
    exact ⟨(aU HE).1,rfl,(aU HE).2⟩
  case stop2 =>
   intro c V hI hdef2 hsz2
   obtain ⟨rfl,hof,hBV,hc,hd1⟩:=hI
   have HF:=aH hof
   clear hof
   have cb:=hc.cell
   gi_wp2_with fail
   refine ⟨by simp,.inl ⟨_,_,rfl,run_takeDeferred hdef2,?_⟩⟩
   have hd1':=(World.putObj_heap_other (w:=V) (o:=.deferred none) (show w.heap.size+5≠W5.heap.size by omega)).trans hd1
   refine ⟨by simp,.inl ⟨_,_,rfl,run_takeDeferred hd1',?_⟩⟩
   have cr:=((hc.put (d:=W5.heap.size) (o:=.deferred none) (by omega)).put (d:=w.heap.size+5) (o:=.deferred none) (by omega)).cell
   have hB1:=hBV.trans (belowK_b (w:=W5) (show w.heap.size≤W5.heap.size by omega) V _ _ (.deferred none) (Nat.le_refl _) hdef2 rfl rfl)
   have hB2:=hB1.trans (belowK_b (w:=w) (Nat.le_refl _) _ (w.heap.size+5) _ (.deferred none) (by omega) hd1' rfl rfl)
   exact ⟨.bool false,by simp [results,Tryz.results60,go_sem,cr],by rw [aU HF],hB2⟩
  case done2 =>
   intro V hI hdef2 hsz2
   rw [e7] at hdef2 hsz2
   obtain ⟨hf,hBV,hn0,hn1,hc,hd1⟩:=hI
   have hall:(runs aG rs).all (fun x=>rightOwner o rs (aI x) x.2)=true:=by
    rw [← hf,List.drop_of_length_le (Nat.le_refl _)]; rfl
   have HF:Hid (rightP o rs=decide (0<(setP (ofP rs o) 2).length)):=by rw [Hid,aU HRP,hall]; rfl
   clear hf hall
   have cn0:=hn0.cell
   have cn1:=hn1.cell
   have HRV:=aH ((aU HR).below hBV)
   have HCB2:=aH hc
   have HD1:=aH hd1
   have hmx:Tryz.prog.follows .mixedOrders=true:=by kernel_rfl
   clear hn0 hn1 hc hd1
   gi_wp2_with fail
   refine ⟨trivial,rfl,?_⟩
   refine (callsIn_wide.2 (set_any b off cap o 2 rs _ (aU HRV) hcap hlen)).mono ?_
   rintro e V2 ⟨⟨v,rfl,hv⟩,hb4⟩
   obtain ⟨a4,c4,rfl⟩:=hv.slice
   have hb5:=(aU HCB2).below hb4 (aU HCB2).lt
   have HB5:=aH hb5
   have HV4:=aH hb4
   have cb5:=hb5.cell
   have cf5:=hb5.frozen
   clear hv hb5 hb4
   gi_wp2_with fail
   have hb4:=aU HV4
   have hb4s:V.heap.size≤V2.heap.size:=hb4.size
   first | rw [e7] | skip
   have hd2':(V2.setCell ⟨w.heap.size+1+1,0,none⟩ (.bool (decide (0<(setP (ofP rs o) 2).length)))).heap[(W.heap.size+1)]? = some (.deferred (some [])) :=
    (Below.heap_setCell _ _ _ _ (by show (W.heap.size+1)≠w.heap.size+1+1; omega)).trans ((hb4.block _ (by show (W.heap.size+1)<V.heap.size; omega)).trans hdef2)
   refine ⟨by simp,.inl ⟨_,_,rfl,run_takeDeferred hd2',?_⟩⟩
   have hd1':((V2.setCell ⟨w.heap.size+1+1,0,none⟩ (.bool (decide (0<(setP (ofP rs o) 2).length)))).putObj (W.heap.size+1) (.deferred none)).heap[w.heap.size+5]? = some (.deferred (some [])) :=
    (World.putObj_heap_other (by omega)).trans ((Below.heap_setCell _ _ _ _ (by show w.heap.size+5≠w.heap.size+1+1; omega)).trans ((hb4.block _ (by show w.heap.size+5<V.heap.size; omega)).trans (aU HD1)))
   refine ⟨by simp,.inl ⟨_,_,rfl,run_takeDeferred hd1',?_⟩⟩
   have cr:=((((aU HB5).set (.bool (decide (0<(setP (ofP rs o) 2).length)))).put (d:=(W.heap.size+1)) (o:=.deferred none) (by omega)).put (d:=w.heap.size+5) (o:=.deferred none) (by omega)).cell
   have hB0:=(hBV.trans (hb4.mono hBV.size)).setCell (p:=⟨w.heap.size+1+1,0,none⟩) (by show w.heap.size≤w.heap.size+1+1; omega) (.bool (decide (0<(setP (ofP rs o) 2).length)))
   have hB1:=hB0.trans (belowK_b (w:=W) (show w.heap.size≤W.heap.size by omega) _ _ _ (.deferred none) (Nat.le_succ _) hd2' rfl rfl)
   have hB2:=hB1.trans (belowK_b (w:=w) (Nat.le_refl _) _ (w.heap.size+5) _ (.deferred none) (by omega) hd1' rfl rfl)
   refine ⟨_,by simp [results,Tryz.results60,go_sem,cr]; rfl,?_,hB2⟩
   refine ret_bool ?_
   rw [aU HF]
end Zg
end Go.Proofs.YtkkpahmoljiepaaGreatDoor

set_option maxRecDepth 1000000
set_option maxHeartbeats 12800000
namespace Go.Proofs.YtkkpahmoljiepaaGreatDoor
open Go.RowKit
open Pu (Str aH aU)
namespace Sa
open Ka Kd
theorem isNaN_str (s:ByteArray) (w:World):Calls Tryz.prog 174 #[.string s] w fun e w'=>e=.returned (.bool false)∧w'=w:=by
 go_enter Tryz.func174,Tryz.ntmps174
 go_wp2
 go_ret
 exact ⟨by simp,rfl⟩
def cmpS (a b:Str):Int:=if Op.bytesLess a b then -1 else if a == b then 0 else 1
theorem compare_str (s t:ByteArray) (w:World):Calls Tryz.prog 105 #[.string s,.string t] w fun e w'=>e=.returned (.int .i64 (cmpS s.data.toList t.data.toList))∧w'=w:=by
 go_enter Tryz.func105,Tryz.ntmps105
 go_wp2_with (go_at_call 174; refine (isNaN_str _ _).mono ?_; rintro e w ⟨rfl,rfl⟩)
 all_goals
  go_ret
  refine ⟨ret_int ?_,rfl⟩
  unfold cmpS
  simp only [ByteArray.toList_eq] at *
  simp_all
def orV (x y:Int):Int:=if x=0 then y else x
theorem or2 (x y:Int) (b c:Nat) (w:World) (h0:w.cell? ⟨b,0,none⟩=some (.int .i64 x)) (h1:w.cell? ⟨b,1,none⟩=some (.int .i64 y)) :
  Calls Tryz.prog 104 #[.slice (some ⟨b,0,none⟩) 2 c] w fun e w'=>e=.returned (.int .i64 (orV x y))∧w'=w:=by
 by_cases hx:x=0
 ·have hfin:Hid (orV x y=y):=if_pos hx
  subst hx
  by_cases hy:y=0
  ·subst hy
   go_enter Tryz.func104,Tryz.ntmps104
   go_wp2
   go_loop [8] (fun i=>∃ k:Nat,k≤2∧i=.int .i64 k) (fun i=>2 - (intOf i).toNat)
   case atStart=>exact ⟨0,by omega,rfl⟩
   case round =>
    obtain ⟨k,hk,rfl⟩:=hrel
    match k,hk with
    | 0,_ =>
     go_wp2
     go_round
     case rel=>exact ⟨1,by omega,by go_num⟩
     case measure=>simp [intOf]
    | 1,_ =>
     go_wp2
     go_round
     case rel=>exact ⟨2,by omega,by go_num⟩
     case measure=>simp [intOf]
    | 2,_ =>
     go_wp2
     go_ret
     exact ⟨ret_int (aU hfin).symm,rfl⟩
  ·have hyb:(y != 0)=true:=by rw [bne_iff_ne]; exact hy
   go_enter Tryz.func104,Tryz.ntmps104
   go_wp2
   go_loop [8] (fun i=>∃ k:Nat,k≤1∧i=.int .i64 k) (fun i=>2 - (intOf i).toNat)
   case atStart=>exact ⟨0,by omega,rfl⟩
   case round =>
    obtain ⟨k,hk,rfl⟩:=hrel
    match k,hk with
    | 0,_ =>
     go_wp2
     go_round
     case rel=>exact ⟨1,by omega,by go_num⟩
     case measure=>simp [intOf]
    | 1,_ =>
     go_wp2
     go_ret
     exact ⟨ret_int (aU hfin).symm,rfl⟩
 ·have hxb:(x != 0)=true:=by rw [bne_iff_ne]; exact hx
  have hfin:Hid (orV x y=x):=if_neg hx
  go_enter Tryz.func104,Tryz.ntmps104
  go_wp2
  go_loop [8] (fun i=>i=.int .i64 0) (fun i=>2 - (intOf i).toNat)
  case atStart=>rfl
  case round =>
   obtain rfl:=hrel
   go_wp2
   go_ret
   exact ⟨ret_int (aU hfin).symm,rfl⟩
def cmpR (r s:Rec):Int:=orV (cmpS r.owner s.owner) (Lib.compareInt r.type s.type)
theorem sorted1 (r s:Rec) (w:World) :
  Calls Tryz.prog 103 #[.agg #[.string (B r.owner),.int .i64 r.ttl,.int .i64 r.type,.string (B r.data)],.agg #[.string (B s.owner),.int .i64 s.ttl,.int .i64 s.type,.string (B s.data)]] w fun e w' =>
   e=.returned (.int .i64 (cmpR r s))∧∃ q os',w'=Sort.grow (w.drewN q) os':=by
 have hc1 : ∀ W,Calls Tryz.prog 105 #[.string (B r.owner),.string (B s.owner)] W fun e w'=>e=.returned (.int .i64 (cmpS r.owner s.owner))∧w'=W:=fun W=>compare_str _ _ W
 have hc2 : ∀ W,Calls Tryz.prog 106 #[.int .i64 r.type,.int .i64 s.type] W fun e w'=>e=.returned (.int .i64 (Lib.compareInt r.type s.type))∧w'=W:=fun W=>Tryz.cmp_Compare_int _ _ W
 have HC1:=aH hc1
 have HC2:=aH hc2
 have hfin:Hid (cmpR r s=orV (cmpS r.owner s.owner) (Lib.compareInt r.type s.type)):=rfl
 generalize cmpS r.owner s.owner=x at *
 generalize Lib.compareInt r.type s.type=y at *
 clear hc1 hc2
 go_enter Tryz.func103,Tryz.ntmps103
 go_wp2_with fail
 go_region_held (fun w'=>w'.cell? ⟨w.heap.size,0,none⟩=some (.string (B r.owner))∧w'.cell? ⟨w.heap.size,2,none⟩=some (.int .i64 r.type)∧w'.cell? ⟨w.heap.size+1,0,none⟩=some (.string (B s.owner))∧w'.cell? ⟨w.heap.size+1,2,none⟩=some (.int .i64 s.type)) (go_keep)
  (first
   | (go_at_call 105; refine (aU HC1 _).mono ?_; rintro e w' ⟨rfl,rfl⟩)
   | (go_at_call 106; refine (aU HC2 _).mono ?_; rintro e w' ⟨rfl,rfl⟩)
   | (go_at_call 104; refine (or2 x y _ _ _ (by go_simp) (by go_simp)).mono ?_; rintro e w' ⟨rfl,rfl⟩))
 all_goals
  go_wp2_with fail
  go_ret
  refine ⟨ret_int (aU hfin).symm,1,#[.cells #[.string (B r.owner),.int .i64 r.ttl,.int .i64 r.type,.string (B r.data)] 47,.cells #[.string (B s.owner),.int .i64 s.ttl,.int .i64 s.type,.string (B s.data)] 47,.cells #[.int .i64 x,.int .i64 y] 3],?_⟩
  rw [Sort.alloc_eq_grow,Sort.alloc_eq_grow,Sort.alloc_eq_grow,Sort.grow_grow,Sort.grow_grow]
  rfl
end Sa
end Go.Proofs.YtkkpahmoljiepaaGreatDoor

namespace Go.Proofs.YtkkpahmoljiepaaGreatDoor
open Go.RowKit Go.Sort
open Pu (Str aH aU)
def sortL (rs:List Rec):List Rec:=(Sort.insertionSort (ltOf Sa.cmpR) rs.toArray 0 rs.length).toList
namespace Sb
open Ka Kd Sa
theorem holdsK_of {w:World} {g:Nat} {cur:Array Value} {e:TypeId} {rs:List Rec} (hg:w.heap[g]? = some (.cells cur e)) (hr:bE w g 0 rs):HoldsK Rec.enc 4 w g 0 rs.toArray:=by
 intro j hj
 rw [size_flatK] at hj
 simp only [List.size_toArray] at hj
 rw [get_flatK _ _ _ _ (by simpa using hj)]
 refine ⟨?_,by simp [World.frozen?,hg]⟩
 have hj4:j/4<rs.length:=by omega
 have hlen:(Rec.enc rs[j/4]!).length=4:=rfl
 have h1:(Rec.enc rs[j/4]!)[j%4]? = some (Rec.enc rs[j/4]!)[j%4]!:=by
  have hk:j%4<(Rec.enc rs[j/4]!).length:=by rw [hlen]; omega
  rw [List.getElem?_eq_getElem hk,getElem!_pos (Rec.enc rs[j/4]!) (j%4) hk]
 have:=hr.2 (j/4) hj4 (j%4) _ h1
 rw [show 0+j/4*4+j%4=0+j from by omega] at this
 rw [this]
 simp
theorem recsAt_of_holds {w:World} {g:Nat} {rs:List Rec} (hg:g<w.heap.size) (h:HoldsK Rec.enc 4 w g 0 rs.toArray):bE w g 0 rs:=by
 refine ⟨hg,fun j hj i u hu=>?_⟩
 have hi:i<4:=by have:=(List.getElem?_eq_some_iff.1 hu).1; exact this
 have hc:=(h.cell (i:=j) (c:=i) (by simpa using hj) hi).1
 rw [hc]
 have e:rs.toArray[j]! = rs[j]!:=by simp
 rw [e]
 rw [List.getElem?_eq_some_iff] at hu
 obtain ⟨h1,h2⟩:=hu
 rw [getElem!_pos (Rec.enc rs[j]!) i h1,h2]
theorem cmpLays (blk off size:Nat) (w:World):CmpLays Tryz.prog 103 #[] Rec.enc 4 cmpR blk off size w :=
 fun _ _ _ _ x y=>sorted1 x y _
theorem size_ins (lt:Rec→Rec→Bool) (a:Nat) : ∀ (j:Nat) (d:Array Rec),(insInner lt a j d).size=d.size
 | 0,d=>rfl
 | j+1,d=>by
  rw [insInner]
  split
  ·rw [size_ins lt a j,size_swp]
  ·rfl
theorem size_out (lt:Rec→Rec→Bool) (a b:Nat) : ∀ (f i:Nat) (d:Array Rec),b - i≤f→(insOuter lt a b i d).size=d.size
 | 0,i,d,h=>by rw [insOuter,if_neg (by omega)]
 | f+1,i,d,h=>by
  rw [insOuter]
  split
  ·rw [size_out lt a b f _ _ (by omega),size_ins]
  ·rfl
theorem size_sort (lt:Rec→Rec→Bool) (d:Array Rec) (a b:Nat):(Sort.insertionSort lt d a b).size=d.size:=size_out lt a b _ _ d (Nat.le_refl _)
theorem sortL_len (rs:List Rec):(sortL rs).length=rs.length:=by
 unfold sortL; rw [Array.length_toList,size_sort]; simp
theorem all_swp {p:Rec→Prop} {d:Array Rec} (h : ∀ k,k<d.size→p d[k]!) {i j:Nat} (hi:i<d.size) (hj:j<d.size) : ∀ k,k<(swp d i j).size→p (swp d i j)[k]!:=by
 intro k hk
 rw [size_swp] at hk
 unfold swp
 have hk1:k<(d.setIfInBounds i d[j]!).size:=by simpa using hk
 have hk2:k<((d.setIfInBounds i d[j]!).setIfInBounds j d[i]!).size:=by simpa using hk
 rw [getElem!_pos _ k hk2,Array.getElem_setIfInBounds hk1]
 split
 ·exact h i hi
 ·rw [Array.getElem_setIfInBounds hk]
  split
  ·exact h j hj
  ·rw [← getElem!_pos d k hk]; exact h k hk
theorem all_ins {p:Rec→Prop} (lt:Rec→Rec→Bool) (a:Nat) : ∀ (j:Nat) (d:Array Rec),j<d.size→(∀ k,k<d.size→p d[k]!)→∀ k,k<(insInner lt a j d).size→p (insInner lt a j d)[k]!
 | 0,d,_,h=>h
 | j+1,d,hj,h=>by
  rw [insInner]
  split
  ·exact all_ins lt a j _ (by rw [size_swp]; omega) (all_swp h hj (by omega))
  ·exact h
theorem all_out {p:Rec→Prop} (lt:Rec→Rec→Bool) (a b:Nat) : ∀ (f i:Nat) (d:Array Rec),b - i≤f→b≤d.size→(∀ k,k<d.size→p d[k]!)→∀ k,k<(insOuter lt a b i d).size→p (insOuter lt a b i d)[k]!
 | 0,i,d,hf,hb,h=>by rw [insOuter,if_neg (by omega)]; exact h
 | f+1,i,d,hf,hb,h=>by
  rw [insOuter]
  split
  ·exact all_out lt a b f _ _ (by omega) (by rw [size_ins]; exact hb) (all_ins lt a i d (by omega) h)
  ·exact h
theorem sortL_all {p:Rec→Prop} {rs:List Rec} (h : ∀ r∈rs,p r) : ∀ r∈sortL rs,p r:=by
 intro r hr
 obtain ⟨k,hk,rfl⟩:=List.getElem_of_mem hr
 have hk':k<(Sort.insertionSort (ltOf cmpR) rs.toArray 0 rs.length).size:=by unfold sortL at hk; simpa using hk
 have:=all_out (p:=p) (ltOf cmpR) 0 rs.length _ 1 rs.toArray (Nat.le_refl _) (by simp) (fun k hk=>by
  have hk2:k<rs.length:=by simpa using hk
  have e:rs.toArray[k]! = rs[k]:=by simp [hk2]
  rw [e]; exact h _ (List.getElem_mem _)) k hk'
 have e:(sortL rs)[k]=(Sort.insertionSort (ltOf cmpR) rs.toArray 0 rs.length)[k]!:=by
  unfold sortL
  rw [getElem!_pos _ k hk']; simp
 exact e ▸ this
theorem below_sort {B g n:Nat} {a w:World} {dk:Array Rec} {os:Array Obj} (h:Below B a w) (hg:B≤g) (hB:B≤w.heap.size):Below B a (sortWorldK Rec.enc 4 w g 0 n dk os):=by
 refine h.trans ⟨rfl,rfl,rfl,?_,fun k hk=>?_⟩
 ·exact size_sortWorldK_c Rec.enc 4 w g 0 n dk os
 ·unfold sortWorldK putRowK putRow mapBlock Sort.grow Sort.ahead
  show ((w.heap.modify g _)++os)[k]? = w.heap[k]?
  rw [Array.getElem?_append_left (by rw [Array.size_modify]; omega),Array.getElem?_modify,if_neg (by omega)]
end Sb
end Go.Proofs.YtkkpahmoljiepaaGreatDoor

set_option maxRecDepth 1000000
set_option maxHeartbeats 12800000
namespace Go.Proofs.YtkkpahmoljiepaaGreatDoor
open Go.RowKit
open Pu (Str aH aU)
def parseP (t:Str):Option (Str×List Rec) :=
 (readZ t).bind fun x=>if Rf.startsR x.1 x.2 && rightP x.1 (sortL x.2) then some (x.1,sortL x.2) else none
def parseR (o:Option (Str×List Rec)) (base:Nat) (e:Ending) (w':World):Prop :=
 match o with
 | none=>e=.returned (.tuple #[.pointer none,.int .i64 1])
 | some (o,rs)=>∃ zb g cap,e=.returned (.tuple #[.pointer (some ⟨zb,0,none⟩),.int .i64 0])∧base≤zb∧base≤g∧aN w' zb o g 0 cap rs
namespace Pa
open Ka Kd Rf Rg Ia Iow Ie Zb Zc Za Ze Zg Re Sb
theorem clone_any (s:ByteArray) (w:World) (hs:s.size≤281474976710656) :
  Calls Tryz.prog 57 #[.string s] w fun e w'=>e=.returned (.string s)∧Below w.heap.size w w':=by
 go_enter Tryz.func57,Tryz.ntmps57
 go_wp2_with fail
 refine (Tryz.stringslite_Clone s w hs).mono ?_
 rintro e w1 ⟨rfl,hb⟩
 go_wp2_with fail
 go_ret
 exact ⟨rfl,hb⟩
theorem new_any (o:Str) (b off n cap:Nat) (w:World) :
  Calls Tryz.prog 61 #[.string (B o),.slice (some ⟨b,off,none⟩) n cap] w fun e w'=>e=.returned (.pointer (some ⟨w.heap.size,0,none⟩))∧Below w.heap.size w w'∧w.heap.size<w'.heap.size ∧
   w'.cell? ⟨w.heap.size,0,none⟩=some (.string (B o))∧w'.cell? ⟨w.heap.size,1,none⟩=some (.slice (some ⟨b,off,none⟩) n cap):=by
 go_enter Tryz.func61,Tryz.ntmps61
 go_wp2_with fail
 go_ret
 exact ⟨rfl,(Below.refl _ _).alloc (Nat.le_refl _) _,by simp,by go_simp,by go_simp⟩
theorem own_some {w:World} {base:Nat} {v:Value} {rs:List Rec} (h:RecsOwn w base v rs) (hne:rs≠[]) :
  ∃ g cap cur,v=.slice (some ⟨g,0,none⟩) rs.length cap∧base≤g∧w.heap[g]? = some (.cells cur 47)∧rs.length≤cap∧bE w g 0 rs:=by
 have hrv:=h.rv
 obtain ⟨⟨hlen,hv⟩,hnil⟩:=h
 rcases hv with ⟨rfl,h0⟩ | ⟨g,cap,cur,rfl,hb,hcur,hc,hm,hsz,htk⟩
 ·exact absurd (hnil.1 rfl) hne
 ·refine ⟨g,cap,cur,rfl,hb,hcur,hc,?_⟩
  rcases hrv with ⟨e,_⟩ | ⟨b',off',cap',e,_,hr⟩
  ·cases e
  ·cases e; exact hr
end Pa
def boolN:Value→Nat
 | .bool true=>1
 | _=>0
def aL (w:World) (rb:Nat) (c0 c1 c2 c3 c4:Value):Prop:=w.heap[rb]? = some (.cells #[c0,c1,c2,c3,c4] 43)
theorem aL.cells {w:World} {rb:Nat} {c0 c1 c2 c3 c4:Value} (h:aL w rb c0 c1 c2 c3 c4):w.cell? ⟨rb,0,none⟩=some c0∧w.cell? ⟨rb,1,none⟩=some c1∧w.cell? ⟨rb,2,none⟩=some c2∧w.cell? ⟨rb,3,none⟩=some c3∧w.cell? ⟨rb,4,none⟩=some c4:=by
 unfold aL at h
 refine ⟨?_,?_,?_,?_,?_⟩ <;> simp [World.cell?,h]
theorem aL.frozen {w:World} {rb:Nat} {c0 c1 c2 c3 c4:Value} (h:aL w rb c0 c1 c2 c3 c4) (i:Nat):w.frozen? ⟨rb,i,none⟩=false:=by
 unfold aL at h; simp [World.frozen?,h]
theorem aL.set0 {w:World} {rb:Nat} {c0 c1 c2 c3 c4:Value} (h:aL w rb c0 c1 c2 c3 c4) (x:Value):aL (w.setCell ⟨rb,0,none⟩ x) rb x c1 c2 c3 c4:=by
 unfold aL at *; simp only [World.setCell]; rw [Array.getElem?_modify,if_pos rfl,h]; rfl
theorem aL.set1 {w:World} {rb:Nat} {c0 c1 c2 c3 c4:Value} (h:aL w rb c0 c1 c2 c3 c4) (x:Value):aL (w.setCell ⟨rb,1,none⟩ x) rb c0 x c2 c3 c4:=by
 unfold aL at *; simp only [World.setCell]; rw [Array.getElem?_modify,if_pos rfl,h]; rfl
theorem aL.set2 {w:World} {rb:Nat} {c0 c1 c2 c3 c4:Value} (h:aL w rb c0 c1 c2 c3 c4) (x:Value):aL (w.setCell ⟨rb,2,none⟩ x) rb c0 c1 x c3 c4:=by
 unfold aL at *; simp only [World.setCell]; rw [Array.getElem?_modify,if_pos rfl,h]; rfl
theorem aL.set3 {w:World} {rb:Nat} {c0 c1 c2 c3 c4:Value} (h:aL w rb c0 c1 c2 c3 c4) (x:Value):aL (w.setCell ⟨rb,3,none⟩ x) rb c0 c1 c2 x c4:=by
 unfold aL at *; simp only [World.setCell]; rw [Array.getElem?_modify,if_pos rfl,h]; rfl
theorem aL.set4 {w:World} {rb:Nat} {c0 c1 c2 c3 c4:Value} (h:aL w rb c0 c1 c2 c3 c4) (x:Value):aL (w.setCell ⟨rb,4,none⟩ x) rb c0 c1 c2 c3 x:=by
 unfold aL at *; simp only [World.setCell]; rw [Array.getElem?_modify,if_pos rfl,h]; rfl
namespace Lj
open Ka Kd Rf Rg Ia Iow Ie Zb Zc Za La Lb Re Lc Le Lf Lg Lh Li Ld
end Lj
end Go.Proofs.YtkkpahmoljiepaaGreatDoor
