/- Contract: New, on Told's zone and Carried's config. -/
import Derived.Test.YtkkpahmoljiepaaGreatDoorJ35
import Derived.Deep.RegionWith
import Derived.Test.YtkkpahmoljiepaaGreatDoorJNv
import Derived.BigQuiet
import Derived.Test.YtkkpahmoljiepaaGreatDoorJ01
import Derived.WalkKit
import Derived.ProofKit
import Derived.OpenShut
import Derived.HandedShaped
import Derived.Lay
import Derived.Stop.Joined
import Derived.MakeChecks
import Derived.Shelf.Vars
set_option linter.unusedSimpArgs false
set_option linter.unusedVariables false
set_option maxRecDepth 1000000
set_option maxHeartbeats 12800000
namespace Go.Proofs.YtkkpahmoljiepaaGreatDoor
open Go.RowKit
open Pu (Str aH aU)
namespace Nk
open Ka Wa Wb Wc Wd We Wf Wg Wh Wi Wj Wk Wl Wm Ha Hb Hc Hh Re Qa Qb Qc Qd Qe Qf Qg Qh Qi Qj Qk Ql Qm Qn Qr Qq Qs Na Nc Nf Ng No
open Ta (headS zz)
open Va (linesT)
theorem isRight_mine (w:World):Calls Tryz.prog 87 #[.agg #[.string (B mine),.string (B ipMe)]] w fun e w'=>e=.returned (.bool true)∧Below w.heap.size w w':=by
 have s6:(B mine).size=6:=rfl
 have s4:(B ipMe).size=4:=rfl
 have g0 : ∀ h:0<(B mine).size,(B mine)[0]=2:=fun _=>rfl
 have b0:bits .and .u8 2 1=0:=by decide
 have HB:=aH ((Below.refl w.heap.size w).alloc (Nat.le_refl _) (.cells #[.string (B mine),.string (B ipMe)] 62))
 generalize B mine=m at *
 generalize B ipMe=i at *
 go_enter Tryz.func87,Tryz.ntmps87
 go_wp2
 go_ret
 exact ⟨rfl,aU HB⟩
abbrev bx:Obj:=.cells #[.pointer none] 73
abbrev mc (zb:Nat):Obj:=.cells #[.pointer (some ⟨zb,0,none⟩),.string (B mine),.string (B ipMe),.pointer none,.pointer none,.int .i64 0,.int .i64 0,.int .i64 0,.bool false] 165
theorem al_keep {X w3:World} (hb:Below (X.alloc bx).heap.size (X.alloc bx) w3):aB w3 X.heap.size [.pointer none] 73:=(hb.block X.heap.size (by simp)).trans (World.alloc_heap_new X bx)
theorem al_keep3 {X w3:World} (hb:Below (X.alloc bx).drew.heap.size (X.alloc bx).drew w3):aB w3 X.heap.size [.pointer none] 73:=al_keep (X:=X) ⟨hb.os,hb.tape,hb.output,hb.size,hb.block⟩
theorem al_keep2 {W w3:World} {k:Nat} (h:aB W k [.pointer none] 73) (hb:Below W.heap.size W w3):aB w3 k [.pointer none] 73:=(hb.block k h.lt).trans h
def Laid (W3:World) (zb xb b10:Nat):Prop:=aB W3 xb [.pointer (some ⟨zb,0,none⟩),.string (B mine),.string (B ipMe),.pointer none,.pointer none,.int .i64 0,.int .i64 0,.int .i64 0,.bool false] 165∧aB W3 b10 [.pointer (some ⟨xb,0,none⟩)] 73
theorem laidD2 {w':World} {zb:Nat} : Laid ((w'.alloc (mc zb)).alloc (.cells #[.pointer (some ⟨w'.heap.size,0,none⟩)] 73)) zb w'.heap.size (w'.heap.size+1):=by
 have h1:=aB.new (w'.alloc (mc zb)) [.pointer (some ⟨w'.heap.size,0,none⟩)] 73
 rw [World.size_alloc] at h1
 exact ⟨(Below.heap_alloc _ _ _ (by simp)).trans (World.alloc_heap_new w' _),h1⟩
theorem laidC2 {w':World} {zb:Nat} : Laid ((w'.alloc (.cells #[.pointer (some ⟨w'.heap.size+1,0,none⟩)] 73)).alloc (mc zb)) zb (w'.heap.size+1) w'.heap.size:=by
 have h1:=World.alloc_heap_new (w'.alloc (.cells #[.pointer (some ⟨w'.heap.size+1,0,none⟩)] 73)) (mc zb)
 rw [World.size_alloc] at h1
 exact ⟨h1,(aB.new w' [.pointer (some ⟨w'.heap.size+1,0,none⟩)] 73).alloc _⟩
theorem laidA2 {w':World} {zb b10:Nat} (h:aB w' b10 [.pointer none] 73):Laid ((w'.setCell ⟨b10,0,none⟩ (.pointer (some ⟨w'.heap.size,0,none⟩))).alloc (mc zb)) zb w'.heap.size b10:=by
 have h1:=World.alloc_heap_new (w'.setCell ⟨b10,0,none⟩ (.pointer (some ⟨w'.heap.size,0,none⟩))) (mc zb)
 rw [show (w'.setCell ⟨b10,0,none⟩ (.pointer (some ⟨w'.heap.size,0,none⟩))).heap.size=w'.heap.size by simp [World.setCell]] at h1
 exact ⟨h1,(aB.set h 0 (.pointer (some ⟨w'.heap.size,0,none⟩))).alloc _⟩
theorem bel2 {n:Nat} {w2 w4:World} (h:Below n w2 w4) (hn:n≤w4.heap.size) (o o':Obj):Below n w2 ((w4.alloc o).alloc o'):=(h.alloc hn o).alloc (by simp; omega) o'
theorem belA {n b:Nat} {w2 w4:World} (h:Below n w2 w4) (hn:n≤w4.heap.size) (hb:n≤b) (v:Value) (o:Obj):Below n w2 ((w4.setCell ⟨b,0,none⟩ v).alloc o):=(h.setCell (p:=⟨b,0,none⟩) hb v).alloc (by simp [World.setCell]; omega) o
theorem bel3 {w2 w3:World} (hb:Below w2.drew.heap.size w2.drew w3):Below w2.heap.size w2 w3:=(Below.refl _ _).drew.trans hb
theorem bel3' {w2 w3:World} (hb:Below (w2.alloc bx).drew.heap.size (w2.alloc bx).drew w3):Below w2.heap.size w2 w3:=(((Below.refl _ _).alloc (Nat.le_refl _) bx).drew).trans (hb.mono (by show w2.heap.size≤(w2.alloc bx).heap.size; simp))
theorem bel4 {w2 w3 w4:World} (h:Below w2.heap.size w2 w3) (hb:Below w3.heap.size w3 w4):Below w2.heap.size w2 w4:=h.trans (hb.mono h.size)
theorem bel4' {w2 w3 w4:World} (h:Below w2.heap.size w2 w3) (hb:Below (w3.alloc bx).heap.size (w3.alloc bx) w4):Below w2.heap.size w2 w4:=(h.alloc h.size bx).trans (hb.mono (by have:=h.size; simp; omega))
theorem new_told (s:ByteArray) (hd:s.data.toList=headS++linesT) (mb bb:Nat) (bs:Str) (w:World) (hg:G w) (hm:Qt.New w mb bb bs) :
  Calls Tryz.prog 43 #[.string s,.agg #[.string (B mine),.string (B ipMe)],.iface 71 (.pointer (some ⟨mb,0,none⟩))] w fun e w'=>∃ xb zb rb sb g cap base,e=.returned (.tuple #[.pointer (some ⟨xb,0,none⟩),.int .i64 0]) ∧
   Mac w' xb zb rb sb mb bb base mine ipMe (layB bs) false 0 276 8 0 (tr 8) 0 0 (tr 0) 0 0 0 false∧aN w' zb zz g 0 cap Va.recs∧(zb<xb∧g<xb∧xb<base∧base≤rb∧base≤sb∧w.heap.size≤zb∧w.heap.size≤g)∧(∀ i,i<w.heap.size→i≠mb→i≠bb→w'.heap[i]? = w.heap[i]?)∧w'.os=w.os∧w'.tape=w.tape∧w'.output=w.output:=by
 obtain ⟨hmlt,hblt⟩:=mem_lt (Qt.new_mem hm 0)
 obtain ⟨wB,hwB⟩ : ∃ wB,wB=(w.alloc (.cells #[.string (B mine),.string (B ipMe)] 62)).alloc (.cells #[.iface 71 (.pointer (some ⟨mb,0,none⟩))] 160):=⟨_,rfl⟩
 have hBB:Below w.heap.size w wB:=by rw [hwB]; exact ((Below.refl _ _).alloc (Nat.le_refl _) _).alloc (by simp) _
 have hsB:wB.heap.size=w.heap.size+2:=by rw [hwB]; simp
 have hc0:aB wB w.heap.size [.string (B mine),.string (B ipMe)] 62:=by rw [hwB]; exact (aB.new w _ _).alloc _
 have hc1:aB wB (w.heap.size+1) [.iface 71 (.pointer (some ⟨mb,0,none⟩))] 160:=by
  have:=aB.new (w.alloc (.cells #[.string (B mine),.string (B ipMe)] 62)) [.iface 71 (.pointer (some ⟨mb,0,none⟩))] 160
  rw [World.size_alloc] at this
  rw [hwB]; exact this
 have HP:=aH (parse_t s hd wB (hg.below hBB))
 have hm2:=new_below hm hBB
 rw [hwB] at HP
 have HBB:=aH hBB
 have HC0:=aH hc0
 have HC1:=aH hc1
 have HM:=aH hm2
 have HSB:=aH hsB
 have lm:(B mine).size≤281474976710656:=by rw [show (B mine).size=6 from rfl]; omega
 have li:(B ipMe).size≤281474976710656:=by rw [show (B ipMe).size=4 from rfl]; omega
 clear hg hm hBB hc0 hc1 hd hm2 hsB
 go_enter Tryz.func43,Tryz.ntmps43
 go_wp2_with fail
 refine (aU HP).mono ?_
 rw [← hwB]
 rintro e w1 ⟨zb,g,cap,rfl,hzb,hgb,hT,hb1⟩
 have hsB:=aU HSB
 have hB1:Below w.heap.size w w1:=(aU HBB).trans (hb1.mono (by omega))
 have hz1:=hb1.size
 have hC0:aB w1 w.heap.size [.string (B mine),.string (B ipMe)] 62:=(hb1.block _ (by omega)).trans (aU HC0)
 have hC1:aB w1 (w.heap.size+1) [.iface 71 (.pointer (some ⟨mb,0,none⟩))] 160:=(hb1.block _ (by omega)).trans (aU HC1)
 have hM1:=new_below (aU HM) hb1
 have d0:w1.cell? ⟨w.heap.size,0,none⟩=some (.string (B mine)):=aB.cell hC0 0 (by simp)
 have d1:w1.cell? ⟨w.heap.size,1,none⟩=some (.string (B ipMe)):=aB.cell hC0 1 (by simp)
 have HR:=aH (isRight_mine w1)
 have HT:=aH hT
 have HB1:=aH hB1
 have HC01:=aH hC0
 have HC11:=aH hC1
 have HM1:=aH hM1
 have HZ:Hid (w.heap.size+2≤zb∧w.heap.size+2≤g∧zb<w1.heap.size∧g<w1.heap.size∧w.heap.size+2≤w1.heap.size):=⟨by omega,by omega,hT.1,hT.2.2.2.2.1,by omega⟩
 clear HP hwB hsB HSB hb1 hz1 hT hB1 hC0 hC1 hM1 HC0 HC1 HM HBB hzb hgb
 go_wp2_with fail
 refine (aU HR).mono ?_
 rintro e w2 ⟨rfl,hb2⟩
 have hz2:=hb2.size
 have hC02:aB w2 w.heap.size [.string (B mine),.string (B ipMe)] 62:=(hb2.block _ (aU HC01).lt).trans (aU HC01)
 have hC12:aB w2 (w.heap.size+1) [.iface 71 (.pointer (some ⟨mb,0,none⟩))] 160:=(hb2.block _ (aU HC11).lt).trans (aU HC11)
 have hM2:=new_below (aU HM1) hb2
 have hT2:=(aU HT).below hb2
 have hB2:=(aU HB1).trans (hb2.mono (aU HB1).size)
 have f0:w2.cell? ⟨w.heap.size,0,none⟩=some (.string (B mine)):=aB.cell hC02 0 (by simp)
 have f1:w2.cell? ⟨w.heap.size,1,none⟩=some (.string (B ipMe)):=aB.cell hC02 1 (by simp)
 have HCL:=aH (fun (x:ByteArray) (W:World) (h:x.size≤281474976710656)=>Pa.clone_any x W h)
 have HREST:Hid (∀ (W3:World) (xb b10:Nat),Below w2.heap.size w2 W3→w2.heap.size≤xb→aB W3 xb [.pointer (some ⟨zb,0,none⟩),.string (B mine),.string (B ipMe),.pointer none,.pointer none,.int .i64 0,.int .i64 0,.int .i64 0,.bool false] 165→aB W3 b10 [.pointer (some ⟨xb,0,none⟩)] 73 →
   Calls Tryz.prog 88 #[.pointer (some ⟨xb,0,none⟩),.func (.func 89) #[] #[.pointer (some ⟨w.heap.size+1,0,none⟩),.pointer (some ⟨b10,0,none⟩)]] W3 fun e w'=>e=.returned (.tuple #[])∧w'.cell? ⟨b10,0,none⟩=some (.pointer (some ⟨xb,0,none⟩)) ∧
    ∃ rb sb base,Mac w' xb zb rb sb mb bb base mine ipMe (layB bs) false 0 276 8 0 (tr 8) 0 0 (tr 0) 0 0 0 false∧aN w' zb zz g 0 cap Va.recs∧(zb<xb∧g<xb∧xb<base∧base≤rb∧base≤sb∧w.heap.size≤zb∧w.heap.size≤g)∧(∀ i,i<w.heap.size→i≠mb→i≠bb→w'.heap[i]? = w.heap[i]?)∧w'.os=w.os∧w'.tape=w.tape∧w'.output=w.output):=fun W3 xb b10 hB3 hxl hX h10=>by
  obtain ⟨z1,z2,z3,z4,z5⟩:=aU HZ
  have hz3:=hB3.size
  have hgb:=gW_below W3 xb
  have hgs:=gW_size W3 xb
  have hM3:=new_below (new_below hM2 hB3) hgb
  have hX4:=(hgb.block xb hX.lt).trans hX
  have h104:=(hgb.block b10 h10.lt).trans h10
  have hC4:aB (gW W3 xb) (w.heap.size+1) [.iface 71 (.pointer (some ⟨mb,0,none⟩))] 160:=(hgb.block _ (by omega)).trans ((hB3.block _ (by omega)).trans hC12)
  have n10x:b10≠xb:=blk_ne h10 hX (by decide)
  have n10m:b10≠mb:=blk_ne h104 hM3.1 (by decide)
  have n10b:b10≠bb:=blk_ne h104 hM3.2.2 (by decide)
  have hT4:=((hT2.below hB3).below hgb)
  refine (guard_new xb (w.heap.size+1) b10 W3 (fun W'=>Mac W' xb zb (gW W3 xb).heap.size ((gW W3 xb).heap.size+1) mb bb (gW W3 xb).heap.size mine ipMe (layB bs) false 0 276 8 0 (tr 8) 0 0 (tr 0) 0 0 0 false∧(∀ i,i<(gW W3 xb).heap.size→i≠xb→i≠mb→i≠bb→W'.heap[i]? = (gW W3 xb).heap[i]?)∧W'.os=(gW W3 xb).os∧W'.tape=(gW W3 xb).tape∧W'.output=(gW W3 xb).output∧(gW W3 xb).heap.size+2≤W'.heap.size)
   ((new1_ok (w.heap.size+1) b10 xb zb mb bb mine ipMe bs (gW W3 xb) hC4 h104 hX4 hM3).mono (by
     rintro e W' ⟨rfl,hMac,hk,ho⟩
     refine ⟨rfl,⟨hMac,hk,ho⟩,(hk (W3.heap.size+1) (by omega) (by have:=hX.lt; omega) (by have:=(mem_lt (Qt.new_mem (new_below hM2 hB3) 0)).1; omega) (by have:=(mem_lt (Qt.new_mem (new_below hM2 hB3) 0)).2; omega)).trans (gW_two W3 xb)⟩))).mono ?_
  rintro e w' ⟨rfl,W',⟨hMac,hk,ho1,ho2,ho3,ho4⟩,hb2',rfl⟩
  have l10:=h10.lt
  have lX:=hX.lt
  have hsz:(W'.setCell ⟨W3.heap.size+1,0,none⟩ (.bool true)).heap.size=W'.heap.size:=by simp [World.setCell]
  have hMac2:Mac (W'.setCell ⟨W3.heap.size+1,0,none⟩ (.bool true)) xb zb (gW W3 xb).heap.size ((gW W3 xb).heap.size+1) mb bb (gW W3 xb).heap.size mine ipMe (layB bs) false 0 276 8 0 (tr 8) 0 0 (tr 0) 0 0 0 false:=by
   obtain ⟨⟨c1,h1⟩,⟨c2,h2⟩⟩:=mem_blk hMac.mem
   have hkk : ∀ i,i≠W3.heap.size+1→(W'.setCell ⟨W3.heap.size+1,0,none⟩ (.bool true)).heap[i]? = W'.heap[i]?:=fun i hne=>Below.heap_setCell _ _ _ _ hne
   exact ⟨mem_keep hMac.mem (W3.heap.size+1) _ _ hb2' (by decide) (by decide) (blk_ne hb2' h1 (by decide)) (blk_ne hb2' h2 (by decide)) (fun i _ hne=>hkk i hne),(hkk _ (blk_ne hMac.rr hb2' (by decide))).trans hMac.rr,(hkk _ (blk_ne hMac.sr hb2' (by decide))).trans hMac.sr,(hkk _ (blk_ne hMac.mac hb2' (by decide))).trans hMac.mac,by rw [hsz]; exact hMac.hb⟩
  have hkw : ∀ i,i<W3.heap.size→i≠xb→i≠mb→i≠bb→(W'.setCell ⟨W3.heap.size+1,0,none⟩ (.bool true)).heap[i]? = W3.heap[i]?:=fun i hi h1 h2 h3=>(Below.heap_setCell _ _ _ _ (by show i≠W3.heap.size+1; omega)).trans ((hk i (by omega) h1 h2 h3).trans (hgb.block i hi))
  refine ⟨rfl,(World.cell?_of_block (hkw b10 l10 n10x n10m n10b)).trans (aB.cell h10 0 (by simp)),_,_,_,hMac2,?_,⟨by omega,by omega,by omega,Nat.le_refl _,by omega,by omega,by omega⟩,fun i hi h2 h3=>?_,?_,?_,?_⟩
  ·have hTW:aN W3 zb zz g 0 cap Va.recs:=hT2.below hB3
   have ez:=hkw zb (by omega) (by omega) (by omega) (by omega)
   have eg:=hkw g (by omega) (by omega) (by omega) (by omega)
   exact ⟨by rw [hsz]; omega,(World.cell?_of_block ez).trans hTW.2.1,(World.cell?_of_block ez).trans hTW.2.2.1,hTW.2.2.2.1,Ia.bE.kept hTW.2.2.2.2 (by rw [hsz]; omega) eg⟩
  ·exact (hkw i (by omega) (by omega) h2 h3).trans ((hB3.block i (by omega)).trans (hB2.block i hi))
  ·exact ho1.trans (hgb.os.trans (hB3.os.trans hB2.os))
  ·exact ho2.trans (hgb.tape.trans (hB3.tape.trans hB2.tape))
  ·exact ho3.trans (hgb.output.trans (hB3.output.trans hB2.output))
 clear hb2 hC02 hC12 hM2 hT2 hB2 HT HB1 HC01 HC11 HM1 HR d0 d1
 have hmf : ∀ (fn:Fn) (first cap:Array Value) (w:World),(Instr.makeFunc fn first cap).run Tryz.prog w=.ok (.func fn first cap) w:=fun _ _ _ _=>rfl
 have hz12:w.heap.size<w2.heap.size:=by obtain ⟨_,_,_,_,z5⟩:=aU HZ; omega
 have f0':w2.drew.cell? ⟨w.heap.size,0,none⟩=some (.string (B mine)):=f0
 have f1':w2.drew.cell? ⟨w.heap.size,1,none⟩=some (.string (B ipMe)):=f1
 have hne0 : ¬ w.heap.size=w2.heap.size:=by omega
 have hdz:w2.drew.heap.size=w2.heap.size:=rfl
 go_wp2_with fail
 go_region_with
  (first | (go_at_call 57; (refine (aU HCL (B mine) _ lm).mono ?_; rintro e w3 ⟨rfl,hb3⟩; have hz3:=hb3.size; have s0:w3.cell? ⟨w.heap.size,0,none⟩=some (.string (B mine)):=(hb3.cell (p:=⟨w.heap.size,0,none⟩) (by first | (dsimp only; omega) | (simp <;> omega))).trans (by first | assumption | go_keep); have s1:w3.cell? ⟨w.heap.size,1,none⟩=some (.string (B ipMe)):=(hb3.cell (p:=⟨w.heap.size,1,none⟩) (by first | (dsimp only; omega) | (simp <;> omega))).trans (by first | assumption | go_keep); have hlw3:w.heap.size<w3.heap.size:=(by first | omega | (simp at hz3 <;> omega)); have hne3 : ¬ w.heap.size=w3.heap.size:=Nat.ne_of_lt hlw3; have hw3:Hid (Below w2.heap.size w2 w3):=(by first | exact bel3 hb3 | exact bel3' hb3); (first | (have p3:aB w3 w2.heap.size [.pointer none] 73:=al_keep3 hb3; have p3c:w3.cell? ⟨w2.heap.size,0,none⟩=some (.pointer none):=aB.cell p3 0 Nat.zero_lt_one; have p3f:=aB.frozen p3 0; have p3l:w2.heap.size<w3.heap.size:=p3.lt; have p3n : ¬ w2.heap.size=w3.heap.size:=Nat.ne_of_lt p3.lt) | skip))) | (go_at_call 57; (refine (aU HCL (B ipMe) _ li).mono ?_; rintro e w4 ⟨rfl,hb4⟩; have hz4:=hb4.size; have s0:w4.cell? ⟨w.heap.size,0,none⟩=some (.string (B mine)):=(hb4.cell (p:=⟨w.heap.size,0,none⟩) (by first | (dsimp only; omega) | (simp <;> omega))).trans (by first | assumption | go_keep); have s1:w4.cell? ⟨w.heap.size,1,none⟩=some (.string (B ipMe)):=(hb4.cell (p:=⟨w.heap.size,1,none⟩) (by first | (dsimp only; omega) | (simp <;> omega))).trans (by first | assumption | go_keep); have hlw4:w.heap.size<w4.heap.size:=(by first | omega | (simp at hz4 <;> omega)); have hne4 : ¬ w.heap.size=w4.heap.size:=Nat.ne_of_lt hlw4; have hw4:Hid (Below w2.heap.size w2 w4):=(by first | exact bel4 (aU hw3) hb4 | exact bel4' (aU hw3) hb4); (first | (have p4:aB w4 w2.heap.size [.pointer none] 73:=al_keep2 p3 hb4; have p4c:w4.cell? ⟨w2.heap.size,0,none⟩=some (.pointer none):=aB.cell p4 0 Nat.zero_lt_one; have p4f:=aB.frozen p4 0; have p4l:w2.heap.size<w4.heap.size:=p4.lt; have p4n : ¬ w2.heap.size=w4.heap.size:=Nat.ne_of_lt p4.lt) | (have q4:aB w4 w3.heap.size [.pointer none] 73:=al_keep hb4; have q4c:w4.cell? ⟨w3.heap.size,0,none⟩=some (.pointer none):=aB.cell q4 0 Nat.zero_lt_one; have q4f:=aB.frozen q4 0; have q4l:w3.heap.size<w4.heap.size:=q4.lt; have q4n : ¬ w3.heap.size=w4.heap.size:=Nat.ne_of_lt q4.lt) | skip))))
 all_goals
  have hz4':=(aU hw4).size
  go_wp2_with fail
  first
   | refine (aU HREST _ w4.heap.size w2.heap.size (belA (aU hw4) hz4' (Nat.le_refl _) _ _) hz4' (laidA2 p4).1 (laidA2 p4).2).mono ?_
   | refine (aU HREST _ w4.heap.size w3.heap.size (belA (aU hw4) hz4' (aU hw3).size _ _) hz4' (laidA2 q4).1 (laidA2 q4).2).mono ?_
   | refine (aU HREST _ w4.heap.size (w4.heap.size+1) (bel2 (aU hw4) hz4' _ _) hz4' laidD2.1 laidD2.2).mono ?_
   | refine (aU HREST _ (w4.heap.size+1) w4.heap.size (bel2 (aU hw4) hz4' _ _) (Nat.le_succ_of_le hz4') laidC2.1 laidC2.2).mono ?_
  rintro e w' ⟨rfl,hc10,rb,sb,base,hrest⟩
  have HRT:=aH hrest
  clear hrest HREST HCL
  go_wp2_with fail
  refine bodyPost_ret (v:=.tuple #[.pointer (some ⟨_,0,none⟩),.int .i64 0]) ?_ rfl ⟨_,zb,rb,sb,g,cap,base,rfl,aU HRT⟩
  simp [results,Tryz.results43,go_sem]
end Nk
namespace Nw
open Ka Kc Vb Vd Wa Wb Wc Wd We Wf Wg Wh Wi Wj Wk Wl Wm Ha Hb Hc Hh Hk Re Qa Qb Qc Qd Qe Qf Qg Qh Qi Qj Qk Ql Qm Qn Qo Qp Qr Qq Qs Qu Qv Qw Qx Na Nb Nc Nd Nee Nf Nh Ni Nj No Np Nq
open Nl Nt Nu Nv
open Ta (headS zz)
open Va (lineS linesT)
theorem served_any (hN : ∀ (s:ByteArray),s.data.toList=headS++linesT→∀ (mb bb:Nat) (bs:Str) (w:World),G w→Qt.New w mb bb bs →
   Calls Tryz.prog 43 #[.string s,.agg #[.string (B mine),.string (B ipMe)],.iface 71 (.pointer (some ⟨mb,0,none⟩))] w fun e w'=>∃ xb zb rb sb g cap base,e=.returned (.tuple #[.pointer (some ⟨xb,0,none⟩),.int .i64 0]) ∧
    Mac w' xb zb rb sb mb bb base mine ipMe (layB bs) false 0 276 8 0 (tr 8) 0 0 (tr 0) 0 0 0 false∧aN w' zb zz g 0 cap Va.recs∧(zb<xb∧g<xb∧xb<base∧base≤rb∧base≤sb∧w.heap.size≤zb∧w.heap.size≤g)∧(∀ i,i<w.heap.size→i≠mb→i≠bb→w'.heap[i]? = w.heap[i]?)∧w'.os=w.os∧w'.tape=w.tape∧w'.output=w.output)
  (al:List Int) (adr:Option Addr) (acap ab ao:Nat) (batch:Int) (back:Bool) (w:World) (hg:G w) (hal : ∀ a∈al,-9223372036854775808≤a∧a≤9223372036854775807) (hb1 : -9223372036854775808≤batch) (hb2:batch≤9223372036854775807) (hln:al.length≤9223372036854775807)
  (hadr:al≠[]→adr=some ⟨ab,ao,none⟩∧ab<w.heap.size) (hcell : ∀ k (h:k<al.length),w.cell? ⟨ab,ao+k,none⟩=some (.int .i64 al[k])) :
  Calls Tryz.prog 13 #[.slice adr al.length acap,.int .i64 batch,.bool back] w fun e w'=>e=.returned (.bool true)∧Below w.heap.size w w':=by
 have HG:=aH hg
 have HN:=aH hN
 have HAL:=aH hal
 have HAD:=aH hadr
 have HCE:=aH hcell
 obtain ⟨p8,hp8,hp8l⟩:=pick_nat batch 8 (by decide)
 have HPB:Hid (∀ W,Calls Tryz.prog 20 #[.int .i64 batch,.int .i64 8] W fun e w'=>e=.returned (.int .i64 p8)∧w'=W):=fun W=>by
  have:=pick_any batch 8 W hb1 hb2 (by decide) (by decide)
  rw [show Pu.pick batch 8=(p8:Int) from hp8] at this; exact this
 have HL1:Hid (∀ W,Calls Tryz.prog 23 #[.int .i64 1] W fun e w'=>e=.returned (.string (B (lineS 49)))∧Below W.heap.size W w'):=fun W=>line_any 1 W (by omega) (by omega)
 have HL2:Hid (∀ W,Calls Tryz.prog 23 #[.int .i64 2] W fun e w'=>e=.returned (.string (B (lineS 50)))∧Below W.heap.size W w'):=fun W=>line_any 2 W (by omega) (by omega)
 have HL3:Hid (∀ W,Calls Tryz.prog 23 #[.int .i64 3] W fun e w'=>e=.returned (.string (B (lineS 51)))∧Below W.heap.size W w'):=fun W=>line_any 3 W (by omega) (by omega)
 have z1:(B (lineS 49)).size=19:=rfl
 have z2:(B (lineS 50)).size=19:=rfl
 have z3:(B (lineS 51)).size=19:=rfl
 have hM:(B (lineS 49)++B (lineS 50)++B (lineS 51)).data.toList=linesT:=by simp [B,linesT]
 have HM:=aH (made_t _ hM)
 obtain ⟨hB,hhB⟩ : ∃ hB:ByteArray,hB=⟨headS.toArray⟩:=⟨_,rfl⟩
 have hhd:(⟨#[111,114,105,103,105,110,32,122,122,10,122,122,32,53,48,32,83,79,65,32,97,46,122,122,32,98,46,122,122,32,57,32,52,48,10,122,122,32,53,48,32,78,83,32,97,46,122,122,10]⟩:ByteArray)=hB:=by rw [hhB]; rfl
 have hhs:hB.size=49:=by rw [hhB]; rfl
 have HT:Hid ((hB++B (lineS 49)++B (lineS 50)++B (lineS 51)).data.toList=headS++linesT):=by rw [Hid,hhB,← hM]; simp
 clear hM hg hN hal hadr hcell hp8 hb1 hb2 hhB
 go_enter Tryz.func13,Tryz.ntmps13
 go_wp2_with fail
 refine (aU HL1 _).mono ?_
 rintro e w1 ⟨rfl,hb1⟩
 generalize B (lineS 49)=L1 at *
 go_wp2_with fail
 refine (aU HL2 _).mono ?_
 rintro e w2 ⟨rfl,hb2⟩
 generalize B (lineS 50)=L2 at *
 have hB2:Below w.heap.size w w2:=hb1.trans (hb2.mono hb1.size)
 clear hb1 hb2
 go_wp2_with fail
 refine (aU HL3 _).mono ?_
 rintro e w3 ⟨rfl,hb3⟩
 generalize B (lineS 51)=L3 at *
 have hB3:Below w.heap.size w w3:=hB2.trans (hb3.mono hB2.size)
 clear hB2 hb3
 go_wp2_with fail
 refine (aU HM w3 ((aU HG).below hB3)).mono ?_
 rintro e w4 ⟨zb1,g1,cap1,rfl,hz4,hb4⟩
 have hB4:Below w.heap.size w w4:=hB3.trans (hb4.mono hB3.size)
 have HZ1:=aH hz4
 have HB4:=aH hB4
 have HFR:Hid (Calls Tryz.prog 42 #[.slice (some ⟨w4.heap.size,0,none⟩) 3 3] (w4.alloc (.cells #[.int .u8 255,.int .u8 1,.int .u8 7] 5)) _) :=
  Qt.fresh_mem w4.heap.size 3 255 1 7 (w4.alloc (.cells #[.int .u8 255,.int .u8 1,.int .u8 7] 5)) (aB.cell (aB.new w4 [.int .u8 255,.int .u8 1,.int .u8 7] 5) 0 (by simp)) (aB.cell (aB.new w4 [.int .u8 255,.int .u8 1,.int .u8 7] 5) 1 (by simp)) (aB.cell (aB.new w4 [.int .u8 255,.int .u8 1,.int .u8 7] 5) 2 (by simp)) (by simp)
 have hBa:Below w4.heap.size w4 (w4.alloc (.cells #[.int .u8 255,.int .u8 1,.int .u8 7] 5)):=(Below.refl _ _).alloc (Nat.le_refl _) _
 have HBA:=aH hBa
 have hw4:=hB4.size
 have hz0:0<w.heap.size:=(aU HG).1
 have HPN:Hid (∀ (bs0:Str) (w5:World),Qt.New w5 ((w4.alloc (.cells #[.int .u8 255,.int .u8 1,.int .u8 7] 5)).heap.size+1) (w4.alloc (.cells #[.int .u8 255,.int .u8 1,.int .u8 7] 5)).heap.size bs0→Below (w4.alloc (.cells #[.int .u8 255,.int .u8 1,.int .u8 7] 5)).heap.size (w4.alloc (.cells #[.int .u8 255,.int .u8 1,.int .u8 7] 5)) w5 →
   Pre w (w5.alloc (.cells #[.string ⟨#[2,109,121,109,97,99]⟩,.string ⟨#[10,0,0,1]⟩] 62)) zb1 g1 cap1 w5.heap.size ((w4.alloc (.cells #[.int .u8 255,.int .u8 1,.int .u8 7] 5)).heap.size+1) (w4.alloc (.cells #[.int .u8 255,.int .u8 1,.int .u8 7] 5)).heap.size bs0∧zb1<w4.heap.size∧g1<w4.heap.size∧w4.heap.size+1<w5.heap.size∧(w4.alloc (.cells #[.int .u8 255,.int .u8 1,.int .u8 7] 5)).heap.size=w4.heap.size+1):=fun bs0 w5 hNw hb5=>by
  have hsA:(w4.alloc (.cells #[.int .u8 255,.int .u8 1,.int .u8 7] 5)).heap.size=w4.heap.size+1:=by simp
  have h45:Below w4.heap.size w4 w5:=hBa.trans (hb5.mono (by omega))
  have hB5:Below w.heap.size w w5:=hB4.trans (h45.mono hw4)
  have h56:Below w5.heap.size w5 (w5.alloc (.cells #[.string ⟨#[2,109,121,109,97,99]⟩,.string ⟨#[10,0,0,1]⟩] 62)):=(Below.refl _ _).alloc (Nat.le_refl _) _
  have l5:=aF.lt hNw.1
  exact ⟨⟨((aU HZ1).below h45).below h56,((aU HG).below hB5).below h56,aB.new w5 [.string (B mine),.string (B ipMe)] _,Ng.new_below hNw h56,hB5.trans (h56.mono hB5.size)⟩,(aU HZ1).1,(aU HZ1).2.2.2.2.1,by omega,hsA⟩
 clear hz4 hB3 hb4 hB4 HM hBa
 go_wp2_with fail
 refine (aU HFR).mono ?_
 rintro e w5 ⟨bs0,rfl,hNw,hb5⟩
 obtain ⟨hPre,lz1,lg1,l45,hsA⟩:=aU HPN bs0 w5 hNw hb5
 generalize (w4.alloc (.cells #[.int .u8 255,.int .u8 1,.int .u8 7] 5)).heap.size=bb at *
 generalize hmb:bb+1=mb at *
 have HPRE:=aH hPre
 have hmbl:w.heap.size≤mb∧w.heap.size≤bb:=by omega
 have hzn:zb1≠mb∧zb1≠bb∧g1≠mb∧g1≠bb∧w5.heap.size≠mb∧w5.heap.size≠bb:=by
  have:=aF.lt hNw.1
  omega
 have HML:=aH hmbl
 have HZN:=aH hzn
 clear HFR HPN HB4 HBA hNw hb5 hPre lz1 lg1 l45 hsA hmb hmbl hzn HZ1 hw4
 have hP0:Hid (Pre w (w5.alloc (.cells #[.string ⟨#[2,109,121,109,97,99]⟩,.string ⟨#[10,0,0,1]⟩] 62)).drew zb1 g1 cap1 w5.heap.size mb bb bs0):=(aU HPRE).next (Below.refl _ _).drew
 have hS0:=(aU hP0).cells
 have HNN:=aH (fun W (h:Pre w W zb1 g1 cap1 w5.heap.size mb bb bs0)=>aU HN _ (aU HT) mb bb bs0 W h.gl h.nw)
 clear HN HG HPRE
 go_wp2_with fail
 generalize w5.heap.size=cb at *
 go_region_held (fun w'=>w'.cell? ⟨cb,0,none⟩=some (.string ⟨#[2,109,121,109,97,99]⟩)∧w'.cell? ⟨cb,1,none⟩=some (.string ⟨#[10,0,0,1]⟩)) (first | assumption | go_keep)
  (first | (go_at_call_of 23 (Value.int IntKind.i64 1); (refine (aU HL1 _).mono ?_; rintro e w7 ⟨rfl,hb7⟩; have hP1:=aH ((aU hP0).next hb7); have hS1:=(aU hP1).cells)) | (go_at_call_of 23 (Value.int IntKind.i64 2); (refine (aU HL2 _).mono ?_; rintro e w8 ⟨rfl,hb8⟩; have hP2:=aH ((aU hP1).next hb8); have hS2:=(aU hP2).cells)) | (go_at_call_of 23 (Value.int IntKind.i64 3); (refine (aU HL3 _).mono ?_; rintro e w9 ⟨rfl,hb9⟩; have hP3:=aH ((aU hP2).next hb9); have hS3:=(aU hP3).cells)) | (go_at_call 43; (refine (aU HNN _ (aU hP3)).mono ?_; rintro e w10 ⟨xb,zb,rb,sb,g,cap,base,rfl,hMac,hT,hord,hk,o1,o2,o3⟩; have hPO:=aH ((aU hP3).post hz0 (aU HML) hMac hT hord hk o1 o2 o3 (aU HZN)); have hS4:w10.cell? ⟨cb,0,none⟩=some (.string ⟨#[2,109,121,109,97,99]⟩)∧w10.cell? ⟨cb,1,none⟩=some (.string ⟨#[10,0,0,1]⟩):=⟨aB.cell (aU hPO).st.c 0 (by simp),aB.cell (aU hPO).st.c 1 (by simp)⟩)))
 all_goals
  clear hb7 hb8 hb9 hP0 hP1 hP2 hP3 hS0 hS1 hS2 hS3 hMac hT hord hk o1 o2 o3 HNN HL1 HL2 HL3 HT hhd hhs z1 z2 z3 hS4
  have HS1:=aH (set_any mb bb base 258 2 0 false 0 276 _ w10 (aU hPO).mac.mem (by omega) (by omega) (by omega))
  go_wp2_with fail
  refine (aU HS1).mono ?_
  rintro e w11 ⟨rfl,hm11,hk11,hz11⟩
  have HS2:=aH (set_any mb bb base 770 2 0 false 0 276 _ w11 hm11 (by omega) (by omega) (by omega))
  have HK11:=aH hk11
  clear hm11 hk11 HS1
  go_wp2_with fail
  refine (aU HS2).mono ?_
  rintro e w12 ⟨rfl,hm12,hk12,hz12⟩
  obtain ⟨hGo,hSI⟩:=(aU hPO).go hm12 (aU HK11) hk12 back
  have HGO:=aH hGo
  have HSI:=aH hSI
  clear hm12 hk12 hGo hSI HS2 HK11 hPO hz11 hz12 HML HZN hz0
  go_wp2_with fail
  refine (aU HPB _).mono ?_
  rintro e w12 ⟨rfl,rfl⟩
  obtain ⟨size,hsize⟩ : ∃ size:Nat,size=1+p8:=⟨_,rfl⟩
  have hsI:(1:Int)+(p8:Int)=(size:Int):=by omega
  have hs1:0<size:=by omega
  have hs8:size≤8:=by omega
  clear hsize HPB
  go_wp2_with fail
  refine loop1 w w12 zb1 g1 cap1 cb xb zb rb sb mb bb g cap base al adr acap ab ao size back _ w12 (aU HGO) (aU HAL) (aU HAD) (aU HCE) hln hs1 hs8 (aU HSI) ?_
  rintro u13 u14 u15 u16 u17 u18 u19 u20 u21 u22 u23 u24 u25 u26 u27 u28 u29 u30 u31 u71 u72 u73 u74 u75 u76 u77 u78 u79 u80 u81 u82 u83 u84 u85 u86 u87 u88 u89 u90 u91 u92 u93 u94 u95 u96 u97 u98 u99 uDW uDX uDY uDZ uEA uEB uEC uED uEE uEF uEG uEH uEI uEJ uEK uEL uEM uEN uEO uEP uEQ uER uES uET uEU uEV uEW uEX uEY uEZ uFA uFB uFC uFD uFE uFF uFG uFH uFI uFJ uFK uFL uFM uFN uFO uFP uFQ uFR uFS uFT uFU uFV uFW uFX uFY uFZ uGA uGB uGC uGD uGE uGF uGG uGH uGI uGJ uGK uGL uGM uGN uGO uGP uGQ uGR uGS uGT uGU uGV uGW uGX uGY uGZ uHA uHB uHC uHD uHE uHF uHG uHH uHI uHJ uHK uHL uHM uHN uHO uHP uHQ uHR uHS uHT uHU uHV uHW uHX uHY uHZ uIA uIB uIC uID uIE uIF uIG uIH uII uIJ uIK uIL uIM uIN uIO uIP uIQ uIR uIS uIT uIU uIV uIW uIX uIY uIZ uJA uJB uJC uJD uJE uJF uJG uJH uJI uJJ uJK uJL uJM uJN uJO uJP uJQ uJR uJS uJT uJU uJV uJW uJX uJY uJZ uKA uKB uKC uKD uKE uKF uKG uKH uKI uKJ uKK uKL uKM uKN uKO uKP uKQ uKR uKS uKT uKU uKV uKW uKX uKY uKZ uLA uLB uLC uLD uLE uLF uLG uLH uLI uLJ uLK uLL uLM uLN uLO uLP uLQ uLR uLS uLT uLU uLV uLW uLX uLY uLZ w' hF
  have HB:=aH ((aU HGO).end hF)
  clear hF HGO HSI HAL HAD HCE
  go_wp2_with fail
  go_ret
  exact ⟨rfl,aU HB⟩
theorem served (al:List Int) (adr:Option Addr) (acap ab ao:Nat) (batch:Int) (back:Bool) (w:World) (hg:G w) (hal : ∀ a∈al,-9223372036854775808≤a∧a≤9223372036854775807) (hb1 : -9223372036854775808≤batch) (hb2:batch≤9223372036854775807) (hln:al.length≤9223372036854775807)
  (hadr:al≠[]→adr=some ⟨ab,ao,none⟩∧ab<w.heap.size) (hcell : ∀ k (h:k<al.length),w.cell? ⟨ab,ao+k,none⟩=some (.int .i64 al[k])) :
  Calls Tryz.prog 13 #[.slice adr al.length acap,.int .i64 batch,.bool back] w fun e w'=>e=.returned (.bool true)∧Below w.heap.size w w' :=
 served_any Nk.new_told al adr acap ab ao batch back w hg hal hb1 hb2 hln hadr hcell
end Nw
end Go.Proofs.YtkkpahmoljiepaaGreatDoor

namespace Go.Proofs.YtkkpahmoljiepaaGreatDoor
open Go.ChangeShapes Go.WideShapes Go.ChangeAt Go.RowKit
namespace Uw
variable {H:Type} {enc:TypeId×Value→H}
theorem wrap {a:Assume} {C:Checked} {os:Os} {f:FuncId} {fn:Func} {s:ChangeSpec} {conds:List PathCond} {apart fresh handsOn again:Bool} {X:World→Array Value→Prop}
  (hX : ∀ (w w':World) (args:Array Value),w.heap=w'.heap→X w args→X w' args)
  (own:ownKnob C.prog.godebug=none) (started:os.Started) (noInit:C.prog.inits.idxOf? f=none) (hfn:C.prog.funcs[f]? = some fn)
  (witness : ∃ (w:World) (tape:Tape) (i:Input),w.os=os∧(w.forCall tape i).Shaped C.prog∧i.vars = []∧Input.okWide C.prog (w.forCall tape i) .any w.heap.size f i ∧
   ((s.pre enc C.prog fn conds apart (w.forCall tape i).memory i.args∧X (w.forCall tape i).memory i.args)∧sizedMet enc C.prog fn (OpenSpec.ofChange s) apart (w.forCall tape i).memory i.args)∧a.holds C.prog (lone (Frame.enter C.prog f i.args .normal) [] (w.forCall tape i)))
  (contract : ∀ (W:World) (base:Nat) (args:Array Value) (ds gs:List (DataW H)) (before:List MemPlace),
   (∀ (j:Nat) t v,fn.params[j]? = some t→args[j]? = some v→Value.okWide C.prog W .any base t v) →
   DataW.Whole enc C.prog fn.params.toList s.vars apart W args.toList ds gs before →
   W.ShapedOpen C.prog→X W args →
   Calls C.prog f args W fun e W'=>∃ v,e=.returned v∧s.post enc C.prog fn apart fresh handsOn again W args v W') :
  ReturnsInHanded a C os f .any (fun w args=>(s.pre enc C.prog fn conds apart w args∧X w args)∧sizedMet enc C.prog fn (OpenSpec.ofChange s) apart w args) (s.post enc C.prog fn apart fresh handsOn again):=by
 refine returnsInHanded_of_calls own started noInit witness ?_
 intro w tape i _ hsh _ hok hpre hholds
 obtain ⟨_,_,_,fn',hfn',_,_,_,_,hval⟩:=hok
 have e:fn'=fn:=Option.some.inj (hfn'.symm.trans hfn)
 subst e
 obtain ⟨⟨⟨ds,gs,before,hw,hc⟩,hx⟩,hz⟩:=hpre
 have hw':=DataW.Whole.of_heap (w':=w.forCall tape i) (by rfl) hw
 refine (contract (w.forCall tape i) w.heap.size i.args ds gs before hval hw' hsh (hX _ _ _ (by rfl) hx)).mono fun e W' ⟨v,he,hp⟩=>?_
 subst he
 exact ChangeSpec.post_blind hp
theorem own:ownKnob Tryz.prog.godebug=none:=by kernel_rfl
theorem g_of_shaped {W:World} (h:W.ShapedOpen Tryz.prog):G W:=by
 have hc : ∃ m,W.cell? ⟨0,0,none⟩=some (.int .i64 m) :=
  cell_of_shapedOpen_int (zero:=#[.int .i64 0]) (t:=3) h (of_decide_eq_true (by kernel_rfl)) (by kernel_rfl) rfl (by kernel_rfl) (by kernel_rfl) Tryz.underlying3
 refine ⟨?_,hc⟩
 obtain ⟨m,hm⟩:=hc
 rcases Nat.eq_zero_or_pos W.heap.size with h0 | h0
 ·simp [World.cell?,Array.getElem?_eq_none (show W.heap.size≤0 by omega)] at hm
 ·exact h0
end Uw
end Go.Proofs.YtkkpahmoljiepaaGreatDoor
