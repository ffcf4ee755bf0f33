/- Contract: New, of every text and config. -/
import Derived.Test.YtkkpahmoljiepaaGreatDoorJ24
import Derived.Test.YtkkpahmoljiepaaGreatDoorJ23
import Derived.Deep.RegionWith
import Derived.Test.YtkkpahmoljiepaaGreatDoorJ13
set_option linter.unusedSimpArgs false
set_option linter.unusedVariables false
set_option maxRecDepth 1000000
set_option maxHeartbeats 12800000
namespace Go.Proofs.YtkkpahmoljiepaaGreatDoor
open Go.RowKit
open Pu (Str aH aU)
namespace Bh
open Ka Wa Wb Wc Wd We Wf Wg Wh Wi Wj Wk Wl Wm Ha Hb Hc Re Qa Qb Qc Qd Qe Qf Qg Qh Qi Qj Qk Ql Qm Qn Qr Qq Qs Na Nc Nf Bf Da
def Made (w':World) (xb zb rb sb mb bb base:Nat) (mac ip bs:Str):Prop:=Mac w' xb zb rb sb mb bb base mac ip (layB bs) false 0 276 8 0 (tr 8) 0 0 (tr 0) 0 0 0 false∧MemX w' mb bb base (layB bs) false 0 276 (false,true,true)
def NewOut (s mac ip bs:Str) (mb bb:Nat) (w:World) (e:Ending) (w':World):Prop :=
 if (zoneP s).isSome=true then
  if cfgOk mac ip=true then ∃ xb zb rb sb base,e=.returned (.tuple #[.pointer (some ⟨xb,0,none⟩),.int .i64 0])∧Made w' xb zb rb sb mb bb base mac ip bs∧(xb<base∧base≤rb∧base≤sb∧w.heap.size≤xb)∧(∀ i,i<w.heap.size→i≠mb→i≠bb→w'.heap[i]? = w.heap[i]?)∧w'.os=w.os∧w'.tape=w.tape∧w'.output=w.output
  else e=.returned (.tuple #[.pointer none,.int .i64 3])∧Below w.heap.size w w'
 else e=.returned (.tuple #[.pointer none,.int .i64 1])∧Below w.heap.size w w'
theorem lay_av (bs:Str):(layS bs).2.1=8:=rfl
theorem lay_out (bs:Str):(layS bs).2.2=tr 8:=rfl
theorem new_below {w w':World} {mb bb:Nat} {bs:Str} (h:Qt.New w mb bb bs) (hb:Below w.heap.size w w'):Qt.New w' mb bb bs:=⟨aF.of h.1 (hb.block mb (aF.lt h.1)),RowB.of h.2 (hb.block bb h.2.2.lt)⟩
theorem lay_fl:layF (false,false,false)=(false,true,true):=by kernel_rfl
theorem new1_x (b5 b10 xb zb mb bb:Nat) (mac ip bs:Str) (w:World) (h5:aB w b5 [.iface 71 (.pointer (some ⟨mb,0,none⟩))] 160) (h10:aB w b10 [.pointer (some ⟨xb,0,none⟩)] 73)
  (hx:aB w xb [.pointer (some ⟨zb,0,none⟩),.string (B mac),.string (B ip),.pointer none,.pointer none,.int .i64 0,.int .i64 0,.int .i64 0,.bool false] 165) (hm:Qt.New w mb bb bs) :
  Calls Tryz.prog 89 #[.pointer (some ⟨b5,0,none⟩),.pointer (some ⟨b10,0,none⟩)] w fun e w' =>
   e=.returned (.bool true)∧Made w' xb zb w.heap.size (w.heap.size+1) mb bb w.heap.size mac ip bs∧(∀ i,i<w.heap.size→i≠xb→i≠mb→i≠bb→w'.heap[i]? = w.heap[i]?)∧w'.os=w.os∧w'.tape=w.tape∧w'.output=w.output∧w.heap.size+2≤w'.heap.size:=by
 have n1:xb≠mb:=blk_ne hx hm.1 (by decide)
 have n2:xb≠bb:=blk_ne hx hm.2.2 (by decide)
 have hxl:=hx.lt
 have HL:=aH (lay_x mb bb w.heap.size false 0 0 _ bs w.drew (Qt.new_memx hm w.heap.size) (Nat.le_refl _) (by omega))
 rw [lay_av,lay_out,lay_fl] at HL
 have c10:w.drew.cell? ⟨b10,0,none⟩=some (.pointer (some ⟨xb,0,none⟩)):=aB.cell h10 0 (by simp)
 have c5:w.drew.cell? ⟨b5,0,none⟩=some (.iface 71 (.pointer (some ⟨mb,0,none⟩))):=aB.cell h5 0 (by simp)
 have HX:=aH hx
 have H10:=aH h10
 have hb10:b10≠mb∧b10≠bb:=⟨blk_ne h10 hm.1 (by decide),blk_ne h10 hm.2.2 (by decide)⟩
 have hb5:b5≠mb∧b5≠bb:=⟨blk_ne h5 hm.1 (by decide),blk_ne h5 hm.2.2 (by decide)⟩
 have h10x:b10≠xb:=blk_ne h10 hx (by decide)
 have h5x:b5≠xb:=blk_ne h5 hx (by decide)
 have H5:=aH h5
 clear h5 h10 hx hm
 obtain ⟨rs,hrs⟩ : ∃ rs,rs=w.heap.size:=⟨_,rfl⟩
 have HL':Hid (Calls Tryz.prog 90 #[.iface 71 (.pointer (some ⟨mb,0,none⟩))] w.drew fun e w'=>e=.returned (.tuple #[.pointer (some ⟨rs,0,none⟩),.pointer (some ⟨rs+1,0,none⟩)])∧(MemX w' mb bb rs (layB bs) false 0 276 (false,true,true)∧aO w' rs 240 mb 0 1024 8 0 (tr 8)∧aO w' (rs+1) 241 mb 512 13312 0 0 (tr 0)∧(∀ i,i<rs→i≠mb→i≠bb→w'.heap[i]? = w.heap[i]?)∧w'.os=w.os∧w'.tape=w.tape∧w'.output=w.output∧rs+2≤w'.heap.size)):=by
  rw [hrs]
  refine (aU HL).mono ?_
  rintro e w' ⟨rfl,hm',hr',hs',hk',ho',ht',hu',hz'⟩
  exact ⟨rfl,by simpa using hm',hr',hs',fun i hi h1 h2=>hk' i hi h1 h2 (.inl hi),ho',ht',hu',hz'⟩
 rw [← hrs] at hxl ⊢
 have HRS:=aH hrs
 have hl10:b10<rs:=by rw [hrs]; exact (aU H10).lt
 have hl5:b5<rs:=by rw [hrs]; exact (aU H5).lt
 have HKS:Hid (∀ (W:World) (o:Nat) (v:Value),(W.cell? ⟨b10,0,none⟩=some (.pointer (some ⟨xb,0,none⟩))∧W.cell? ⟨b5,0,none⟩=some (.iface 71 (.pointer (some ⟨mb,0,none⟩))))→((W.setCell ⟨xb,o,none⟩ v).cell? ⟨b10,0,none⟩=some (.pointer (some ⟨xb,0,none⟩))∧(W.setCell ⟨xb,o,none⟩ v).cell? ⟨b5,0,none⟩=some (.iface 71 (.pointer (some ⟨mb,0,none⟩))))):=fun W o v h =>
  ⟨(World.cell?_of_block (Below.heap_setCell _ _ _ _ h10x)).trans h.1,(World.cell?_of_block (Below.heap_setCell _ _ _ _ h5x)).trans h.2⟩
 clear HL hrs
 go_enter Tryz.func89,Tryz.ntmps89
 go_wp2_with fail
 go_region_held (fun w'=>w'.cell? ⟨b10,0,none⟩=some (.pointer (some ⟨xb,0,none⟩))∧w'.cell? ⟨b5,0,none⟩=some (.iface 71 (.pointer (some ⟨mb,0,none⟩)))) (first | assumption | exact ⟨c10,c5⟩ | exact ⟨q10,q5⟩ | exact aU HKS _ _ _ ⟨q10,q5⟩ | exact aU HKS _ _ _ (aU HKS _ _ _ ⟨q10,q5⟩) | go_keep)
  (first | (go_at_call 90; go_loud (refine (aU HL').mono ?_; rintro e w2 ⟨rfl,hP⟩; have hx2:=(hP.2.2.2.1 xb hxl n1 n2).trans (aU HX); have q3:=aB.cell hx2 3 (by simp); have q4:=aB.cell hx2 4 (by simp); have qf:=aB.frozen hx2; have q10:w2.cell? ⟨b10,0,none⟩=some (.pointer (some ⟨xb,0,none⟩)):=(World.cell?_of_block (hP.2.2.2.1 b10 hl10 hb10.1 hb10.2)).trans c10; have q5:w2.cell? ⟨b5,0,none⟩=some (.iface 71 (.pointer (some ⟨mb,0,none⟩))):=(World.cell?_of_block (hP.2.2.2.1 b5 hl5 hb5.1 hb5.2)).trans c5)))
 all_goals
  obtain ⟨hm2,hr2,hs2,hk2,ho2,ht2,hu2,hz2⟩:=hP
  have HFIN:Hid (∀ W',(W'=(w2.setCell ⟨xb,3,none⟩ (.pointer (some ⟨rs,0,none⟩))).setCell ⟨xb,4,none⟩ (.pointer (some ⟨rs+1,0,none⟩))∨W'=(w2.setCell ⟨xb,4,none⟩ (.pointer (some ⟨rs+1,0,none⟩))).setCell ⟨xb,3,none⟩ (.pointer (some ⟨rs,0,none⟩))) →
    Made W' xb zb rs (rs+1) mb bb rs mac ip bs∧(∀ i,i<rs→i≠xb→i≠mb→i≠bb→W'.heap[i]? = w.heap[i]?)∧W'.os=w.os∧W'.tape=w.tape∧W'.output=w.output∧rs+2≤W'.heap.size):=fun W' hW'=>by
   have hX:MacAt W' xb zb rs (rs+1) mac ip 0 0 0 false:=by
    rcases hW' with rfl | rfl
    ·exact aB.set (aB.set hx2 3 _) 4 _
    ·exact aB.set (aB.set hx2 4 _) 3 _
   have hkk : ∀ i,i≠xb→W'.heap[i]? = w2.heap[i]?:=fun i hne=>by
    rcases hW' with rfl | rfl <;> exact (Below.heap_setCell _ _ _ _ hne).trans (Below.heap_setCell _ _ _ _ hne)
   have hsz:W'.heap.size=w2.heap.size:=by rcases hW' with rfl | rfl <;> simp [World.setCell]
   have hoo:W'.os=w2.os∧W'.tape=w2.tape∧W'.output=w2.output:=by rcases hW' with rfl | rfl <;> exact ⟨rfl,rfl,rfl⟩
   have hmx:=memx_keep hm2 xb _ _ hx2 (by decide) (by decide) n1 n2 (fun i _ hne=>hkk i hne)
   refine ⟨⟨⟨⟨_,hmx⟩,(hkk rs (by omega)).trans hr2,(hkk (rs+1) (by omega)).trans hs2,hX,by omega⟩,hmx⟩,fun i hi h0 h1 h2=>(hkk i h0).trans (hk2 i hi h1 h2),hoo.1.trans ho2,hoo.2.1.trans ht2,hoo.2.2.trans hu2,by omega⟩
  clear hm2 hr2 hs2 hk2 ho2 ht2 hu2 hz2 hx2 q3 q4 qf q10 q5
  go_wp2_with fail
  go_ret
  exact ⟨rfl,aU HFIN _ (by first | exact .inl rfl | exact .inr rfl)⟩
theorem and_one : ∀ n:Nat,n<256→bits .and .u8 (n:Int) 1=((n%2:Nat):Int):=by decide +kernel
theorem isRight_any (mac ip:Str) (w:World):Calls Tryz.prog 87 #[.agg #[.string (B mac),.string (B ip)]] w fun e w'=>e=.returned (.bool (cfgOk mac ip))∧Below w.heap.size w w':=by
 obtain ⟨c0,hc0⟩ : ∃ c0:UInt8,c0=mac.getD 0 0:=⟨_,rfl⟩
 have g0 : ∀ h:0<(B mac).size,(B mac)[0]=c0:=fun h=>by
  rw [hc0,List.getD_eq_getElem?_getD,List.getElem?_eq_getElem (by rw [size_B] at h; exact h)]; rfl
 obtain ⟨r,hr⟩ : ∃ r,r=c0.toNat%2:=⟨_,rfl⟩
 have b0:bits .and .u8 (c0.toNat:Int) 1=(r:Int):=by rw [and_one _ (UInt8.toNat_lt c0),hr]
 have HOK:Hid (cfgOk mac ip=((B mac).size == 6 && r == 0 && (B ip).size == 4)):=by
  rw [Hid,cfgOk,size_B,size_B,hr,hc0]
 have HB:=aH ((Below.refl w.heap.size w).alloc (Nat.le_refl _) (.cells #[.string (B mac),.string (B ip)] 62))
 have hr2:r<2:=by omega
 clear hc0 hr
 generalize B mac=m at *
 generalize B ip=i at *
 generalize cfgOk mac ip=ok at *
 go_enter Tryz.func87,Tryz.ntmps87
 by_cases h6:m.size=6
 ·have j6:((m.size:Int) == 6)=true:=by simp [h6]
  by_cases h2:r=0
  ·have j2:((r:Int) == 0)=true:=by simp [h2]
   by_cases h4:i.size=4
   ·have hok:ok=true:=by rw [aU HOK,h6,h2,h4]; rfl
    have j4:((i.size:Int) == 4)=true:=by simp [h4]
    subst hok h2
    go_wp2
    go_ret
    exact ⟨rfl,aU HB⟩
   ·have hok:ok=false:=by rw [aU HOK]; simp [h4]
    have j4:((i.size:Int) == 4)=false:=by simp; omega
    subst hok h2
    go_wp2
    go_ret
    exact ⟨rfl,aU HB⟩
  ·have hok:ok=false:=by rw [aU HOK]; simp [h2]
   have j2:((r:Int) == 0)=false:=by simp; omega
   have h2' : ¬ (r:Int)=0:=by omega
   subst hok
   go_wp2
   go_ret
   exact ⟨rfl,aU HB⟩
 ·have hok:ok=false:=by rw [aU HOK]; simp [h6]
  have j6:((m.size:Int) == 6)=false:=by simp; omega
  subst hok
  go_wp2
  go_ret
  exact ⟨rfl,aU HB⟩
abbrev bx:Obj:=.cells #[.pointer none] 73
abbrev mc (mac ip:Str) (zb:Nat):Obj:=.cells #[.pointer (some ⟨zb,0,none⟩),.string (B mac),.string (B ip),.pointer none,.pointer none,.int .i64 0,.int .i64 0,.int .i64 0,.bool false] 165
theorem al_keep {X w3:World} (hb:Below (X.alloc bx).heap.size (X.alloc bx) w3):aB w3 X.heap.size [.pointer none] 73:=(hb.block X.heap.size (by simp)).trans (World.alloc_heap_new X bx)
theorem al_keep3 {X w3:World} (hb:Below (X.alloc bx).drew.heap.size (X.alloc bx).drew w3):aB w3 X.heap.size [.pointer none] 73:=al_keep (X:=X) ⟨hb.os,hb.tape,hb.output,hb.size,hb.block⟩
theorem al_keep2 {W w3:World} {k:Nat} (h:aB W k [.pointer none] 73) (hb:Below W.heap.size W w3):aB w3 k [.pointer none] 73:=(hb.block k h.lt).trans h
def Laid (mac ip:Str) (W3:World) (zb xb b10:Nat):Prop:=aB W3 xb [.pointer (some ⟨zb,0,none⟩),.string (B mac),.string (B ip),.pointer none,.pointer none,.int .i64 0,.int .i64 0,.int .i64 0,.bool false] 165∧aB W3 b10 [.pointer (some ⟨xb,0,none⟩)] 73
theorem laidD2 {mac ip:Str} {w':World} {zb:Nat} : Laid mac ip ((w'.alloc (mc mac ip zb)).alloc (.cells #[.pointer (some ⟨w'.heap.size,0,none⟩)] 73)) zb w'.heap.size (w'.heap.size+1):=by
 have h1:=aB.new (w'.alloc (mc mac ip zb)) [.pointer (some ⟨w'.heap.size,0,none⟩)] 73
 rw [World.size_alloc] at h1
 exact ⟨(Below.heap_alloc _ _ _ (by simp)).trans (World.alloc_heap_new w' _),h1⟩
theorem laidC2 {mac ip:Str} {w':World} {zb:Nat} : Laid mac ip ((w'.alloc (.cells #[.pointer (some ⟨w'.heap.size+1,0,none⟩)] 73)).alloc (mc mac ip zb)) zb (w'.heap.size+1) w'.heap.size:=by
 have h1:=World.alloc_heap_new (w'.alloc (.cells #[.pointer (some ⟨w'.heap.size+1,0,none⟩)] 73)) (mc mac ip zb)
 rw [World.size_alloc] at h1
 exact ⟨h1,(aB.new w' [.pointer (some ⟨w'.heap.size+1,0,none⟩)] 73).alloc _⟩
theorem laidA2 {mac ip:Str} {w':World} {zb b10:Nat} (h:aB w' b10 [.pointer none] 73):Laid mac ip ((w'.setCell ⟨b10,0,none⟩ (.pointer (some ⟨w'.heap.size,0,none⟩))).alloc (mc mac ip zb)) zb w'.heap.size b10:=by
 have h1:=World.alloc_heap_new (w'.setCell ⟨b10,0,none⟩ (.pointer (some ⟨w'.heap.size,0,none⟩))) (mc mac ip zb)
 rw [show (w'.setCell ⟨b10,0,none⟩ (.pointer (some ⟨w'.heap.size,0,none⟩))).heap.size=w'.heap.size by simp [World.setCell]] at h1
 exact ⟨h1,(aB.set h 0 (.pointer (some ⟨w'.heap.size,0,none⟩))).alloc _⟩
theorem bel2 {n:Nat} {w2 w4:World} (h:Below n w2 w4) (hn:n≤w4.heap.size) (o o':Obj):Below n w2 ((w4.alloc o).alloc o'):=(h.alloc hn o).alloc (by simp; omega) o'
theorem belA {n b:Nat} {w2 w4:World} (h:Below n w2 w4) (hn:n≤w4.heap.size) (hb:n≤b) (v:Value) (o:Obj):Below n w2 ((w4.setCell ⟨b,0,none⟩ v).alloc o):=(h.setCell (p:=⟨b,0,none⟩) hb v).alloc (by simp [World.setCell]; omega) o
theorem bel3 {w2 w3:World} (hb:Below w2.drew.heap.size w2.drew w3):Below w2.heap.size w2 w3:=(Below.refl _ _).drew.trans hb
theorem bel3' {w2 w3:World} (hb:Below (w2.alloc bx).drew.heap.size (w2.alloc bx).drew w3):Below w2.heap.size w2 w3:=(((Below.refl _ _).alloc (Nat.le_refl _) bx).drew).trans (hb.mono (by show w2.heap.size≤(w2.alloc bx).heap.size; simp))
theorem bel4 {w2 w3 w4:World} (h:Below w2.heap.size w2 w3) (hb:Below w3.heap.size w3 w4):Below w2.heap.size w2 w4:=h.trans (hb.mono h.size)
theorem bel4' {w2 w3 w4:World} (h:Below w2.heap.size w2 w3) (hb:Below (w3.alloc bx).heap.size (w3.alloc bx) w4):Below w2.heap.size w2 w4:=(h.alloc h.size bx).trans (hb.mono (by have:=h.size; simp; omega))
theorem new_any (s mac ip:Str) (mb bb:Nat) (bs:Str) (w:World) (hg:G w) (hm:Qt.New w mb bb bs) :
  Calls Tryz.prog 43 #[.string (B s),.agg #[.string (B mac),.string (B ip)],.iface 71 (.pointer (some ⟨mb,0,none⟩))] w fun e w'=>NewOut s mac ip bs mb bb w e w':=by
 obtain ⟨hmlt,hblt⟩:=mem_lt (Qt.new_mem hm 0)
 obtain ⟨wB,hwB⟩ : ∃ wB,wB=(w.alloc (.cells #[.string (B mac),.string (B ip)] 62)).alloc (.cells #[.iface 71 (.pointer (some ⟨mb,0,none⟩))] 160):=⟨_,rfl⟩
 have hBB:Below w.heap.size w wB:=by rw [hwB]; exact ((Below.refl _ _).alloc (Nat.le_refl _) _).alloc (by simp) _
 have hsB:wB.heap.size=w.heap.size+2:=by rw [hwB]; simp
 have hc0:aB wB w.heap.size [.string (B mac),.string (B ip)] 62:=by rw [hwB]; exact (aB.new w _ _).alloc _
 have hc1:aB wB (w.heap.size+1) [.iface 71 (.pointer (some ⟨mb,0,none⟩))] 160:=by
  have:=aB.new (w.alloc (.cells #[.string (B mac),.string (B ip)] 62)) [.iface 71 (.pointer (some ⟨mb,0,none⟩))] 160
  rw [World.size_alloc] at this
  rw [hwB]; exact this
 have HP:=aH (parse_p s wB (hg.below hBB))
 have hm2:=new_below hm hBB
 rw [hwB] at HP
 have HBB:=aH hBB
 have HC0:=aH hc0
 have HC1:=aH hc1
 have HM:=aH hm2
 have HSB:=aH hsB
 clear hg hm hBB hc0 hc1 hm2 hsB
 go_enter Tryz.func43,Tryz.ntmps43
 go_wp2_with fail
 refine (aU HP).mono ?_
 rw [← hwB]
 rintro e w1 ⟨hz,hb1⟩
 have hsB:=aU HSB
 have hB1:Below w.heap.size w w1:=(aU HBB).trans (hb1.mono (by omega))
 have hz1:=hb1.size
 have hC0:aB w1 w.heap.size [.string (B mac),.string (B ip)] 62:=(hb1.block _ (by omega)).trans (aU HC0)
 have hC1:aB w1 (w.heap.size+1) [.iface 71 (.pointer (some ⟨mb,0,none⟩))] 160:=(hb1.block _ (by omega)).trans (aU HC1)
 have hM1:=new_below (aU HM) hb1
 have d0:w1.cell? ⟨w.heap.size,0,none⟩=some (.string (B mac)):=aB.cell hC0 0 (by simp)
 have d1:w1.cell? ⟨w.heap.size,1,none⟩=some (.string (B ip)):=aB.cell hC0 1 (by simp)
 have HR:=aH (isRight_any mac ip w1)
 have HB1:=aH hB1
 have HC01:=aH hC0
 have HC11:=aH hC1
 have HM1:=aH hM1
 have HZ:Hid (w.heap.size+2≤w1.heap.size):=by unfold Hid; omega
 clear HP hwB hsB HSB hb1 hz1 hB1 hC0 hC1 hM1 HC0 HC1 HM HBB
 unfold ZP at hz
 cases hp:zoneP s with
 | none =>
 rw [hp] at hz
 subst hz
 have HOUT:Hid (∀ W,Below w.heap.size w W→NewOut s mac ip bs mb bb w (.returned (.tuple #[.pointer none,.int .i64 1])) W):=fun W hW=>by
  unfold NewOut
  rw [hp]
  exact ⟨rfl,hW⟩
 clear hp HR
 go_wp2
 refine bodyPost_ret (v:=.tuple #[.pointer none,.int .i64 1]) ?_ rfl (aU HOUT _ (aU HB1))
 simp [results,Tryz.results43,go_sem]
 | some p =>
 rw [hp] at hz
 obtain ⟨_,zb,g,cap,rfl,_,_,_⟩:=hz
 have hsome:(zoneP s).isSome=true:=by rw [hp]; rfl
 clear hp
 go_wp2_with fail
 refine (aU HR).mono ?_
 rintro e w2 ⟨rfl,hb2⟩
 have hz2:=hb2.size
 by_cases hok:cfgOk mac ip=true
 case neg =>
  have hok':cfgOk mac ip=false:=by simpa using hok
  have HOUT:Hid (NewOut s mac ip bs mb bb w (.returned (.tuple #[.pointer none,.int .i64 3])) w2):=by
   unfold Hid NewOut
   rw [if_pos hsome,if_neg hok]
   exact ⟨rfl,(aU HB1).trans (hb2.mono (aU HB1).size)⟩
  rw [hok']
  clear hok hok' hsome HR hb2
  go_wp2
  refine bodyPost_ret (v:=.tuple #[.pointer none,.int .i64 3]) ?_ rfl (aU HOUT)
  simp [results,Tryz.results43,go_sem]
 have HOUT:Hid (∀ xb zb rb sb base W,Made W xb zb rb sb mb bb base mac ip bs→(xb<base∧base≤rb∧base≤sb∧w.heap.size≤xb)→(∀ i,i<w.heap.size→i≠mb→i≠bb→W.heap[i]? = w.heap[i]?)→W.os=w.os∧W.tape=w.tape∧W.output=w.output→NewOut s mac ip bs mb bb w (.returned (.tuple #[.pointer (some ⟨xb,0,none⟩),.int .i64 0])) W):=fun xb zb rb sb base W h1 h2 h3 h4=>by
  unfold NewOut
  rw [if_pos hsome,if_pos hok]
  exact ⟨xb,zb,rb,sb,base,rfl,h1,h2,h3,h4⟩
 have lm:(B mac).size≤281474976710656:=by
  have:=hok
  unfold cfgOk at this
  rw [Bool.and_eq_true,Bool.and_eq_true,beq_iff_eq] at this
  rw [size_B,this.1.1]
  omega
 have li:(B ip).size≤281474976710656:=by
  have:=hok
  unfold cfgOk at this
  rw [Bool.and_eq_true,beq_iff_eq (a:=ip.length)] at this
  rw [size_B,this.2]
  omega
 rw [hok]
 clear hok hsome
 have hC02:aB w2 w.heap.size [.string (B mac),.string (B ip)] 62:=(hb2.block _ (aU HC01).lt).trans (aU HC01)
 have hC12:aB w2 (w.heap.size+1) [.iface 71 (.pointer (some ⟨mb,0,none⟩))] 160:=(hb2.block _ (aU HC11).lt).trans (aU HC11)
 have hM2:=new_below (aU HM1) hb2
 have hB2:=(aU HB1).trans (hb2.mono (aU HB1).size)
 have f0:w2.cell? ⟨w.heap.size,0,none⟩=some (.string (B mac)):=aB.cell hC02 0 (by simp)
 have f1:w2.cell? ⟨w.heap.size,1,none⟩=some (.string (B ip)):=aB.cell hC02 1 (by simp)
 have HCL:=aH (fun (x:ByteArray) (W:World) (h:x.size≤281474976710656)=>Pa.clone_any x W h)
 have HREST:Hid (∀ (W3:World) (xb b10:Nat),Below w2.heap.size w2 W3→w2.heap.size≤xb→aB W3 xb [.pointer (some ⟨zb,0,none⟩),.string (B mac),.string (B ip),.pointer none,.pointer none,.int .i64 0,.int .i64 0,.int .i64 0,.bool false] 165→aB W3 b10 [.pointer (some ⟨xb,0,none⟩)] 73 →
   Calls Tryz.prog 88 #[.pointer (some ⟨xb,0,none⟩),.func (.func 89) #[] #[.pointer (some ⟨w.heap.size+1,0,none⟩),.pointer (some ⟨b10,0,none⟩)]] W3 fun e w'=>e=.returned (.tuple #[])∧w'.cell? ⟨b10,0,none⟩=some (.pointer (some ⟨xb,0,none⟩)) ∧
    NewOut s mac ip bs mb bb w (.returned (.tuple #[.pointer (some ⟨xb,0,none⟩),.int .i64 0])) w'):=fun W3 xb b10 hB3 hxl hX h10=>by
  have z5:=aU HZ
  have hz3:=hB3.size
  have hgb:=gW_below W3 xb
  have hgs:=gW_size W3 xb
  have hM3:=new_below (new_below hM2 hB3) hgb
  have hX4:=(hgb.block xb hX.lt).trans hX
  have h104:=(hgb.block b10 h10.lt).trans h10
  have hC4:aB (gW W3 xb) (w.heap.size+1) [.iface 71 (.pointer (some ⟨mb,0,none⟩))] 160:=(hgb.block _ (by omega)).trans ((hB3.block _ (by omega)).trans hC12)
  have n10x:b10≠xb:=blk_ne h10 hX (by decide)
  have n10m:b10≠mb:=blk_ne h104 hM3.1 (by decide)
  have n10b:b10≠bb:=blk_ne h104 hM3.2.2 (by decide)
  refine (guard_new xb (w.heap.size+1) b10 W3 (fun W'=>Made W' xb zb (gW W3 xb).heap.size ((gW W3 xb).heap.size+1) mb bb (gW W3 xb).heap.size mac ip bs∧(∀ i,i<(gW W3 xb).heap.size→i≠xb→i≠mb→i≠bb→W'.heap[i]? = (gW W3 xb).heap[i]?)∧W'.os=(gW W3 xb).os∧W'.tape=(gW W3 xb).tape∧W'.output=(gW W3 xb).output∧(gW W3 xb).heap.size+2≤W'.heap.size)
   ((new1_x (w.heap.size+1) b10 xb zb mb bb mac ip bs (gW W3 xb) hC4 h104 hX4 hM3).mono (by
     rintro e W' ⟨rfl,hMac,hk,ho⟩
     refine ⟨rfl,⟨hMac,hk,ho⟩,(hk (W3.heap.size+1) (by omega) (by have:=hX.lt; omega) (by have:=(mem_lt (Qt.new_mem (new_below hM2 hB3) 0)).1; omega) (by have:=(mem_lt (Qt.new_mem (new_below hM2 hB3) 0)).2; omega)).trans (gW_two W3 xb)⟩))).mono ?_
  rintro e w' ⟨rfl,W',⟨⟨hMac,hMX⟩,hk,ho1,ho2,ho3,ho4⟩,hb2',rfl⟩
  have l10:=h10.lt
  have lX:=hX.lt
  have hsz:(W'.setCell ⟨W3.heap.size+1,0,none⟩ (.bool true)).heap.size=W'.heap.size:=by simp [World.setCell]
  have hMac2:Made (W'.setCell ⟨W3.heap.size+1,0,none⟩ (.bool true)) xb zb (gW W3 xb).heap.size ((gW W3 xb).heap.size+1) mb bb (gW W3 xb).heap.size mac ip bs:=by
   obtain ⟨⟨c1,h1⟩,⟨c2,h2⟩⟩:=mem_blk hMac.mem
   have hkk : ∀ i,i≠W3.heap.size+1→(W'.setCell ⟨W3.heap.size+1,0,none⟩ (.bool true)).heap[i]? = W'.heap[i]?:=fun i hne=>Below.heap_setCell _ _ _ _ hne
   have hmx:=memx_keep hMX (W3.heap.size+1) _ _ hb2' (by decide) (by decide) (blk_ne hb2' h1 (by decide)) (blk_ne hb2' h2 (by decide)) (fun i _ hne=>hkk i hne)
   exact ⟨⟨⟨_,hmx⟩,(hkk _ (blk_ne hMac.rr hb2' (by decide))).trans hMac.rr,(hkk _ (blk_ne hMac.sr hb2' (by decide))).trans hMac.sr,(hkk _ (blk_ne hMac.mac hb2' (by decide))).trans hMac.mac,by rw [hsz]; exact hMac.hb⟩,hmx⟩
  have hkw : ∀ i,i<W3.heap.size→i≠xb→i≠mb→i≠bb→(W'.setCell ⟨W3.heap.size+1,0,none⟩ (.bool true)).heap[i]? = W3.heap[i]?:=fun i hi h1 h2 h3=>(Below.heap_setCell _ _ _ _ (by show i≠W3.heap.size+1; omega)).trans ((hk i (by omega) h1 h2 h3).trans (hgb.block i hi))
  refine ⟨rfl,(World.cell?_of_block (hkw b10 l10 n10x n10m n10b)).trans (aB.cell h10 0 (by simp)),aU HOUT xb zb _ _ _ _ hMac2 ⟨by omega,Nat.le_refl _,by omega,by omega⟩ (fun i hi h2 h3=>?_) ⟨?_,?_,?_⟩⟩
  ·exact (hkw i (by omega) (by omega) h2 h3).trans ((hB3.block i (by omega)).trans (hB2.block i hi))
  ·exact ho1.trans (hgb.os.trans (hB3.os.trans hB2.os))
  ·exact ho2.trans (hgb.tape.trans (hB3.tape.trans hB2.tape))
  ·exact ho3.trans (hgb.output.trans (hB3.output.trans hB2.output))
 clear hb2 hC02 hC12 hM2 hB2 HB1 HC01 HC11 HM1 HR d0 d1 HOUT
 have hmf : ∀ (fn:Fn) (first cap:Array Value) (w:World),(Instr.makeFunc fn first cap).run Tryz.prog w=.ok (.func fn first cap) w:=fun _ _ _ _=>rfl
 have hz12:w.heap.size<w2.heap.size:=by have z5:=aU HZ; omega
 have f0':w2.drew.cell? ⟨w.heap.size,0,none⟩=some (.string (B mac)):=f0
 have f1':w2.drew.cell? ⟨w.heap.size,1,none⟩=some (.string (B ip)):=f1
 have hne0 : ¬ w.heap.size=w2.heap.size:=by omega
 have hdz:w2.drew.heap.size=w2.heap.size:=rfl
 go_wp2_with fail
 go_region_with
  (first | (go_at_call 57; (refine (aU HCL (B mac) _ lm).mono ?_; rintro e w3 ⟨rfl,hb3⟩; have hz3:=hb3.size; have s0:w3.cell? ⟨w.heap.size,0,none⟩=some (.string (B mac)):=(hb3.cell (p:=⟨w.heap.size,0,none⟩) (by first | (dsimp only; omega) | (simp <;> omega))).trans (by first | assumption | go_keep); have s1:w3.cell? ⟨w.heap.size,1,none⟩=some (.string (B ip)):=(hb3.cell (p:=⟨w.heap.size,1,none⟩) (by first | (dsimp only; omega) | (simp <;> omega))).trans (by first | assumption | go_keep); have hlw3:w.heap.size<w3.heap.size:=(by first | omega | (simp at hz3 <;> omega)); have hne3 : ¬ w.heap.size=w3.heap.size:=Nat.ne_of_lt hlw3; have hw3:Hid (Below w2.heap.size w2 w3):=(by first | exact bel3 hb3 | exact bel3' hb3); (first | (have p3:aB w3 w2.heap.size [.pointer none] 73:=al_keep3 hb3; have p3c:w3.cell? ⟨w2.heap.size,0,none⟩=some (.pointer none):=aB.cell p3 0 Nat.zero_lt_one; have p3f:=aB.frozen p3 0; have p3l:w2.heap.size<w3.heap.size:=p3.lt; have p3n : ¬ w2.heap.size=w3.heap.size:=Nat.ne_of_lt p3.lt) | skip))) | (go_at_call 57; (refine (aU HCL (B ip) _ li).mono ?_; rintro e w4 ⟨rfl,hb4⟩; have hz4:=hb4.size; have s0:w4.cell? ⟨w.heap.size,0,none⟩=some (.string (B mac)):=(hb4.cell (p:=⟨w.heap.size,0,none⟩) (by first | (dsimp only; omega) | (simp <;> omega))).trans (by first | assumption | go_keep); have s1:w4.cell? ⟨w.heap.size,1,none⟩=some (.string (B ip)):=(hb4.cell (p:=⟨w.heap.size,1,none⟩) (by first | (dsimp only; omega) | (simp <;> omega))).trans (by first | assumption | go_keep); have hlw4:w.heap.size<w4.heap.size:=(by first | omega | (simp at hz4 <;> omega)); have hne4 : ¬ w.heap.size=w4.heap.size:=Nat.ne_of_lt hlw4; have hw4:Hid (Below w2.heap.size w2 w4):=(by first | exact bel4 (aU hw3) hb4 | exact bel4' (aU hw3) hb4); (first | (have p4:aB w4 w2.heap.size [.pointer none] 73:=al_keep2 p3 hb4; have p4c:w4.cell? ⟨w2.heap.size,0,none⟩=some (.pointer none):=aB.cell p4 0 Nat.zero_lt_one; have p4f:=aB.frozen p4 0; have p4l:w2.heap.size<w4.heap.size:=p4.lt; have p4n : ¬ w2.heap.size=w4.heap.size:=Nat.ne_of_lt p4.lt) | (have q4:aB w4 w3.heap.size [.pointer none] 73:=al_keep hb4; have q4c:w4.cell? ⟨w3.heap.size,0,none⟩=some (.pointer none):=aB.cell q4 0 Nat.zero_lt_one; have q4f:=aB.frozen q4 0; have q4l:w3.heap.size<w4.heap.size:=q4.lt; have q4n : ¬ w3.heap.size=w4.heap.size:=Nat.ne_of_lt q4.lt) | skip))))
 all_goals
  have hz4':=(aU hw4).size
  go_wp2_with fail
  first
   | refine (aU HREST _ w4.heap.size w2.heap.size (belA (aU hw4) hz4' (Nat.le_refl _) _ _) hz4' (laidA2 p4).1 (laidA2 p4).2).mono ?_
   | refine (aU HREST _ w4.heap.size w3.heap.size (belA (aU hw4) hz4' (aU hw3).size _ _) hz4' (laidA2 q4).1 (laidA2 q4).2).mono ?_
   | refine (aU HREST _ w4.heap.size (w4.heap.size+1) (bel2 (aU hw4) hz4' _ _) hz4' laidD2.1 laidD2.2).mono ?_
   | refine (aU HREST _ (w4.heap.size+1) w4.heap.size (bel2 (aU hw4) hz4' _ _) (Nat.le_succ_of_le hz4') laidC2.1 laidC2.2).mono ?_
  rintro e w' ⟨rfl,hc10,hrest⟩
  have HRT:=aH hrest
  clear hrest HREST HCL
  go_wp2_with fail
  refine bodyPost_ret (v:=.tuple #[.pointer (some ⟨_,0,none⟩),.int .i64 0]) ?_ rfl (aU HRT)
  simp [results,Tryz.results43,go_sem]
end Bh
namespace Br
open Ka Wa Wb Wc Wd We Wf Wg Wh Wi Wj Wk Wl Wm Ha Hb Hc Re Lg Qa Qb Qc Qd Qe Qf Qg Qh Qk Qm Qr Qs Na Nc Be Bf Bg Bh Da
def good (s mac ip:Str):Bool:=(zoneP s).isSome && cfgOk mac ip
def code (s:Str):Nat:=if (zoneP s).isSome=true then 3 else 1
def outB (s mac ip bs:Str):Str:=if good s mac ip=true then layB bs else bs
def Unread (w:World) (mb bb base:Nat) (bs:Str) (st:Nat):Prop:=∃ f:Fl,f.1=false∧MemX w mb bb base bs false 0 st f
def Hand (s mac ip:Str) (x:Option Addr) (e:Nat):Prop:=(good s mac ip=false∧x=none∧e=code s)∨(good s mac ip=true∧(∃ b,x=some ⟨b,0,none⟩)∧e=0)
theorem fresh_any (sb cap n:Nat) (sd:Str) (w:World) (hn:sd.length=n) (hnb:n≤9223372036854775807) (hsd:BytesAt w sb sd) :
  Calls Tryz.prog 42 #[.slice (some ⟨sb,0,none⟩) n cap] w fun e w'=>e=.returned (.pointer (some ⟨w.heap.size+1,0,none⟩))∧Qt.New w' (w.heap.size+1) w.heap.size (frB sd)∧Below w.heap.size w w':=by
 by_cases h:sd = []
 ·obtain rfl:n=0:=by rw [← hn,h]; rfl
  unfold frB
  rw [if_pos h]
  exact fresh_none (some ⟨sb,0,none⟩) cap w
 ·unfold frB
  rw [if_neg h]
  exact fresh_x sb cap n sd w hn (by rw [← hn]; exact List.length_pos_iff.2 h) hnb hsd
theorem new_split {s mac ip bs:Str} {mb bb:Nat} {w w':World} {e:Ending} (h:NewOut s mac ip bs mb bb w e w') (hN:Qt.New w mb bb bs) : ∃ x er,e=.returned (.tuple #[.pointer x,.int .i64 (er:Nat)])∧Hand s mac ip x er∧Fr (fun i=>i≠mb∧i≠bb) w w'∧∃ base st,w.heap.size≤base∧base≤w'.heap.size∧Unread w' mb bb base (outB s mac ip bs) st∧(good s mac ip=false→st=0):=by
 unfold NewOut at h
 by_cases hs:(zoneP s).isSome=true
 ·rw [if_pos hs] at h
  by_cases hc:cfgOk mac ip=true
  ·rw [if_pos hc] at h
   have hg:good s mac ip=true:=by unfold good; rw [hs,hc]; rfl
   obtain ⟨xb,zb,rb,sb,base,rfl,⟨hM,hX⟩,⟨o1,o2,o3,o4⟩,hk,t1,t2,t3⟩:=h
   have lx:=aB.lt hM.mac
   refine ⟨_,0,rfl,.inr ⟨hg,⟨xb,rfl⟩,rfl⟩,⟨t1,t2,t3,by omega,fun i hi hp=>hk i hi hp.1 hp.2⟩,base,276,by omega,hM.hb,⟨(false,true,true),rfl,?_⟩,fun hf=>by rw [hg] at hf; cases hf⟩
   unfold outB
   rw [if_pos hg]
   exact hX
  ·rw [if_neg hc] at h
   have hg:good s mac ip=false:=by unfold good; rw [hs]; simpa using hc
   refine ⟨none,3,h.1,.inl ⟨hg,rfl,by unfold code; rw [if_pos hs]⟩,Fr.of_below h.2,w'.heap.size,0,h.2.size,Nat.le_refl _,⟨(false,false,false),rfl,?_⟩,fun _=>rfl⟩
   unfold outB
   rw [if_neg (by rw [hg]; decide)]
   exact Qt.new_memx (new_below hN h.2) _
 ·rw [if_neg hs] at h
  have hg:good s mac ip=false:=by unfold good; simp [hs]
  refine ⟨none,1,h.1,.inl ⟨hg,rfl,by unfold code; rw [if_neg hs]⟩,Fr.of_below h.2,w'.heap.size,0,h.2.size,Nat.le_refl _,⟨(false,false,false),rfl,?_⟩,fun _=>rfl⟩
  unfold outB
  rw [if_neg (by rw [hg]; decide)]
  exact Qt.new_memx (new_below hN h.2) _
theorem boot_split {s mac ip bs:Str} {mb bb:Nat} {w w':World} {e:Ending} (h:BootOut s mac ip bs mb bb w.heap.size false 0 0 w e w') (hN:Qt.New w mb bb bs) : ∃ y er,e=.returned (.tuple #[.pointer y,.int .i64 (er:Nat)])∧Hand s mac ip y er∧Fr (fun i=>i≠mb∧i≠bb) w w'∧Seen w' mb bb (outB s mac ip bs):=by
 unfold BootOut at h
 by_cases hs:(zoneP s).isSome=true
 ·rw [if_pos hs] at h
  by_cases hc:cfgOk mac ip=true
  ·rw [if_pos hc] at h
   have hg:good s mac ip=true:=by unfold good; rw [hs,hc]; rfl
   obtain ⟨⟨yb,rfl⟩,hM,hF⟩:=h
   refine ⟨_,0,rfl,.inr ⟨hg,⟨yb,rfl⟩,rfl⟩,⟨hF.os,hF.tape,hF.output,hF.size,fun i hi hp=>hF.block i hi hp.1 hp.2 (.inl hi)⟩,?_⟩
   unfold outB
   rw [if_pos hg]
   exact mem_seen hM
  ·rw [if_neg hc] at h
   have hg:good s mac ip=false:=by unfold good; rw [hs]; simpa using hc
   refine ⟨none,3,h.1,.inl ⟨hg,rfl,by unfold code; rw [if_pos hs]⟩,Fr.of_below h.2,?_⟩
   unfold outB
   rw [if_neg (by rw [hg]; decide)]
   exact mem_seen (Qt.new_mem (new_below hN h.2) 0)
 ·rw [if_neg hs] at h
  have hg:good s mac ip=false:=by unfold good; simp [hs]
  refine ⟨none,1,h.1,.inl ⟨hg,rfl,by unfold code; rw [if_neg hs]⟩,Fr.of_below h.2,?_⟩
  unfold outB
  rw [if_neg (by rw [hg]; decide)]
  exact mem_seen (Qt.new_mem (new_below hN h.2) 0)
theorem unread_fr {w w':World} {mb bb base nb cb st:Nat} {bs:Str} (h:Unread w mb bb base bs st) (hF:Fr (fun i=>i≠nb∧i≠cb) w w') (h1:mb≠nb) (h2:mb≠cb) (h3:bb≠nb) (h4:bb≠cb) (h5:nb<base) (h6:cb<base):Unread w' mb bb base bs st:=by
 obtain ⟨f,hf,vl,vm,ns,hm,hr,ho,hl,ms,hms,hml⟩:=h
 exact ⟨f,hf,vl,vm,ns,aF.of hm (hF.block mb (aF.lt hm) ⟨h1,h2⟩),RowB.of hr (hF.block bb hr.2.lt ⟨h3,h4⟩),own_keep ho fun g hg=>hF.block g (own_lt ho hg) ⟨by have:=(own_at ho hg).1; omega,by have:=(own_at ho hg).1; omega⟩,hl,ms,own_keep hms fun g hg=>hF.block g (own_lt hms hg) ⟨by have:=(own_at hms hg).1; omega,by have:=(own_at hms hg).1; omega⟩,hml⟩
theorem unread_cells {w:World} {mb bb base st:Nat} {bs:Str} (h:Unread w mb bb base bs st):RowB w bb bs∧w.cell? ⟨mb,0,none⟩=some (.slice (some ⟨bb,0,none⟩) 25600 25600)∧(∃ a c,w.cell? ⟨mb,1,none⟩=some (.slice a 0 c))∧w.cell? ⟨mb,2,none⟩=some (.bool false)∧w.cell? ⟨mb,6,none⟩=some (.bool false)∧w.cell? ⟨mb,9,none⟩=some (.int .i64 st):=by
 obtain ⟨f,hf,vl,vm,ns,hm,hr,ho,hl,_⟩:=h
 have hns:ns = []:=List.eq_nil_of_length_eq_zero (by omega)
 subst hns
 have hv : ∃ a c,vl=.slice a 0 c:=by
  obtain ⟨_,⟨rfl,_⟩ | ⟨g,cap,cur,rfl,_⟩⟩:=ho
  ·exact ⟨_,_,rfl⟩
  ·exact ⟨_,_,rfl⟩
 obtain ⟨a,c,rfl⟩:=hv
 have h6:=aF.at6 hm
 rw [hf] at h6
 exact ⟨hr,aF.at0 hm,⟨a,c,aF.at1 hm⟩,aF.at2 hm,h6,aF.at9 hm⟩
theorem row_text {w:World} {bb:Nat} {bs:Str} (h:RowB w bb bs):(convert 58 9 (.slice (some ⟨bb,0,none⟩) 25600 25600)).run Tryz.prog w=.ok (.string (B bs)) w:=by
 have:=run_convert_bytes_back (P:=Tryz.prog) w 58 9 5 ⟨bb,0,none⟩ 25600 bs Tryz.underlying58 Tryz.underlying5 Tryz.underlying9 fun j hj=>by
  have e:(⟨bb,0,none⟩:Addr).add j=⟨bb,j,none⟩:=by unfold Addr.add; by_cases h:j=0 <;> simp [h]
  rw [e,h.2.cell j (by simpa using hj),List.getElem_map]
 rw [h.1] at this
 exact this
end Br
namespace Bl
open Ka Wa Wb Wc Wd We Wf Wg Wh Wi Wj Wk Wl Wm Ha Hb Hc Re Qa Qb Qc Qd Qe Qf Qg Qh Qr Qs
theorem get_any (mb bb p size:Nat) (bs:Str) (w:World) (h:Seen w mb bb bs) (hsz:size≤8) (hp:p+size≤25600) (hv:rdN bs p size<4611686018427387904) :
  Calls Tryz.prog 93 #[.pointer (some ⟨mb,0,none⟩),.int .i64 p,.int .i64 size] w fun e w'=>e=.returned (.int .i64 (rdN bs p size))∧w'=w:=by
 have h0:=h.1
 have HH:=aH h
 have hl:=h.2.1
 clear h
 go_enter Tryz.func93,Tryz.ntmps93
 go_wp2_with fail
 go_loopw [7,8] (fun n i wr=>∃ k:Nat,n=.int .i64 (rdN bs p k:Nat)∧i=.int .i64 k∧k≤size∧wr=w) (fun _ i _=>size - (intOf i).toNat)
 case atStart=>exact ⟨0,rfl,rfl,Nat.zero_le _,rfl⟩
 case round =>
  obtain ⟨k,rfl,rfl,hk,rfl⟩:=hrel
  by_cases hlk:k<size
  ·obtain ⟨pk,hpk⟩ : ∃ pk,pk=p+k:=⟨_,rfl⟩
   obtain ⟨k8,hk8⟩ : ∃ k8,k8=8*k:=⟨_,rfl⟩
   have hpl:pk<bs.length:=by omega
   obtain ⟨cb,hcb⟩ : ∃ cb:UInt8,bs[pk]? = some cb:=⟨bs[pk],List.getElem?_eq_getElem hpl⟩
   obtain ⟨b,hb⟩ : ∃ b,b=cb.toNat:=⟨_,rfl⟩
   have hbl:b<256:=by rw [hb]; exact UInt8.toNat_lt cb
   have hcell:wr.cell? ⟨bb,pk,none⟩=some (.int .u8 b):=by
    have:=(aU HH).2.2.cell pk (by simpa using hpl)
    rw [this]; obtain ⟨_,e⟩:=List.getElem?_eq_some_iff.1 hcb; simp [e,hb]
   obtain ⟨y,hy⟩ : ∃ y,y=b*2 ^ k8:=⟨_,rfl⟩
   have hle:=rdN_le bs p (show k+1≤size by omega)
   have HE:rdN bs p (k+1)=rdN bs p k+y:=by
    rw [rdN,hy,hk8,hb,← hpk,hcb]; rfl
   rw [HE] at hle
   obtain ⟨z,hz⟩ : ∃ z,z=rdN bs p (k+1):=⟨_,rfl⟩
   have HZ:=aH hz
   rw [HE] at hz
   generalize rdN bs p k=x at *
   have hz2:z<4611686018427387904:=by omega
   have e2:IntKind.i64.wrap ((p:Int)+(k:Int))=(pk:Int):=by rw [IntKind.wrap_i64]; omega
   have e3:IntKind.i64.wrap (8*(k:Int))=(k8:Int):=by rw [IntKind.wrap_i64]; omega
   have e4:IntKind.i64.wrap (b:Int)=(b:Int):=by rw [IntKind.wrap_i64]; omega
   have e5:IntKind.i64.wrap ((b:Int)*2 ^ min k8 64)=(y:Int):=by
    rw [Nat.min_eq_left (by omega),show (b:Int)*2 ^ k8=(y:Int) by rw [hy]; simp,IntKind.wrap_i64]; omega
   have e6:IntKind.i64.wrap ((x:Int)+(y:Int))=(z:Int):=by rw [IntKind.wrap_i64]; omega
   have hn':pk<25600:=by omega
   clear hpk hk8 hcb hb hy hle HE hz hz2 hpl
   go_wp2_with fail
   exact ⟨⟨k+1,by rw [aU HZ],by go_num,by omega,by first | trivial | rfl⟩,by simp [intOf]; omega⟩
  ·have hkl:k=size:=by omega
   subst hkl
   go_wp2
   go_ret
   exact ⟨rfl,rfl⟩
theorem put_any (mb bb base p size v:Nat) (wild:Bool) (cnt st:Nat) (bs:Str) (w:World) (h:Mem w mb bb base bs wild cnt st) (hsz:size≤8) (hp:p+size≤25600) (hv:v<4294967296) :
  Calls Tryz.prog 46 #[.pointer (some ⟨mb,0,none⟩),.int .i64 p,.int .i64 size,.int .i64 v] w fun e w'=>e=.returned (.tuple #[])∧Mem w' mb bb base (wrN bs p v size) wild cnt st∧It.Keeps bb w w'∧w'.heap.size=w.heap.size:=by
 have HM:=aH h
 have hne:=mem_ne h
 clear h
 go_enter Tryz.func46,Tryz.ntmps46
 go_wp2_with fail
 go_loopw [8] (fun i wr=>∃ k:Nat,i=.int .i64 k∧k≤size∧Mem wr mb bb base (wrN bs p v k) wild cnt st∧It.Keeps bb w wr∧wr.heap.size=w.heap.size) (fun i _=>size - (intOf i).toNat)
 case atStart=>exact ⟨0,rfl,Nat.zero_le _,aU HM,Keeps_refl _ _,rfl⟩
 case round =>
  obtain ⟨k,rfl,hk,hm,hK,hsz1⟩:=hrel
  by_cases hlk:k<size
  ·obtain ⟨pk,hpk⟩ : ∃ pk,pk=p+k:=⟨_,rfl⟩
   obtain ⟨k8,hk8⟩ : ∃ k8,k8=8*k:=⟨_,rfl⟩
   obtain ⟨x,hx⟩ : ∃ x,x=v/2 ^ k8:=⟨_,rfl⟩
   obtain ⟨cb,hcb⟩ : ∃ cb:UInt8,cb=UInt8.ofNat x:=⟨_,rfl⟩
   have e2:IntKind.i64.wrap ((p:Int)+(k:Int))=(pk:Int):=by rw [IntKind.wrap_i64]; omega
   have e3:IntKind.i64.wrap (8*(k:Int))=(k8:Int):=by rw [IntKind.wrap_i64]; omega
   have e4:IntKind.u8.wrap (x:Int)=(cb.toNat:Int):=by rw [IntKind.wrap_u8,hcb,UInt8.toNat_ofNat']; omega
   have e6:IntKind.u8.wrap ((v:Int)/2 ^ min k8 64)=(cb.toNat:Int):=by
    rw [Nat.min_eq_left (by omega),← e4,hx]; simp
   have hs:=mem_seen hm
   have h0:=hs.1
   have hpl:pk<(wrN bs p v k).length:=by rw [hs.2.1]; omega
   obtain ⟨v0,hv0⟩ : ∃ v0,wr.cell? ⟨bb,pk,none⟩=some v0:=⟨_,hs.2.2.cell pk (by simpa using hpl)⟩
   have hf:=hs.2.2.frozen
   have HWN:Hid ((wrN bs p v k).set pk cb=wrN bs p v (k+1)):=by rw [Hid,wrN,hpk,hcb,hx,hk8]
   have HR1:=aH (RowB.set hs.2 pk cb)
   rw [aU HWN] at HR1
   have hR2:RowB (wr.drew.setCell ⟨bb,pk,none⟩ (.int .u8 cb.toNat)) bb (wrN bs p v (k+1)):=aU HR1
   have hK2:It.Keeps bb wr (wr.drew.setCell ⟨bb,pk,none⟩ (.int .u8 cb.toNat)):=Keeps_set (It.Keeps.of_below (Below.refl _ _).drew) _ _
   have HM2:=aH (mem_row hm hR2 hK2)
   have HK2:=aH (Keeps_trans hK hK2)
   have HS:=aH hsz1
   have hn':pk<25600:=by omega
   clear hm hK hs hpk hk8 hx hcb e4 hpl hsz1 hR2 hK2 HR1 HWN
   go_wp2_with fail
   go_region
   all_goals
    go_wp2_with fail
    exact ⟨⟨k+1,by go_num,by omega,aU HM2,aU HK2,by simpa [World.setCell,World.drew] using aU HS⟩,by simp [intOf]; omega⟩
  ·have hkl:k=size:=by omega
   subst hkl
   have HM2:=aH hm
   have HK2:=aH hK
   have HS:=aH hsz1
   clear hm hK hsz1
   go_wp2
   refine bodyPost_end (v:=.tuple #[]) (by simp [results,Tryz.results46]) rfl ?_
   exact ⟨rfl,aU HM2,aU HK2,aU HS⟩
end Bl
end Go.Proofs.YtkkpahmoljiepaaGreatDoor
