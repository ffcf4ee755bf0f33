/- Contract: beaconlaw's fourth: a machine that is asked who it is answers. -/
import Derived.Test.YtkkpahmoljiepaaGreatDoorJ13
import Derived.Test.YtkkpahmoljiepaaGreatDoorJ25
import Derived.Test.YtkkpahmoljiepaaGreatDoorJ26
import Derived.Test.YtkkpahmoljiepaaGreatDoorJ27
import Derived.Test.YtkkpahmoljiepaaGreatDoorJ28
import Derived.Test.YtkkpahmoljiepaaGreatDoorJ07
import Derived.Test.YtkkpahmoljiepaaGreatDoorJ18
import Derived.Maps.AppendAt
import Derived.Deep.RegionLaw
import Derived.Deep.AppendLies
import Derived.Deep.RegionHeldLaw
import Derived.BigQuiet
import Derived.Test.YtkkpahmoljiepaaGreatDoorJ01
import Derived.WalkKit
import Derived.ProofKit
import Derived.OpenShut
import Derived.HandedShaped
import Derived.Lay
import Derived.Stop.Joined
import Derived.MakeChecks
import Derived.Shelf.Vars
set_option linter.unusedSimpArgs false
set_option linter.unusedVariables false
set_option maxRecDepth 1000000
set_option maxHeartbeats 12800000
namespace Go.Proofs.YtkkpahmoljiepaaGreatDoor
open Go.RowKit
open Pu (Str aH aU)
namespace Bq
open Ka Wa Wb Wc Wd We Wf Wg Wh Wi Wj Wk Wl Wm Ha Hb Hc Re Lg Qa Qb Qc Qd Qe Qf Qg Qh Qr Qq Qs Qw Na Nc Nd Nf Nh Nj Be Bh Bj Bl Bm Bn Bo Bp Da
theorem mac_fr {w w':World} {xb zb rb sb mb bb base cb:Nat} {mac ip bs bs':Str} {wild:Bool} {cnt st rav rus:Nat} {rout:List Bool} {sav sus:Nat} {sout:List Bool} {n s d:Nat} {br:Bool} {cs:List Value} (h:Mac w xb zb rb sb mb bb base mac ip bs wild cnt st rav rus rout sav sus sout n s d br) (hm:Mem w' mb bb base bs' wild cnt st) (hF:Fr (fun i=>i≠cb∧i≠bb) w w') (hc:aB w cb cs 90):Mac w' xb zb rb sb mb bb base mac ip bs' wild cnt st rav rus rout sav sus sout n s d br:=by
 obtain ⟨_,_,_,a4,_,_,a7,_,a9⟩:=h.apart
 exact ⟨hm,(hF.block rb (aB.lt h.rr) ⟨blk_ne h.rr hc (by decide),a7⟩).trans h.rr,(hF.block sb (aB.lt h.sr) ⟨blk_ne h.sr hc (by decide),a9⟩).trans h.sr,(hF.block xb (aB.lt h.mac) ⟨blk_ne h.mac hc (by decide),a4⟩).trans h.mac,Nat.le_trans h.hb hF.size⟩
theorem eq_counts (W:World):(binOp .eql 101 (.agg #[.int .i64 1,.int .i64 1,.int .i64 0,.bool false]) (.agg #[.int .i64 1,.int .i64 1,.int .i64 0,.bool false])).run Tryz.prog W=.ok (.bool true) W:=by kernel_rfl
theorem some4:(zoneP Db.smp).isSome=true:=by rw [Db.zoneE]; rfl
theorem cfg4:cfgOk myM myI=true:=by decide
theorem poll_four (xb zb rb sb mb bb base:Nat) (w:World) (h:Mac w xb zb rb sb mb bb base myM myI m1 false 0 276 8 0 (tr 8) 0 0 (tr 0) 0 0 0 false) :
  Calls Tryz.prog 54 #[.pointer (some ⟨xb,0,none⟩)] w fun e w'=>e=.returned (.int .i64 0)∧(∃ cnt st sav sus sout rav rus rout,Mac w' xb zb rb sb mb bb base myM myI m2 false cnt st rav rus rout sav sus sout 1 1 0 false)∧GF (Off xb rb sb mb bb) base w w':=by
 have hA : ∀ k,k<1→rdN m1 (260+8*((0+k)%8)) 4=0:=fun k hk=>by
  obtain rfl:k=0:=by omega
  exact m1_in.1
 have hB : ∀ k,k<1→rdN m1 (260+8*((0+k)%8)+4) 4=12+fr4.length:=fun k hk=>by
  obtain rfl:k=0:=by omega
  exact m1_in.2.1
 have hC : ∀ k,k<1→LiesB m1 (1024+1536*0+12) fr4:=fun k hk=>m1_in.2.2
 have:=poll_ok xb zb rb sb mb bb base myM myI m1 false 0 276 8 0 0 0 0 0 0 0 0 1 (tr 0) (fun _=>tr 0) (fun _=>0) (fun _=>0) (fun _=>fr4) (fun _=>an4) w h m1_len (by omega) (by decide) m1_770 (by omega) rfl (fun k hk=>by omega) (fun k hk=>by omega) rfl (by omega) (by omega) m1_258 (by omega) (by omega) (by omega) (by omega) (by omega) (by omega) (by omega) (fun k _=>by show 0<8; omega)
  hA hB (fun k hk=>by show fr4.length≤1524; rw [fr4_len]; omega) (fun k hk=>by show an4.length≤1524; rw [an4_len]; omega) (fun k hk=>by show an4≠[]; decide) hC (fun k W _ _=>handle_four _ W)
 refine this.mono ?_
 rintro e w' ⟨rfl,hA,hF⟩
 exact ⟨rfl,⟨_,_,_,_,_,_,_,_,hA⟩,hF⟩
theorem fourth_ok (w:World) (hg:G w):Calls Tryz.prog 41 #[] w fun e w'=>e=.returned (.bool true)∧Below w.heap.size w w':=by
 have HFR:=aH (fresh_none none 0 w)
 have HG:=aH hg
 clear hg
 go_enter Tryz.func41,Tryz.ntmps41
 go_wp2_with fail
 refine (aU HFR).mono ?_
 rintro e w1 ⟨rfl,hN1,hb1⟩
 have HC:=aH (config_none w1)
 have HN1:=aH hN1
 have HB1:=aH hb1
 clear hN1 hb1 HFR
 go_wp2_with fail
 refine (aU HC).mono ?_
 rintro e w2 ⟨rfl,hb2⟩
 have hN2:=new_below (aU HN1) hb2
 have hB2:=(aU HB1).trans (hb2.mono (aU HB1).size)
 have hz2:w.heap.size+1<w2.heap.size:=aF.lt hN2.1
 obtain ⟨W2,hW2⟩ : ∃ W2,W2=w2.alloc (.cells #[.string (B myM),.string (B myI)] 62):=⟨_,rfl⟩
 have hc2:aB W2 w2.heap.size [.string (B myM),.string (B myI)] 62:=by rw [hW2]; exact aB.new w2 _ _
 have hbW:Below w2.heap.size w2 W2:=by rw [hW2]; exact (Below.refl _ _).alloc (Nat.le_refl _) _
 have hN3:=new_below hN2 hbW
 have hB3:=hB2.trans (hbW.mono hB2.size)
 have hsW:W2.heap.size=w2.heap.size+1:=by rw [hW2]; simp
 have HNEW:=aH (new_any Db.smp myM myI (w.heap.size+1) w.heap.size Z W2 ((aU HG).below hB3) hN3)
 rw [hW2] at HNEW
 have HB3:=aH hB3
 have HC2:=aH hc2
 have HSW:=aH hsW
 clear hb2 hN2 hB2 hc2 hbW hN3 hB3 HC HN1 HB1 hsW
 go_wp2_with fail
 refine (aU HNEW).mono ?_
 rw [← hW2]
 rintro e w3 hO
 unfold NewOut at hO
 rw [if_pos some4,if_pos cfg4] at hO
 obtain ⟨xb,zb,rb,sb,base,rfl,⟨hMac,_⟩,⟨o1,o2,o3,o4⟩,hk,t1,t2,t3⟩:=hO
 have hsW:=aU HSW
 have lx:=aB.lt hMac.mac
 have hB4:Below w.heap.size w w3:=⟨t1.trans (aU HB3).os,t2.trans (aU HB3).tape,t3.trans (aU HB3).output,by omega,fun i hi=>(hk i (by omega) (by omega) (by omega)).trans ((aU HB3).block i hi)⟩
 have hc3:aB w3 w2.heap.size [.string (B myM),.string (B myI)] 62:=(hk w2.heap.size (by omega) (by omega) (by omega)).trans (aU HC2)
 have hbC:Below w3.heap.size w3 (w3.alloc (.cells #[.pointer (some ⟨w.heap.size+1,0,none⟩),.int .i64 0,.int .i64 0,.int .i64 0,.int .i64 0] 90)):=(Below.refl _ _).alloc (Nat.le_refl _) _
 have hcd:CardAt (w3.alloc (.cells #[.pointer (some ⟨w.heap.size+1,0,none⟩),.int .i64 0,.int .i64 0,.int .i64 0,.int .i64 0] 90)) w3.heap.size (w.heap.size+1) 0 0 0 0:=aB.new w3 _ _
 have hMac3:=hMac.below hbC
 have hc4:=hc3.below hbC hc3.lt
 have hMC:MC (w3.alloc (.cells #[.pointer (some ⟨w.heap.size+1,0,none⟩),.int .i64 0,.int .i64 0,.int .i64 0,.int .i64 0] 90)) w3.heap.size (w.heap.size+1) w.heap.size base m0 false 0 276 0 0 0 0:=⟨hMac3.mem,hcd,by omega,by omega⟩
 have hB5:Below w.heap.size w (w3.alloc (.cells #[.pointer (some ⟨w.heap.size+1,0,none⟩),.int .i64 0,.int .i64 0,.int .i64 0,.int .i64 0] 90)):=hB4.trans (hbC.mono (by omega))
 have HDEL:=aH (deliver_one w3.heap.size (w.heap.size+1) w.heap.size base fr4 m0 false 0 276 _ hMC m0_len m0_130 m0_132 m0_0 (by rw [fr4_len]; omega))
 have HMac3:=aH hMac3
 have HMC:=aH hMC
 have HB5:=aH hB5
 have HO:=aH (show w.heap.size+2≤xb∧xb<base∧base≤rb∧base≤sb∧xb<w3.heap.size∧rb<w3.heap.size∧sb<w3.heap.size from ⟨by omega,o1,o2,o3,by omega,by have:=aB.lt hMac.rr; omega,by have:=aB.lt hMac.sr; omega⟩)
 have y0:(w3.alloc (.cells #[.pointer (some ⟨w.heap.size+1,0,none⟩),.int .i64 0,.int .i64 0,.int .i64 0,.int .i64 0] 90)).cell? ⟨w2.heap.size,0,none⟩=some (.string (B myM)):=hc4.cell 0 (by simp)
 have y1:(w3.alloc (.cells #[.pointer (some ⟨w.heap.size+1,0,none⟩),.int .i64 0,.int .i64 0,.int .i64 0,.int .i64 0] 90)).cell? ⟨w2.heap.size,1,none⟩=some (.string (B myI)):=hc4.cell 1 (by simp)
 obtain ⟨x1,hx1⟩ : ∃ x1:Str,x1=myM++[2,111,116,104,101,114,8,6,0,1,8,0,6,4,0,1,2,111,116,104,101,114,10,0,0,2,110,111,98,111,100,121]:=⟨_,rfl⟩
 have k1:B myM++⟨#[2,111,116,104,101,114,8,6,0,1,8,0,6,4,0,1,2,111,116,104,101,114,10,0,0,2,110,111,98,111,100,121]⟩=B x1:=by rw [hx1]; rfl
 have k2:B x1++B myI=B fr4:=by rw [hx1]; rfl
 have zx:(B x1).size=38:=by rw [hx1]; rfl
 have zm:(B myM).size=6:=rfl
 have zi:(B myI).size=4:=rfl
 clear hx1 hk t1 t2 t3 o1 o2 o3 o4 hsW lx hB4 hc3 hbC hcd hMac3 hc4 hMC hB5 hMac HNEW HB3 HC2 HSW hW2
 go_wp2_with fail
 generalize (w3.alloc (.cells #[.pointer (some ⟨w.heap.size+1,0,none⟩),.int .i64 0,.int .i64 0,.int .i64 0,.int .i64 0] 90))=W3 at *
 refine (aU HDEL).mono ?_
 rintro e w4 ⟨rfl,hMC4,hF4⟩
 have hO:=aU HO
 have hMac4:Mac w4 xb zb rb sb (w.heap.size+1) w.heap.size base myM myI m1 false 0 276 8 0 (tr 8) 0 0 (tr 0) 0 0 0 false:=mac_fr (aU HMac3) hMC4.m hF4 (aU HMC).c
 have hz3:=(aU HB5).size
 have hB6:Below w.heap.size w w4:=(aU HB5).trans (hF4.below (fun k hk=>⟨by omega,by omega⟩) hz3)
 have HPO:=aH (poll_four xb zb rb sb (w.heap.size+1) w.heap.size base w4 hMac4)
 have HM4:=aH hMac4
 have HMC4:=aH hMC4
 have HB6:=aH hB6
 clear hMC4 hF4 hMac4 hB6 HDEL HMac3 HMC HB5 y0 y1 k1 k2 zx zm zi hO hz3
 go_wp2_with fail
 refine (aU HPO).mono ?_
 rintro e w5 ⟨rfl,⟨cnt,st,sav,sus,sout,rav,rus,rout,hMac5⟩,hG5⟩
 have hO:=aU HO
 have hc4:=(aU HMC4).c
 have hc5:=hG5.blk hc4 ⟨blk_ne hc4 (aU HM4).mac (by decide),blk_ne hc4 (aU HM4).rr (by decide),blk_ne hc4 (aU HM4).sr (by decide),(aU HMC4).n1,(aU HMC4).n2⟩ (by decide) (by decide)
 have hMC5:MC w5 w3.heap.size (w.heap.size+1) w.heap.size base m2 false cnt st 1 1 0 0:=⟨hMac5.mem,hc5,(aU HMC4).n1,(aU HMC4).n2⟩
 have hz4:=(aU HB6).size
 have hB7:Below w.heap.size w w5:=(aU HB6).trans ⟨hG5.os,hG5.tape,hG5.output,hG5.size,fun i hi=>hG5.block i (by omega) ⟨by omega,by omega,by omega,by omega,by omega⟩ (.inl (by omega))⟩
 have HBK:=aH (back_one w3.heap.size (w.heap.size+1) w.heap.size base 1 1 an4 m2 false cnt st w5 hMC5 m2_len m2_642 m2_sent.1 m2_512 m2_sent.2.1 an4_len m2_sent.2.2)
 have HM5:=aH hMac5
 have HMC5:=aH hMC5
 have HB7:=aH hB7
 clear hMac5 hG5 hc4 hc5 hMC5 hB7 HPO HM4 HMC4 HB6 hO hz4
 go_wp2_with fail
 refine (aU HBK).mono ?_
 rintro e w6 ⟨g,cap,rfl,hgc,hF6⟩
 have hO:=aU HO
 have hA6:MacAt w6 xb zb rb sb myM myI 1 1 0 false:=(hF6.block xb (aB.lt (aU HM5).mac) ⟨blk_ne (aU HM5).mac (aU HMC5).c (by decide),by omega⟩).trans (aU HM5).mac
 have hz5:=(aU HB7).size
 have HB8:=aH ((aU HB7).trans (hF6.below (fun k hk=>⟨by omega,by omega⟩) hz5))
 have HCN:=aH (counts_any xb zb rb sb myM myI 1 1 0 false w6 hA6)
 have HGC:=aH hgc
 clear hgc hF6 hA6 HBK HM5 HMC5 HB7 hO hz5
 go_wp2_with fail
 refine (aU HCN).mono ?_
 rintro e w7 ⟨rfl,hb7⟩
 have hg7:w7.cell? ⟨g,0,none⟩=some (.string (B an4)):=(hb7.cell (World.block_lt_of_cell? w6 ⟨g,0,none⟩ (aU HGC))).trans (aU HGC)
 have hg8:(w7.alloc (.cells #[.int .i64 1,.int .i64 1,.int .i64 0,.bool false] 101)).cell? ⟨g,0,none⟩=some (.string (B an4)):=(World.cell?_of_block (Below.heap_alloc _ _ _ (World.block_lt_of_cell? w7 ⟨g,0,none⟩ hg7))).trans hg7
 have hB9:=(aU HB8).trans (hb7.mono (aU HB8).size)
 have HB10:=aH (hB9.alloc hB9.size (.cells #[.int .i64 1,.int .i64 1,.int .i64 0,.bool false] 101))
 have za:(B an4).size=42:=rfl
 have keq:=eq_counts
 clear hb7 hB9 HB8 HCN HGC
 go_wp2
 go_ret
 exact ⟨rfl,aU HB10⟩
end Bq
namespace Dc
end Dc
namespace Dd
open Dc
end Dd
namespace De
open Dc Dd Re
end De
namespace Df
open Dc Dd De Re Lg
end Df
namespace Ew
open Ka Kb Re Wa Wb Ea Eb Ec Ed Ee Ef Eh
end Ew
namespace Dg
open Ka Ed Ek Em En Ep Ej Ia Sc Sf Si Lg Eu Ex Oa Ob Oc Od Og Ol Om La Lb Es Ev Er Eh Za Ie Ec Ee Eb Re Rf Lc Ke Lv Da Dc Dd De Df
end Dg
namespace Dh
open Ka Ed Ek Em En Ep Ej Ia Sc Sf Si Lg Eu Ex Oa Ob Oc Od Og Oh Oi Oj Ol Om La Lb Es Ev Er Eh Za Ie Ec Ee Eb Re Rf Lc Ke Lv Da Dc Dd De Df Dg
end Dh
namespace Di
open Ka Ed Ek Em En Ep Ej Ia Sc Sf Si Lg Eu Ex Oa Ob Oc Od Og Oh Oi Oj On Ol Om La Lb Es Ev Er Eh Za Ie Ec Ee Eb Re Rf Lc Ke Lv Da Dc Dd De Df Dg Dh
theorem num_ok (x:Int) (w:World):Calls Tryz.prog 45 #[.int .i64 x] w fun e w'=>e=.returned (.int .i64 x)∧w'=w:=by
 go_enter Tryz.func45,Tryz.ntmps45
 go_wp2_with fail
 go_ret
 exact ⟨rfl,rfl⟩
end Di
namespace Bs
open Ka Wa Wb Wc Wd We Wf Wg Wh Wi Wj Wk Wl Wm Ha Hb Hc Re Lg Qa Qb Qc Qd Qe Qf Qg Qh Qk Qm Qr Qs Na Nc Be Bf Bg Bh Br Da
theorem configs_ok (s mac ip sd:Str) (w:World) (hg:G w) (ls:sd.length≤9223372036854775807) :
  Calls Tryz.prog 11 #[.string (B s),.string (B mac),.string (B ip),.string (B sd)] w fun e w'=>e=.returned (.bool true)∧Below w.heap.size w w':=by
 have HG:=aH hg
 have H4:=aH (Bq.fourth_ok w hg)
 have kb:=fun W=>run_bytes_of_string (P:=Tryz.prog) W 9 58 5 (B sd) Tryz.underlying9 Tryz.underlying58 Tryz.underlying5
 have hsz:(B sd).size=sd.length:=size_B sd
 have HFX:Hid (∀ W:World,∀ cap,Calls Tryz.prog 42 #[.slice (some ⟨W.heap.size,0,none⟩) sd.length cap] (W.drew.alloc (.cells (bytesRow (B sd) cap) 5 ((bytesRow (B sd) cap).size,(bytesRow (B sd) cap).size+1))) fun e w'=>e=.returned (.pointer (some ⟨W.heap.size+2,0,none⟩))∧Qt.New w' (W.heap.size+2) (W.heap.size+1) (frB sd)∧Below W.heap.size W w'):=fun W cap=>by
  have hz:(W.drew.alloc (.cells (bytesRow (B sd) cap) 5 ((bytesRow (B sd) cap).size,(bytesRow (B sd) cap).size+1))).heap.size=W.heap.size+1:=World.size_alloc _ _
  have hb0:Below W.heap.size W (W.drew.alloc (.cells (bytesRow (B sd) cap) 5 ((bytesRow (B sd) cap).size,(bytesRow (B sd) cap).size+1))):=(Below.refl W.heap.size W).drew.alloc (Nat.le_refl _) _
  have:=fresh_any W.heap.size cap sd.length sd _ rfl ls (bytes_new W sd cap)
  rw [hz] at this
  refine this.mono ?_
  rintro e w' ⟨h1,h2,h3⟩
  exact ⟨h1,h2,hb0.trans (h3.mono (by omega))⟩
 rw [hsz] at kb
 have KB:=aH kb
 clear hg hsz kb
 go_enter Tryz.func11,Tryz.ntmps11
 go_wp2_with fail
 refine (aU H4).mono ?_
 rintro e w1 ⟨rfl,hb1⟩
 have kb1:=aU KB w1
 have HF1:=aH (aU HFX w1 (grownCap w1 sd.length 0 5))
 have HB1:=aH hb1
 generalize grownCap w1 sd.length 0 5=cap1 at *
 generalize w1.drew.alloc (.cells (bytesRow (B sd) cap1) 5 ((bytesRow (B sd) cap1).size,(bytesRow (B sd) cap1).size+1))=v1 at *
 clear hb1 H4
 go_wp2_with fail
 refine (aU HF1).mono ?_
 rintro e w2 ⟨rfl,hN1,hb2⟩
 have kb2:=aU KB w2
 have HF2:=aH (aU HFX w2 (grownCap w2 sd.length 0 5))
 have HB2:=aH ((aU HB1).trans (hb2.mono (aU HB1).size))
 have HN1:=aH hN1
 have HZ2:=aH (And.intro (aU HB1).size hb2.size)
 generalize grownCap w2 sd.length 0 5=cap2 at *
 generalize w2.drew.alloc (.cells (bytesRow (B sd) cap2) 5 ((bytesRow (B sd) cap2).size,(bytesRow (B sd) cap2).size+1))=v2 at *
 clear hb2 hN1 HF1 HB1 kb1 KB HFX
 go_wp2_with fail
 refine (aU HF2).mono ?_
 rintro e w3 ⟨rfl,hN2,hb3⟩
 obtain ⟨mb,hmb⟩ : ∃ mb,mb=w1.heap.size+2:=⟨_,rfl⟩
 obtain ⟨bb,hbb⟩ : ∃ bb,bb=w1.heap.size+1:=⟨_,rfl⟩
 obtain ⟨nb,hnb⟩ : ∃ nb,nb=w2.heap.size+2:=⟨_,rfl⟩
 obtain ⟨cb,hcb⟩ : ∃ cb,cb=w2.heap.size+1:=⟨_,rfl⟩
 have hN1:=aU HN1
 rw [← hmb,← hbb] at hN1
 rw [← hnb,← hcb] at hN2
 rw [← hmb,← hnb]
 have hN1':=new_below hN1 hb3
 have hB3:=(aU HB2).trans (hb3.mono (aU HB2).size)
 have l1:mb<w2.heap.size:=aF.lt hN1.1
 have l2:nb<w3.heap.size:=aF.lt hN2.1
 have hz12:=aU HZ2
 have l3:w.heap.size≤bb∧w.heap.size≤cb∧bb<mb∧mb<cb∧cb<nb:=by omega
 obtain ⟨W3,hW3⟩ : ∃ W3,W3=w3.alloc (.cells #[.string (B mac),.string (B ip)] 62):=⟨_,rfl⟩
 have hbW:Below w3.heap.size w3 W3:=by rw [hW3]; exact (Below.refl _ _).alloc (Nat.le_refl _) _
 have hsW:W3.heap.size=w3.heap.size+1:=by rw [hW3]; simp
 have hcc:aB W3 w3.heap.size [.string (B mac),.string (B ip)] 62:=by rw [hW3]; exact aB.new w3 _ _
 have hN1W:=new_below hN1' hbW
 have hN2W:=new_below hN2 hbW
 have hBW:=hB3.trans (hbW.mono hB3.size)
 have HNEW:=aH (new_any s mac ip mb bb (frB sd) W3 ((aU HG).below hBW) hN1W)
 have HN1W:=aH hN1W
 have HN2W:=aH hN2W
 have HBW:=aH hBW
 have HCC:=aH hcc
 have HSW:=aH hsW
 have HL:=aH l3
 have HL2:=aH l2
 rw [hW3] at HNEW
 have HW3:=aH hW3
 clear hmb hbb hnb hcb hN1 hN2 hN1' hB3 l1 l2 l3 hz12 hbW hsW hcc hN1W hN2W hBW hb3 HF2 HN1 HB2 HZ2 kb2 ls hW3
 dsimp only
 go_wp2_with fail
 refine (aU HNEW).mono ?_
 rw [← aU HW3]
 rintro e w4 hO
 obtain ⟨x,er,rfl,hx,hF4,base,st,hb1,hb2,hU,hst⟩:=new_split hO (aU HN1W)
 have hL:=aU HL
 have hL2:=aU HL2
 have hsW:=aU HSW
 have hN2:Qt.New w4 nb cb (frB sd):=⟨aF.of (aU HN2W).1 (hF4.block nb (aF.lt (aU HN2W).1) ⟨by omega,by omega⟩),RowB.of (aU HN2W).2 (hF4.block cb (aU HN2W).2.2.lt ⟨by omega,by omega⟩)⟩
 have hc4:aB w4 w3.heap.size [.string (B mac),.string (B ip)] 62:=(hF4.block w3.heap.size (by omega) ⟨by omega,by omega⟩).trans (aU HCC)
 have HB4:=aH ((aU HBW).trans (hF4.below (n:=w.heap.size) (fun k hk=>⟨by omega,by omega⟩) (aU HBW).size))
 have HBOOT:=aH (boot_any s mac ip (frB sd) nb cb w4.heap.size false 0 0 w4 (Qt.new_mem hN2 _) (Nat.le_refl _) (by omega))
 have d0:w4.cell? ⟨w3.heap.size,0,none⟩=some (.string (B mac)):=hc4.cell 0 (by simp)
 have d1:w4.cell? ⟨w3.heap.size,1,none⟩=some (.string (B ip)):=hc4.cell 1 (by simp)
 have HX:=aH hx
 have HU:=aH hU
 have HST:=aH hst
 have HN2:=aH hN2
 have HBS:Hid (nb<base∧cb<base):=by unfold Hid; omega
 clear hO hx hF4 hb1 hb2 hU hst hL hL2 hsW hN2 hc4 HNEW HN1W HN2W HBW HCC HSW HW3 HL2
 go_wp2_with fail
 refine (aU HBOOT).mono ?_
 rintro e w5 hO5
 obtain ⟨y,fr,rfl,hy,hF5,hS5⟩:=boot_split hO5 (aU HN2)
 have hL:=aU HL
 have hU5:=unread_fr (aU HU) hF5 (by omega) (by omega) (by omega) (by omega) (aU HBS).1 (aU HBS).2
 obtain ⟨hr5,q0,⟨va,vc,q1⟩,q2,q6,q9⟩:=unread_cells hU5
 have p0:=hS5.1
 have kc1 : ∀ n,(convert 58 9 (.slice (some ⟨bb,0,none⟩) 25600 25600)).run Tryz.prog (w5.drewN n)=.ok (.string (B (outB s mac ip (frB sd)))) (w5.drewN n):=fun n=>row_text (w:=w5.drewN n) hr5
 have kc2 : ∀ n,(convert 58 9 (.slice (some ⟨cb,0,none⟩) 25600 25600)).run Tryz.prog (w5.drewN n)=.ok (.string (B (outB s mac ip (frB sd)))) (w5.drewN n):=fun n=>row_text (w:=w5.drewN n) hS5.2
 generalize outB s mac ip (frB sd)=ob at *
 have HB5:=aH ((aU HB4).trans (hF5.below (n:=w.heap.size) (fun k hk=>⟨by omega,by omega⟩) (aU HB4).size))
 have HBN:Hid (∀ n,Below w.heap.size w (w5.drewN n)):=fun n=>Rg.below_drewN (aU HB5) n
 have HNU:=aH (fun (W:World) (z:Int)=>Di.num_ok z W)
 have HD:Hid ((good s mac ip=false∧x=none∧y=none∧er=code s∧fr=code s∧st=0)∨(good s mac ip=true∧(∃ b,x=some ⟨b,0,none⟩)∧(∃ b,y=some ⟨b,0,none⟩)∧er=0∧fr=0)):=by
  rcases aU HX with ⟨g1,h1,h2⟩ | ⟨g1,h1,h2⟩ <;> rcases hy with ⟨g2,h3,h4⟩ | ⟨g2,h3,h4⟩
  ·exact .inl ⟨g1,h1,h3,h2,h4,aU HST g1⟩
  ·rw [g1] at g2; cases g2
  ·rw [g1] at g2; cases g2
  ·exact .inr ⟨g1,h1,h3,h2,h4⟩
 clear hO5 hy hF5 hS5 hL hU5 hr5 HX HU HST HBOOT HN2 HBS HB4 HB5 d0 d1 HL HG
 rcases aU HD with ⟨-,rfl,rfl,rfl,rfl,rfl⟩ | ⟨-,⟨xb,rfl⟩,⟨yb,rfl⟩,rfl,rfl⟩
 ·clear HD
  generalize code s=co at *
  have jc:((co:Int) == (co:Int))=true:=by simp
  go_wp2_with fail
  go_quiet (first | (go_at_call 45; exact Calls.quiet_of_same (aU HNU _ _)))
  go_wp2
  go_ret
  exact ⟨rfl,aU HBN _⟩
 ·clear HD
  go_wp2_with fail
  go_quiet (first | (go_at_call 45; exact Calls.quiet_of_same (aU HNU _ _)))
  go_wp2
  go_ret
  exact ⟨rfl,aU HBN _⟩
end Bs
end Go.Proofs.YtkkpahmoljiepaaGreatDoor

namespace Go.Proofs.YtkkpahmoljiepaaGreatDoor
open Go.ChangeShapes Go.WideShapes Go.ChangeAt Go.RowKit
namespace Uw
variable {H:Type} {enc:TypeId×Value→H}
theorem wrap {a:Assume} {C:Checked} {os:Os} {f:FuncId} {fn:Func} {s:ChangeSpec} {conds:List PathCond} {apart fresh handsOn again:Bool} {X:World→Array Value→Prop}
  (hX : ∀ (w w':World) (args:Array Value),w.heap=w'.heap→X w args→X w' args)
  (own:ownKnob C.prog.godebug=none) (started:os.Started) (noInit:C.prog.inits.idxOf? f=none) (hfn:C.prog.funcs[f]? = some fn)
  (witness : ∃ (w:World) (tape:Tape) (i:Input),w.os=os∧(w.forCall tape i).Shaped C.prog∧i.vars = []∧Input.okWide C.prog (w.forCall tape i) .any w.heap.size f i ∧
   ((s.pre enc C.prog fn conds apart (w.forCall tape i).memory i.args∧X (w.forCall tape i).memory i.args)∧sizedMet enc C.prog fn (OpenSpec.ofChange s) apart (w.forCall tape i).memory i.args)∧a.holds C.prog (lone (Frame.enter C.prog f i.args .normal) [] (w.forCall tape i)))
  (contract : ∀ (W:World) (base:Nat) (args:Array Value) (ds gs:List (DataW H)) (before:List MemPlace),
   (∀ (j:Nat) t v,fn.params[j]? = some t→args[j]? = some v→Value.okWide C.prog W .any base t v) →
   DataW.Whole enc C.prog fn.params.toList s.vars apart W args.toList ds gs before →
   W.ShapedOpen C.prog→X W args →
   Calls C.prog f args W fun e W'=>∃ v,e=.returned v∧s.post enc C.prog fn apart fresh handsOn again W args v W') :
  ReturnsInHanded a C os f .any (fun w args=>(s.pre enc C.prog fn conds apart w args∧X w args)∧sizedMet enc C.prog fn (OpenSpec.ofChange s) apart w args) (s.post enc C.prog fn apart fresh handsOn again):=by
 refine returnsInHanded_of_calls own started noInit witness ?_
 intro w tape i _ hsh _ hok hpre hholds
 obtain ⟨_,_,_,fn',hfn',_,_,_,_,hval⟩:=hok
 have e:fn'=fn:=Option.some.inj (hfn'.symm.trans hfn)
 subst e
 obtain ⟨⟨⟨ds,gs,before,hw,hc⟩,hx⟩,hz⟩:=hpre
 have hw':=DataW.Whole.of_heap (w':=w.forCall tape i) (by rfl) hw
 refine (contract (w.forCall tape i) w.heap.size i.args ds gs before hval hw' hsh (hX _ _ _ (by rfl) hx)).mono fun e W' ⟨v,he,hp⟩=>?_
 subst he
 exact ChangeSpec.post_blind hp
theorem own:ownKnob Tryz.prog.godebug=none:=by kernel_rfl
theorem g_of_shaped {W:World} (h:W.ShapedOpen Tryz.prog):G W:=by
 have hc : ∃ m,W.cell? ⟨0,0,none⟩=some (.int .i64 m) :=
  cell_of_shapedOpen_int (zero:=#[.int .i64 0]) (t:=3) h (of_decide_eq_true (by kernel_rfl)) (by kernel_rfl) rfl (by kernel_rfl) (by kernel_rfl) Tryz.underlying3
 refine ⟨?_,hc⟩
 obtain ⟨m,hm⟩:=hc
 rcases Nat.eq_zero_or_pos W.heap.size with h0 | h0
 ·simp [World.cell?,Array.getElem?_eq_none (show W.heap.size≤0 by omega)] at hm
 ·exact h0
end Uw
end Go.Proofs.YtkkpahmoljiepaaGreatDoor
