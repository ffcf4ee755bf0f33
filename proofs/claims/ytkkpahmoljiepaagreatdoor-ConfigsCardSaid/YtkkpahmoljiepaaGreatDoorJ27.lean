/- Contracts: ARP: a question that is answered. -/
import Derived.Test.YtkkpahmoljiepaaGreatDoorJ26
import Derived.Test.YtkkpahmoljiepaaGreatDoorJ23
import Derived.Test.YtkkpahmoljiepaaGreatDoorJ02
import Derived.Test.YtkkpahmoljiepaaGreatDoorJ24
import Derived.Test.YtkkpahmoljiepaaGreatDoorJ06
import Derived.LoopNIn
import Derived.Test.YtkkpahmoljiepaaGreatDoorJ13
import Derived.Deep.RegionHeldLaw
import Derived.Deep.AppendLies
set_option linter.unusedSimpArgs false
set_option linter.unusedVariables false
set_option maxRecDepth 1000000
set_option maxHeartbeats 12800000
namespace Go.Proofs.YtkkpahmoljiepaaGreatDoor
open Go.RowKit
open Pu (Str aH aU)
namespace Bj
open Ka Wa Wb Wc Wd We Wf Wg Wh Wi Wj Wk Wl Wm Ha Hb Hc He Hg Bi
abbrev arpV (op:Nat) (m1 i1 m2 i2:Str):Value:=.agg #[.int .i64 op,.string (B m1),.string (B i1),.string (B m2),.string (B i2)]
theorem readARP_ok (s:Str) (w:World) (hl:s.length≤1000000000) {s1 s2 s3 s4 s5 s6 m1 i1 m2 i2:Str} {op:Nat} {b1 b2 b3 b4 b5 b6:Bool} (e1:takP s false 6=([0,1,8,0,6,4],s1,b1)) (e2:shortP s1 b1=(op,s2,b2)) (e3:takP s2 b2 6=(m1,s3,b3)) (e4:takP s3 b3 4=(i1,s4,b4)) (e5:takP s4 b4 6=(m2,s5,b5)) (e6:takP s5 b5 4=(i2,s6,b6)) (l1:s1.length≤1000000000) (l2:s2.length≤1000000000) (l4:s4.length≤1000000000) :
  Calls Tryz.prog 207 #[.string (B s)] w fun e w'=>e=.returned (.tuple #[arpV op m1 i1 m2 i2,.bool (!b6)])∧Below w.heap.size w w':=by
 have hz0:aB ((w.alloc (.cells #[.int .i64 0,.string ⟨#[]⟩,.string ⟨#[]⟩,.string ⟨#[]⟩,.string ⟨#[]⟩] 303)).alloc (.cells #[.string (B s),.bool false] 215)) w.heap.size [.int .i64 0,.string ⟨#[]⟩,.string ⟨#[]⟩,.string ⟨#[]⟩,.string ⟨#[]⟩] 303:=(aB.new w _ _).alloc _
 have hr0:RdAt ((w.alloc (.cells #[.int .i64 0,.string ⟨#[]⟩,.string ⟨#[]⟩,.string ⟨#[]⟩,.string ⟨#[]⟩] 303)).alloc (.cells #[.string (B s),.bool false] 215)) (w.heap.size+1) s false:=by
  have:=World.alloc_heap_new (w.alloc (.cells #[.int .i64 0,.string ⟨#[]⟩,.string ⟨#[]⟩,.string ⟨#[]⟩,.string ⟨#[]⟩] 303)) (.cells #[.string (B s),.bool false] 215)
  simpa [RdAt] using this
 have HB0:=aH (((Below.refl w.heap.size w).alloc (Nat.le_refl _) (.cells #[.int .i64 0,.string ⟨#[]⟩,.string ⟨#[]⟩,.string ⟨#[]⟩,.string ⟨#[]⟩] 303)).alloc (by simp) (.cells #[.string (B s),.bool false] 215))
 have HC0:=aH (Wb.take_any _ 6 s false _ hr0 (by omega) hl)
 rw [e1] at HC0
 have HZ0:=aH hz0
 have HE2:=aH e2
 have HE34:=aH (And.intro e3 e4)
 have HE56:=aH (And.intro e5 e6)
 clear hz0 hr0 e1 e2 e3 e4 e5 e6
 go_enter Tryz.func207,Tryz.ntmps207
 go_wp2_with fail
 refine (aU HC0).mono ?_
 rintro e w1 ⟨rfl,hr1,hk1,hs1⟩
 have HC1:=aH (short_any _ s1 b1 w1 hr1 l1)
 rw [aU HE2] at HC1
 have HZ1:=aH ((aU HZ0).kept hk1 (by omega))
 have HB1:=aH ((aU HB0).trans (hk1.below (by omega) (by simp; omega)))
 have HS1:Hid (w.heap.size+2≤w1.heap.size):=by rw [Hid,hs1]; simp
 clear hr1 hk1 hs1 HC0 HZ0 HB0 HE2
 go_wp2_with fail
 refine (aU HC1).mono ?_
 rintro e w2 ⟨rfl,hr2,hk2,hs2⟩
 have HC2:=aH (station_any _ s2 b2 w2 hr2 l2 (aU HE34).1 (aU HE34).2)
 have HZ2:=aH ((aU HZ1).kept hk2 (by omega))
 have HB2:=aH ((aU HB1).trans (hk2.below (by omega) (by have:=aU HS1; omega)))
 have HS2:Hid (w.heap.size+2≤w2.heap.size):=by rw [Hid,hs2]; exact aU HS1
 clear hr2 hk2 hs2 HC1 HZ1 HB1 HS1 HE34
 go_wp2_with fail
 refine (aU HC2).mono ?_
 rintro e w3 ⟨rfl,hr3,hk3⟩
 have HC3:=aH (station_any _ s4 b4 w3 hr3 l4 (aU HE56).1 (aU HE56).2)
 have HZ3:=aH ((aU HZ2).kept hk3 (by omega))
 have HB3:=aH ((aU HB2).trans (hk3.below (by omega) (by have:=aU HS2; omega)))
 have HS3:Hid (w.heap.size+2≤w3.heap.size):=Nat.le_trans (aU HS2) hk3.size
 clear hr3 hk3 HC2 HZ2 HB2 HS2 HE56
 go_wp2_with fail
 refine (aU HC3).mono ?_
 rintro e w4 ⟨rfl,hr4,hk4⟩
 have HZ4:=aH ((aU HZ3).kept hk4 (by omega))
 have HB4:=aH ((aU HB3).trans (hk4.below (by omega) (by have:=aU HS3; omega)))
 have hs:w.heap.size+2≤w4.heap.size:=Nat.le_trans (aU HS3) hk4.size
 have hrx:RdAt (w4.alloc (.cells #[.int .i64 op,.string (B m1),.string (B i1),.string (B m2),.string (B i2)] 303)) (w.heap.size+1) s6 b6:=(Below.heap_alloc _ _ _ hr4.lt).trans hr4
 have hzx:=(aU HZ4).alloc (.cells #[.int .i64 op,.string (B m1),.string (B i1),.string (B m2),.string (B i2)] 303)
 have HB5:=aH ((aU HB4).alloc (by omega) (.cells #[.int .i64 op,.string (B m1),.string (B i1),.string (B m2),.string (B i2)] 303))
 have q1:=hrx.cells.2
 have z0:=hzx.cell 0 (by simp)
 have z1:=hzx.cell 1 (by simp)
 have z2:=hzx.cell 2 (by simp)
 have z3:=hzx.cell 3 (by simp)
 have z4:=hzx.cell 4 (by simp)
 simp only [List.getElem_cons_zero,List.getElem_cons_succ] at z0 z1 z2 z3 z4
 have hfz:=hzx.frozen
 have n1:w.heap.size≠w4.heap.size:=by omega
 have n2:w.heap.size+1≠w4.heap.size:=by omega
 have nz:w.heap.size≤w4.heap.size:=by omega
 have hst:((B ([0,1,8,0,6,4]:Str)).toList == [0,1,8,0,6,4])=true:=by rw [ByteArray.toList_eq]; rfl
 clear hr4 hk4 HC3 HZ3 HB3 HS3 HZ4 hs HB4 hrx hzx
 go_wp2_with fail
 generalize B ([0,1,8,0,6,4]:Str)=sx at *
 go_region
 all_goals
  go_wp2
  refine bodyPost_ret (v:=.tuple #[arpV op m1 i1 m2 i2,.bool (!b6)]) (by simp [results,Tryz.results207,go_sem,z0,z1,z2,z3,z4]) rfl ⟨rfl,?_⟩
  exact ((((((aU HB5).drew).setCell (Nat.le_refl _) _).setCell (Nat.le_refl _) _).setCell (Nat.le_refl _) _).setCell (Nat.le_refl _) _).setCell (Nat.le_refl _) _
theorem answerARP_yes (a b r mac ip m1 i1 m2:Str) (k:Nat) (w:World) (l1:m1.length≤1000) (l2:mac.length≤1000) (l3:ip.length≤1000) (l4:i1.length≤1000)
  (hP : ∀ W,Calls Tryz.prog 207 #[.string (B r)] W fun e w'=>e=.returned (.tuple #[arpV 1 m1 i1 m2 ip,.bool true])∧Below W.heap.size W w') :
  Calls Tryz.prog 149 #[frm a b k r,cfg mac ip] w fun e w'=>e=.returned (.string (B (m1++mac++[8,6]++arpB 2 mac ip m1 i1)))∧Below w.heap.size w w':=by
 have HP:=aH hP
 have HS0:=aH (Fa.start w a b k r mac ip)
 have lOut:(arpB 2 mac ip m1 i1).length≤100000:=by simp [arpB]; omega
 have HAB:Hid (∀ W,Calls Tryz.prog 208 #[.agg #[.int .i64 2,.string (B mac),.string (B ip),.string (B m1),.string (B i1)]] W fun e w'=>e=.returned (.string (B (arpB 2 mac ip m1 i1)))∧Below W.heap.size W w'):=fun W=>arpBytes_any 2 mac ip m1 i1 W (by omega) l2 l3 l1 l4
 have HFB:Hid (∀ W,Calls Tryz.prog 209 #[.agg #[.string (B m1),.string (B mac),.int .i64 2054,.string (B (arpB 2 mac ip m1 i1))]] W fun e w'=>e=.returned (.string (B (m1++mac++[8,6]++arpB 2 mac ip m1 i1)))∧Below W.heap.size W w'):=fun W=>frameBytes_any m1 mac (arpB 2 mac ip m1 i1) 2054 W l1 l2 lOut (by omega)
 clear hP l1 l2 l3 l4 lOut
 generalize arpB 2 mac ip m1 i1=ab at *
 go_enter Tryz.func149,Tryz.ntmps149
 go_wp2_with fail
 refine (aU HP _).mono ?_
 rintro e w1 ⟨rfl,hb1⟩
 have hS1:=(aU HS0).next hb1
 have hw1:=hS1.size
 have hS2:=hS1.alloc (.cells #[.int .i64 1,.string (B m1),.string (B i1),.string (B m2),.string (B ip)] 303)
 have hN2:=aB.new w1 [.int .i64 1,.string (B m1),.string (B i1),.string (B m2),.string (B ip)] 303
 have hS3:=hS2.alloc (.cells #[.int .i64 2,.string (B mac),.string (B ip),.string (B m1),.string (B i1)] 303)
 have hN3:=aB.new (w1.alloc (.cells #[.int .i64 1,.string (B m1),.string (B i1),.string (B m2),.string (B ip)] 303)) [.int .i64 2,.string (B mac),.string (B ip),.string (B m1),.string (B i1)] 303
 rw [World.size_alloc] at hN3
 have hN2':=hN2.alloc (.cells #[.int .i64 2,.string (B mac),.string (B ip),.string (B m1),.string (B i1)] 303)
 have c0:=hS2.c.cell 0 (by simp)
 have c1:=hS2.c.cell 1 (by simp)
 simp only [List.getElem_cons_zero,List.getElem_cons_succ] at c0 c1
 obtain ⟨W3,hW3⟩ : ∃ W3,W3=(w1.alloc (.cells #[.int .i64 1,.string (B m1),.string (B i1),.string (B m2),.string (B ip)] 303)).alloc (.cells #[.int .i64 2,.string (B mac),.string (B ip),.string (B m1),.string (B i1)] 303):=⟨_,rfl⟩
 rw [← hW3] at hS3 hN3 hN2'
 have H0:W3.drew.cell? ⟨w1.heap.size,1,none⟩=some (.string (B m1))∧W3.drew.cell? ⟨w.heap.size+1,0,none⟩=some (.string (B mac))∧W3.drew.cell? ⟨w1.heap.size+1,0,none⟩=some (.int .i64 2)∧W3.drew.cell? ⟨w1.heap.size+1,1,none⟩=some (.string (B mac))∧W3.drew.cell? ⟨w1.heap.size+1,2,none⟩=some (.string (B ip))∧W3.drew.cell? ⟨w1.heap.size+1,3,none⟩=some (.string (B m1))∧W3.drew.cell? ⟨w1.heap.size+1,4,none⟩=some (.string (B i1))∧Below w.heap.size w W3.drew :=
  ⟨hN2'.cell 1 (by simp),hS3.c.cell 0 (by simp),hN3.cell 0 (by simp),hN3.cell 1 (by simp),hN3.cell 2 (by simp),hN3.cell 3 (by simp),hN3.cell 4 (by simp),hS3.below.drew⟩
 have KP:Hid (∀ W W':World,(W.cell? ⟨w1.heap.size,1,none⟩=some (.string (B m1))∧W.cell? ⟨w.heap.size+1,0,none⟩=some (.string (B mac))∧W.cell? ⟨w1.heap.size+1,0,none⟩=some (.int .i64 2)∧W.cell? ⟨w1.heap.size+1,1,none⟩=some (.string (B mac))∧W.cell? ⟨w1.heap.size+1,2,none⟩=some (.string (B ip))∧W.cell? ⟨w1.heap.size+1,3,none⟩=some (.string (B m1))∧W.cell? ⟨w1.heap.size+1,4,none⟩=some (.string (B i1))∧Below w.heap.size w W)→Below W.heap.size W W'→(W'.cell? ⟨w1.heap.size,1,none⟩=some (.string (B m1))∧W'.cell? ⟨w.heap.size+1,0,none⟩=some (.string (B mac))∧W'.cell? ⟨w1.heap.size+1,0,none⟩=some (.int .i64 2)∧W'.cell? ⟨w1.heap.size+1,1,none⟩=some (.string (B mac))∧W'.cell? ⟨w1.heap.size+1,2,none⟩=some (.string (B ip))∧W'.cell? ⟨w1.heap.size+1,3,none⟩=some (.string (B m1))∧W'.cell? ⟨w1.heap.size+1,4,none⟩=some (.string (B i1))∧Below w.heap.size w W')):=fun W W' hW hb=>by
  have kp : ∀ (x:Addr) (v:Value),W.cell? x=some v→W'.cell? x=some v:=fun x v h=>(hb.cell (World.block_lt_of_cell? W x h)).trans h
  obtain ⟨h1,h2,h3,h4,h5,h6,h7,h8⟩:=hW
  exact ⟨kp _ _ h1,kp _ _ h2,kp _ _ h3,kp _ _ h4,kp _ _ h5,kp _ _ h6,kp _ _ h7,h8.trans (hb.mono h8.size)⟩
 clear hb1 HS0 HP hS1 hS2 hN2 hS3 hN3 hN2'
 go_wp2_with fail
 rw [← hW3]
 clear hW3
 go_region_held (fun w'=>w'.cell? ⟨w1.heap.size,1,none⟩=some (.string (B m1))∧w'.cell? ⟨w.heap.size+1,0,none⟩=some (.string (B mac))∧w'.cell? ⟨w1.heap.size+1,0,none⟩=some (.int .i64 2)∧w'.cell? ⟨w1.heap.size+1,1,none⟩=some (.string (B mac))∧w'.cell? ⟨w1.heap.size+1,2,none⟩=some (.string (B ip))∧w'.cell? ⟨w1.heap.size+1,3,none⟩=some (.string (B m1))∧w'.cell? ⟨w1.heap.size+1,4,none⟩=some (.string (B i1))∧Below w.heap.size w w') (first | assumption | go_keep)
  (first
   | (go_at_call 208; go_loud (refine (aU HAB _).mono ?_; rintro e w' ⟨rfl,hq⟩; replace hq:=aU KP _ _ (by assumption) hq))
   | (go_at_call 209; go_loud (refine (aU HFB _).mono ?_; rintro e w' ⟨rfl,hq⟩; replace hq:=aU KP _ _ (by assumption) hq)))
 all_goals
  have HF:=aH hq.2.2.2.2.2.2.2
  clear hq
  go_wp2_with fail
  go_ret
  exact ⟨congrArg (fun x=>Ending.returned (.string (B x))) (by simp),aU HF⟩
theorem fanswer_arp (a b r mac ip x:Str) (zv:Value) (w:World)
  (hA : ∀ W,Below w.heap.size w W→Calls Tryz.prog 149 #[frm a b 2054 r,cfg mac ip] W fun e w'=>e=.returned (.string (B x))∧Below W.heap.size W w') :
  Calls Tryz.prog 80 #[frm a b 2054 r,zv,cfg mac ip] w fun e w'=>e=.returned (.string (B x))∧Below w.heap.size w w':=by
 have hS:=Fa.start w a b 2054 r mac ip
 have HB:=aH hS.below
 have HA:=aH (hA _ hS.below)
 clear hS hA
 go_enter Tryz.func80,Tryz.ntmps80
 go_wp2_with fail
 refine (aU HA).mono ?_
 rintro e w1 ⟨rfl,hb1⟩
 have HB1:=aH ((aU HB).trans (hb1.mono (aU HB).size))
 clear hb1 HA HB
 go_wp2_with fail
 go_ret
 exact ⟨rfl,aU HB1⟩
def myM:Str:=[2,102,105,118,101,53]
def myI:Str:=[10,0,0,1]
def oth:Str:=[2,111,116,104,101,114]
def fr4:Str:=myM++oth++[8,6]++([0,1,8,0,6,4]++[0,1]++oth++[10,0,0,2]++[110,111,98,111,100,121]++myI)
def an4:Str:=oth++myM++[8,6]++arpB 2 myM myI oth [10,0,0,2]
theorem handle_four (zv:Value) (w:World):Calls Tryz.prog 37 #[zv,cfg myM myI,.string (B fr4)] w fun e w'=>e=.returned (.string (B an4))∧Below w.heap.size w w':=by
 refine handle_mine fr4 oth ([0,1,8,0,6,4]++[0,1]++oth++[10,0,0,2]++[110,111,98,111,100,121]++myI) myM myI an4 2054 zv w (fun W=>?_) (fun W _=>?_)
 ·exact readFrame_any fr4 W (by decide) (e1:=rfl) (e2:=rfl) (e3:=rfl)
 ·refine fanswer_arp myM oth _ myM myI an4 zv W (fun W' _=>?_)
  refine answerARP_yes myM oth _ myM myI oth [10,0,0,2] [110,111,98,111,100,121] 2054 W' (by decide) (by decide) (by decide) (by decide) (fun W2=>?_)
  exact readARP_ok ([0,1,8,0,6,4]++[0,1]++oth++[10,0,0,2]++[110,111,98,111,100,121]++myI) W2 (by decide) (s1:=[0,1]++oth++[10,0,0,2]++[110,111,98,111,100,121]++myI) (s2:=oth++[10,0,0,2]++[110,111,98,111,100,121]++myI) (s3:=[10,0,0,2]++[110,111,98,111,100,121]++myI) (s4:=[110,111,98,111,100,121]++myI) (s5:=myI) (s6:=[]) (b1:=false) (b2:=false) (b3:=false) (b4:=false) (b5:=false) (b6:=false) (e1:=rfl) (e2:=rfl) (e3:=rfl) (e4:=rfl) (e5:=rfl) (e6:=rfl) (by decide) (by decide) (by decide)
end Bj
namespace Bo
open Qg Qh Qj Qk Qm Qr Nc Ni Nj Bg Bj
theorem dsc1_len (bs:Str) (ba bu fl k:Nat):(dsc1 bs ba bu fl k).length=bs.length:=by unfold dsc1; rw [aT,aT,aT,aT]
theorem dscN_len (bs:Str) (ba bu fl k:Nat):(dscN bs ba bu fl k).length=bs.length:=by
 induction k with
 | zero=>rfl
 | succ k ih=>rw [dscN,dsc1_len,ih]
theorem dsc1_get (bs:Str) (ba bu fl k i:Nat) (h:i<ba+16*k∨ba+16*k+16≤i):(dsc1 bs ba bu fl k)[i]? = bs[i]?:=by
 unfold dsc1; rw [wrN_get _ _ _ _ _ (by omega),wrN_get _ _ _ _ _ (by omega),wrN_get _ _ _ _ _ (by omega),wrN_get _ _ _ _ _ (by omega)]
theorem dscN_get (bs:Str) (ba bu fl k i:Nat) (h:i<ba∨ba+16*k≤i):(dscN bs ba bu fl k)[i]? = bs[i]?:=by
 induction k with
 | zero=>rfl
 | succ k ih=>rw [dscN,dsc1_get _ _ _ _ _ _ (by omega),ih (by omega)]
theorem dscN_rd (bs:Str) (ba bu fl k p l:Nat) (h:p+l≤ba∨ba+16*k≤p):rdN (dscN bs ba bu fl k) p l=rdN bs p l:=rdN_congr l fun i h1 h2=>dscN_get _ _ _ _ _ _ (by omega)
theorem dscN_at (bs:Str) (ba bu fl:Nat) (k:Nat) (hl:ba+16*k≤bs.length) (hb:bu+1536*k<18446744073709551616) : ∀ j,j<k→rdN (dscN bs ba bu fl k) (ba+16*j) 8=bu+1536*j:=by
 induction k with
 | zero=>intro j hj; omega
 | succ k ih =>
  intro j hj
  rw [dscN]
  by_cases hjk:j=k
  ·subst hjk
   unfold dsc1
   rw [aR _ _ _ _ _ _ (by omega),aR _ _ _ _ _ _ (by omega),aR _ _ _ _ _ _ (by omega),rdN_wrN _ _ _ _ (by rw [dscN_len]; omega)]
   omega
  ·rw [rdN_congr (b:=dscN bs ba bu fl k) 8 (fun i h1 h2=>dsc1_get _ _ _ _ _ _ (by omega)),ih (by omega) (by omega) j (by omega)]
theorem offB_len (bs:Str) (k:Nat):(offB bs k).length=bs.length:=by
 induction k with
 | zero=>rfl
 | succ k ih=>rw [offB,aT,ih]
theorem offB_rd (bs:Str) (k p l:Nat) (h:p+l≤132∨132+2*k≤p):rdN (offB bs k) p l=rdN bs p l:=by
 induction k with
 | zero=>rfl
 | succ k ih=>rw [offB,aR _ _ _ _ _ _ (by omega),ih (by omega)]
theorem offB_at (bs:Str) (k:Nat) (hk:k≤60000) (hl:132+2*k≤bs.length) : ∀ j,j<k→rdN (offB bs k) (132+2*j) 2=j:=by
 induction k with
 | zero=>intro j hj; omega
 | succ k ih =>
  intro j hj
  rw [offB]
  by_cases hjk:j=k
  ·subst hjk; rw [rdN_wrN _ _ _ _ (by rw [offB_len]; omega)]; omega
  ·rw [aR _ _ _ _ _ _ (by omega),ih (by omega) (by omega) j (by omega)]
def Z:Str:=List.replicate 25600 0
theorem Z_rd (p:Nat) : ∀ k,rdN Z p k=0
 | 0=>rfl
 | k+1=>by
  have:Z[p+k]?.getD 0=0:=by
   unfold Z
   rw [List.getElem?_replicate]
   split <;> rfl
  rw [rdN,Z_rd p k,this]; simp
def m0:Str:=layB Z
def m1:Str:=cdB m0 0 fr4
def m2:Str:=bsK m1 8 0 0 (fun _=>0) (fun _=>an4) 1
theorem fr4_len:fr4.length=42:=rfl
theorem an4_len:an4.length=42:=rfl
theorem m0_len:m0.length=25600:=by
 unfold m0
 rw [lay_bt,aT,offB_len,aT,show btK Z 2=dscN (dscN Z 0 1024 2 8) 512 13312 0 8 from rfl,dscN_len,dscN_len]
 exact List.length_replicate
theorem m0_eq:m0=wrN (offB (wrN (dscN (dscN Z 0 1024 2 8) 512 13312 0 8) 642 0 2) 8) 130 8 2:=lay_bt Z
theorem zl:Z.length=25600:=List.length_replicate
theorem l1:(dscN (dscN Z 0 1024 2 8) 512 13312 0 8).length=25600:=by rw [dscN_len,dscN_len,zl]
theorem m0_130:rdN m0 130 2=8:=by rw [m0_eq,rdN_wrN _ _ _ _ (by rw [offB_len,aT,l1]; omega)]
theorem m0_132:rdN m0 132 2=0:=by
 rw [m0_eq,aR _ _ _ _ _ _ (by omega)]
 exact offB_at _ 8 (by omega) (by rw [aT,l1]; omega) 0 (by omega)
theorem m0_0:rdN m0 0 8=1024:=by
 rw [m0_eq,aR _ _ _ _ _ _ (by omega),offB_rd _ _ _ _ (by omega),aR _ _ _ _ _ _ (by omega),dscN_rd _ _ _ _ _ _ _ (by omega)]
 exact dscN_at Z 0 1024 2 8 (by rw [zl]; omega) (by omega) 0 (by omega)
theorem m0_512:rdN m0 512 8=13312:=by
 rw [m0_eq,aR _ _ _ _ _ _ (by omega),offB_rd _ _ _ _ (by omega),aR _ _ _ _ _ _ (by omega)]
 exact dscN_at _ 512 13312 0 8 (by rw [dscN_len,zl]; omega) (by omega) 0 (by omega)
theorem m0_642:rdN m0 642 2=0:=by
 rw [m0_eq,aR _ _ _ _ _ _ (by omega),offB_rd _ _ _ _ (by omega),rdN_wrN _ _ _ _ (by rw [l1]; omega)]
theorem m0_258:rdN m0 258 2=0:=by
 rw [m0_eq,aR _ _ _ _ _ _ (by omega),offB_rd _ _ _ _ (by omega),aR _ _ _ _ _ _ (by omega),dscN_rd _ _ _ _ _ _ _ (by omega),dscN_rd _ _ _ _ _ _ _ (by omega),Z_rd]
theorem m0_770:rdN m0 770 2=0:=by
 rw [m0_eq,aR _ _ _ _ _ _ (by omega),offB_rd _ _ _ _ (by omega),aR _ _ _ _ _ _ (by omega),dscN_rd _ _ _ _ _ _ _ (by omega),dscN_rd _ _ _ _ _ _ _ (by omega),Z_rd]
theorem f4 : ∀ q,q<1→((fun _=>fr4:Nat→Str) q).length≤1524:=fun _ _=>by show fr4.length≤1524; rw [fr4_len]; omega
theorem a4 : ∀ q,q<1→((fun _=>an4:Nat→Str) q).length≤1524:=fun _ _=>by show an4.length≤1524; rw [an4_len]; omega
theorem m1_eq:m1=cdK m0 0 (fun _=>fr4) 1:=rfl
theorem m1_len:m1.length=25600:=by rw [m1_eq,cdK_len,m0_len]
theorem m1_770:rdN m1 770 2=0:=by rw [m1_eq,cdK_rd _ _ _ _ _ _ f4 (by omega),m0_770]
theorem m1_258:rdN m1 258 2=1:=by rw [m1_eq,cdK_258 _ _ _ m0_len m0_258 1 (by omega)]
theorem m1_in:rdN m1 260 4=0∧rdN m1 264 4=54∧LiesB m1 1036 fr4:=by
 have:=cdK_in m0 0 (fun _=>fr4) m0_len 1 (by omega) f4 0 (by omega)
 rw [← m1_eq] at this
 exact this
theorem m2_642:rdN m2 642 2=1:=bsK_642 m1 8 0 0 _ _ m1_len (by rw [m1_eq,cdK_rd _ _ _ _ _ _ f4 (by omega),m0_642]) 1 (by omega) a4
theorem m2_512:rdN m2 512 8=13312:=by
 have:=bsK_desc m1 8 0 0 (fun _=>0) (fun _=>an4) 0 (by omega) 1 a4
 have e:rdN m1 512 8=13312:=by rw [m1_eq,cdK_rd _ _ _ _ _ _ f4 (by omega),m0_512]
 exact this.trans e
theorem m2_sent:rdN m2 644 2=0∧rdN m2 520 4=54∧LiesB m2 13324 an4:=by
 have:=bsK_sent m1 8 0 0 (fun _=>0) (fun _=>an4) m1_len 1 (by omega) a4 0 (by decide)
 exact this
theorem m2_len:m2.length=25600:=by unfold m2; rw [bsK_len,m1_len]
end Bo
namespace Bp
open Ka Wa Wb Wc Wd We Wf Wg Wh Wi Wj Wk Wl Wm Ha Hb Hc He Hg Bi Bj
theorem config_none (w:World):Calls Tryz.prog 36 #[.string ⟨#[]⟩,.string ⟨#[]⟩] w fun e w'=>e=.returned (.agg #[.string (B myM),.string (B myI)])∧Below w.heap.size w w':=by
 have k1:(⟨#[]⟩:ByteArray)++⟨#[10,0,0,1]⟩=B myI:=rfl
 have k2:((⟨#[2]⟩:ByteArray)++⟨#[]⟩)=⟨#[2]⟩:=rfl
 have k3:((⟨#[2]⟩:ByteArray)++⟨#[102,105,118,101,53]⟩)=B myM:=rfl
 have z1:(B myI).size=4:=rfl
 have z2:(B myM).size=6:=rfl
 have x1:(B myI).extract 0 4=B myI:=rfl
 have x2:(B myM).extract 0 6=B myM:=rfl
 go_enter Tryz.func36,Tryz.ntmps36
 have hB:=((Below.refl w.heap.size w).alloc (Nat.le_refl _) (.cells #[.string (B myM),.string (B myI)] 62)).alloc (by simp) (.cells #[.string (B myM),.string (B myI)] 62)
 have hc:aB ((w.alloc (.cells #[.string (B myM),.string (B myI)] 62)).alloc (.cells #[.string (B myM),.string (B myI)] 62)) w.heap.size [.string (B myM),.string (B myI)] 62:=(aB.new w _ _).alloc _
 have q0:=hc.cell 0 (by simp)
 have q1:=hc.cell 1 (by simp)
 simp only [List.getElem_cons_zero,List.getElem_cons_succ] at q0 q1
 go_wp2
 refine bodyPost_ret (v:=.agg #[.string (B myM),.string (B myI)]) (by simp [results,Tryz.results36,go_sem,q0,q1]) rfl ⟨rfl,hB⟩
end Bp
end Go.Proofs.YtkkpahmoljiepaaGreatDoor

namespace Go.Proofs.YtkkpahmoljiepaaGreatDoor
open Go.RowKit
namespace It
variable {P:Program} {α:Type}
def LL (d:Nat) (r:Loop) (W:World):Prop:=W.heap[d+1]? = some (.loop r)∧W.heap[d]? = some (.deferred (some []))
theorem LL.of {d:Nat} {r:Loop} {A B:World} (h:LL d r A) (h1:B.heap[d]? = A.heap[d]?) (h2:B.heap[d+1]? = A.heap[d+1]?):LL d r B:=⟨h2.trans h.1,h1.trans h.2⟩
def postN (d:Nat) (I:World→Prop) (W:World):Exit→Act→World→Prop
 | .normal,_,W'=>Loops d W W'∧I W'
 | _,_,_=>False
theorem rangeJ {g:Operand} {ps:Array Tmp} {assign body:Code} {Q:Exit→Act→World→Prop} {a:Act} {w:World}
  {gf:Nat} {lb:Array Value} (hg:a.eval g=.func (.func gf) #[] lb) (eg : ∀ args w,(callFunc gf args).run P w=.ok (.enter gf args) w)
  {encs:α→Array Value} {xs:List α} (hps : ∀ x,(encs x).size=ps.size)
  (I0:World→Prop) (I:Nat→World→Prop) (I':Nat→α→World→Prop)
  (hiter : ∀ r:Loop,(∀ i x W,xs[i]? = some x→I' i x W→LL w.heap.size r W→YieldAt Fence.wide 0 P (w.heap.size+1) (encs x) W fun e W'=>e=.returned (.bool true)∧I (i+1) W'∧LL w.heap.size r W') →
   ∀ W0,I0 W0→LL w.heap.size r W0→CallsIn Fence.wide 0 P gf (#[.func (.yield (w.heap.size+1)) #[] #[]]++lb) W0 fun e W'=>(∃ v,e=.returned v)∧I xs.length W'∧LL w.heap.size r W')
  (hIp : ∀ i A r o,I i A→A.heap[w.heap.size+1]? = some (.loop r)→I i (A.putObj (w.heap.size+1) o))
  (hIp' : ∀ i x A r o,I' i x A→A.heap[w.heap.size+1]? = some (.loop r)→I' i x (A.putObj (w.heap.size+1) o))
  (h0 : ∀ r,I0 ((w.alloc (.deferred (some []))).alloc (.loop r)))
  (hround : ∀ (l i:Nat) (x:α) (V W:World),xs[i]? = some x→I' i x W→w.heap.size+2≤W.heap.size→W.heap[w.heap.size]? = some (.deferred (some []))→(∃ r,W.heap[w.heap.size+1]? = some (.loop r)) →
   assign.wpIn (Fence.wide.inRound l) 0 P (Exit.then (fun a₁ V'=>V'=V∧body.wpIn (Fence.wide.inRound l) 0 P (postN w.heap.size (I (i+1)) W) a₁ W) (fun _ _ _=>False)) { tmps:=(ps.zip (encs x)).foldl (fun t (p,v)=>t.setIfInBounds p v) a.tmps,defers:=[] } V)
  (hdone : ∀ W,I xs.length W→W.heap[w.heap.size]? = some (.deferred (some []))→w.heap.size+2≤W.heap.size→Q .normal { a with defers:={ target:=.collected w.heap.size,args:=#[] } :: a.defers } W) :
  (Code.rangeFunc g ps assign body).wpIn Fence.wide 0 P Q a w:=by
 refine wpIn_rangeFunc fun fn hfn=>?_
 obtain ⟨rec,hrec⟩ : ∃ rec:LoopState→Option Code→Loop,rec=fun st pe=>{ state:=st,pending:=pe,fn,tmps:=a.tmps,params:=ps,assign,body,defers:=w.heap.size }:=⟨_,rfl⟩
 have henter:=run_enterLoop_outer (P:=P) (w:=w) fn a.tmps ps assign body
 refine ⟨w.heap.size+1,[{ target:=.collected w.heap.size,args:=#[] }],(w.alloc (.deferred (some []))).alloc (.loop (rec .ready none)),
  { target:=.fn (.func gf) lb,args:=#[.func (.yield (w.heap.size+1)) #[] #[]] },(w.alloc (.deferred (some []))).alloc (.loop (rec .ready none)),gf,
  #[.func (.yield (w.heap.size+1)) #[] #[]]++lb,(w.alloc (.deferred (some []))).alloc (.loop (rec .ready none)),?_,?_,fun _ _=>trivial,?_,fun h=>by simp [Fence.wide] at h,?_⟩
 ·rw [hrec]; exact henter
 ·simp only [resolve,hg]
  simp [go_sem]
 ·simp [invoke,go_sem,eg]
 ·obtain ⟨W1,hW1⟩ : ∃ W1,(w.alloc (.deferred (some []))).alloc (.loop (rec .ready none))=W1:=⟨_,rfl⟩
  have hl1:W1.heap[w.heap.size+1]? = some (.loop (rec .ready none)):=by
   rw [← hW1]; have:=World.alloc_heap_new (w.alloc (.deferred (some []))) (.loop (rec .ready none)); rwa [World.size_alloc] at this
  have hd1:W1.heap[w.heap.size]? = some (.deferred (some [])):=by
   rw [← hW1]; exact (Below.heap_alloc _ _ _ (by simp)).trans (World.alloc_heap_new w _)
  have hsz : ∀ W:World,(∃ o,W.heap[w.heap.size+1]? = some o)→w.heap.size+2≤W.heap.size:=fun W ⟨o,h⟩=>by
   have:=(Array.getElem?_eq_some_iff.1 h).1; omega
  have hs:=hiter (rec .ready none)
   (fun i x W hx h1 hL=>by
    obtain ⟨h2,h3⟩:=hL
    have hy:=run_yield (P:=P) (args:=encs x) h2 (by rw [hrec]; exact hps x)
    rw [hrec] at hy
    have hlt:w.heap.size+1<W.heap.size:=(Array.getElem?_eq_some_iff.1 h2).1
    have e2:(W.putObj (w.heap.size+1) (.loop { rec .ready none with state:=.busy })).heap[w.heap.size+1]? = some (.loop { rec .ready none with state:=.busy }):=World.putObj_heap_same hlt
    have e3:(W.putObj (w.heap.size+1) (.loop { rec .ready none with state:=.busy })).heap[w.heap.size]? = some (.deferred (some [])):=(World.putObj_heap_other (by omega)).trans h3
    refine ⟨fn,_,assign,body,hy,roundIn_of_wpIn hfn (wpIn_mono (hround _ i x W (W.putObj (w.heap.size+1) (.loop { rec .ready none with state:=.busy })) hx (hIp' i x W _ _ h1 h2) (by rw [World.putObj_size]; omega) e3 ⟨_,e2⟩) ?_)⟩
    rintro e0 a0 V0 hp0
    have hn0:e0=.normal:=by cases e0 <;> first | rfl | exact hp0.elim
    subst hn0
    obtain ⟨hV0,hbd⟩:=hp0
    replace hV0:=hV0.symm
    subst hV0
    refine ⟨_,run_beginRound h2 (by rw [hrec]),wpIn_mono hbd ?_⟩
    rintro e a3 W3 hp
    cases e with
    | normal =>
     obtain ⟨hL,hi⟩:=hp
     have l3:=hL.2.2.trans e2
     have hr:(Instr.endRound (w.heap.size+1) none).run P W3=.ok (.bool true) (W3.putObj (w.heap.size+1) (.loop (rec .ready none))):=by
      rw [run_endRound (P:=P) none l3,hrec]; rfl
     exact ⟨_,_,hr,rfl,hIp _ _ _ _ hi l3,World.putObj_heap_same (Array.getElem?_eq_some_iff.1 l3).1,(World.putObj_heap_other (by omega)).trans (hL.2.1.trans e3)⟩
    | ret=>exact hp.elim
    | exit id=>exact hp.elim
    | goto t=>exact hp.elim
    | panic ch=>exact hp.elim
    | outgrown=>exact hp.elim)
   W1 (by rw [← hW1]; exact h0 _) ⟨hl1,hd1⟩
  rw [hW1]
  refine hs.mono ?_
  rintro e W2 ⟨⟨v,rfl⟩,hi,hl,hk⟩
  have:=run_endLoop (P:=P) hl (by rw [hrec]; simp)
  exact ⟨none,_,by rw [this,hrec],hdone _ (hIp _ _ _ _ hi hl) ((World.putObj_heap_other (by omega)).trans hk) (by rw [World.putObj_size]; exact hsz _ ⟨_,hl⟩)⟩
end It
end Go.Proofs.YtkkpahmoljiepaaGreatDoor

set_option maxRecDepth 1000000
set_option maxHeartbeats 12800000
namespace Go.Proofs.YtkkpahmoljiepaaGreatDoor
open Go.RowKit
open Pu (Str aH aU)
attribute [local go_sem] Oper.semAt_some
namespace Nb
open Ka Wa Wb Wc Wd We Wf Wg Wh Wi Wj Wk Wl Wm Ha Hb Hc Re Qa Qb Qc Qd Qe Qf Qg Qh Qi Qj Qk Ql Qm Qn Qo Qp Qr Qq Qs Qw Qx Na
theorem frames_iter (l ib rb c:Nat) (fr:Nat→Str) (J J':Nat→World→Prop) (W0:World) (hc:c≤65535) (hb0:W0.cell? ⟨ib,0,none⟩=some (.pointer (some ⟨rb,0,none⟩)))
  (hbJ : ∀ k W,J k W→W.cell? ⟨ib,0,none⟩=some (.pointer (some ⟨rb,0,none⟩)))
  (hfr:Calls Tryz.prog 215 #[.pointer (some ⟨rb,0,none⟩)] W0 fun e W'=>e=.returned (.tuple #[.int .i64 c,.bool true])∧J 0 W')
  (hnx : ∀ k W,k<c→J k W→Calls Tryz.prog 220 #[.pointer (some ⟨rb,0,none⟩)] W fun e W'=>e=.returned (.tuple #[.string (B (fr k)),.bool true])∧J' k W')
  (hY : ∀ k W,k<c→J' k W→YieldAt Fence.wide 0 Tryz.prog l #[.string (B (fr k)),.bool true] W fun e W'=>e=.returned (.bool true)∧J (k+1) W') :
  CallsIn Fence.wide 0 Tryz.prog 219 (#[.func (.yield l) #[] #[]]++#[.pointer (some ⟨ib,0,none⟩)]) W0 fun e W'=>(∃ v,e=.returned v)∧J c W':=by
 have HFR:=aH hfr
 have HNX:=aH hnx
 have HY:=aH hY
 have HBJ:=aH hbJ
 clear hfr hnx hY hbJ
 refine callsIn_of_wp Tryz.func219 rfl trivial ?_
 simp only [Tryz.ntmps219,List.size_toArray,List.length_cons,List.length_nil,Nat.reduceAdd,Nat.reduceSub,Array.replicate_succ,Array.replicate_zero,List.push_toArray,List.append_toArray,List.nil_append,List.cons_append]
 gi_wp2_with fail
 refine ⟨trivial,rfl,?_⟩
 refine (callsIn_wide.2 (aU HFR)).mono ?_
 rintro e W1 ⟨rfl,hJ0⟩
 have HJ0:=aH hJ0
 clear hJ0 HFR
 gi_wp2_with fail
 gi_loopw [19] (fun i wr=>∃ k:Nat,i=.int .i64 k∧k≤c∧J k wr) (fun i _=>c - (intOf i).toNat)
 case atStart=>exact ⟨0,rfl,Nat.zero_le _,aU HJ0⟩
 case round =>
  obtain ⟨k,rfl,hk,hJk⟩:=hrel
  by_cases hlk:k<c
  ·have hbx:=aU HBJ k wr hJk
   have HN:=aH (aU HNX k wr hlk hJk)
   clear hJk
   gi_wp2_with fail
   refine ⟨trivial,rfl,?_⟩
   refine (callsIn_wide.2 (aU HN)).mono ?_
   rintro e W2 ⟨rfl,hJ2⟩
   obtain ⟨fn,tmps,assign,body,hy,hR⟩:=aU HY k W2 hlk hJ2
   clear HN hJ2
   gi_wp2_with fail
   refine ⟨rfl,hR.mono ?_⟩
   rintro x W3 ⟨rfl,hJ4⟩
   have HJ4:=aH hJ4
   clear hJ4
   gi_wp2_with fail
   exact ⟨⟨k+1,by go_num,by omega,aU HJ4⟩,by simp [intOf]; omega⟩
  ·have hkl:k=c:=by omega
   subst hkl
   have HJk:=aH hJk
   clear hJk
   gi_wp2
   go_end0
   exact ⟨⟨_,rfl⟩,aU HJk⟩
end Nb
end Go.Proofs.YtkkpahmoljiepaaGreatDoor

set_option maxRecDepth 1000000
set_option maxHeartbeats 12800000
namespace Go.Proofs.YtkkpahmoljiepaaGreatDoor
open Go.RowKit
open Pu (Str aH aU)
namespace Qu
open Ka Wa Wb Wc Wd We Wf Wg Wh Wi Wj Wk Wl Wm Ha Hb Hc Re Qa Qb Qc Qd Qe Qf Qg Qh Qi Qj Qk Ql Qm Qn Qr Qq Qs
theorem own_apart2 {w:World} {base base':Nat} {t t':TypeId} {sz sz' n n' g:Nat} {v v':Value} {xs xs':List Value} (h:w.ownsRow base t sz v n xs) (h':w.ownsRow base' t' sz' v' n' xs') (ht:t≠t') (hg:v.ownBlock=some g):some g≠v'.ownBlock:=fun e=>by
 obtain ⟨_,cur,hc⟩:=own_at h hg
 obtain ⟨_,cur',hc'⟩:=own_at h' e.symm
 rw [hc] at hc'
 simp at hc'
 exact ht hc'.2
theorem mem_grown {w w':World} {mb bb base b0:Nat} {bs:Str} {wild:Bool} {cnt st:Nat} {v:Value} {l:Str} (h:Mem w mb bb base bs wild cnt st) (ho:OwnB w b0 v l) (hbb:bb<b0) (hk : ∀ i,i<w.heap.size→some i≠v.ownBlock→w'.heap[i]? = w.heap[i]?):Mem w' mb bb base bs wild cnt st:=by
 obtain ⟨fg,vl,vm,ns,hm,hr,hl,hle,ms,hms,hml⟩:=h
 have nb:some bb≠v.ownBlock:=fun e=>by obtain ⟨hb,_⟩:=own_at ho e.symm; omega
 exact ⟨fg,vl,vm,ns,aF.of hm (hk mb (aF.lt hm) (own_ne hm ho (by decide))),RowB.of hr (hk bb hr.2.lt nb),own_keep hl fun g hg=>hk g (own_lt hl hg) (own_apart2 hl ho (by decide) hg),hle,ms,own_keep hms fun g hg=>hk g (own_lt hms hg) (own_apart2 hms ho (by decide) hg),hml⟩
theorem own_mf {w w':World} {mb bb base b0:Nat} {v:Value} {l:Str} (ho:OwnB w b0 v l) (hF:MF mb bb base w w') (hmb:mb<b0) (hbb:bb<b0):OwnB w' b0 v l :=
 own_keep ho fun g hg=>by
  obtain ⟨hb,cur,hc⟩:=own_at ho hg
  exact hF.block g (own_lt ho hg) (by omega) (by omega) (.inr ⟨fun c e=>by rw [hc] at e; simp at e,fun c e=>by rw [hc] at e; simp at e⟩)
theorem new1 (w:World) (b:UInt8) : ∀ j u,[Value.int .u8 b.toNat][j]? = some u→(w.alloc (.cells #[.int .u8 b.toNat] 5)).cell? ((⟨w.heap.size,0,none⟩:Addr).add j)=some u:=fun j u hj=>by
 match j,hj with
 | 0,hj=>simp at hj; subst hj; simp [Addr.add]
 | n+1,hj=>simp at hj
theorem one1 (b:UInt8) : ∀ u∈[Value.int .u8 b.toNat],u.oneCell'=true:=fun u hu=>by simp at hu; subst hu; rfl
theorem read_any (rb mb bb base ba bu av us slot len:Nat) (t:TypeId) (out:List Bool) (wild:Bool) (cnt st:Nat) (bs s:Str) (w:World) (h:Mem w mb bb base bs wild cnt st) (hr:aO w rb t mb ba bu av us out) (hbs:base≤w.heap.size) (hbu:bu≤100000) (hsl:slot≤100) (hlen:len=12+s.length) (hlen2:len≤1536) (hs:LiesB bs (bu+1536*slot+12) s) (hcnt:cnt≤900000) (ht1:t≠3) (ht2:t≠177) (hrm:rb≠mb) (hrb:rb≠bb) :
  Calls Tryz.prog 260 #[.pointer (some ⟨rb,0,none⟩),.int .i64 slot,.int .i64 len] w fun e w' =>
   e=.returned (.string (B s))∧Mem w' mb bb base bs wild (cnt+s.length) st∧MF mb bb base w w':=by
 obtain ⟨i0,hi,hz0,hz1,hz2⟩:=info_parts infoB
 obtain ⟨hmlt,hblt⟩:=mem_lt h
 obtain ⟨n,hn⟩ : ∃ n,n=s.length:=⟨_,rfl⟩
 obtain ⟨w1,km,ho1,hg1⟩:=run_make_own (P:=Tryz.prog) w w.heap.size 58 5 i0 (.int .u8 0) 1 underB hi hz0 hz1 .i64 .i64 n (by rw [hz2]; omega) (by unfold maxLen; omega) (Nat.le_refl _)
 have k0:IntKind.i64.wrap ((len:Int) - 12)=(n:Int):=by rw [IntKind.wrap_i64]; omega
 have hB1:Below w.heap.size w w1:=(Below.refl _ _).grown hg1 (Nat.le_refl _) (fun k hk=>by cases hk)
 have HM:=aH (mem_below h hB1)
 have HO:Hid (OwnB w1 w.heap.size (.slice (some ⟨w.heap.size,0,none⟩) 0 n) []):=ho1
 have HF:=aH (Qf.MF.of_below (mb:=mb) (bb:=bb) (base:=base) hB1)
 have HR:=aH hr
 have HS:=aH hs
 have HN:=aH hn
 have HLN:Hid (len=12+n):=by rw [Hid,hn]; exact hlen
 have hnb:n≤1524:=by omega
 clear h hr hs ho1 hg1 hB1 hn hlen
 go_enter Tryz.func260,Tryz.ntmps260
 go_wp2_with fail
 go_loopw [7,8] (fun v i wr=>∃ (k:Nat) (v':Value),v'=v∧i=.int .i64 (12+k:Nat)∧k≤n∧OwnB wr w.heap.size v (s.take k)∧Mem wr mb bb base bs wild (cnt+k) st∧MF mb bb base w wr) (fun _ i _=>len - (intOf i).toNat)
 case atStart=>exact ⟨0,_,rfl,rfl,Nat.zero_le _,aU HO,aU HM,aU HF⟩
 case round =>
  obtain ⟨k,v,rfl,rfl,hk,ho,hm,hF⟩:=hrel
  have HM1:=aH hm
  have HF1:=aH hF
  have HO1:=aH ho
  have hsz1:=hF.size
  by_cases hlk:k<n
  ·have hR1:=ring_keep (aU HR) hF ht1 ht2 hrm hrb
   have r0:=aB.cell hR1 0 (by simp)
   simp only [List.cons_append,List.getElem_cons_zero,List.getElem_cons_succ] at r0
   have hms:=m_load mb
   have hcf:=cf_load
   obtain ⟨q,hq⟩ : ∃ q,q=bu+1536*slot:=⟨_,rfl⟩
   obtain ⟨i,hi12⟩ : ∃ i,i=12+k:=⟨_,rfl⟩
   obtain ⟨pk,hpk⟩ : ∃ pk,pk=q+i:=⟨_,rfl⟩
   obtain ⟨cb,hcb⟩ : ∃ cb:UInt8,s[k]? = some cb:=⟨s[k]'(by have:=aU HN; omega),List.getElem?_eq_getElem _⟩
   have hcb2:bs[pk]? = some cb:=by rw [hpk,hi12,hq,← hcb]; have:=aU HS k (by have:=aU HN; omega); rwa [show bu+1536*slot+12+k=bu+1536*slot+(12+k) by omega] at this
   have e1:IntKind.i64.wrap ((q:Int)+(i:Int))=(pk:Int):=by have:=aU HLN; rw [IntKind.wrap_i64]; omega
   have HBU:=aH (buffer_any rb mb ba bu av us slot t out wr.drew hR1 hbu hsl)
   rw [← hq] at HBU
   have HLD:=aH (mem_load mb bb base pk wild (cnt+k) st bs cb wr.drew hm (by show base≤wr.heap.size; omega) hcb2 (by have:=aU HLN; omega))
   have HTK:Hid (s.take (k+1)=s.take k++[cb]):=by
    obtain ⟨hl,e⟩:=List.getElem?_eq_some_iff.1 hcb
    rw [Hid,List.take_succ_eq_append_getElem hl,e]
   have hltk:(s.take k).length=k:=by have:=aU HN; rw [List.length_take]; omega
   have hS0:wr.drew.cell? ⟨rb,0,none⟩=some (.iface 71 (.pointer (some ⟨mb,0,none⟩))):=r0
   have HKP:Hid (∀ W':World,MF mb bb base wr.drew W'→W'.cell? ⟨rb,0,none⟩=some (.iface 71 (.pointer (some ⟨mb,0,none⟩)))):=fun W' hF=>(World.cell?_of_block (hF.block rb (aB.lt hR1) hrm hrb (.inr ⟨fun cur e=>ht1 (by have:=hR1.symm.trans e; simp at this; exact this.2),fun cur e=>ht2 (by have:=hR1.symm.trans e; simp at this; exact this.2)⟩))).trans r0
   have HOK:Hid (∀ W':World,MF mb bb base wr.drew W'→W'.ownsRow w.heap.size 5 1 v k ((s.take k).map fun c=>.int .u8 c.toNat)∧wr.heap.size≤W'.heap.size):=fun W' hF=>by
    have:=own_mf (w:=wr.drew) ho hF hmlt hblt
    unfold OwnB at this
    rw [hltk] at this
    exact ⟨this,hF.size⟩
   rw [← hi12]
   have hil:(i:Int)<(len:Int):=by have:=aU HLN; omega
   obtain ⟨i1,hi1⟩ : ∃ i1,i1=12+(k+1):=⟨_,rfl⟩
   have ki1:(i:Int)+1=(i1:Int):=by omega
   have HI1:=aH hi1
   have HI12:=aH hi12
   have hrlt:rb<w.heap.size:=aB.lt (aU HR)
   have hnrb:some rb≠v.ownBlock:=fun e=>by obtain ⟨hb,_⟩:=own_at ho e.symm; omega
   have HK3:Hid (∀ w2 w3:World,wr.heap.size≤w2.heap.size→(w2.alloc (.cells #[.int .u8 cb.toNat] 5)).grownBy w3 v.ownBlock→w2.cell? ⟨rb,0,none⟩=some (.iface 71 (.pointer (some ⟨mb,0,none⟩)))→w3.cell? ⟨rb,0,none⟩=some (.iface 71 (.pointer (some ⟨mb,0,none⟩)))):=fun w2 w3 hz hg h2=>(World.cell?_of_block ((hg.block rb (by simp; omega) hnrb).trans (Below.heap_alloc _ _ _ (by omega)))).trans h2
   clear hm hF ho hq hpk hcb hcb2 hR1 hi12 hi1
   go_wp2_with fail
   go_region_held_law (fun w'=>w'.cell? ⟨rb,0,none⟩=some (.iface 71 (.pointer (some ⟨mb,0,none⟩)))) (first | assumption | go_keep)
    (first | (go_at_call 214; go_loud (refine (aU HBU).mono ?_; rintro e w' ⟨rfl,rfl⟩)) | (go_at_call 159; go_loud (refine (aU HLD).mono ?_; rintro e w2 ⟨rfl,hm2,hF2⟩; have hS2:=aU HKP w2 hF2; obtain ⟨hO2,hZ2⟩:=aU HOK w2 hF2)) | (refine step_append_lies _ (by rfl) (.tmp 17) (.tmp 33) 58 (by rfl) w.heap.size 5 i0 (.int .u8 0) 1 1 underB hi hz0 hz1 hz2 rfl (by decide) v k _ (by rfl) (hO2.alloc _) ⟨w2.heap.size,0,none⟩ 1 1 [.int .u8 cb.toNat] (by rfl) rfl (new1 w2 cb) (one1 cb) (by decide) (by unfold maxLen; omega) (by omega) (by simp; omega) (w2.heap.size+1) (by simp) ?_; intro g cap w3 hown hgrow hat hlt3; have hS3:=aU HK3 w2 w3 hZ2 hgrow hS2))
   all_goals
    have hv2:v.ownBlock=none∨∃ g',v.ownBlock=some g'∧w.heap.size≤g':=by
     cases hv:v.ownBlock with
     | none=>exact .inl rfl
     | some g'=>exact .inr ⟨g',rfl,(own_at hO2 hv).1⟩
    have hk3 : ∀ i,i<w2.heap.size→some i≠v.ownBlock→w3.heap[i]? = w2.heap[i]?:=fun i hi hne=>(hgrow.block i (by simp; omega) hne).trans (Below.heap_alloc _ _ _ hi)
    have hm3:=mem_grown (b0:=w.heap.size) (l:=s.take k) hm2 (by unfold OwnB; rw [hltk]; exact hO2) hblt hk3
    have HM3:=aH hm3
    have HO3:Hid (OwnB w3 w.heap.size (.slice (some ⟨g,0,none⟩) (k+1) cap) (s.take (k+1))):=by
     unfold Hid OwnB
     rw [aU HTK,List.length_append,hltk,List.map_append]
     exact hown
    have hFw2:=Qf.MF.trans (Qf.MF.trans (aU HF1) (Qf.MF.of_below (Below.refl _ _).drew)) hF2
    have HF3:Hid (MF mb bb base w w3):=⟨hgrow.os.trans hFw2.os,hgrow.tape.trans hFw2.tape,hgrow.output.trans hFw2.output,Nat.le_trans hFw2.size (Nat.le_trans (by simp) hgrow.size),fun i hi h1 h2 hp=>(hk3 i (by have:=hFw2.size; omega) (fun e=>by
     rcases hv2 with hv | ⟨g',hv,hg'⟩
     ·rw [hv] at e; cases e
     ·rw [hv] at e; cases e; omega)).trans (hFw2.block i hi h1 h2 hp)⟩
    clear hm2 hF2 hO2 hown hgrow hm3 hk3 hFw2 hv2
    go_wp2_with fail
    exact ⟨⟨k+1,_,rfl,by rw [← aU HI1],by omega,aU HO3,by have:=aU HM3; rwa [Nat.add_assoc] at this,aU HF3⟩,by have:=aU HLN; have:=aU HI1; have:=aU HI12; simp [intOf]; omega⟩
  ·have hkl:k=n:=by omega
   subst hkl
   have hl:s.take k=s:=by rw [List.take_of_length_le (by have:=aU HN; omega)]
   rw [hl] at ho
   have kc:=own_string ho
   have hil : ¬ (12:Int)+(k:Int)<(len:Int):=by have:=aU HLN; omega
   clear hm hF ho HO1
   go_wp2
   go_ret
   exact ⟨rfl,by rw [← aU HN]; exact aU HM1,aU HF1⟩
end Qu
end Go.Proofs.YtkkpahmoljiepaaGreatDoor
