/- Contracts: wire's (packet).answer, (frame).answerPacket, answer, Handle. -/
import Derived.Test.YtkkpahmoljiepaaGreatDoorJ21
import Derived.Test.YtkkpahmoljiepaaGreatDoorJ19
import Derived.Test.YtkkpahmoljiepaaGreatDoorJ20
import Derived.Test.YtkkpahmoljiepaaGreatDoorJ02
import Derived.Test.YtkkpahmoljiepaaGreatDoorJ07
import Derived.LoopNIn
set_option linter.unusedSimpArgs false
set_option linter.unusedVariables false
set_option maxRecDepth 1000000
set_option maxHeartbeats 12800000
namespace Go.Proofs.YtkkpahmoljiepaaGreatDoor
open Go.RowKit
open Pu (Str aH aU)
namespace Hg
open Ka Kc Wa Wb Wc Wd We Wf Wg Wh Wi Wj Wk Wl Wm Ha Hb Hc Hd He Hf Re
abbrev pkt (a b r:Str):Value:=.agg #[.string (B a),.string (B b),.string (B r)]
abbrev dgm (sp dp:Nat) (m:Str):Value:=.agg #[.int .i64 sp,.int .i64 dp,.string (B m)]
abbrev frm (a b:Str) (k:Nat) (r:Str):Value:=.agg #[.string (B a),.string (B b),.int .i64 k,.string (B r)]
structure Pa (w W:World) (a b r:Str):Prop where
 p:aB W w.heap.size [.string (B a),.string (B b),.string (B r)] 307
 z:aB W (w.heap.size+1) [.string ⟨#[]⟩,.string ⟨#[]⟩,.string ⟨#[]⟩] 307
 below:Below w.heap.size w W
theorem Pa.size {w W:World} {a b r:Str} (h:Pa w W a b r):w.heap.size+1<W.heap.size:=h.z.lt
theorem Pa.next {w W W':World} {a b r:Str} (h:Pa w W a b r) (hb:Below W.heap.size W W'):Pa w W' a b r :=
 ⟨h.p.below hb h.p.lt,h.z.below hb h.z.lt,h.below.trans (hb.mono (by have:=h.size; omega))⟩
theorem Pa.alloc {w W:World} {a b r:Str} (h:Pa w W a b r) (o:Obj):Pa w (W.alloc o) a b r:=h.next ((Below.refl _ _).alloc (Nat.le_refl _) _)
theorem Pa.start (w:World) (a b r:Str):Pa w ((w.alloc (.cells #[.string (B a),.string (B b),.string (B r)] 307)).alloc (.cells #[.string ⟨#[]⟩,.string ⟨#[]⟩,.string ⟨#[]⟩] 307)) a b r where
 p:=(aB.new w _ _).alloc _
 z:=by
  have:=aB.new (w.alloc (.cells #[.string (B a),.string (B b),.string (B r)] 307)) [.string ⟨#[]⟩,.string ⟨#[]⟩,.string ⟨#[]⟩] 307
  simpa using this
 below:=((Below.refl _ _).alloc (Nat.le_refl _) _).alloc (by simp) _
structure Pd (w W:World) (a b r:Str) (db sp:Nat) (m:Str):Prop where
 pa:Pa w W a b r
 d:aB W db [.int .i64 sp,.int .i64 53,.string (B m)] 349
theorem Pd.next {w W W':World} {a b r m:Str} {db sp:Nat} (h:Pd w W a b r db sp m) (hb:Below W.heap.size W W'):Pd w W' a b r db sp m:=⟨h.pa.next hb,h.d.below hb h.d.lt⟩
theorem panswer_some (a b r m o:Str) (sp:Nat) (zv:Value) (w:World) (ha:a.length≤1000) (hb:b.length≤1000) (hsp:sp<65536) (ho:o≠[]) (hol:o.length≤60000)
  (hD : ∀ W,Calls Tryz.prog 257 #[pkt a b r] W fun e w'=>e=.returned (.tuple #[dgm sp 53 m,.bool true])∧Below W.heap.size W w')
  (hR : ∀ W,Below w.heap.size w W→Calls Tryz.prog 27 #[zv,.string (B m)] W fun e w'=>e=.returned (.string (B o))∧Below W.heap.size W w') :
  Calls Tryz.prog 211 #[pkt a b r,zv] w fun e w'=>e=.returned (.tuple #[pkt b a (udO b a 53 sp o),.bool true])∧Below w.heap.size w w':=by
 have HD:=aH hD
 have HR:=aH hR
 have HS0:=aH (Pa.start w a b r)
 have hoe:(B o).toList.isEmpty=false:=by
  rw [ByteArray.toList_eq]
  cases o with
  | nil=>exact absurd rfl ho
  | cons x t=>rfl
 have HC:=aH (fun W=>carrying_any b a [] o 53 sp W hb ha hol (by omega) hsp)
 clear hD hR ho hol ha hb hsp
 go_enter Tryz.func211,Tryz.ntmps211
 go_wp2_with fail
 refine (aU HD _).mono ?_
 rintro e w1 ⟨rfl,hb1⟩
 have hS1:=(aU HS0).next hb1
 have hw1:=hS1.size
 have hS2:Pd w (w1.alloc (.cells #[.int .i64 sp,.int .i64 53,.string (B m)] 349)) a b r w1.heap.size sp m:=⟨hS1.alloc _,aB.new _ _ _⟩
 have HS2:=aH hS2
 have HRE:=aH (aU HR _ hS2.pa.below)
 clear hb1 HS0 HD hS1 hS2 HR
 go_wp2_with fail
 refine (aU HRE).mono ?_
 rintro e w2 ⟨rfl,hb2⟩
 have HS3:=aH ((aU HS2).next hb2)
 clear hb2 HS2 HRE
 generalize w1.heap.size=db at *
 have p0:=(aU HS3).pa.p.cell 0 (by simp)
 have p1:=(aU HS3).pa.p.cell 1 (by simp)
 have d0:=(aU HS3).d.cell 0 (by simp)
 have d1:=(aU HS3).d.cell 1 (by simp)
 simp only [List.getElem_cons_zero,List.getElem_cons_succ] at p0 p1 d0 d1
 have hw2:=(aU HS3).pa.size
 have hw3:=(aU HS3).d.lt
 go_wp2_with fail
 refine (aU HC (w2.alloc (.cells #[.string (B b),.string (B a),.string ⟨#[]⟩] 307))).mono ?_
 rintro e w3 ⟨rfl,hb3⟩
 have hS4:=(((aU HS3).pa.alloc (.cells #[.string (B b),.string (B a),.string ⟨#[]⟩] 307)).next hb3)
 clear hb3 HS3 HC p0 p1 d0 d1 hw2 hw3
 have z0:=hS4.z.cell 0 (by simp)
 have z1:=hS4.z.cell 1 (by simp)
 have z2:=hS4.z.cell 2 (by simp)
 have hfz:=hS4.z.frozen
 simp only [List.getElem_cons_zero,List.getElem_cons_succ] at z0 z1 z2
 have HB:=aH hS4.below
 clear hS4
 go_wp2
 refine bodyPost_ret (v:=.tuple #[.agg #[.string (B b),.string (B a),.string (B (udO b a 53 sp o))],.bool true]) ?_ rfl ?_
 ·simp [results,Tryz.results211,go_sem,z0,z1,z2]
 ·exact ⟨rfl,(((aU HB).setCell (by show w.heap.size≤w.heap.size+1; omega) _).setCell (by show w.heap.size≤w.heap.size+1; omega) _).setCell (by show w.heap.size≤w.heap.size+1; omega) _⟩
abbrev cfg (mac ip:Str):Value:=.agg #[.string (B mac),.string (B ip)]
structure Fa (w W:World) (a b:Str) (k:Nat) (r mac ip:Str):Prop where
 f:aB W w.heap.size [.string (B a),.string (B b),.int .i64 k,.string (B r)] 150
 c:aB W (w.heap.size+1) [.string (B mac),.string (B ip)] 62
 below:Below w.heap.size w W
theorem Fa.size {w W:World} {a b r mac ip:Str} {k:Nat} (h:Fa w W a b k r mac ip):w.heap.size+1<W.heap.size:=h.c.lt
theorem Fa.next {w W W':World} {a b r mac ip:Str} {k:Nat} (h:Fa w W a b k r mac ip) (hb:Below W.heap.size W W'):Fa w W' a b k r mac ip :=
 ⟨h.f.below hb h.f.lt,h.c.below hb h.c.lt,h.below.trans (hb.mono (by have:=h.size; omega))⟩
theorem Fa.alloc {w W:World} {a b r mac ip:Str} {k:Nat} (h:Fa w W a b k r mac ip) (o:Obj):Fa w (W.alloc o) a b k r mac ip:=h.next ((Below.refl _ _).alloc (Nat.le_refl _) _)
theorem Fa.start (w:World) (a b:Str) (k:Nat) (r mac ip:Str):Fa w ((w.alloc (.cells #[.string (B a),.string (B b),.int .i64 k,.string (B r)] 150)).alloc (.cells #[.string (B mac),.string (B ip)] 62)) a b k r mac ip where
 f:=(aB.new w _ _).alloc _
 c:=by
  have:=aB.new (w.alloc (.cells #[.string (B a),.string (B b),.int .i64 k,.string (B r)] 150)) [.string (B mac),.string (B ip)] 62
  simpa using this
 below:=((Below.refl _ _).alloc (Nat.le_refl _) _).alloc (by simp) _
theorem answerPacket_some (a b r mac ip x0 x2 y0 y1 y2:Str) (k:Nat) (zv:Value) (w:World) (l1:b.length≤1000) (l2:mac.length≤1000) (l3:y0.length≤1000) (l4:y1.length≤1000) (l5:y2.length≤60000)
  (hP : ∀ W,Calls Tryz.prog 210 #[.string (B r)] W fun e w'=>e=.returned (.tuple #[pkt x0 ip x2,.bool true])∧Below W.heap.size W w')
  (hA : ∀ W,Below w.heap.size w W→Calls Tryz.prog 211 #[pkt x0 ip x2,zv] W fun e w'=>e=.returned (.tuple #[pkt y0 y1 y2,.bool true])∧Below W.heap.size W w') :
  Calls Tryz.prog 150 #[frm a b k r,zv,cfg mac ip] w fun e w'=>e=.returned (.string (B (b++mac++[8,0]++ipO y0 y1 y2)))∧Below w.heap.size w w':=by
 have HP:=aH hP
 have HA:=aH hA
 have HS0:=aH (Fa.start w a b k r mac ip)
 have lOut:(ipO y0 y1 y2).length≤100000:=by simp [ipO,ipOA]; omega
 have HPB:=aH (fun W=>packetBytes_any y0 y1 y2 W l3 l4 l5)
 have HFB:Hid (∀ W,Calls Tryz.prog 209 #[.agg #[.string (B b),.string (B mac),.int .i64 2048,.string (B (ipO y0 y1 y2))]] W fun e w'=>e=.returned (.string (B (b++mac++[8,0]++ipO y0 y1 y2)))∧Below W.heap.size W w'):=fun W=>frameBytes_any b mac (ipO y0 y1 y2) 2048 W l1 l2 lOut (by omega)
 clear hP hA l1 l2 l3 l4 l5 lOut
 go_enter Tryz.func150,Tryz.ntmps150
 go_wp2_with fail
 refine (aU HP _).mono ?_
 rintro e w1 ⟨rfl,hb1⟩
 have hS1:=(aU HS0).next hb1
 have hw1:=hS1.size
 have hS2:=hS1.alloc (.cells #[.string (B x0),.string (B ip),.string (B x2)] 307)
 have HA2:=aH (aU HA _ hS2.below)
 have c1:=hS1.c.cell 1 (by simp)
 have c1':=hS2.c.cell 1 (by simp)
 simp only [List.getElem_cons_zero,List.getElem_cons_succ] at c1 c1'
 have HS2:=aH hS2
 clear hb1 HS0 HP hS1 HA hS2
 go_wp2_with fail
 refine (aU HA2).mono ?_
 rintro e w2 ⟨rfl,hb2⟩
 have hS3:=(aU HS2).next hb2
 have hw2:=hS3.size
 have HS4:=aH (hS3.alloc (.cells #[.string (B y0),.string (B y1),.string (B y2)] 307))
 have H0:(w2.alloc (.cells #[.string (B y0),.string (B y1),.string (B y2)] 307)).drew.cell? ⟨w.heap.size,1,none⟩=some (.string (B b))∧(w2.alloc (.cells #[.string (B y0),.string (B y1),.string (B y2)] 307)).drew.cell? ⟨w.heap.size+1,0,none⟩=some (.string (B mac))∧(w2.alloc (.cells #[.string (B y0),.string (B y1),.string (B y2)] 307)).drew.cell? ⟨w2.heap.size,0,none⟩=some (.string (B y0))∧(w2.alloc (.cells #[.string (B y0),.string (B y1),.string (B y2)] 307)).drew.cell? ⟨w2.heap.size,1,none⟩=some (.string (B y1))∧(w2.alloc (.cells #[.string (B y0),.string (B y1),.string (B y2)] 307)).drew.cell? ⟨w2.heap.size,2,none⟩=some (.string (B y2))∧Below w.heap.size w (w2.alloc (.cells #[.string (B y0),.string (B y1),.string (B y2)] 307)).drew:=by
  have hN:=aB.new w2 [.string (B y0),.string (B y1),.string (B y2)] 307
  exact ⟨(aU HS4).f.cell 1 (by simp),(aU HS4).c.cell 0 (by simp),hN.cell 0 (by simp),hN.cell 1 (by simp),hN.cell 2 (by simp),(aU HS4).below.drew⟩
 have KP:Hid (∀ W W':World,(W.cell? ⟨w.heap.size,1,none⟩=some (.string (B b))∧W.cell? ⟨w.heap.size+1,0,none⟩=some (.string (B mac))∧W.cell? ⟨w2.heap.size,0,none⟩=some (.string (B y0))∧W.cell? ⟨w2.heap.size,1,none⟩=some (.string (B y1))∧W.cell? ⟨w2.heap.size,2,none⟩=some (.string (B y2))∧Below w.heap.size w W)→Below W.heap.size W W'→(W'.cell? ⟨w.heap.size,1,none⟩=some (.string (B b))∧W'.cell? ⟨w.heap.size+1,0,none⟩=some (.string (B mac))∧W'.cell? ⟨w2.heap.size,0,none⟩=some (.string (B y0))∧W'.cell? ⟨w2.heap.size,1,none⟩=some (.string (B y1))∧W'.cell? ⟨w2.heap.size,2,none⟩=some (.string (B y2))∧Below w.heap.size w W')):=fun W W' hW hb=>by
  have kp : ∀ (x:Addr) (v:Value),W.cell? x=some v→W'.cell? x=some v:=fun x v h=>(hb.cell (World.block_lt_of_cell? W x h)).trans h
  exact ⟨kp _ _ hW.1,kp _ _ hW.2.1,kp _ _ hW.2.2.1,kp _ _ hW.2.2.2.1,kp _ _ hW.2.2.2.2.1,hW.2.2.2.2.2.trans (hb.mono hW.2.2.2.2.2.size)⟩
 have q1:=(aU HS4).f.cell 1 (by simp)
 have q2:=(aU HS4).c.cell 0 (by simp)
 simp only [List.getElem_cons_zero,List.getElem_cons_succ] at q1 q2
 clear hb2 hS3 HS2 HA2 c1 c1'
 go_wp2_with fail
 go_region_held (fun w'=>w'.cell? ⟨w.heap.size,1,none⟩=some (.string (B b))∧w'.cell? ⟨w.heap.size+1,0,none⟩=some (.string (B mac))∧w'.cell? ⟨w2.heap.size,0,none⟩=some (.string (B y0))∧w'.cell? ⟨w2.heap.size,1,none⟩=some (.string (B y1))∧w'.cell? ⟨w2.heap.size,2,none⟩=some (.string (B y2))∧Below w.heap.size w w') (first | assumption | go_keep)
  (first
   | (go_at_call 212; go_loud (refine (aU HPB _).mono ?_; rintro e w' ⟨rfl,hq⟩; replace hq:=aU KP _ _ (by assumption) hq))
   | (go_at_call 209; go_loud (refine (aU HFB _).mono ?_; rintro e w' ⟨rfl,hq⟩; replace hq:=aU KP _ _ (by assumption) hq)))
 all_goals
  have HF:=aH hq.2.2.2.2.2
  clear hq
  go_wp2_with fail
  go_ret
  exact ⟨congrArg (fun x=>Ending.returned (.string (B x))) (by simp),aU HF⟩
theorem fanswer_ip (a b r mac ip x:Str) (zv:Value) (w:World)
  (hA : ∀ W,Below w.heap.size w W→Calls Tryz.prog 150 #[frm a b 2048 r,zv,cfg mac ip] W fun e w'=>e=.returned (.string (B x))∧Below W.heap.size W w') :
  Calls Tryz.prog 80 #[frm a b 2048 r,zv,cfg mac ip] w fun e w'=>e=.returned (.string (B x))∧Below w.heap.size w w':=by
 have hS:=Fa.start w a b 2048 r mac ip
 have HB:=aH hS.below
 have HA:=aH (hA _ hS.below)
 clear hS hA
 go_enter Tryz.func80,Tryz.ntmps80
 go_wp2_with fail
 refine (aU HA).mono ?_
 rintro e w1 ⟨rfl,hb1⟩
 have HB1:=aH ((aU HB).trans (hb1.mono (aU HB).size))
 clear hb1 HA HB
 go_wp2_with fail
 go_ret
 exact ⟨rfl,aU HB1⟩
theorem handle_mine (s b r mac ip x:Str) (k:Nat) (zv:Value) (w:World)
  (hF : ∀ W,Calls Tryz.prog 79 #[.string (B s)] W fun e w'=>e=.returned (.tuple #[frm mac b k r,.bool true])∧Below W.heap.size W w')
  (hA : ∀ W,Below w.heap.size w W→Calls Tryz.prog 80 #[frm mac b k r,zv,cfg mac ip] W fun e w'=>e=.returned (.string (B x))∧Below W.heap.size W w') :
  Calls Tryz.prog 37 #[zv,cfg mac ip,.string (B s)] w fun e w'=>e=.returned (.string (B x))∧Below w.heap.size w w':=by
 have HF:=aH hF
 have hB0:=(Below.refl w.heap.size w).alloc (Nat.le_refl _) (.cells #[.string (B mac),.string (B ip)] 62)
 have HB0:=aH hB0
 have HC:=aH (aB.new w [.string (B mac),.string (B ip)] 62)
 have HA:=aH hA
 clear hF hB0 hA
 go_enter Tryz.func37,Tryz.ntmps37
 go_wp2_with fail
 refine (aU HF _).mono ?_
 rintro e w1 ⟨rfl,hb1⟩
 have hB1:=(aU HB0).trans (hb1.mono (by simp))
 have hw1:=hB1.size
 have hB2:=hB1.alloc hw1 (.cells #[.string (B mac),.string (B b),.int .i64 k,.string (B r)] 150)
 have HA2:=aH (aU HA _ hB2)
 have HB1:=aH hB2
 have hC1:=(aU HC).below hb1 (by simp)
 have hC2:=hC1.alloc (.cells #[.string (B mac),.string (B b),.int .i64 k,.string (B r)] 150)
 have c0:=hC1.cell 0 (by simp)
 have c1:=hC1.cell 1 (by simp)
 have c0':=hC2.cell 0 (by simp)
 have c1':=hC2.cell 1 (by simp)
 simp only [List.getElem_cons_zero,List.getElem_cons_succ] at c0 c0' c1 c1'
 have hw2:=hC1.lt
 clear hb1 HF HB0 hB1 HC hC1 hC2 HA hB2
 go_wp2_with fail
 refine (aU HA2).mono ?_
 rintro e w2 ⟨rfl,hb2⟩
 have HB2:=aH ((aU HB1).trans (hb2.mono (aU HB1).size))
 clear hb2 HB1 HA2
 go_wp2_with fail
 go_ret
 exact ⟨rfl,aU HB2⟩
end Hg
def MacAt (w:World) (xb zb rb sb:Nat) (mac ip:Str) (n s d:Nat) (br:Bool):Prop :=
 aB w xb [.pointer (some ⟨zb,0,none⟩),.string (B mac),.string (B ip),.pointer (some ⟨rb,0,none⟩),.pointer (some ⟨sb,0,none⟩),.int .i64 n,.int .i64 s,.int .i64 d,.bool br] 165
def Off (xb rb sb mb bb:Nat) (i:Nat):Prop:=i≠xb∧i≠rb∧i≠sb∧i≠mb∧i≠bb
namespace Na
open Ka Wa Wb Wc Wd We Wf Wg Wh Wi Wj Wk Wl Wm Ha Hb Hc Re Qa Qb Qc Qd Qe Qf Qg Qh Qi Qj Qk Ql Qm Qn Qo Qp Qr Qq Qs Qw Qx
theorem mac_set (w:World) (xb zb rb sb:Nat) (mac ip:Str) (n s d:Nat) (br:Bool) (h:MacAt w xb zb rb sb mac ip n s d br) (v:Nat):MacAt (w.setCell ⟨xb,5,none⟩ (.int .i64 v)) xb zb rb sb mac ip v s d br∧MacAt (w.setCell ⟨xb,6,none⟩ (.int .i64 v)) xb zb rb sb mac ip n v d br∧MacAt (w.setCell ⟨xb,7,none⟩ (.int .i64 v)) xb zb rb sb mac ip n s v br :=
 ⟨aB.set h 5 (.int .i64 v),aB.set h 6 (.int .i64 v),aB.set h 7 (.int .i64 v)⟩
structure Mac (w:World) (xb zb rb sb mb bb base:Nat) (mac ip:Str) (bs:Str) (wild:Bool) (cnt st rav rus:Nat) (rout:List Bool) (sav sus:Nat) (sout:List Bool) (n s d:Nat) (br:Bool):Prop where
 mem:Mem w mb bb base bs wild cnt st
 rr:aO w rb 240 mb 0 1024 rav rus rout
 sr:aO w sb 241 mb 512 13312 sav sus sout
 mac:MacAt w xb zb rb sb mac ip n s d br
 hb:base≤w.heap.size
section
variable {w w':World} {xb zb rb sb mb bb base:Nat} {mac ip:Str} {bs:Str} {wild:Bool} {cnt st rav rus:Nat} {rout:List Bool} {sav sus:Nat} {sout:List Bool} {n s d:Nat} {br:Bool}
theorem mem_blk (h:Mem w mb bb base bs wild cnt st):(∃ cs,aB w mb cs 84)∧∃ cs,aB w bb cs 5:=by
 obtain ⟨vl,vm,ns,⟨early,d0,d1,hm⟩,hr,_⟩:=h
 exact ⟨⟨_,hm⟩,⟨_,hr.2⟩⟩
theorem Mac.apart (h:Mac w xb zb rb sb mb bb base mac ip bs wild cnt st rav rus rout sav sus sout n s d br):xb≠rb∧xb≠sb∧xb≠mb∧xb≠bb∧rb≠sb∧rb≠mb∧rb≠bb∧sb≠mb∧sb≠bb:=by
 obtain ⟨⟨c1,h1⟩,⟨c2,h2⟩⟩:=mem_blk h.mem
 exact ⟨blk_ne h.mac h.rr (by decide),blk_ne h.mac h.sr (by decide),blk_ne h.mac h1 (by decide),blk_ne h.mac h2 (by decide),blk_ne h.rr h.sr (by decide),blk_ne h.rr h1 (by decide),blk_ne h.rr h2 (by decide),blk_ne h.sr h1 (by decide),blk_ne h.sr h2 (by decide)⟩
theorem Mac.below (h:Mac w xb zb rb sb mb bb base mac ip bs wild cnt st rav rus rout sav sus sout n s d br) (hb:Below w.heap.size w w'):Mac w' xb zb rb sb mb bb base mac ip bs wild cnt st rav rus rout sav sus sout n s d br :=
 ⟨mem_below h.mem hb,(hb.block rb (aB.lt h.rr)).trans h.rr,(hb.block sb (aB.lt h.sr)).trans h.sr,(hb.block xb (aB.lt h.mac)).trans h.mac,Nat.le_trans h.hb hb.size⟩
theorem Mac.counts {n' s' d':Nat} {br':Bool} (h:Mac w xb zb rb sb mb bb base mac ip bs wild cnt st rav rus rout sav sus sout n s d br) (hk:It.Keeps xb w w') (hm:MacAt w' xb zb rb sb mac ip n' s' d' br'):Mac w' xb zb rb sb mb bb base mac ip bs wild cnt st rav rus rout sav sus sout n' s' d' br':=by
 obtain ⟨a1,a2,a3,a4,_⟩:=h.apart
 exact ⟨mem_keep h.mem xb _ _ h.mac (by decide) (by decide) a3 a4 (fun i hi hne=>hk.block i hi hne),(hk.block rb (aB.lt h.rr) (fun e=>a1 e.symm)).trans h.rr,(hk.block sb (aB.lt h.sr) (fun e=>a2 e.symm)).trans h.sr,hm,Nat.le_trans h.hb hk.size⟩
end
theorem answer_sent (xb zb rb sb mb bb base cnt st rav rus sav sus n s d j:Nat) (mac ip bs f o:Str) (wild br:Bool) (rout sout:List Bool) (w:World) (h:Mac w xb zb rb sb mb bb base mac ip bs wild cnt st rav rus rout sav sus sout n s d br)
  (hH:Calls Tryz.prog 37 #[.pointer (some ⟨zb,0,none⟩),.agg #[.string (B mac),.string (B ip)],.string (B f)] w.drew fun e w'=>e=.returned (.string (B o))∧Below w.drew.heap.size w.drew w')
  (ho:o≠[]) (hol:o.length≤1524) (hst:st≤700000) (hsav:sav<65536) (hso:sout.length=8) (hj:j<8) (hpre : ∀ i,i<j→sout[i]? = some true) (hat:sout[j]? = some false) (hs:s≤1000000) :
  Calls Tryz.prog 163 #[.pointer (some ⟨xb,0,none⟩),.string (B f)] w fun e w' =>
   e=.returned (.tuple #[])∧Mac w' xb zb rb sb mb bb base mac ip (snB bs 512 13312 sav j o) wild cnt (st+20+o.length) rav rus rout ((sav+1)%65536) sus (sout.set j true) n (s+1) d br∧GF (Off xb rb sb mb bb) base w w':=by
 obtain ⟨a1,a2,a3,a4,a5,a6,a7,a8,a9⟩:=h.apart
 have HM:=aH h
 have HH:=aH hH
 have hne:((B o).toList == [])=false:=by
  rw [beq_eq_false_iff_ne,ByteArray.toList_eq]; exact ho
 have m0:w.drew.cell? ⟨xb,0,none⟩=some (.pointer (some ⟨zb,0,none⟩)):=aB.cell h.mac 0 (by simp)
 have m1:w.drew.cell? ⟨xb,1,none⟩=some (.string (B mac)):=aB.cell h.mac 1 (by simp)
 have m2:w.drew.cell? ⟨xb,2,none⟩=some (.string (B ip)):=aB.cell h.mac 2 (by simp)
 have HKP:Hid (∀ W,Below w.drew.heap.size w.drew W→W.cell? ⟨xb,0,none⟩=some (.pointer (some ⟨zb,0,none⟩))∧W.cell? ⟨xb,1,none⟩=some (.string (B mac))∧W.cell? ⟨xb,2,none⟩=some (.string (B ip))):=fun W hb=>by
  have e:MacAt W xb zb rb sb mac ip n s d br:=(hb.block xb (aB.lt h.mac)).trans h.mac
  exact ⟨aB.cell e 0 (by simp),aB.cell e 1 (by simp),aB.cell e 2 (by simp)⟩
 clear h hH
 go_enter Tryz.func163,Tryz.ntmps163
 go_wp2_with fail
 go_region_held (fun w'=>w'.cell? ⟨xb,0,none⟩=some (.pointer (some ⟨zb,0,none⟩))∧w'.cell? ⟨xb,1,none⟩=some (.string (B mac))∧w'.cell? ⟨xb,2,none⟩=some (.string (B ip))) (first | assumption | exact ⟨m0,m1,m2⟩ | go_keep)
  (first | (go_at_call 37; go_loud (refine (aU HH).mono ?_; rintro e w1 ⟨rfl,hb1⟩; have hS1:=aU HKP w1 hb1)))
 all_goals
  have hB1:Below w.heap.size w w1:=(Below.refl _ _).drew.trans hb1
  have hM1:=(aU HM).below hB1
  have HSN:=aH (send_ok sb mb bb base 512 13312 sav sus j _ sout wild cnt st bs o w1 hM1.mem hM1.sr hM1.hb (by omega) (by omega) hsav hso hj hpre hat hol hst (by decide) (by decide) a8 a9)
  have c4:w1.cell? ⟨xb,4,none⟩=some (.pointer (some ⟨sb,0,none⟩)):=aB.cell hM1.mac 4 (by simp)
  have HM1:=aH hM1
  have HB1:=aH hB1
  clear hM1 hB1 hb1 hS1 HH
  go_wp2_with fail
  refine (aU HSN).mono ?_
  rintro e w2 ⟨rfl,hm2,hR2,hF2⟩
  have hX2:MacAt w2 xb zb rb sb mac ip n s d br:=hF2.blk (aU HM1).mac ⟨a2,a3,a4⟩ (by decide) (by decide)
  have hQ2:aO w2 rb 240 mb 0 1024 rav rus rout:=hF2.blk (aU HM1).rr ⟨a5,a6,a7⟩ (by decide) (by decide)
  have hM2:Mac w2 xb zb rb sb mb bb base mac ip (snB bs 512 13312 sav j o) wild cnt (st+20+o.length) rav rus rout ((sav+1)%65536) sus (sout.set j true) n s d br:=⟨hm2,hQ2,hR2,hX2,Nat.le_trans (aU HM1).hb hF2.size⟩
  have c6:w2.cell? ⟨xb,6,none⟩=some (.int .i64 s):=aB.cell hX2 6 (by simp)
  have hf:=aB.frozen hX2
  obtain ⟨s1,hs1⟩ : ∃ s1,s1=s+1:=⟨_,rfl⟩
  have k6:(s:Int)+1=(s1:Int):=by omega
  have HM3:=aH (hM2.counts (Keeps_set (Keeps_refl _ _) 6 (.int .i64 s1)) (mac_set _ _ _ _ _ _ _ _ _ _ _ hX2 s1).2.1)
  have HF3:=aH (((GF.of_below (p:=Off xb rb sb mb bb) (base:=base) (aU HB1)).trans (hF2.mono fun i hp=>⟨hp.2.2.1,hp.2.2.2⟩)).trans (GF.of_set (rb:=xb) w2 6 (.int .i64 s1) fun i hp=>hp.1))
  have HS1:=aH hs1
  clear hm2 hR2 hF2 hX2 hQ2 hM2 HSN HM1 HB1 hs1
  go_wp2_with fail
  refine bodyPost_end (v:=.tuple #[]) (by simp [results,Tryz.results163]) rfl ?_
  rw [← aU HS1]
  exact ⟨rfl,aU HM3,aU HF3⟩
theorem answer_drop (xb zb rb sb mb bb base cnt st rav rus sav sus n s d:Nat) (mac ip bs f o:Str) (wild br:Bool) (rout sout:List Bool) (w:World) (h:Mac w xb zb rb sb mb bb base mac ip bs wild cnt st rav rus rout sav sus sout n s d br)
  (hH:Calls Tryz.prog 37 #[.pointer (some ⟨zb,0,none⟩),.agg #[.string (B mac),.string (B ip)],.string (B f)] w.drew fun e w'=>e=.returned (.string (B o))∧Below w.drew.heap.size w.drew w')
  (ho:o≠[]) (hpre : ∀ i,i<8→sout[i]? = some true) (hs:d≤1000000) :
  Calls Tryz.prog 163 #[.pointer (some ⟨xb,0,none⟩),.string (B f)] w fun e w' =>
   e=.returned (.tuple #[])∧Mac w' xb zb rb sb mb bb base mac ip bs wild cnt st rav rus rout sav sus sout n s (d+1) br∧GF (Off xb rb sb mb bb) base w w':=by
 obtain ⟨a1,a2,a3,a4,a5,a6,a7,a8,a9⟩:=h.apart
 have HM:=aH h
 have HH:=aH hH
 have hne:((B o).toList == [])=false:=by
  rw [beq_eq_false_iff_ne,ByteArray.toList_eq]; exact ho
 have m0:w.drew.cell? ⟨xb,0,none⟩=some (.pointer (some ⟨zb,0,none⟩)):=aB.cell h.mac 0 (by simp)
 have m1:w.drew.cell? ⟨xb,1,none⟩=some (.string (B mac)):=aB.cell h.mac 1 (by simp)
 have m2:w.drew.cell? ⟨xb,2,none⟩=some (.string (B ip)):=aB.cell h.mac 2 (by simp)
 have HKP:Hid (∀ W,Below w.drew.heap.size w.drew W→W.cell? ⟨xb,0,none⟩=some (.pointer (some ⟨zb,0,none⟩))∧W.cell? ⟨xb,1,none⟩=some (.string (B mac))∧W.cell? ⟨xb,2,none⟩=some (.string (B ip))):=fun W hb=>by
  have e:MacAt W xb zb rb sb mac ip n s d br:=(hb.block xb (aB.lt h.mac)).trans h.mac
  exact ⟨aB.cell e 0 (by simp),aB.cell e 1 (by simp),aB.cell e 2 (by simp)⟩
 clear h hH
 go_enter Tryz.func163,Tryz.ntmps163
 go_wp2_with fail
 go_region_held (fun w'=>w'.cell? ⟨xb,0,none⟩=some (.pointer (some ⟨zb,0,none⟩))∧w'.cell? ⟨xb,1,none⟩=some (.string (B mac))∧w'.cell? ⟨xb,2,none⟩=some (.string (B ip))) (first | assumption | exact ⟨m0,m1,m2⟩ | go_keep)
  (first | (go_at_call 37; go_loud (refine (aU HH).mono ?_; rintro e w1 ⟨rfl,hb1⟩; have hS1:=aU HKP w1 hb1)))
 all_goals
  have hB1:Below w.heap.size w w1:=(Below.refl _ _).drew.trans hb1
  have hM1:=(aU HM).below hB1
  have HSN:=aH (send_none sb mb 512 13312 sav sus _ sout o w1 hM1.sr hpre)
  have c4:w1.cell? ⟨xb,4,none⟩=some (.pointer (some ⟨sb,0,none⟩)):=aB.cell hM1.mac 4 (by simp)
  have c7:w1.cell? ⟨xb,7,none⟩=some (.int .i64 d):=aB.cell hM1.mac 7 (by simp)
  have hf:=aB.frozen hM1.mac
  obtain ⟨s1,hs1⟩ : ∃ s1,s1=d+1:=⟨_,rfl⟩
  have k6:(d:Int)+1=(s1:Int):=by omega
  have HM3:=aH (hM1.counts (Keeps_set (Keeps_refl _ _) 7 (.int .i64 s1)) (mac_set _ _ _ _ _ _ _ _ _ _ _ hM1.mac s1).2.2)
  have HF3:=aH ((GF.of_below (p:=Off xb rb sb mb bb) (base:=base) hB1).trans (GF.of_set (rb:=xb) w1 7 (.int .i64 s1) fun i hp=>hp.1))
  have HS1:=aH hs1
  clear hM1 hB1 hb1 hS1 HH hs1
  go_wp2_with fail
  refine (aU HSN).mono ?_
  rintro e w1 ⟨rfl,rfl⟩
  go_wp2_with fail
  refine bodyPost_end (v:=.tuple #[]) (by simp [results,Tryz.results163]) rfl ?_
  rw [← aU HS1]
  exact ⟨rfl,aU HM3,aU HF3⟩
end Na
end Go.Proofs.YtkkpahmoljiepaaGreatDoor

namespace Go.Proofs.YtkkpahmoljiepaaGreatDoor
open Go.RowKit
namespace It
variable {P:Program} {α:Type}
def LL (d:Nat) (r:Loop) (W:World):Prop:=W.heap[d+1]? = some (.loop r)∧W.heap[d]? = some (.deferred (some []))
theorem LL.of {d:Nat} {r:Loop} {A B:World} (h:LL d r A) (h1:B.heap[d]? = A.heap[d]?) (h2:B.heap[d+1]? = A.heap[d+1]?):LL d r B:=⟨h2.trans h.1,h1.trans h.2⟩
def postN (d:Nat) (I:World→Prop) (W:World):Exit→Act→World→Prop
 | .normal,_,W'=>Loops d W W'∧I W'
 | _,_,_=>False
theorem rangeJ {g:Operand} {ps:Array Tmp} {assign body:Code} {Q:Exit→Act→World→Prop} {a:Act} {w:World}
  {gf:Nat} {lb:Array Value} (hg:a.eval g=.func (.func gf) #[] lb) (eg : ∀ args w,(callFunc gf args).run P w=.ok (.enter gf args) w)
  {encs:α→Array Value} {xs:List α} (hps : ∀ x,(encs x).size=ps.size)
  (I0:World→Prop) (I:Nat→World→Prop) (I':Nat→α→World→Prop)
  (hiter : ∀ r:Loop,(∀ i x W,xs[i]? = some x→I' i x W→LL w.heap.size r W→YieldAt Fence.wide 0 P (w.heap.size+1) (encs x) W fun e W'=>e=.returned (.bool true)∧I (i+1) W'∧LL w.heap.size r W') →
   ∀ W0,I0 W0→LL w.heap.size r W0→CallsIn Fence.wide 0 P gf (#[.func (.yield (w.heap.size+1)) #[] #[]]++lb) W0 fun e W'=>(∃ v,e=.returned v)∧I xs.length W'∧LL w.heap.size r W')
  (hIp : ∀ i A r o,I i A→A.heap[w.heap.size+1]? = some (.loop r)→I i (A.putObj (w.heap.size+1) o))
  (hIp' : ∀ i x A r o,I' i x A→A.heap[w.heap.size+1]? = some (.loop r)→I' i x (A.putObj (w.heap.size+1) o))
  (h0 : ∀ r,I0 ((w.alloc (.deferred (some []))).alloc (.loop r)))
  (hround : ∀ (l i:Nat) (x:α) (V W:World),xs[i]? = some x→I' i x W→w.heap.size+2≤W.heap.size→W.heap[w.heap.size]? = some (.deferred (some []))→(∃ r,W.heap[w.heap.size+1]? = some (.loop r)) →
   assign.wpIn (Fence.wide.inRound l) 0 P (Exit.then (fun a₁ V'=>V'=V∧body.wpIn (Fence.wide.inRound l) 0 P (postN w.heap.size (I (i+1)) W) a₁ W) (fun _ _ _=>False)) { tmps:=(ps.zip (encs x)).foldl (fun t (p,v)=>t.setIfInBounds p v) a.tmps,defers:=[] } V)
  (hdone : ∀ W,I xs.length W→W.heap[w.heap.size]? = some (.deferred (some []))→w.heap.size+2≤W.heap.size→Q .normal { a with defers:={ target:=.collected w.heap.size,args:=#[] } :: a.defers } W) :
  (Code.rangeFunc g ps assign body).wpIn Fence.wide 0 P Q a w:=by
 refine wpIn_rangeFunc fun fn hfn=>?_
 obtain ⟨rec,hrec⟩ : ∃ rec:LoopState→Option Code→Loop,rec=fun st pe=>{ state:=st,pending:=pe,fn,tmps:=a.tmps,params:=ps,assign,body,defers:=w.heap.size }:=⟨_,rfl⟩
 have henter:=run_enterLoop_outer (P:=P) (w:=w) fn a.tmps ps assign body
 refine ⟨w.heap.size+1,[{ target:=.collected w.heap.size,args:=#[] }],(w.alloc (.deferred (some []))).alloc (.loop (rec .ready none)),
  { target:=.fn (.func gf) lb,args:=#[.func (.yield (w.heap.size+1)) #[] #[]] },(w.alloc (.deferred (some []))).alloc (.loop (rec .ready none)),gf,
  #[.func (.yield (w.heap.size+1)) #[] #[]]++lb,(w.alloc (.deferred (some []))).alloc (.loop (rec .ready none)),?_,?_,fun _ _=>trivial,?_,fun h=>by simp [Fence.wide] at h,?_⟩
 ·rw [hrec]; exact henter
 ·simp only [resolve,hg]
  simp [go_sem]
 ·simp [invoke,go_sem,eg]
 ·obtain ⟨W1,hW1⟩ : ∃ W1,(w.alloc (.deferred (some []))).alloc (.loop (rec .ready none))=W1:=⟨_,rfl⟩
  have hl1:W1.heap[w.heap.size+1]? = some (.loop (rec .ready none)):=by
   rw [← hW1]; have:=World.alloc_heap_new (w.alloc (.deferred (some []))) (.loop (rec .ready none)); rwa [World.size_alloc] at this
  have hd1:W1.heap[w.heap.size]? = some (.deferred (some [])):=by
   rw [← hW1]; exact (Below.heap_alloc _ _ _ (by simp)).trans (World.alloc_heap_new w _)
  have hsz : ∀ W:World,(∃ o,W.heap[w.heap.size+1]? = some o)→w.heap.size+2≤W.heap.size:=fun W ⟨o,h⟩=>by
   have:=(Array.getElem?_eq_some_iff.1 h).1; omega
  have hs:=hiter (rec .ready none)
   (fun i x W hx h1 hL=>by
    obtain ⟨h2,h3⟩:=hL
    have hy:=run_yield (P:=P) (args:=encs x) h2 (by rw [hrec]; exact hps x)
    rw [hrec] at hy
    have hlt:w.heap.size+1<W.heap.size:=(Array.getElem?_eq_some_iff.1 h2).1
    have e2:(W.putObj (w.heap.size+1) (.loop { rec .ready none with state:=.busy })).heap[w.heap.size+1]? = some (.loop { rec .ready none with state:=.busy }):=World.putObj_heap_same hlt
    have e3:(W.putObj (w.heap.size+1) (.loop { rec .ready none with state:=.busy })).heap[w.heap.size]? = some (.deferred (some [])):=(World.putObj_heap_other (by omega)).trans h3
    refine ⟨fn,_,assign,body,hy,roundIn_of_wpIn hfn (wpIn_mono (hround _ i x W (W.putObj (w.heap.size+1) (.loop { rec .ready none with state:=.busy })) hx (hIp' i x W _ _ h1 h2) (by rw [World.putObj_size]; omega) e3 ⟨_,e2⟩) ?_)⟩
    rintro e0 a0 V0 hp0
    have hn0:e0=.normal:=by cases e0 <;> first | rfl | exact hp0.elim
    subst hn0
    obtain ⟨hV0,hbd⟩:=hp0
    replace hV0:=hV0.symm
    subst hV0
    refine ⟨_,run_beginRound h2 (by rw [hrec]),wpIn_mono hbd ?_⟩
    rintro e a3 W3 hp
    cases e with
    | normal =>
     obtain ⟨hL,hi⟩:=hp
     have l3:=hL.2.2.trans e2
     have hr:(Instr.endRound (w.heap.size+1) none).run P W3=.ok (.bool true) (W3.putObj (w.heap.size+1) (.loop (rec .ready none))):=by
      rw [run_endRound (P:=P) none l3,hrec]; rfl
     exact ⟨_,_,hr,rfl,hIp _ _ _ _ hi l3,World.putObj_heap_same (Array.getElem?_eq_some_iff.1 l3).1,(World.putObj_heap_other (by omega)).trans (hL.2.1.trans e3)⟩
    | ret=>exact hp.elim
    | exit id=>exact hp.elim
    | goto t=>exact hp.elim
    | panic ch=>exact hp.elim
    | outgrown=>exact hp.elim)
   W1 (by rw [← hW1]; exact h0 _) ⟨hl1,hd1⟩
  rw [hW1]
  refine hs.mono ?_
  rintro e W2 ⟨⟨v,rfl⟩,hi,hl,hk⟩
  have:=run_endLoop (P:=P) hl (by rw [hrec]; simp)
  exact ⟨none,_,by rw [this,hrec],hdone _ (hIp _ _ _ _ hi hl) ((World.putObj_heap_other (by omega)).trans hk) (by rw [World.putObj_size]; exact hsz _ ⟨_,hl⟩)⟩
end It
end Go.Proofs.YtkkpahmoljiepaaGreatDoor

set_option maxRecDepth 1000000
set_option maxHeartbeats 12800000
namespace Go.Proofs.YtkkpahmoljiepaaGreatDoor
open Go.RowKit
open Pu (Str aH aU)
attribute [local go_sem] Oper.semAt_some
namespace Nb
open Ka Wa Wb Wc Wd We Wf Wg Wh Wi Wj Wk Wl Wm Ha Hb Hc Re Qa Qb Qc Qd Qe Qf Qg Qh Qi Qj Qk Ql Qm Qn Qo Qp Qr Qq Qs Qw Qx Na
theorem frames_iter (l ib rb c:Nat) (fr:Nat→Str) (J J':Nat→World→Prop) (W0:World) (hc:c≤65535) (hb0:W0.cell? ⟨ib,0,none⟩=some (.pointer (some ⟨rb,0,none⟩)))
  (hbJ : ∀ k W,J k W→W.cell? ⟨ib,0,none⟩=some (.pointer (some ⟨rb,0,none⟩)))
  (hfr:Calls Tryz.prog 215 #[.pointer (some ⟨rb,0,none⟩)] W0 fun e W'=>e=.returned (.tuple #[.int .i64 c,.bool true])∧J 0 W')
  (hnx : ∀ k W,k<c→J k W→Calls Tryz.prog 220 #[.pointer (some ⟨rb,0,none⟩)] W fun e W'=>e=.returned (.tuple #[.string (B (fr k)),.bool true])∧J' k W')
  (hY : ∀ k W,k<c→J' k W→YieldAt Fence.wide 0 Tryz.prog l #[.string (B (fr k)),.bool true] W fun e W'=>e=.returned (.bool true)∧J (k+1) W') :
  CallsIn Fence.wide 0 Tryz.prog 219 (#[.func (.yield l) #[] #[]]++#[.pointer (some ⟨ib,0,none⟩)]) W0 fun e W'=>(∃ v,e=.returned v)∧J c W':=by
 have HFR:=aH hfr
 have HNX:=aH hnx
 have HY:=aH hY
 have HBJ:=aH hbJ
 clear hfr hnx hY hbJ
 refine callsIn_of_wp Tryz.func219 rfl trivial ?_
 simp only [Tryz.ntmps219,List.size_toArray,List.length_cons,List.length_nil,Nat.reduceAdd,Nat.reduceSub,Array.replicate_succ,Array.replicate_zero,List.push_toArray,List.append_toArray,List.nil_append,List.cons_append]
 gi_wp2_with fail
 refine ⟨trivial,rfl,?_⟩
 refine (callsIn_wide.2 (aU HFR)).mono ?_
 rintro e W1 ⟨rfl,hJ0⟩
 have HJ0:=aH hJ0
 clear hJ0 HFR
 gi_wp2_with fail
 gi_loopw [19] (fun i wr=>∃ k:Nat,i=.int .i64 k∧k≤c∧J k wr) (fun i _=>c - (intOf i).toNat)
 case atStart=>exact ⟨0,rfl,Nat.zero_le _,aU HJ0⟩
 case round =>
  obtain ⟨k,rfl,hk,hJk⟩:=hrel
  by_cases hlk:k<c
  ·have hbx:=aU HBJ k wr hJk
   have HN:=aH (aU HNX k wr hlk hJk)
   clear hJk
   gi_wp2_with fail
   refine ⟨trivial,rfl,?_⟩
   refine (callsIn_wide.2 (aU HN)).mono ?_
   rintro e W2 ⟨rfl,hJ2⟩
   obtain ⟨fn,tmps,assign,body,hy,hR⟩:=aU HY k W2 hlk hJ2
   clear HN hJ2
   gi_wp2_with fail
   refine ⟨rfl,hR.mono ?_⟩
   rintro x W3 ⟨rfl,hJ4⟩
   have HJ4:=aH hJ4
   clear hJ4
   gi_wp2_with fail
   exact ⟨⟨k+1,by go_num,by omega,aU HJ4⟩,by simp [intOf]; omega⟩
  ·have hkl:k=c:=by omega
   subst hkl
   have HJk:=aH hJk
   clear hJk
   gi_wp2
   go_end0
   exact ⟨⟨_,rfl⟩,aU HJk⟩
end Nb
end Go.Proofs.YtkkpahmoljiepaaGreatDoor
