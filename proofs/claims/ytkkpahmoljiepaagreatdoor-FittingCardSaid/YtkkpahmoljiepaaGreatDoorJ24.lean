/- Contract: wire's readQuery of a question and an OPT. -/
import Derived.Test.YtkkpahmoljiepaaGreatDoorJ16
import Derived.Test.YtkkpahmoljiepaaGreatDoorJ23
import Derived.Test.YtkkpahmoljiepaaGreatDoorJ22
import Derived.Test.YtkkpahmoljiepaaGreatDoorJ19
import Derived.Test.YtkkpahmoljiepaaGreatDoorJ17
import Derived.Test.YtkkpahmoljiepaaGreatDoorJ14
import Derived.Test.YtkkpahmoljiepaaGreatDoorJ21
import Derived.Test.YtkkpahmoljiepaaGreatDoorJMu
set_option linter.unusedSimpArgs false
set_option linter.unusedVariables false
set_option maxRecDepth 1000000
set_option maxHeartbeats 12800000
namespace Go.Proofs.YtkkpahmoljiepaaGreatDoor
open Go.RowKit
open Pu (Str aH aU)
namespace Mk
open Ka Wa Wb Wc Wd We Wf Wg Mj Re
theorem equal4n (W:World):(Op.equalIn 10000 131 (.agg #[.int .i64 1,.int .i64 0,.int .i64 0,.int .i64 1]) (.agg #[.int .i64 1,.int .i64 0,.int .i64 0,.int .i64 0])).run Tryz.prog W=.ok false W:=by kernel_rfl
theorem equal4y (W:World):(Op.equalIn 10000 131 (.agg #[.int .i64 1,.int .i64 0,.int .i64 0,.int .i64 1]) (.agg #[.int .i64 1,.int .i64 0,.int .i64 0,.int .i64 1])).run Tryz.prog W=.ok true W:=by kernel_rfl
def qX (w:World) (id bits:Int) (s:Str):World :=
 (((w.alloc (.cells #[.int .i64 id,.int .i64 bits,.int .i64 1,.int .i64 0,.int .i64 0,.int .i64 1] 133)).alloc
   (.cells #[.int .i64 0,.int .i64 0,.int .i64 0,.int .i64 0,.int .i64 0,.int .i64 0,.string ⟨#[]⟩,.string ⟨#[]⟩,.int .i64 0,.int .i64 0,.bool false,.int .i64 0,.int .i64 0] 137)).alloc
   (.cells #[.int .i64 id,.int .i64 bits,.int .i64 1,.int .i64 0,.int .i64 0,.int .i64 1,.string ⟨#[]⟩,.string ⟨#[]⟩,.int .i64 0,.int .i64 0,.bool true,.int .i64 0,.int .i64 0] 137)).alloc
   (.cells #[.string (B s),.bool false] 215)
theorem qX_ok (w:World) (id bits:Int) (s:Str):QAt (qX w id bits s) (w.heap.size+1+1) id bits 1 0 0 1 [] [] 0 0 true 0 0∧QAt (qX w id bits s) (w.heap.size+1) 0 0 0 0 0 0 [] [] 0 0 false 0 0∧RdAt (qX w id bits s) (w.heap.size+1+1+1) s false∧Below w.heap.size w (qX w id bits s):=by
 refine ⟨?_,?_,?_,?_⟩
 ·refine (Below.heap_alloc _ _ _ (by simp)).trans ?_
  have:=World.alloc_heap_new ((w.alloc (.cells #[.int .i64 id,.int .i64 bits,.int .i64 1,.int .i64 0,.int .i64 0,.int .i64 1] 133)).alloc (.cells #[.int .i64 0,.int .i64 0,.int .i64 0,.int .i64 0,.int .i64 0,.int .i64 0,.string ⟨#[]⟩,.string ⟨#[]⟩,.int .i64 0,.int .i64 0,.bool false,.int .i64 0,.int .i64 0] 137)) (.cells #[.int .i64 id,.int .i64 bits,.int .i64 1,.int .i64 0,.int .i64 0,.int .i64 1,.string ⟨#[]⟩,.string ⟨#[]⟩,.int .i64 0,.int .i64 0,.bool true,.int .i64 0,.int .i64 0] 137)
  simpa [B] using this
 ·refine (Below.heap_alloc _ _ _ (by simp)).trans ((Below.heap_alloc _ _ _ (by simp)).trans ?_)
  have:=World.alloc_heap_new (w.alloc (.cells #[.int .i64 id,.int .i64 bits,.int .i64 1,.int .i64 0,.int .i64 0,.int .i64 1] 133)) (.cells #[.int .i64 0,.int .i64 0,.int .i64 0,.int .i64 0,.int .i64 0,.int .i64 0,.string ⟨#[]⟩,.string ⟨#[]⟩,.int .i64 0,.int .i64 0,.bool false,.int .i64 0,.int .i64 0] 137)
  simpa [B] using this
 ·have:=World.alloc_heap_new (((w.alloc (.cells #[.int .i64 id,.int .i64 bits,.int .i64 1,.int .i64 0,.int .i64 0,.int .i64 1] 133)).alloc (.cells #[.int .i64 0,.int .i64 0,.int .i64 0,.int .i64 0,.int .i64 0,.int .i64 0,.string ⟨#[]⟩,.string ⟨#[]⟩,.int .i64 0,.int .i64 0,.bool false,.int .i64 0,.int .i64 0] 137)).alloc (.cells #[.int .i64 id,.int .i64 bits,.int .i64 1,.int .i64 0,.int .i64 0,.int .i64 1,.string ⟨#[]⟩,.string ⟨#[]⟩,.int .i64 0,.int .i64 0,.bool true,.int .i64 0,.int .i64 0] 137)) (.cells #[.string (B s),.bool false] 215)
  simpa [RdAt,qX] using this
 ·exact ((((Below.refl _ _).alloc (Nat.le_refl _) _).alloc (by simp) _).alloc (by simp; omega) _).alloc (by simp; omega) _
theorem readQuery_opt (id bits:Int) (m:Str) (w:World) (hm:12≤m.length) (hl:m.length≤1000000000)
  {ls:List Str} {k' c':Nat} {s1 s2 s3:Str} {br1 br2 br3:Bool} (e1:labP (m.drop 12) false=(ls,s1,br1)) (e2:shortP s1 br1=(k',s2,br2)) (e3:shortP s2 br2=(c',s3,br3))
  {x4 z ve nn:Nat} {t1 t2 t3 t4 t5 t6 t7 t8:Str} {b1 b2 b3 b4 b5 b6 b7 b8:Bool} (f1:octP s3 br3=(0,t1,b1)) (f2:shortP t1 b1=(41,t2,b2)) (f3:shortP t2 b2=(z,t3,b3)) (f4:octP t3 b3=(x4,t4,b4)) (f5:octP t4 b4=(ve,t5,b5))
  (f6:skipP 2 t5 b5=(t6,b6)) (f7:shortP t6 b6=(nn,t7,b7)) (f8:skipP nn t7 b7=(t8,b8)) (hnn:nn≤65535) :
  Calls Tryz.prog 72 #[.agg #[.int .i64 id,.int .i64 bits,.int .i64 1,.int .i64 0,.int .i64 0,.int .i64 1],.string (B m)] w fun e w' =>
   e=.returned (.tuple #[qVal id bits 1 0 0 1 ((m.drop 12).take ((m.drop 12).length - s3.length)) (nameP ls) k' c' true z ve,.bool (!b8 && t8.isEmpty)])∧Below w.heap.size w w':=by
 have hs:(B m).size=m.length:=size_B m
 have HD:=aH (B_drop m 12 _ rfl)
 have kq0 : ∀ W:World,(Op.equalIn 10000 131 (.agg #[.int .i64 1,.int .i64 0,.int .i64 0,.int .i64 1]) (.agg #[.int .i64 1,.int .i64 0,.int .i64 0,.int .i64 0])).run Tryz.prog W=.ok false W:=equal4n
 have kq : ∀ W:World,(Op.equalIn 10000 131 (.agg #[.int .i64 1,.int .i64 0,.int .i64 0,.int .i64 1]) (.agg #[.int .i64 1,.int .i64 0,.int .i64 0,.int .i64 1])).run Tryz.prog W=.ok true W:=equal4y
 have HFF:=aH (fun (W:World) (n':Str) (q':Str) (hq:QAt W (w.heap.size+1+1) id bits 1 0 0 1 q' n' k' c' true 0 0) (hr:RdAt W (w.heap.size+1+1+1) s3 br3) (hl:s3.length≤1000000000)=>readOPT_ok (w.heap.size+1+1) (w.heap.size+1+1+1) s3 br3 W hq hr (by omega) hl f1 f2 f3 f4 f5 f6 f7 f8 hnn)
 have hl3:s3.length≤1000000000:=by
  have a1:=(labP_ok (m.drop 12) false)
  rw [e1] at a1
  have a2:=shortP_len s1 br1
  rw [e2] at a2
  have a3:=shortP_len s2 br2
  rw [e3] at a3
  obtain ⟨o1,o2,o3⟩:=a1
  simp only [List.length_drop] at o1 o2 o3 a2 a3
  omega
 clear f1 f2 f3 f4 f5 f6 f7 f8 hnn
 have HE1:=aH e1
 have HE2:=aH e2
 have HE3:=aH e3
 clear e1 e2 e3
 obtain ⟨hq0,ht0,hr0,hb0⟩:=qX_ok w id bits (m.drop 12)
 have HC:=aH (readQuestion_any (w.heap.size+1+1) (w.heap.size+1+1+1) (m.drop 12) false (qX w id bits (m.drop 12)) hq0 hr0 (by omega) (by simp; omega) (aU HE1) (aU HE2) (aU HE3))
 have HT0:=aH ht0
 have HB0:=aH hb0
 clear hq0 ht0 hr0 hb0
 go_enter Tryz.func72,Tryz.ntmps72
 go_wp2_with fail
 rw [aU HD]
 refine (aU HC).mono ?_
 rintro e w1 ⟨rfl,hq1,hr1,hf1⟩
 have HT1:=aH ((aU HT0).kept (hf1.block _ (aU HT0).lt ⟨by omega,by omega⟩))
 have HB1:Hid (Below w.heap.size w w1):=(aU HB0).trans (hf1.below (fun i hi=>⟨by omega,by omega⟩) (aU HB0).size)
 have HQ1:=aH hq1
 have HR1:=aH hr1
 have HC2:=aH (aU HFF w1 _ _ hq1 hr1 hl3)
 obtain ⟨_,_,_,_,_,_,_,_,_,_,c10,_,_⟩:=hq1.cells
 clear hq1 hr1 hf1 HC HT0 HB0 kq kq0 HFF
 go_wp2_with fail
 refine (aU HC2).mono ?_
 rintro e w2 ⟨rfl,hq1,hr1,hf1⟩
 have HT1:=aH ((aU HT1).kept (hf1.block _ (aU HT1).lt ⟨by omega,by omega⟩))
 have HB1:Hid (Below w.heap.size w w2):=(aU HB1).trans (hf1.below (fun i hi=>⟨by omega,by omega⟩) (aU HB1).size)
 have HQ1:=aH hq1
 have HR1:=aH hr1
 clear hq1 hr1 hf1 HC2 c10 hl3
 generalize hqe:(m.drop 12).take ((m.drop 12).length - s3.length)=q at *
 generalize hnm:nameP ls=nm at *
 have HQE:=aH hqe
 have HNM:=aH hnm
 clear hqe hnm
 obtain ⟨c0,c1,c2,c3,c4,c5,c6,c7,c8,c9,c10,c11,c12⟩:=(aU HQ1).cells
 obtain ⟨d0,d1,d2,d3,d4,d5,d6,d7,d8,d9,d10,d11,d12⟩:=(aU HT1).cells
 have hfz:=(aU HT1).frozen
 obtain ⟨r0,r1⟩:=(aU HR1).cells
 go_wp2_with fail
 clear HE1 HE2 HE3 HD hm hl hs HQ1 HR1 HT1
 have ret : ∀ b:Bool,(!b8 && t8.isEmpty)=b→Ending.returned (.tuple #[qVal id bits 1 0 0 1 q nm k' c' true z ve,.bool b])=.returned (.tuple #[qVal id bits 1 0 0 1 ((m.drop 12).take ((m.drop 12).length - s3.length)) (nameP ls) k' c' true z ve,.bool (!b8 && t8.isEmpty)]):=fun b hb=>by
  rw [aU HQE,aU HNM,hb]
 have RET:=aH ret
 clear ret HQE HNM
 have HBS:=aH fun (W:World) (hW:Below w.heap.size w W) (o:Nat) (v:Value)=>hW.setCell (p:=⟨w.heap.size+1,o,none⟩) (by show w.heap.size≤w.heap.size+1; omega) v
 cases b8
 ·cases t8 with
  | nil =>
   have e1:B []=⟨#[]⟩:=rfl
   rw [e1] at r0
   go_region
   all_goals
    go_wp2
    refine bodyPost_ret (v:=.tuple #[qVal id bits 1 0 0 1 q nm k' c' true z ve,.bool true]) (by simp [results,Tryz.results72,go_sem,qVal,d0,d1,d2,d3,d4,d5,d6,d7,d8,d9,d10,d11,d12]) rfl ⟨aU RET true rfl,?_⟩
    first | exact (aU HBS _ (aU HBS _ (aU HBS _ (aU HBS _ (aU HBS _ (aU HBS _ (aU HBS _ (aU HBS _ (aU HBS _ (aU HBS _ (aU HBS _ (aU HBS _ (aU HBS _ (aU HB1) _ _) _ _) _ _) _ _) _ _) _ _) _ _) _ _) _ _) _ _) _ _) _ _) _ _).drew | exact (aU HBS _ (aU HBS _ (aU HBS _ (aU HBS _ (aU HBS _ (aU HBS _ (aU HBS _ (aU HBS _ (aU HBS _ (aU HBS _ (aU HBS _ (aU HBS _ (aU HBS _ (aU HB1).drew _ _) _ _) _ _) _ _) _ _) _ _) _ _) _ _) _ _) _ _) _ _) _ _) _ _)
  | cons x t =>
   have e1:((B (x :: t)).toList == (⟨#[]⟩:ByteArray).toList)=false:=by rw [Kd.str_eq]; rfl
   have e2:(B (x :: t)).toList.isEmpty=false:=by rw [ByteArray.toList_eq]; rfl
   have e3 : ¬ (B (x :: t)).size=0:=by rw [size_B]; simp
   generalize B (x :: t)=bt at *
   go_region
   all_goals
    go_wp2
    refine bodyPost_ret (v:=.tuple #[qVal id bits 1 0 0 1 q nm k' c' true z ve,.bool false]) (by simp [results,Tryz.results72,go_sem,qVal,d0,d1,d2,d3,d4,d5,d6,d7,d8,d9,d10,d11,d12]) rfl ⟨aU RET false rfl,?_⟩
    first | exact (aU HBS _ (aU HBS _ (aU HBS _ (aU HBS _ (aU HBS _ (aU HBS _ (aU HBS _ (aU HBS _ (aU HBS _ (aU HBS _ (aU HBS _ (aU HBS _ (aU HBS _ (aU HB1) _ _) _ _) _ _) _ _) _ _) _ _) _ _) _ _) _ _) _ _) _ _) _ _) _ _).drew | exact (aU HBS _ (aU HBS _ (aU HBS _ (aU HBS _ (aU HBS _ (aU HBS _ (aU HBS _ (aU HBS _ (aU HBS _ (aU HBS _ (aU HBS _ (aU HBS _ (aU HBS _ (aU HB1).drew _ _) _ _) _ _) _ _) _ _) _ _) _ _) _ _) _ _) _ _) _ _) _ _) _ _)
 ·go_region
  all_goals
   go_wp2
   refine bodyPost_ret (v:=.tuple #[qVal id bits 1 0 0 1 q nm k' c' true z ve,.bool false]) (by simp [results,Tryz.results72,go_sem,qVal,d0,d1,d2,d3,d4,d5,d6,d7,d8,d9,d10,d11,d12]) rfl ⟨aU RET false rfl,?_⟩
   first | exact (aU HBS _ (aU HBS _ (aU HBS _ (aU HBS _ (aU HBS _ (aU HBS _ (aU HBS _ (aU HBS _ (aU HBS _ (aU HBS _ (aU HBS _ (aU HBS _ (aU HBS _ (aU HB1) _ _) _ _) _ _) _ _) _ _) _ _) _ _) _ _) _ _) _ _) _ _) _ _) _ _).drew | exact (aU HBS _ (aU HBS _ (aU HBS _ (aU HBS _ (aU HBS _ (aU HBS _ (aU HBS _ (aU HBS _ (aU HBS _ (aU HBS _ (aU HBS _ (aU HBS _ (aU HBS _ (aU HB1).drew _ _) _ _) _ _) _ _) _ _) _ _) _ _) _ _) _ _) _ _) _ _) _ _) _ _)
end Mk
namespace Ml
open Ka Kd Rf Rg Ia Iow Ie Zb Zc Za La Lb Re Lc Le Lf Lg Lh Li Ld Lj Wg Wh Wx
theorem qanswer_opt (zb b off cap:Nat) (k:Int) (o n q:Str) (h0 h1 h2 h3 h4 h5:Int) (sz:Int) (rs:List Rec) (w:World) (hz:aN w zb o b off cap rs) (hg:G w) (hp:Plain o n rs k) (hk1:(k != 0)=true) (hk2:(k != 41)=true) (hk3:k<249) :
  Calls Tryz.prog 74 #[qVal h0 h1 h2 h3 h4 h5 q n k 1 true sz 0,.pointer (some ⟨zb,0,none⟩)] w fun e w' =>
   (∃ va vb,e=.returned (.agg #[.int .i64 (stepRc o rs n),.bool (decide ((cutP o rs n).length=0)),va,vb,.slice none 0 0])∧OwnR w' w.heap.size va (aQ o rs k n)∧OwnR w' w.heap.size vb (aP o rs k n))∧Below w.heap.size w w':=by
 have HA:=aH (fun W (hb:Below w.heap.size w W)=>answer_plain zb b off cap k o n rs W (hz.below hb) (hg.below hb) hp)
 have HK:Hid (∀ W:World,Calls Tryz.prog 140 #[.int .i64 k] W fun e w'=>e=.returned (.bool true)∧w'=W):=fun W=>isAskable_yes k W hk1 hk2 hk3
 have hb1:Below w.heap.size w ((w.alloc (.cells #[.int .i64 h0,.int .i64 h1,.int .i64 h2,.int .i64 h3,.int .i64 h4,.int .i64 h5,.string (B q),.string (B n),.int .i64 k,.int .i64 1,.bool true,.int .i64 sz,.int .i64 0] 137)).alloc (.cells #[.int .i64 0,.bool false,.slice none 0 0,.slice none 0 0,.slice none 0 0] 43)):=((Below.refl _ _).alloc (Nat.le_refl _) _).alloc (by simp) _
 have HB1:=aH hb1
 clear hz hg hp hk1 hk2 hk3 hb1
 unfold qVal
 go_enter Tryz.func74,Tryz.ntmps74
 go_wp2_with fail
 refine (aU HK _).mono ?_
 rintro e w1 ⟨rfl,hw1⟩
 have hB1:Below w.heap.size w w1:=by rw [hw1]; exact aU HB1
 have r1:aL w1 (w.heap.size+1) (.int .i64 0) (.bool false) (.slice none 0 0) (.slice none 0 0) (.slice none 0 0):=by
  rw [hw1]
  have:=World.alloc_heap_new (w.alloc (.cells #[.int .i64 h0,.int .i64 h1,.int .i64 h2,.int .i64 h3,.int .i64 h4,.int .i64 h5,.string (B q),.string (B n),.int .i64 k,.int .i64 1,.bool true,.int .i64 sz,.int .i64 0] 137)) (.cells #[.int .i64 0,.bool false,.slice none 0 0,.slice none 0 0,.slice none 0 0] 43)
  simpa [aL] using this
 have hq:w1.cell? ⟨w.heap.size,7,none⟩=some (.string (B n))∧w1.cell? ⟨w.heap.size,8,none⟩=some (.int .i64 k):=by
  rw [hw1]; constructor <;> go_simp
 obtain ⟨q7,q8⟩:=hq
 have rl:=(Array.getElem?_eq_some_iff.1 r1).1
 clear hw1 HK HB1
 go_wp2_with fail
 refine (aU HA w1 hB1).mono ?_
 rintro e w7 ⟨⟨va,vb,rfl,hva,hvb⟩,hb7⟩
 have r7:aL w7 (w.heap.size+1) (.int .i64 0) (.bool false) (.slice none 0 0) (.slice none 0 0) (.slice none 0 0):=(hb7.block (w.heap.size+1) rl).trans r1
 obtain ⟨aa,ca,rfl⟩:=hva.slice
 obtain ⟨ab,cb',rfl⟩:=hvb.slice
 obtain ⟨k0,k1,k2,k3,k4⟩:=aL.cells r7
 have kf0:=aL.frozen r7 0
 have kf1:=aL.frozen r7 1
 have kf2:=aL.frozen r7 2
 have kf3:=aL.frozen r7 3
 have kf4:=aL.frozen r7 4
 have hRV:=aH (And.intro hva hvb)
 have R7:=aH r7
 clear hva hvb r1 r7
 obtain ⟨au,hau⟩ : ∃ au:Bool,au=decide ((cutP o rs n).length=0):=⟨_,rfl⟩
 rw [← hau]
 have HAU:=aH hau
 clear hau
 go_wp2_with fail
 have A9:=(((((aU R7).set0 (.int .i64 (stepRc o rs n))).set1 (.bool au)).set2 (.slice aa (aQ o rs k n).length ca)).set3 (.slice ab (aP o rs k n).length cb')).set4 (.slice none 0 0)
 obtain ⟨n0,n1,n2,n3,n4⟩:=A9.cells
 have hB7:=hB1.trans (hb7.mono hB1.size)
 have hs2:=hB1.size
 have hrvs:=aU hRV
 refine bodyPost_ret (v:=.agg #[.int .i64 (stepRc o rs n),.bool au,.slice aa (aQ o rs k n).length ca,.slice ab (aP o rs k n).length cb',.slice none 0 0]) ?_ rfl ?_
 ·simp [results,Tryz.results74,go_sem,n0,n1,n2,n3,n4]
 ·refine ⟨⟨_,_,by rw [aU HAU],?_,?_⟩,?_⟩
  ·exact (((((hrvs.1.set_low (k:=w.heap.size+1) (i:=0) (by omega) _).set_low (k:=w.heap.size+1) (i:=1) (by omega) _).set_low (k:=w.heap.size+1) (i:=2) (by omega) _).set_low (k:=w.heap.size+1) (i:=3) (by omega) _).set_low (k:=w.heap.size+1) (i:=4) (by omega) _).base (by omega)
  ·exact (((((hrvs.2.set_low (k:=w.heap.size+1) (i:=0) (by omega) _).set_low (k:=w.heap.size+1) (i:=1) (by omega) _).set_low (k:=w.heap.size+1) (i:=2) (by omega) _).set_low (k:=w.heap.size+1) (i:=3) (by omega) _).set_low (k:=w.heap.size+1) (i:=4) (by omega) _).base (by omega)
  ·exact ((((hB7.setCell (p:=⟨w.heap.size+1,0,none⟩) (by show w.heap.size≤w.heap.size+1; omega) _).setCell (p:=⟨w.heap.size+1,1,none⟩) (by show w.heap.size≤w.heap.size+1; omega) _).setCell (p:=⟨w.heap.size+1,2,none⟩) (by show w.heap.size≤w.heap.size+1; omega) _).setCell (p:=⟨w.heap.size+1,3,none⟩) (by show w.heap.size≤w.heap.size+1; omega) _).setCell (p:=⟨w.heap.size+1,4,none⟩) (by show w.heap.size≤w.heap.size+1; omega) _
end Ml
namespace Mi
open Ka Kd Rf Rg Ia Iow Ie Zb Zc Za La Wa Wb Wc Wd We Wf Wg Wh Wi Wj Wk Wl Wm Wn Wo Wp Ws Ma Mb Mc Re
theorem limit_opt (h0 h1 h2 h3 h4 h5:Int) (q n:Str) (k c sz ver:Int) (w:World) :
  Calls Tryz.prog 138 #[qVal h0 h1 h2 h3 h4 h5 q n k c true sz ver] w fun e w'=>e=.returned (.int .i64 (min (max sz 512) 1232))∧Below w.heap.size w w':=by
 unfold qVal
 go_enter Tryz.func138,Tryz.ntmps138
 go_wp2
 go_ret
 refine ⟨?_,(Below.refl _ _).alloc (Nat.le_refl _) _⟩
 rfl
theorem written_g (g cap:Nat) (I:World→Prop) (fs:List Fe) (w:World) (hI : ∀ w',Below w.heap.size w w'→I w') (hst:StableG w.heap.size (w.heap.size+1) I) (hok : ∀ f∈fs,f.Ok w.heap.size (w.heap.size+1) I) (hfs:FesAt w.heap.size w g fs)
  (hn:fs.length≤cap) (hc:fs.length≤1000000) (hl:(steps fs [] []).1.length≤50000) (hp:(steps fs [] []).2.length≤700) :
  Calls Tryz.prog 199 #[.slice (some ⟨g,0,none⟩) fs.length cap] w fun e w'=>e=.returned (.string (B (steps fs [] []).1))∧Below w.heap.size w w':=by
 have hnew:=World.alloc_heap_new w (.cells #[.slice none 0 0,.slice none 0 0] 283)
 have hba:Below w.heap.size w (w.alloc (.cells #[.slice none 0 0,.slice none 0 0] 283)):=(Below.refl _ _).alloc (Nat.le_refl _) _
 have HP:=aH (put_g w.heap.size (w.heap.size+1) g cap I fs [] [] (w.alloc (.cells #[.slice none 0 0,.slice none 0 0] 283)) (hI _ hba) hst ⟨_,_,hnew,World.ownsRow_nil _ _ _ _,World.ownsRow_nil _ _ _ _⟩ (by simp) (fun p hp=>by cases hp) hok (hfs.tg (base:=w.heap.size+1) (TG.of_below hba)) hn hc hl hp)
 clear hnew hok hfs hI hst hba
 go_enter Tryz.func199,Tryz.ntmps199
 go_wp2_with fail
 refine (aU HP).mono ?_
 rintro e w2 ⟨rfl,⟨vb,vp,h1,h2,_⟩,h3⟩
 have hc0:=h1.cells.1
 have hcv:=own_string h2
 have HB:Hid (Below w.heap.size w w2):=((Below.refl _ _).alloc (Nat.le_refl _) _).trans ⟨h3.os,h3.tape,h3.output,h3.size,fun k hk=>h3.block k (by simp; omega) (by omega) (.inl (by omega))⟩
 obtain ⟨va,vn,vc,rfl⟩:=own_slice h2
 clear h1 h2 h3 HP
 go_wp2_with fail
 go_ret
 exact ⟨rfl,aU HB⟩
def optFs (g:Nat) (x:UInt8):List Fe:=[compF [],ofFd (fShort 41),ofFd (fShort 1232),ofFd (fOctet x),ofFd (fRaw [0,0,0]),sizedF g 0 []]
def optS (x:UInt8):Str:=[0,0,41,4,208,x,0,0,0,0,0]
theorem opt_steps (g:Nat) (x:UInt8):steps (optFs g x) [] []=(optS x,[]):=by
 have e:ends ([]:Str) = []:=by first | rfl | simp [ends] | decide
 simp [steps,optFs,compF,e,compL,ofFd,fShort,fOctet,fRaw,sizedF,sizedStep,patch,hi,lo,optS]
theorem written_opt (g g2:Nat) (x:UInt8) (w:World) (hG:G w) (hs:0<w.heap.size) (h1:w.heap[g]? = some (.cells #[.iface 291 (.string ⟨#[]⟩),.iface 284 (.int .u16 41),.iface 284 (.int .u16 1232),.iface 292 (.int .u8 x.toNat),.iface 224 (.string ⟨#[0,0,0]⟩),.iface 293 (.slice (some ⟨g2,0,none⟩) 0 0)] 297)) (h2:w.heap[g2]? = some (.cells #[] 297)) :
  Calls Tryz.prog 199 #[.slice (some ⟨g,0,none⟩) 6 6] w fun e w'=>e=.returned (.string (B (optS x)))∧Below w.heap.size w w':=by
 have hg:=(Array.getElem?_eq_some_iff.1 h1).1
 have hg2:=(Array.getElem?_eq_some_iff.1 h2).1
 have hst:StableG w.heap.size (w.heap.size+1) (fun W=>G W∧FesAt w.heap.size W g2 []):=fun W W' h ht=>⟨h.1.tg ht (by omega) hs,h.2.tg ht⟩
 have:=written_g g 6 (fun W=>G W∧FesAt w.heap.size W g2 []) (optFs g2 x) w (fun W hb=>⟨hG.below hb,by omega,⟨_,_,(hb.block g2 hg2).trans h2,by decide,by decide⟩,fun j hj=>by simp at hj⟩) hst (fun f hf=>?_) ⟨by omega,⟨_,_,h1,by decide,by decide⟩,fun j hj=>?_⟩ (by simp [optFs]) (by simp [optFs]) (by rw [opt_steps]; simp [optS]) (by rw [opt_steps]; simp)
 ·rw [opt_steps] at this
  exact this
 ·simp only [optFs,List.mem_cons,List.mem_nil_iff,or_false] at hf
  rcases hf with rfl | rfl | rfl | rfl | rfl | rfl
  ·exact comp_ok _ (by simp) _ _ _ (fun _ h=>h.1) (by omega) hs
  ·exact ofFd_ok (short_ok _ (by omega)) _ _ _
  ·exact ofFd_ok (short_ok _ (by omega)) _ _ _
  ·exact ofFd_ok (octet_ok _) _ _ _
  ·exact ofFd_ok (raw_ok _) _ _ _
  ·exact sized_ok _ _ g2 0 _ [] hst (fun _ h=>h.2) (fun f hf=>by cases hf) (by simp) (by simp)
 ·match j,hj with
  | 0,_=>unfold World.cell?; rw [h1]; rfl
  | 1,_=>unfold World.cell?; rw [h1]; rfl
  | 2,_=>unfold World.cell?; rw [h1]; rfl
  | 3,_=>unfold World.cell?; rw [h1]; rfl
  | 4,_=>unfold World.cell?; rw [h1]; rfl
  | 5,_=>unfold World.cell?; rw [h1]; rfl
  | j+6,hj=>simp [optFs] at hj; omega
theorem last_opt0 (h0 h1 h2 h3 h4 h5:Int) (q n:Str) (k c sz ver:Int) (w:World) (hG:G w) :
  Calls Tryz.prog 136 #[qVal h0 h1 h2 h3 h4 h5 q n k c true sz ver,.int .i64 0] w fun e w'=>e=.returned (.string (B (optS 0)))∧Below w.heap.size w w':=by
 have hb1 : ∀ o,Below w.heap.size w (w.alloc o):=fun o=>(Below.refl _ _).alloc (Nat.le_refl _) _
 have HG:Hid (∀ W,Below w.heap.size w W→G W):=fun W hb=>hG.below hb
 clear hG
 unfold qVal
 go_enter Tryz.func136,Tryz.ntmps136
 go_wp2_with fail
 refine (written_opt (w.heap.size+1+1) (w.heap.size+1) 0 _ (aU HG _ (((hb1 _).alloc (by simp) _).alloc (by simp <;> omega) _)) (by simp) ?_ ?_).mono ?_
 ·have:=World.alloc_heap_new ((w.alloc (.cells #[.int .i64 h0,.int .i64 h1,.int .i64 h2,.int .i64 h3,.int .i64 h4,.int .i64 h5,.string (B q),.string (B n),.int .i64 k,.int .i64 c,.bool true,.int .i64 sz,.int .i64 ver] 137)).alloc (.cells #[] 297)) (.cells #[.iface 291 (.string ⟨#[]⟩),.iface 284 (.int .u16 41),.iface 284 (.int .u16 1232),.iface 292 (.int .u8 (0:UInt8).toNat),.iface 224 (.string ⟨#[0,0,0]⟩),.iface 293 (.slice (some ⟨w.heap.size+1,0,none⟩) 0 0)] 297)
  simp only [World.size_alloc] at this
  exact this
 ·have:=World.alloc_heap_new (w.alloc (.cells #[.int .i64 h0,.int .i64 h1,.int .i64 h2,.int .i64 h3,.int .i64 h4,.int .i64 h5,.string (B q),.string (B n),.int .i64 k,.int .i64 c,.bool true,.int .i64 sz,.int .i64 ver] 137)) (.cells #[] 297)
  simp only [World.size_alloc] at this
  exact (Below.heap_alloc _ _ _ (by simp)).trans this
 rintro e w2 ⟨rfl,hb2⟩
 have HB:Hid (Below w.heap.size w w2):=(((hb1 _).alloc (by simp) _).alloc (by simp <;> omega) _).trans (hb2.mono (by simp <;> omega))
 clear hb2 hb1 HG
 go_wp2_with fail
 go_ret
 exact ⟨rfl,aU HB⟩
end Mi
namespace Bb
open Ka Kd Rf Rg Ia Iow Ie Zb Zc Za La Lb Lc Lg Lj Wa Wb Wc Wd We Wf Wg Wh Wi Wj Wk Wl Wm Wn Wo Wp Wq Ws Wt Wu Wv Wx Wy Wz Xb Vd Ma Mb Mc Md Me Mf Mg Mh Mi Mj Mk Ml Mm Mu Re Ba
open Ta (zz)
open Ca (soaC)
def dfF (r:Rec):List Fe:=txtFs r.data
def P0:Pl:=plcs 12 nmF
def qF:Str:=[1,109,2,122,122,0,0,16,0,1]
theorem ends0:ends nmF = [nmF,zz]:=by kernel_rfl
theorem find0:findP P0 nmF=some 12:=by kernel_rfl
theorem len0:P0.length=2:=by kernel_rfl
section
variable {m n i:Nat}
theorem rr_f (hm:m≤40) (hi:i<40):RrG (recF m i) (dfF (recF m i)):=by
 have h4:=(line_ok hm hi).2.2.2
 have h5:=Ba.dg2_len i
 exact rr_TXT (recF m i) (by show nmF.length≤300; decide) rfl (by show 7<4294967296; decide) (by show (wdF m i).length≤3000; omega)
theorem step1 (m i:Nat) (l:Str):(rrStep (recF m i) (dfF (recF m i)) l P0).2=P0∧(rrStep (recF m i) (dfF (recF m i)) l P0).1.length=l.length+13+(wdF m i).length:=by
 have e:rrStep (recF m i) (dfF (recF m i)) l P0=sizedStep (txtFs (wdF m i)) ((((compL (ends nmF) l P0).1++(fShort 16).out)++(fShort 1).out)++(fLong 7).out) (compL (ends nmF) l P0).2:=rfl
 rw [e,ends0,compL_hit find0]
 constructor
 ·rfl
 ·unfold sizedStep
  rw [patch_len]
  show ((((((l++ptr 12)++(fShort 16).out)++(fShort 1).out)++(fLong 7).out)++[0,0]++(fOctet (UInt8.ofNat (wdF m i).length)).out)++(fRaw (wdF m i)).out).length=_
  simp only [List.length_append]
  have a:(ptr 12).length=2:=rfl
  have b:(fShort 16).out.length=2:=rfl
  have c:(fShort 1).out.length=2:=rfl
  have d:(fLong 7).out.length=4:=rfl
  have f:(fOctet (UInt8.ofNat (wdF m i).length)).out.length=1:=rfl
  have h:(fRaw (wdF m i)).out=wdF m i:=rfl
  rw [a,b,c,d,f,h]
  have z:([0,0]:Str).length=2:=rfl
  omega
def sumF (m:Nat):Nat→Nat
 | 0=>0
 | n+1=>sumF m n+(13+(wdF m n).length)
theorem sum_le (hm:m≤40) : ∀ n,n≤40→sumF m n≤53*n
 | 0,_=>by simp [sumF]
 | n+1,hn=>by
  have ih:=sum_le hm n (by omega)
  have h4:=(line_ok (i:=n) hm (by omega)).2.2.2
  have h5:=Ba.dg2_len n
  rw [sumF]; omega
theorem recs_f (m:Nat) (l:Str) : ∀ n,(aC dfF (txF m n) l P0).2=P0∧(aC dfF (txF m n) l P0).1.length=l.length+sumF m n
 | 0=>⟨rfl,rfl⟩
 | n+1=>by
  obtain ⟨h1,h2⟩:=recs_f m l n
  have e:txF m (n+1)=txF m n++[recF m n]:=by unfold txF; rw [List.range_succ,List.map_append]; rfl
  rw [e,recsStep_app,h1]
  obtain ⟨k1,k2⟩:=step1 m n (aC dfF (txF m n) l P0).1
  refine ⟨k1,?_⟩
  show (rrStep (recF m n) (dfF (recF m n)) (aC dfF (txF m n) l P0).1 P0).1.length=_
  rw [k2,h2,sumF]; omega
theorem tk1 (m n:Nat):tk (txF m (n+1)) 1=txF m (n+1):=by
 unfold tk
 rw [set_own]; simp
theorem bitsF:bits .or .i64 (turnedP 256 0) 1024=((34048:Nat):Int):=by kernel_rfl
theorem bitsT:bits .or .i64 ((34048:Nat):Int) 512=((34560:Nat):Int):=by kernel_rfl
def RepOk (R:Str) (m n lim opt:Nat):Prop :=
 (22+opt+sumF m n≤lim∧R.length=22+opt+sumF m n∧R.take 8 = [0,5,133,0,0,1,hi n,lo n])∨(lim<22+opt+sumF m n∧R.length=22+opt∧R.take 8 = [0,5,135,0,0,1,0,0])
theorem rep_yes (m n lim:Nat) (L:Str) (x:Nat) (h:22+L.length+sumF m n≤lim):RepOk (outs (hdrFs 5 34048 1 n 0 x)++((aC dfF (txF m n) (List.replicate 12 0++qF) P0).1++L).drop 12) m n lim L.length:=by
 refine .inl ⟨h,?_,rfl⟩
 rw [List.length_append,hdr_len,List.length_drop,List.length_append,(recs_f m _ n).2]
 have:(List.replicate 12 0++qF:Str).length=22:=rfl
 omega
theorem rep_no (m n lim:Nat) (L:Str) (x:Nat) (h:lim<22+L.length+sumF m n):RepOk (outs (hdrFs 5 34560 1 0 0 x)++((List.replicate 12 0++qF)++L).drop 12) m n lim L.length:=by
 refine .inr ⟨h,?_,rfl⟩
 rw [List.length_append,hdr_len,List.length_drop,List.length_append]
 have:(List.replicate 12 0++qF:Str).length=22:=rfl
 omega
theorem plain_f (hm:m≤40) (hn:n+1≤40):Plain zz nmF (recsF m (n+1)) 16:=by
 obtain ⟨_,s2,s3⟩:=step_f m n
 refine ⟨fit_f hm hn,by decide,?_,rfl,rfl,?_,?_,by kernel_rfl,?_,?_,?_⟩
 ·rw [soa_f]
  intro r hr
  simp only [List.mem_cons,List.mem_nil_iff,or_false] at hr
  subst hr
  refine ⟨⟨?_,40,?_,by omega⟩,by decide,by decide⟩
  ·have:(lastW (Rec.data soaC)).length=2:=by kernel_rfl
   omega
  ·kernel_rfl
 ·rw [match_f]
  show aliasP (txF m (n+1))=false
  unfold aliasP
  rw [tx_cons]
  show (_ && ((16:Int) == 5))=false
  rw [show ((16:Int) == 5)=false from rfl,Bool.and_false]
 ·rw [match_f]
  show (txF m (n+1)).length≤3001
  rw [tx_len]; omega
 ·rw [s2,s3]
  intro r hr
  rw [List.append_nil] at hr
  obtain ⟨i,hi,rfl⟩:=tx_mem hr
  have h4:=(line_ok (i:=i) hm (by omega)).2.2.2
  have h5:=Ba.dg2_len i
  refine ⟨rfl,rfl,?_⟩
  show (wdF m i).length≤3000
  omega
 ·rw [s2,tx_len]; omega
 ·rw [s3]; simp
theorem fill_f (hm:m≤40) (hn:n+1≤40) (ba oa ca cb lim:Nat) (aa ab:Option Addr) (L:Str) (w:World) (hg:G w) (hL:Lies (.slice aa (n+1) ca) ba oa (txF m (n+1))) (hR:bE w ba oa (txF m (n+1))) (hno:lim<22+L.length+sumF m (n+1)) :
  ∀ W mb base lb,Below w.heap.size w W→w.heap.size≤base→base≤W.heap.size→w.heap.size≤mb→Msg W mb base (List.replicate 12 0++qF) (plcs 12 nmF)→W.heap[lb]? = some (.cells #[.slice aa (n+1) ca,.slice ab 0 cb,.slice none 0 0] 41)→lb≠mb→Calls Tryz.prog 137 #[.pointer (some ⟨mb,0,none⟩),.int .i64 ((lim:Int) - (L.length:Int)),.slice (some ⟨lb,0,none⟩) 3 3] W fun e w' =>
   e=.returned (.slice (some ⟨W.heap.size+3,0,none⟩) 3 3)∧NumsAt w' (W.heap.size+3) [((0:Nat):Int),((0:Nat):Int),((0:Nat):Int)] 3∧Msg w' mb base (List.replicate 12 0++qF,plcs 12 nmF).1 (List.replicate 12 0++qF,plcs 12 nmF).2∧TG mb base W w':=by
 intro W mb base lb hb h1 h2 h3 hM hlb hlm
 have hba:=hR.1
 have hg0:=hg.1
 have e:=recs_f m (List.replicate 12 0++qF) (n+1)
 have h22:(List.replicate 12 0++qF:Str).length=22:=rfl
 rw [h22] at e
 have hs:=sum_le hm (n+1) hn
 have hl0:=len0
 refine (Ms.fill_stop0 mb base lb 0 ((lim:Int) - (L.length:Int)) dfF _ _ _ (txF m (n+1)) [] [] ba oa (List.replicate 12 0++qF,P0) W hM (plcs_ok nmF (by decide)) (hg.below hb) h2 (by omega) (by omega) hlb hlm hL (hR.below hb) (by omega) (by omega) (by rw [tx_len]; omega) (fun r hr=>by
  obtain ⟨i,hi,rfl⟩:=tx_mem hr
  exact rr_f hm (by omega)) ⟨ab,cb,rfl⟩ ⟨none,0,rfl⟩ (by rw [set_own]; simp) (by omega) ?_ ?_ ?_).mono ?_
 ·rw [tk1]
  show _<((aC dfF (txF m (n+1)) (List.replicate 12 0++qF) P0).1.length:Int)
  rw [e.2]; omega
 ·rw [tk1]
  show (aC dfF (txF m (n+1)) (List.replicate 12 0++qF) P0).1.length≤50000
  rw [e.2]; omega
 ·rw [tk1]
  show (aC dfF (txF m (n+1)) (List.replicate 12 0++qF) P0).2.length≤700
  rw [e.1]; omega
 rintro e w' ⟨rfl,k1,k2,k3⟩
 exact ⟨rfl,k1,k2,k3⟩
theorem lies_slice {v:Value} {b o:Nat} {rs:List Rec} (h:Lies v b o rs) : ∃ a c,v=.slice a rs.length c:=by
 rcases h with ⟨rfl,rfl⟩ | ⟨c,rfl,_⟩
 ·exact ⟨none,0,rfl⟩
 ·exact ⟨_,c,rfl⟩
theorem reply_n (hm:m≤40) (hn:n+1≤40) (zb g cap:Nat) (w:World) (hz:aN w zb zz g 0 cap (recsF m (n+1))) (hg:G w) :
  Calls Tryz.prog 27 #[.pointer (some ⟨zb,0,none⟩),.string (B (asks 5 qF))] w fun e w'=>(∃ R,e=.returned (.string (B R))∧RepOk R m (n+1) 512 0)∧Below w.heap.size w w':=by
 obtain ⟨s1,s2,s3⟩:=step_f m n
 have hs:=sum_le hm (n+1) hn
 have er:=recs_f m (List.replicate 12 0++qF) (n+1)
 have h22:(List.replicate 12 0++qF:Str).length=22:=rfl
 rw [h22] at er
 have hl0:=len0
 have main : ∀ R,RepOk R m (n+1) 512 0→(∀ W va vb,G W→RV W va (txF m (n+1))→RV W vb []→Calls Tryz.prog 73 #[qVal (5:Nat) 256 1 0 0 0 qF nmF 16 1 false 0 0,.agg #[.int .i64 0,.bool true,va,vb,.slice none 0 0]] W fun e w'=>e=.returned (.string (B R))∧Below W.heap.size W w') →
   Calls Tryz.prog 27 #[.pointer (some ⟨zb,0,none⟩),.string (B (asks 5 qF))] w fun e w'=>(∃ R,e=.returned (.string (B R))∧RepOk R m (n+1) 512 0)∧Below w.heap.size w w':=fun R hR hrep=>by
  refine (Mt.reply_glue zb 5 0 0 0 16 false (asks 5 qF) qF nmF (txF m (n+1)) [] R w hg (by simp [asks,qF]) ?_ ?_ ?_ hrep).mono ?_
  ·have:=readHeader_any (asks 5 qF) w (by simp [asks,qF])
   rw [hdr_asks 5 qF (by omega)] at this
   exact this
  ·intro W
   have:=readQuery_plain (5:Nat) 256 (asks 5 qF) W (by simp [asks,qF]) (by simp [asks,qF]) (ls:=[[109],[122,122]]) (s1:=[0,16,0,1]) (s2:=[0,1]) (s3:=[]) (br1:=false) (br2:=false) (br3:=false) (k':=16) (c':=1) rfl rfl rfl
   rw [show nameP [[109],[122,122]]=nmF by kernel_rfl] at this
   exact this
  ·intro W hb
   have:=qanswer_plain zb g 0 cap 16 zz nmF qF (5:Nat) 256 1 0 0 0 (recsF m (n+1)) W (hz.below hb) (hg.below hb) (plain_f hm hn) (by decide) (by decide) (by decide)
   rw [s1,s2,s3,cut_f] at this
   exact this
  ·rintro e w' ⟨rfl,hb⟩
   exact ⟨⟨R,rfl,hR⟩,hb⟩
 by_cases hfit:22+0+sumF m (n+1)≤512
 ·refine main _ (rep_yes m (n+1) 512 [] 0 hfit) ?_
  intro W va vb hG ha hb
  obtain ⟨ba,oa,La,Ra⟩:=rv_lies ha hG
  obtain ⟨bb,ob,Lb,Rb⟩:=rv_lies hb hG
  have:=reply_no 5 34048 ba oa bb ob 256 1 0 0 0 16 0 qF nmF va vb (txF m (n+1)) [] dfF 0 0 512 [] _ _ W hG La Ra (by rw [tx_len]; omega) Lb Rb (by simp) (by omega) (by omega) bitsF (by decide) (by decide)
   (fun r hr=>by
    obtain ⟨i,hi,rfl⟩:=tx_mem hr
    exact rr_f hm (by omega)) (fun r hr=>by cases hr) rfl rfl (fun W _=>last_plain _ _ _ _ _ _ _ _ _ _ _ _ _ W) (fun W=>limit_plain _ _ _ _ _ _ _ _ _ _ _ _ W) (by simp) (by omega) (by
    show ((((aC dfF (txF m (n+1)) (List.replicate 12 0++qF) P0).1.length+([]:Str).length:Nat)):Int)≤512
    rw [er.2,List.length_nil]; omega) (by
    show (aC dfF (txF m (n+1)) (List.replicate 12 0++qF) P0).2.length≤700
    rw [er.1]; omega)
  refine this.mono ?_
  rintro e w' ⟨rfl,h⟩
  refine ⟨?_,h⟩
  rw [tx_len]; rfl
 ·refine main _ (rep_no m (n+1) 512 [] 0 (by simp only [List.length_nil]; omega)) ?_
  intro W va vb hG ha hb
  obtain ⟨ba,oa,La,Ra⟩:=rv_lies ha hG
  obtain ⟨a,c,rfl⟩:=lies_slice La
  obtain ⟨bb,ob,Lb,Rb⟩:=rv_lies hb hG
  obtain ⟨a2,c2,rfl⟩:=lies_slice Lb
  rw [tx_len] at La ⊢
  exact reply_na1 5 34048 34560 (n+1) 0 0 0 0 0 c c2 0 a a2 none 256 1 0 0 0 16 1 0 qF nmF 0 0 512 [] (List.replicate 12 0++qF,plcs 12 nmF) W hG (by omega) (by omega) (by omega) (by omega) (by omega) bitsF (by decide) (by decide) (by omega) bitsT (by omega) (fill_f hm hn ba oa c c2 512 a a2 [] W hG La Ra (by simp only [List.length_nil]; omega)) (fun W _=>last_plain _ _ _ _ _ _ _ _ _ _ _ _ _ W) (fun W=>limit_plain _ _ _ _ _ _ _ _ _ _ _ _ W) (by simp) (by omega) (by omega) (by decide) (by decide)
end
end Bb
namespace Cb
open Ka Kc Ta Ca Vb Lc Lj Ln Lo
theorem dig_two (i:Nat) (h:i<100):digitsI i=dg2 i:=by
 unfold dg2
 split
 ·exact digitsI_small _ ‹_›
 ·rename_i hn
  rw [digitsI_great i hn,digitsI_small _ (by omega)]; rfl
section
variable {n e:Nat}
end
end Cb
end Go.Proofs.YtkkpahmoljiepaaGreatDoor
