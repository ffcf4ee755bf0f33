/- Contracts: wire's readQuestion. -/
import Derived.Test.YtkkpahmoljiepaaGreatDoorJ15
import Derived.Test.YtkkpahmoljiepaaGreatDoorJLg
import Derived.Maps.AppendAt
import Derived.Lib.AppendStr
set_option linter.unusedSimpArgs false
set_option linter.unusedVariables false
set_option maxRecDepth 1000000
set_option maxHeartbeats 12800000
namespace Go.Proofs.YtkkpahmoljiepaaGreatDoor
open Go.RowKit
open Pu (Str aH aU)
def QAt (w:World) (b:Nat) (h0 h1 h2 h3 h4 h5:Int) (q n:Str) (k c:Int) (opt:Bool) (sz ver:Int):Prop :=
 w.heap[b]? = some (.cells #[.int .i64 h0,.int .i64 h1,.int .i64 h2,.int .i64 h3,.int .i64 h4,.int .i64 h5,.string (B q),.string (B n),.int .i64 k,.int .i64 c,.bool opt,.int .i64 sz,.int .i64 ver] 137)
section
variable {w:World} {b:Nat} {h0 h1 h2 h3 h4 h5:Int} {q n:Str} {k c:Int} {opt:Bool} {sz ver:Int}
theorem QAt.lt (h:QAt w b h0 h1 h2 h3 h4 h5 q n k c opt sz ver):b<w.heap.size:=(Array.getElem?_eq_some_iff.1 h).1
theorem QAt.frozen (h:QAt w b h0 h1 h2 h3 h4 h5 q n k c opt sz ver) (i:Nat):w.frozen? ⟨b,i,none⟩=false:=by
 unfold QAt at h; simp [World.frozen?,h]
theorem QAt.cells (h:QAt w b h0 h1 h2 h3 h4 h5 q n k c opt sz ver) :
  w.cell? ⟨b,0,none⟩=some (.int .i64 h0)∧w.cell? ⟨b,1,none⟩=some (.int .i64 h1)∧w.cell? ⟨b,2,none⟩=some (.int .i64 h2)∧w.cell? ⟨b,3,none⟩=some (.int .i64 h3)∧w.cell? ⟨b,4,none⟩=some (.int .i64 h4)∧w.cell? ⟨b,5,none⟩=some (.int .i64 h5) ∧
  w.cell? ⟨b,6,none⟩=some (.string (B q))∧w.cell? ⟨b,7,none⟩=some (.string (B n))∧w.cell? ⟨b,8,none⟩=some (.int .i64 k)∧w.cell? ⟨b,9,none⟩=some (.int .i64 c)∧w.cell? ⟨b,10,none⟩=some (.bool opt)∧w.cell? ⟨b,11,none⟩=some (.int .i64 sz)∧w.cell? ⟨b,12,none⟩=some (.int .i64 ver):=by
 unfold QAt at h
 refine ⟨?_,?_,?_,?_,?_,?_,?_,?_,?_,?_,?_,?_,?_⟩ <;> simp [World.cell?,h]
theorem QAt.set6 (h:QAt w b h0 h1 h2 h3 h4 h5 q n k c opt sz ver) (x:Str):QAt (w.setCell ⟨b,6,none⟩ (.string (B x))) b h0 h1 h2 h3 h4 h5 x n k c opt sz ver:=by
 unfold QAt at *; simp only [World.setCell]; rw [Array.getElem?_modify,if_pos rfl,h]; rfl
theorem QAt.set7 (h:QAt w b h0 h1 h2 h3 h4 h5 q n k c opt sz ver) (x:Str):QAt (w.setCell ⟨b,7,none⟩ (.string (B x))) b h0 h1 h2 h3 h4 h5 q x k c opt sz ver:=by
 unfold QAt at *; simp only [World.setCell]; rw [Array.getElem?_modify,if_pos rfl,h]; rfl
theorem QAt.set8 (h:QAt w b h0 h1 h2 h3 h4 h5 q n k c opt sz ver) (x:Int):QAt (w.setCell ⟨b,8,none⟩ (.int .i64 x)) b h0 h1 h2 h3 h4 h5 q n x c opt sz ver:=by
 unfold QAt at *; simp only [World.setCell]; rw [Array.getElem?_modify,if_pos rfl,h]; rfl
theorem QAt.set9 (h:QAt w b h0 h1 h2 h3 h4 h5 q n k c opt sz ver) (x:Int):QAt (w.setCell ⟨b,9,none⟩ (.int .i64 x)) b h0 h1 h2 h3 h4 h5 q n k x opt sz ver:=by
 unfold QAt at *; simp only [World.setCell]; rw [Array.getElem?_modify,if_pos rfl,h]; rfl
theorem QAt.kept {w':World} (h:QAt w b h0 h1 h2 h3 h4 h5 q n k c opt sz ver) (hb:w'.heap[b]? = w.heap[b]?):QAt w' b h0 h1 h2 h3 h4 h5 q n k c opt sz ver:=hb.trans h
end
namespace Wf
open Ka Wa Wb Wc Wd We Re
theorem strsV_of_own {w:World} {base:Nat} {v:Value} {ls:List Str} (h:StrsOwn w base v ls):StrsV w v ls:=by
 obtain ⟨⟨h1,h2⟩,h3⟩:=h
 rcases h2 with ⟨hv,_⟩ | ⟨g,cap,cur,hv,hb,hcur,hn,hm,hs,ht⟩
 ·exact .inl ⟨hv,h3.1 hv⟩
 ·refine .inr ⟨g,cap,hv,hn,(Array.getElem?_eq_some_iff.1 hcur).1,fun j hj=>?_⟩
  have e:cur.toList[j]? = (ls.map fun l=>Value.string (B l))[j]?:=by
   rw [← ht,List.getElem?_take]
   rw [if_pos (by omega)]
  simp only [World.cell?,hcur]
  rw [← Array.getElem?_toList,e]
  simp [hj]
theorem takP_le (s:Str) (br:Bool) (n:Nat):(takP s br n).1.length≤n:=by unfold takP; split <;> simp; omega
theorem labGo_ok : ∀ (f n:Nat) (s:Str) (br:Bool) (size:Nat) (acc:List Str),(∀ l∈acc,l.length≤63)→acc.length≤size→size≤255 →
  (∀ l∈(labGo f n s br size acc).1,l.length≤63)∧(labGo f n s br size acc).1.length≤255∧(labGo f n s br size acc).2.1.length≤s.length
 | 0,n,s,br,size,acc,h1,h2,h3=>⟨h1,by simp only [labGo]; omega,Nat.le_refl _⟩
 | f+1,n,s,br,size,acc,h1,h2,h3=>by
  rw [labGo]
  split
  ·exact ⟨h1,by simp only; omega,Nat.le_refl _⟩
  ·split
   ·exact ⟨by simp,by simp,Nat.le_refl _⟩
   ·rename_i hn hb
    have:=labGo_ok f (octP (takP s br n).2.1 (takP s br n).2.2).1 (octP (takP s br n).2.1 (takP s br n).2.2).2.1 (octP (takP s br n).2.1 (takP s br n).2.2).2.2 (size+1+n) (acc++[(takP s br n).1]) ?_ (by simp; omega) (by omega)
    ·exact ⟨this.1,this.2.1,Nat.le_trans this.2.2 (Nat.le_trans (octP_len _ _) (takP_len _ _ _))⟩
    ·intro l hl
     rcases List.mem_append.1 hl with hl | hl
     ·exact h1 l hl
     ·rw [List.mem_singleton.1 hl]
      have:=takP_le s br n
      omega
theorem labP_ok (s:Str) (br:Bool):(∀ l∈(labP s br).1,l.length≤63)∧(labP s br).1.length≤255∧(labP s br).2.1.length≤s.length:=by
 have:=labGo_ok 256 (octP s br).1 (octP s br).2.1 (octP s br).2.2 1 [] (by simp) (by simp) (by omega)
 exact ⟨this.1,this.2.1,Nat.le_trans this.2.2 (octP_len _ _)⟩
theorem readQuestion_any (qb rb:Nat) (s:Str) (br:Bool) (w:World) {h0 h1 h2 h3 h4 h5:Int} {q n:Str} {k c:Int} {opt:Bool} {sz ver:Int}
  (hq:QAt w qb h0 h1 h2 h3 h4 h5 q n k c opt sz ver) (hr:RdAt w rb s br) (hne:qb≠rb) (hl:s.length≤1000000000)
  {ls:List Str} {k' c':Nat} {s1 s2 s3:Str} {br1 br2 br3:Bool} (e1:labP s br=(ls,s1,br1)) (e2:shortP s1 br1=(k',s2,br2)) (e3:shortP s2 br2=(c',s3,br3)) :
  Calls Tryz.prog 133 #[.pointer (some ⟨qb,0,none⟩),.pointer (some ⟨rb,0,none⟩)] w fun e w' =>
   e=.returned (.tuple #[])∧QAt w' qb h0 h1 h2 h3 h4 h5 (s.take (s.length - s3.length)) (nameP ls) k' c' opt sz ver∧RdAt w' rb s3 br3∧Fr (fun i=>i≠qb∧i≠rb) w w':=by
 have HC1:=aH (labels_any rb s br w hr hl)
 have hok:=labP_ok s br
 rw [e1] at hok
 rw [Hid,e1] at HC1
 obtain ⟨ok1,ok2,ok3⟩:=hok
 simp only at HC1 ok1 ok2 ok3
 have l2:=shortP_len s1 br1
 have l3:=shortP_len s2 br2
 rw [e2] at l2
 rw [e3] at l3
 simp only at l2 l3
 have hc0:=hr.cells.1
 have HQ:=aH hq
 have HE2:=aH e2
 have HE3:=aH e3
 have HOK:=aH ok1
 have hlt:=hq.lt
 clear hq hr e1 e2 e3 ok1
 go_enter Tryz.func133,Tryz.ntmps133
 go_wp2_with fail
 refine HC1.mono ?_
 rintro e w1 ⟨v,rfl,hv,hr1,hk1⟩
 have HC2:=aH (fromLabels_any v ls w1 (strsV_of_own hv) (by omega) (fun l hl=>by have:=aU HOK l hl; omega))
 have HQ1:=aH ((aU HQ).kept (hk1.block qb hlt hne))
 have HR1:=aH hr1
 have HF1:Hid (Fr (fun i=>i≠qb∧i≠rb) w w1):=(Fr.of_keeps hk1).mono fun i _ h=>h.2
 clear hv hr1 hk1 HC1
 go_wp2_with fail
 refine (aU HC2).mono ?_
 rintro e w2 ⟨rfl,hb2⟩
 have HQ2:=aH ((aU HQ1).kept (hb2.block qb (aU HQ1).lt))
 have HR2:Hid (RdAt w2 rb s1 br1):=(hb2.block rb (aU HR1).lt).trans (aU HR1)
 have HF2:Hid (Fr (fun i=>i≠qb∧i≠rb) w w2):=(aU HF1).trans (Fr.of_below hb2)
 have hfz:=(aU HQ2).frozen
 have hc7:=(aU HQ2).cells.2.2.2.2.2.2.2.1
 clear hb2 HC2 HQ1 HR1 HF1
 go_wp2_with fail
 have HQ3:=aH ((aU HQ2).set7 (nameP ls))
 have HR3:Hid (RdAt (w2.setCell ⟨qb,7,none⟩ (.string (B (nameP ls)))) rb s1 br1):=(Below.heap_setCell _ _ _ _ (by show rb≠qb; omega)).trans (aU HR2)
 have HF3:Hid (Fr (fun i=>i≠qb∧i≠rb) w (w2.setCell ⟨qb,7,none⟩ (.string (B (nameP ls))))):=(aU HF2).trans (Fr.of_set _ fun i h=>h.1)
 clear HQ2 HR2 HF2 hc7 hfz
 generalize w2.setCell ⟨qb,7,none⟩ (.string (B (nameP ls)))=w3 at *
 have HC3:=short_any rb s1 br1 w3 (aU HR3) (by omega)
 rw [aU HE2] at HC3
 refine HC3.mono ?_
 rintro e w4 ⟨rfl,hr4,hk4,hs4⟩
 have HQ4:=aH ((aU HQ3).kept (hk4.block qb (aU HQ3).lt hne))
 have HR4:=aH hr4
 have HF4:Hid (Fr (fun i=>i≠qb∧i≠rb) w w4):=(aU HF3).trans ((Fr.of_keeps hk4).mono fun i _ h=>h.2)
 clear hr4 hk4 hs4 HC3 HQ3 HR3 HF3
 go_wp2_with fail
 have HC4:=short_any rb s2 br2 w4 (aU HR4) (by omega)
 rw [aU HE3] at HC4
 refine HC4.mono ?_
 rintro e w5 ⟨rfl,hr5,hk5,hs5⟩
 have HQ5:=aH ((aU HQ4).kept (hk5.block qb (aU HQ4).lt hne))
 have HR5:Hid (RdAt w5 rb s3 br3):=hr5
 have HF5:Hid (Fr (fun i=>i≠qb∧i≠rb) w w5):=(aU HF4).trans ((Fr.of_keeps hk5).mono fun i _ h=>h.2)
 clear hr5 hk5 hs5 HC4 HQ4 HR4 HF4
 have hfz:=(aU HQ5).frozen
 obtain ⟨-,-,-,-,-,-,hc6,-,hc8,hc9,-,-,-⟩:=(aU HQ5).cells
 have hcr:=(aU HR5).cells.1
 have hs:(B s).size=s.length:=size_B s
 have hs3:(B s3).size=s3.length:=size_B s3
 have hsub:(s.length:Int) - s3.length=((s.length - s3.length:Nat):Int):=by omega
 have hle:s.length - s3.length≤s.length:=by omega
 have HT:=aH (B_take s (s.length - s3.length) hle)
 have hne':rb≠qb:=fun e=>hne e.symm
 generalize hd:s.length - s3.length=d at *
 go_wp2_with fail
 refine bodyPost_end (v:=.tuple #[]) (by simp [results,Tryz.results133]) rfl ?_
 rw [aU HT,hd]
 refine ⟨rfl,(((aU HQ5).set8 _).set9 _).set6 _,?_,(((aU HF5).trans (Fr.of_set _ fun i h=>h.1)).trans (Fr.of_set _ fun i h=>h.1)).trans (Fr.of_set _ fun i h=>h.1)⟩
 exact (Below.heap_setCell _ _ _ _ (by show rb≠qb; omega)).trans ((Below.heap_setCell _ _ _ _ (by show rb≠qb; omega)).trans ((Below.heap_setCell _ _ _ _ (by show rb≠qb; omega)).trans (aU HR5)))
end Wf
def qVal (h0 h1 h2 h3 h4 h5:Int) (q n:Str) (k c:Int) (opt:Bool) (sz ver:Int):Value :=
 .agg #[.int .i64 h0,.int .i64 h1,.int .i64 h2,.int .i64 h3,.int .i64 h4,.int .i64 h5,.string (B q),.string (B n),.int .i64 k,.int .i64 c,.bool opt,.int .i64 sz,.int .i64 ver]
namespace Wg
open Ka Wa Wb Wc Wd We Wf Re
theorem equal4 (W:World):(Op.equalIn 10000 131 (.agg #[.int .i64 1,.int .i64 0,.int .i64 0,.int .i64 0]) (.agg #[.int .i64 1,.int .i64 0,.int .i64 0,.int .i64 0])).run Tryz.prog W=.ok true W:=by kernel_rfl
def qW (w:World) (id bits:Int) (s:Str):World :=
 (((w.alloc (.cells #[.int .i64 id,.int .i64 bits,.int .i64 1,.int .i64 0,.int .i64 0,.int .i64 0] 133)).alloc
   (.cells #[.int .i64 0,.int .i64 0,.int .i64 0,.int .i64 0,.int .i64 0,.int .i64 0,.string ⟨#[]⟩,.string ⟨#[]⟩,.int .i64 0,.int .i64 0,.bool false,.int .i64 0,.int .i64 0] 137)).alloc
   (.cells #[.int .i64 id,.int .i64 bits,.int .i64 1,.int .i64 0,.int .i64 0,.int .i64 0,.string ⟨#[]⟩,.string ⟨#[]⟩,.int .i64 0,.int .i64 0,.bool false,.int .i64 0,.int .i64 0] 137)).alloc
   (.cells #[.string (B s),.bool false] 215)
theorem qW_ok (w:World) (id bits:Int) (s:Str):QAt (qW w id bits s) (w.heap.size+1+1) id bits 1 0 0 0 [] [] 0 0 false 0 0∧QAt (qW w id bits s) (w.heap.size+1) 0 0 0 0 0 0 [] [] 0 0 false 0 0∧RdAt (qW w id bits s) (w.heap.size+1+1+1) s false∧Below w.heap.size w (qW w id bits s):=by
 refine ⟨?_,?_,?_,?_⟩
 ·refine (Below.heap_alloc _ _ _ (by simp)).trans ?_
  have:=World.alloc_heap_new ((w.alloc (.cells #[.int .i64 id,.int .i64 bits,.int .i64 1,.int .i64 0,.int .i64 0,.int .i64 0] 133)).alloc (.cells #[.int .i64 0,.int .i64 0,.int .i64 0,.int .i64 0,.int .i64 0,.int .i64 0,.string ⟨#[]⟩,.string ⟨#[]⟩,.int .i64 0,.int .i64 0,.bool false,.int .i64 0,.int .i64 0] 137)) (.cells #[.int .i64 id,.int .i64 bits,.int .i64 1,.int .i64 0,.int .i64 0,.int .i64 0,.string ⟨#[]⟩,.string ⟨#[]⟩,.int .i64 0,.int .i64 0,.bool false,.int .i64 0,.int .i64 0] 137)
  simpa [B] using this
 ·refine (Below.heap_alloc _ _ _ (by simp)).trans ((Below.heap_alloc _ _ _ (by simp)).trans ?_)
  have:=World.alloc_heap_new (w.alloc (.cells #[.int .i64 id,.int .i64 bits,.int .i64 1,.int .i64 0,.int .i64 0,.int .i64 0] 133)) (.cells #[.int .i64 0,.int .i64 0,.int .i64 0,.int .i64 0,.int .i64 0,.int .i64 0,.string ⟨#[]⟩,.string ⟨#[]⟩,.int .i64 0,.int .i64 0,.bool false,.int .i64 0,.int .i64 0] 137)
  simpa [B] using this
 ·have:=World.alloc_heap_new (((w.alloc (.cells #[.int .i64 id,.int .i64 bits,.int .i64 1,.int .i64 0,.int .i64 0,.int .i64 0] 133)).alloc (.cells #[.int .i64 0,.int .i64 0,.int .i64 0,.int .i64 0,.int .i64 0,.int .i64 0,.string ⟨#[]⟩,.string ⟨#[]⟩,.int .i64 0,.int .i64 0,.bool false,.int .i64 0,.int .i64 0] 137)).alloc (.cells #[.int .i64 id,.int .i64 bits,.int .i64 1,.int .i64 0,.int .i64 0,.int .i64 0,.string ⟨#[]⟩,.string ⟨#[]⟩,.int .i64 0,.int .i64 0,.bool false,.int .i64 0,.int .i64 0] 137)) (.cells #[.string (B s),.bool false] 215)
  simpa [RdAt,qW] using this
 ·exact ((((Below.refl _ _).alloc (Nat.le_refl _) _).alloc (by simp) _).alloc (by simp; omega) _).alloc (by simp; omega) _
theorem readQuery_plain (id bits:Int) (m:Str) (w:World) (hm:12≤m.length) (hl:m.length≤1000000000)
  {ls:List Str} {k' c':Nat} {s1 s2 s3:Str} {br1 br2 br3:Bool} (e1:labP (m.drop 12) false=(ls,s1,br1)) (e2:shortP s1 br1=(k',s2,br2)) (e3:shortP s2 br2=(c',s3,br3)) :
  Calls Tryz.prog 72 #[.agg #[.int .i64 id,.int .i64 bits,.int .i64 1,.int .i64 0,.int .i64 0,.int .i64 0],.string (B m)] w fun e w' =>
   e=.returned (.tuple #[qVal id bits 1 0 0 0 ((m.drop 12).take ((m.drop 12).length - s3.length)) (nameP ls) k' c' false 0 0,.bool (!br3 && s3.isEmpty)])∧Below w.heap.size w w':=by
 have hs:(B m).size=m.length:=size_B m
 have HD:=aH (B_drop m 12 _ rfl)
 have kq : ∀ W:World,(Op.equalIn 10000 131 (.agg #[.int .i64 1,.int .i64 0,.int .i64 0,.int .i64 0]) (.agg #[.int .i64 1,.int .i64 0,.int .i64 0,.int .i64 0])).run Tryz.prog W=.ok true W:=equal4
 have HE1:=aH e1
 have HE2:=aH e2
 have HE3:=aH e3
 clear e1 e2 e3
 obtain ⟨hq0,ht0,hr0,hb0⟩:=qW_ok w id bits (m.drop 12)
 have HC:=aH (readQuestion_any (w.heap.size+1+1) (w.heap.size+1+1+1) (m.drop 12) false (qW w id bits (m.drop 12)) hq0 hr0 (by omega) (by simp; omega) (aU HE1) (aU HE2) (aU HE3))
 have HT0:=aH ht0
 have HB0:=aH hb0
 clear hq0 ht0 hr0 hb0
 go_enter Tryz.func72,Tryz.ntmps72
 go_wp2_with fail
 rw [aU HD]
 refine (aU HC).mono ?_
 rintro e w1 ⟨rfl,hq1,hr1,hf1⟩
 have HT1:=aH ((aU HT0).kept (hf1.block _ (aU HT0).lt ⟨by omega,by omega⟩))
 have HB1:Hid (Below w.heap.size w w1):=(aU HB0).trans (hf1.below (fun i hi=>⟨by omega,by omega⟩) (aU HB0).size)
 have HQ1:=aH hq1
 have HR1:=aH hr1
 clear hq1 hr1 hf1 HC HT0 HB0 kq
 generalize hqe:(m.drop 12).take ((m.drop 12).length - s3.length)=q at *
 generalize hnm:nameP ls=nm at *
 have HQE:=aH hqe
 have HNM:=aH hnm
 clear hqe hnm
 obtain ⟨c0,c1,c2,c3,c4,c5,c6,c7,c8,c9,c10,c11,c12⟩:=(aU HQ1).cells
 obtain ⟨d0,d1,d2,d3,d4,d5,d6,d7,d8,d9,d10,d11,d12⟩:=(aU HT1).cells
 have hfz:=(aU HT1).frozen
 obtain ⟨r0,r1⟩:=(aU HR1).cells
 go_wp2_with fail
 clear HE1 HE2 HE3 HD hm hl hs HQ1 HR1 HT1
 have ret : ∀ b:Bool,(!br3 && s3.isEmpty)=b→Ending.returned (.tuple #[qVal id bits 1 0 0 0 q nm k' c' false 0 0,.bool b])=.returned (.tuple #[qVal id bits 1 0 0 0 ((m.drop 12).take ((m.drop 12).length - s3.length)) (nameP ls) k' c' false 0 0,.bool (!br3 && s3.isEmpty)]):=fun b hb=>by
  rw [aU HQE,aU HNM,hb]
 have RET:=aH ret
 clear ret HQE HNM
 have HBS:=aH fun (W:World) (hW:Below w.heap.size w W) (o:Nat) (v:Value)=>hW.setCell (p:=⟨w.heap.size+1,o,none⟩) (by show w.heap.size≤w.heap.size+1; omega) v
 cases br3
 ·cases s3 with
  | nil =>
   have e1:B []=⟨#[]⟩:=rfl
   rw [e1] at r0
   go_region
   all_goals
    go_wp2
    refine bodyPost_ret (v:=.tuple #[qVal id bits 1 0 0 0 q nm k' c' false 0 0,.bool true]) (by simp [results,Tryz.results72,go_sem,qVal,d0,d1,d2,d3,d4,d5,d6,d7,d8,d9,d10,d11,d12]) rfl ⟨aU RET true rfl,?_⟩
    first | exact (aU HBS _ (aU HBS _ (aU HBS _ (aU HBS _ (aU HBS _ (aU HBS _ (aU HBS _ (aU HBS _ (aU HBS _ (aU HBS _ (aU HBS _ (aU HBS _ (aU HBS _ (aU HB1) _ _) _ _) _ _) _ _) _ _) _ _) _ _) _ _) _ _) _ _) _ _) _ _) _ _).drew | exact (aU HBS _ (aU HBS _ (aU HBS _ (aU HBS _ (aU HBS _ (aU HBS _ (aU HBS _ (aU HBS _ (aU HBS _ (aU HBS _ (aU HBS _ (aU HBS _ (aU HBS _ (aU HB1).drew _ _) _ _) _ _) _ _) _ _) _ _) _ _) _ _) _ _) _ _) _ _) _ _) _ _)
  | cons x t =>
   have e1:((B (x :: t)).toList == (⟨#[]⟩:ByteArray).toList)=false:=by rw [Kd.str_eq]; rfl
   have e2:(B (x :: t)).toList.isEmpty=false:=by rw [ByteArray.toList_eq]; rfl
   have e3 : ¬ (B (x :: t)).size=0:=by rw [size_B]; simp
   generalize B (x :: t)=bt at *
   go_region
   all_goals
    go_wp2
    refine bodyPost_ret (v:=.tuple #[qVal id bits 1 0 0 0 q nm k' c' false 0 0,.bool false]) (by simp [results,Tryz.results72,go_sem,qVal,d0,d1,d2,d3,d4,d5,d6,d7,d8,d9,d10,d11,d12]) rfl ⟨aU RET false rfl,?_⟩
    first | exact (aU HBS _ (aU HBS _ (aU HBS _ (aU HBS _ (aU HBS _ (aU HBS _ (aU HBS _ (aU HBS _ (aU HBS _ (aU HBS _ (aU HBS _ (aU HBS _ (aU HBS _ (aU HB1) _ _) _ _) _ _) _ _) _ _) _ _) _ _) _ _) _ _) _ _) _ _) _ _) _ _).drew | exact (aU HBS _ (aU HBS _ (aU HBS _ (aU HBS _ (aU HBS _ (aU HBS _ (aU HBS _ (aU HBS _ (aU HBS _ (aU HBS _ (aU HBS _ (aU HBS _ (aU HBS _ (aU HB1).drew _ _) _ _) _ _) _ _) _ _) _ _) _ _) _ _) _ _) _ _) _ _) _ _) _ _)
 ·go_region
  all_goals
   go_wp2
   refine bodyPost_ret (v:=.tuple #[qVal id bits 1 0 0 0 q nm k' c' false 0 0,.bool false]) (by simp [results,Tryz.results72,go_sem,qVal,d0,d1,d2,d3,d4,d5,d6,d7,d8,d9,d10,d11,d12]) rfl ⟨aU RET false rfl,?_⟩
   first | exact (aU HBS _ (aU HBS _ (aU HBS _ (aU HBS _ (aU HBS _ (aU HBS _ (aU HBS _ (aU HBS _ (aU HBS _ (aU HBS _ (aU HBS _ (aU HBS _ (aU HBS _ (aU HB1) _ _) _ _) _ _) _ _) _ _) _ _) _ _) _ _) _ _) _ _) _ _) _ _) _ _).drew | exact (aU HBS _ (aU HBS _ (aU HBS _ (aU HBS _ (aU HBS _ (aU HBS _ (aU HBS _ (aU HBS _ (aU HBS _ (aU HBS _ (aU HBS _ (aU HBS _ (aU HBS _ (aU HB1).drew _ _) _ _) _ _) _ _) _ _) _ _) _ _) _ _) _ _) _ _) _ _) _ _) _ _)
end Wg
namespace Wh
open Ka Wa Wb Wc Wd We Wf Wg Re
theorem isAskable_yes (k:Int) (w:World) (h1:(k != 0)=true) (h2:(k != 41)=true) (h3:k<249) :
  Calls Tryz.prog 140 #[.int .i64 k] w fun e w'=>e=.returned (.bool true)∧w'=w:=by
 go_enter Tryz.func140,Tryz.ntmps140
 go_wp2
 go_ret
 exact ⟨rfl,rfl⟩
def turnedP (b rc:Int):Int:=bits .or .i64 (bits .or .i64 32768 (bits .and .i64 b 30976)) (bits .and .i64 rc 15)
theorem turned_any (i b c0 c1 c2 c3 rc:Int) (w:World) :
  Calls Tryz.prog 132 #[.agg #[.int .i64 i,.int .i64 b,.int .i64 c0,.int .i64 c1,.int .i64 c2,.int .i64 c3],.int .i64 rc] w fun e w' =>
   e=.returned (.agg #[.int .i64 i,.int .i64 (turnedP b rc),.int .i64 0,.int .i64 0,.int .i64 0,.int .i64 0])∧Below w.heap.size w w':=by
 go_enter Tryz.func132,Tryz.ntmps132
 go_wp2
 refine bodyPost_ret (v:=.agg #[.int .i64 i,.int .i64 (turnedP b rc),.int .i64 0,.int .i64 0,.int .i64 0,.int .i64 0]) (by simp [results,Tryz.results132,go_sem,turnedP]) rfl ⟨rfl,?_⟩
 first | exact ((Below.refl _ _).alloc (Nat.le_refl _) _).alloc (by simp) _ | exact (((((((((Below.refl _ _).alloc (Nat.le_refl _) _).alloc (by simp) _).setCell (by show w.heap.size≤w.heap.size+1; omega) _).setCell (by show w.heap.size≤w.heap.size+1; omega) _).setCell (by show w.heap.size≤w.heap.size+1; omega) _).setCell (by show w.heap.size≤w.heap.size+1; omega) _).setCell (by show w.heap.size≤w.heap.size+1; omega) _).setCell (by show w.heap.size≤w.heap.size+1; omega) _)
theorem limit_plain (h0 h1 h2 h3 h4 h5:Int) (q n:Str) (k c sz ver:Int) (w:World) :
  Calls Tryz.prog 138 #[qVal h0 h1 h2 h3 h4 h5 q n k c false sz ver] w fun e w'=>e=.returned (.int .i64 512)∧Below w.heap.size w w':=by
 unfold qVal
 go_enter Tryz.func138,Tryz.ntmps138
 go_wp2
 go_ret
 exact ⟨rfl,(Below.refl _ _).alloc (Nat.le_refl _) _⟩
theorem last_plain (h0 h1 h2 h3 h4 h5:Int) (q n:Str) (k c sz ver rc:Int) (w:World) :
  Calls Tryz.prog 136 #[qVal h0 h1 h2 h3 h4 h5 q n k c false sz ver,.int .i64 rc] w fun e w'=>e=.returned (.string ⟨#[]⟩)∧Below w.heap.size w w':=by
 unfold qVal
 go_enter Tryz.func136,Tryz.ntmps136
 go_wp2
 go_ret
 exact ⟨rfl,(Below.refl _ _).alloc (Nat.le_refl _) _⟩
end Wh
end Go.Proofs.YtkkpahmoljiepaaGreatDoor

namespace Go.Proofs.YtkkpahmoljiepaaGreatDoor
open Go
def ownLen:Value→Nat
 | .slice _ n _=>n
 | _=>0
structure Stp (w w':World) (t:TypeId) (sz:Nat) (v v':Value):Prop where
 row : ∀ (i:Nat) (cur:Array Value),w.heap[i]? = some (.cells cur t (0,0))→∃ cur',w'.heap[i]? = some (.cells cur' t (0,0))∧cur'.size=cur.size∧∀ j,(v.ownBlock=some i→j<ownLen v*sz)→cur'[j]? = cur[j]?
 own : ∀ g,v'.ownBlock=some g→(v.ownBlock=some g∧ownLen v≤ownLen v')∨w.heap.size≤g
section
variable {w w' w1:World} {t:TypeId} {sz:Nat} {v v' v1:Value}
theorem Stp.same (v:Value) (sz:Nat) (h : ∀ (i:Nat) (cur:Array Value),w.heap[i]? = some (.cells cur t (0,0))→w'.heap[i]? = w.heap[i]?):Stp w w' t sz v v :=
 ⟨fun i cur hc=>⟨cur,(h i cur hc).trans hc,rfl,fun _ _=>rfl⟩,fun _ hg=>.inl ⟨hg,Nat.le_refl _⟩⟩
theorem Stp.refl (w:World) (t:TypeId) (sz:Nat) (v:Value):Stp w w t sz v v:=Stp.same v sz fun _ _ _=>rfl
theorem Stp.trans (h:Stp w w1 t sz v v1) (k:Stp w1 w' t sz v1 v') (hs:w.heap.size≤w1.heap.size):Stp w w' t sz v v':=by
 refine ⟨fun i cur hc=>?_,fun g hg=>?_⟩
 ·obtain ⟨c1,h1,h2,h3⟩:=h.row i cur hc
  obtain ⟨c2,k1,k2,k3⟩:=k.row i c1 h1
  have hi:=(Array.getElem?_eq_some_iff.1 hc).1
  refine ⟨c2,k1,k2.trans h2,fun j hj=>(k3 j fun e=>?_).trans (h3 j hj)⟩
  rcases h.own i e with ⟨a,b⟩ | a
  ·exact Nat.lt_of_lt_of_le (hj a) (Nat.mul_le_mul_right _ b)
  ·omega
 ·rcases k.own g hg with ⟨a,b⟩ | a
  ·rcases h.own g a with ⟨c,d⟩ | c
   ·exact .inl ⟨c,Nat.le_trans d b⟩
   ·exact .inr c
  ·exact .inr (Nat.le_trans hs a)
theorem Stp.owns (h:Stp w w' t sz v v') {base n:Nat} {xs:List Value} (ho:w.ownsRow base t sz v n xs):w'.ownsRow base t sz v n xs:=by
 refine ⟨ho.1,?_⟩
 rcases ho.2 with hn | ⟨g,cap,cur,rfl,hb,hg,h1,h2,h3,h4⟩
 ·exact .inl hn
 ·obtain ⟨cur',k1,k2,k3⟩:=h.row g cur hg
  refine .inr ⟨g,cap,cur',rfl,hb,k1,h1,h2,k2.trans h3,?_⟩
  rw [← h4]
  apply List.ext_getElem?
  intro j
  rw [List.getElem?_take,List.getElem?_take]
  split
  ·rename_i hj
   have:=k3 j fun _=>hj
   simpa using this
  ·rfl
end
theorem drew_old {w:World} {o:Obj} {i:Nat} (hi:i<w.heap.size):(w.drew.alloc o).heap[i]? = w.heap[i]?:=Go.RowKit.Below.heap_alloc w.drew o i hi
theorem stp_new {w:World} {t:TypeId} {sz:Nat} {v v':Value} (o:Obj) (hv:v'.ownBlock=some w.heap.size):Stp w (w.drew.alloc o) t sz v v' :=
 ⟨fun i cur hc=>⟨cur,(drew_old (Array.getElem?_eq_some_iff.1 hc).1).trans hc,rfl,fun _ _=>rfl⟩,fun g hg=>.inr (by rw [hv] at hg; cases hg; exact Nat.le_refl _)⟩
theorem stp_room {w:World} {t:TypeId} {sz g n k cap:Nat} {cur:Array Value} {news:List Value} (hg:w.heap[g]? = some (.cells cur t (0,0))) (hfit:n*sz+news.length≤cur.size) (hk:n≤k) :
  Stp w (w.setRow g (cur.toList.take (n*sz)++news++cur.toList.drop (n*sz+news.length)).toArray) t sz (.slice (some ⟨g,0,none⟩) n cap) (.slice (some ⟨g,0,none⟩) k cap):=by
 refine ⟨fun i c hc=>?_,fun g' hg'=>.inl ⟨hg',hk⟩⟩
 by_cases e:i=g
 ·subst e
  rw [hg] at hc
  obtain rfl:cur=c:=by simpa using hc
  refine ⟨_,setRow_heap w i cur _ t _ hg,by simp; omega,fun j hj=>?_⟩
  have hj':j<n*sz:=hj rfl
  rw [List.getElem?_toArray,List.append_assoc,List.getElem?_append_left (by simp; omega),List.getElem?_take,if_pos hj']
  simp
 ·exact ⟨c,(setRow_other w g i _ e).trans hc,rfl,fun _ _=>rfl⟩
section
variable {P:Program} (w:World)
theorem run_append_stp (base:Nat) (t ty e:TypeId) (i:TypeInfo) (z:Value) (size bytes:Nat) (ht:P.underlying t=some (.slice e)) (hi:P.info? e=some i) (hz:i.zero=some z)
  (hsize:i.size=size) (hby:i.bytes=bytes) (hsz:0<size)
  (v:Value) (n:Nat) (xs:List Value) (hown:w.ownsRow base e size v n xs)
  (a:Addr) (m c:Nat) (news:List Value) (hl:news.length=m*size) (hnews : ∀ j u,news[j]? = some u→w.cell? (a.add j)=some u) (h1 : ∀ u∈news,u.oneCell'=true)
  (h63:n+m≤maxLen) (hbytes:(n+m)*bytes≤140737488355328) (v':Value) (w':World) (hr:(Builtin.append_ #[t,t] ty #[v,.slice (some a) m c]).run P w=.ok v' w') (hm:0<m):Stp w w' e size v v':=by
 subst hsize
 subst hby
 have hsmall:n+m≤9223372036854775807:=by simp only [maxLen] at h63; omega
 rcases hown.2 with ⟨rfl,rfl⟩ | ⟨g,cap,cur,rfl,hbg,hg,hnc,hcm,hcs,htake⟩
 ·have q:=run_append_nil (P:=P) w t ty e i z ht hi hz a m c news hl hnews hm (by omega) (by simp only [Nat.zero_add] at hbytes; omega)
  rw [q] at hr
  cases hr
  exact stp_new _ rfl
 ·by_cases hroom:n+m≤cap
  ·have hfit:n*i.size+news.length≤cur.size:=by rw [hl,hcs,← Nat.add_mul]; exact Nat.mul_le_mul_right _ hroom
   have q:=run_append_room (P:=P) w t ty e i ht hi g n cap cur hg a m c news hl hnews h1 hroom hfit
   rw [q] at hr
   cases hr
   exact stp_room hg hfit (by omega)
  ·have holds:=hown.cells (g:=g) rfl
   have q:=run_append_grow (P:=P) w t ty e i z ht hi hz ⟨g,0,none⟩ n cap xs hown.1 holds a m c news hl hnews (by omega) (by omega) (growslice_fits (by omega) hbytes)
   rw [q] at hr
   cases hr
   exact stp_new _ rfl
theorem run_append_stp_string (base:Nat) (t u ty e:TypeId) (i:TypeInfo) (ht:P.underlying t=some (.slice e)) (hu:P.underlying u=some .string) (hi:P.info? e=some i) (hz:i.zero=some (.int .u8 0))
  (hsize:i.size=1) (hby:i.bytes=1) (v:Value) (n:Nat) (xs:List Value) (hown:w.ownsRow base e 1 v n xs) (s:ByteArray)
  (h63:n+s.size≤maxLen) (hbytes:n+s.size≤140737488355328) (v':Value) (w':World) (hr:(Builtin.append_ #[t,u] ty #[v,.string s]).run P w=.ok v' w'):Stp w w' e 1 v v':=by
 have hsmall:n+s.size≤9223372036854775807:=by simp only [maxLen] at h63; omega
 have hxl:xs.length=n:=by simpa using hown.1
 rcases hown.2 with ⟨rfl,rfl⟩ | ⟨g,cap,cur,rfl,hbg,hg,hnc,hcm,hcs,htake⟩
 ·by_cases hm:s.size=0
  ·have hf:=Lib.run_firstCells_string (P:=P) w 1 s
   rw [hm] at hf
   have q:(Builtin.append_ #[t,u] ty #[.slice none 0 0,.string s]).run P w=.ok (.slice none 0 0) w:=by
    simp [Builtin.append_,run_underlying ht,run_underlying hu,sizeOf,typeInfo,hi,hsize,Builtin.lenOf,hm,hf]
   rw [q] at hr
   cases hr
   exact Stp.refl _ _ _ _
  ·have q:=run_append_nil_string (P:=P) w t u ty e i (.int .u8 0) ht hu hi hz s (by omega) (by omega) (by rw [hby]; omega)
   rw [q] at hr
   cases hr
   exact stp_new _ rfl
 ·have hcs':cur.size=cap:=by simpa using hcs
  by_cases hroom:n+s.size≤cap
  ·have q:=Lib.run_append_room_string (P:=P) w t u ty e i ht hu hi hsize g n cap cur hg s hroom (by omega)
   rw [q] at hr
   cases hr
   have:=stp_room (sz:=1) (n:=n) (k:=n+s.size) (cap:=cap) (news:=Lib.strCells s) hg (by rw [Lib.strCells_length]; omega) (by omega)
   rw [Nat.mul_one,Lib.strCells_length] at this
   exact this
  ·have holds:=hown.cells (g:=g) rfl
   have q:=Lib.run_append_grow_string (P:=P) w t u ty e i (.int .u8 0) ht hu hi hz ⟨g,0,none⟩ n cap xs (by rw [hsize]; simpa using hxl) holds s (by omega) (by omega) (by rw [hby]; exact growslice_fits (by omega) (by omega))
   rw [q] at hr
   cases hr
   exact stp_new _ rfl
theorem wpList_append_stp {ops:Array Oper} {rest:List Oper} {o:Oper} {a:Act} {Q:Exit→Act→World→Prop} (hgd:o.guard=none) (s x:Operand) (t:TypeId)
  (ho:o.op=.call { callee:=.builtin .append,args:=#[s,x],argTypes:=#[t,t] })
  (base:Nat) (e:TypeId) (i:TypeInfo) (z:Value) (size bytes:Nat) (ht:P.underlying t=some (.slice e)) (hi:P.info? e=some i) (hz:i.zero=some z)
  (hsize:i.size=size) (hby:i.bytes=bytes) (hzs:z.cells.size=size) (hsz:0<size)
  (v:Value) (n:Nat) (xs:List Value) (hs:a.eval s=v) (hown:w.ownsRow base e size v n xs)
  (ad:Addr) (m c:Nat) (news:List Value) (hm:0<m) (hx:a.eval x=.slice (some ad) m c) (hl:news.length=m*size) (hnews : ∀ j u,news[j]? = some u→w.cell? (ad.add j)=some u) (h1 : ∀ u∈news,u.oneCell'=true)
  (h63:n+m≤maxLen) (hbytes:(n+m)*bytes≤140737488355328) (hbase:base≤w.heap.size)
  (h : ∀ v' w',w'.ownsRow base e size v' (n+m) (xs++news)→w.grownBy w' v.ownBlock→Stp w w' e size v v'→(v'.ownBlock=v.ownBlock∨v'.ownBlock=some w.heap.size)→wpList P ops Q rest (a.put o.dst v') w') :
  wpList P ops Q (o :: rest) a w:=by
 refine wpList_plain hgd fun K hK=>?_
 obtain ⟨v',w',hr,h2,h3,_,h5⟩:=run_append_own_at (P:=P) w base t o.type e i z size bytes ht hi hz hsize hby hzs hsz v n xs hown ad m c news hl hnews h1 h63 hbytes hbase
 have h4:=run_append_stp (P:=P) w base t o.type e i z size bytes ht hi hz hsize hby hsz v n xs hown ad m c news hl hnews h1 h63 hbytes v' w' hr hm
 unfold Oper.wp execOp
 simp only [ho,resolve,invoke,builtin,Sem.run_bind,Sem.run_pure,Result.andThen_ok,List.map_toArray,List.map_cons,List.map_nil,hs,hx,hr]
 exact hK _ _ (h v' w' h2 h3 h4 h5)
theorem wpList_append_stp_string {ops:Array Oper} {rest:List Oper} {o:Oper} {a:Act} {Q:Exit→Act→World→Prop} (hgd:o.guard=none) (sl x:Operand) (t u:TypeId)
  (ho:o.op=.call { callee:=.builtin .append,args:=#[sl,x],argTypes:=#[t,u] })
  (base:Nat) (e:TypeId) (i:TypeInfo) (ht:P.underlying t=some (.slice e)) (hu:P.underlying u=some .string) (hi:P.info? e=some i) (hz:i.zero=some (.int .u8 0))
  (hsize:i.size=1) (hby:i.bytes=1)
  (v:Value) (n:Nat) (xs:List Value) (hs:a.eval sl=v) (hown:w.ownsRow base e 1 v n xs) (s:ByteArray) (hx:a.eval x=.string s)
  (h63:n+s.size≤maxLen) (hbytes:n+s.size≤140737488355328) (hbase:base≤w.heap.size)
  (h : ∀ v' w',w'.ownsRow base e 1 v' (n+s.size) (xs++Lib.strCells s)→w.grownBy w' v.ownBlock→Stp w w' e 1 v v'→wpList P ops Q rest (a.put o.dst v') w'):wpList P ops Q (o :: rest) a w:=by
 refine wpList_plain hgd fun K hK=>?_
 obtain ⟨v',w',hr,h2,h3,_⟩:=Lib.run_append_own_string (P:=P) w base t u o.type e i ht hu hi hz hsize hby v n xs hown s h63 hbytes hbase
 have h4:=run_append_stp_string (P:=P) w base t u o.type e i ht hu hi hz hsize hby v n xs hown s h63 hbytes v' w' hr
 unfold Oper.wp execOp
 simp only [ho,resolve,invoke,builtin,Sem.run_bind,Sem.run_pure,Result.andThen_ok,List.map_toArray,List.map_cons,List.map_nil,hs,hx,hr]
 exact hK _ _ (h v' w' h2 h3 h4)
end
end Go.Proofs.YtkkpahmoljiepaaGreatDoor

set_option maxRecDepth 1000000
set_option maxHeartbeats 12800000
namespace Go.Proofs.YtkkpahmoljiepaaGreatDoor
open Go.RowKit
open Pu (Str aH aU)
def MsgAt (w:World) (b:Nat) (vb vp:Value):Prop:=w.heap[b]? = some (.cells #[vb,vp] 283)
section
variable {w:World} {b:Nat} {vb vp:Value}
theorem MsgAt.lt (h:MsgAt w b vb vp):b<w.heap.size:=(Array.getElem?_eq_some_iff.1 h).1
theorem MsgAt.cells (h:MsgAt w b vb vp):w.cell? ⟨b,0,none⟩=some vb∧w.cell? ⟨b,1,none⟩=some vp:=by
 unfold MsgAt at h
 constructor <;> simp [World.cell?,h]
theorem MsgAt.frozen (h:MsgAt w b vb vp) (i:Nat):w.frozen? ⟨b,i,none⟩=false:=by
 unfold MsgAt at h; simp [World.frozen?,h]
theorem MsgAt.set0 (h:MsgAt w b vb vp) (v:Value):MsgAt (w.setCell ⟨b,0,none⟩ v) b v vp:=by
 unfold MsgAt at *; simp only [World.setCell]; rw [Array.getElem?_modify,if_pos rfl,h]; rfl
theorem MsgAt.set1 (h:MsgAt w b vb vp) (v:Value):MsgAt (w.setCell ⟨b,1,none⟩ v) b vb v:=by
 unfold MsgAt at *; simp only [World.setCell]; rw [Array.getElem?_modify,if_pos rfl,h]; rfl
theorem MsgAt.kept {w':World} (h:MsgAt w b vb vp) (hb:w'.heap[b]? = w.heap[b]?):MsgAt w' b vb vp:=hb.trans h
end
theorem stp_msg {w:World} {mb:Nat} {vb vp:Value} {t:TypeId} (hm:MsgAt w mb vb vp) (ht:t≠283) (o:Nat) (u v:Value) (sz:Nat):Stp w (w.setCell ⟨mb,o,none⟩ u) t sz v v :=
 Stp.same v sz fun i cur hc=>Below.heap_setCell _ _ _ _ fun e=>by
  have e':i=mb:=e
  rw [e',hm] at hc
  simp at hc
  exact ht hc.2.symm
theorem stp_alloc (w:World) (o:Obj) (t:TypeId) (sz:Nat) (v:Value):Stp w (w.alloc o) t sz v v :=
 Stp.same v sz fun _ _ hc=>Below.heap_alloc _ _ _ (Array.getElem?_eq_some_iff.1 hc).1
def OwnB (w:World) (base:Nat) (v:Value) (l:Str):Prop:=w.ownsRow base 5 1 v l.length (l.map fun c=>.int .u8 c.toNat)
namespace Wi
open Ka Wa Wb Wc Wd We Wf Wg Wh Re
theorem infoB:(Tryz.prog.info? 5).map (fun i=>(i.zero,i.size,i.bytes))=some (some (.int .u8 0),1,1):=by kernel_rfl
theorem underB:Tryz.prog.underlying 58=some (.slice 5):=by kernel_rfl
theorem aS {w:World} {base d:Nat} {t:TypeId} {sz n:Nat} {v:Value} {xs:List Value} (h:w.ownsRow base t sz v n xs) (hd:some d≠v.ownBlock) (o:Nat) (u:Value):(w.setCell ⟨d,o,none⟩ u).ownsRow base t sz v n xs:=by
 obtain ⟨h1,h2⟩:=h
 refine ⟨h1,?_⟩
 rcases h2 with h2 | ⟨g,cap,cur,rfl,hb,hcur,hr⟩
 ·exact .inl h2
 ·exact .inr ⟨g,cap,cur,rfl,hb,(Below.heap_setCell _ _ _ _ (by show g≠d; intro e; subst e; exact hd rfl)).trans hcur,hr⟩
theorem msg_ne {w:World} {mb base:Nat} {vb vp v:Value} {l:Str} (hm:MsgAt w mb vb vp) (ho:OwnB w base v l):some mb≠v.ownBlock:=fun e=>by
 obtain ⟨_,⟨rfl,_⟩ | ⟨g,cap,cur,rfl,_,hcur,_⟩⟩:=ho
 ·simp [Value.ownBlock] at e
 ·simp only [Value.ownBlock,Option.some.injEq] at e
  subst e
  rw [hm] at hcur
  simp at hcur
theorem own_slice {w:World} {base:Nat} {t:TypeId} {sz n:Nat} {v:Value} {xs:List Value} (h:w.ownsRow base t sz v n xs) : ∃ a m c,v=.slice a m c:=by
 obtain ⟨_,⟨rfl,_⟩ | ⟨g,cap,cur,rfl,_⟩⟩:=h
 ·exact ⟨_,_,_,rfl⟩
 ·exact ⟨_,_,_,rfl⟩
theorem octet_w (mb base:Nat) (c:UInt8) (vb vp:Value) (l:Str) (w:World) (hm:MsgAt w mb vb vp) (ho:OwnB w base vb l) (hbs:base≤w.heap.size) (hl:l.length≤1000000) :
  Calls Tryz.prog 341 #[.int .u8 c.toNat,.pointer (some ⟨mb,0,none⟩)] w fun e w' =>
   e=.returned (.tuple #[])∧∃ vb',MsgAt w' mb vb' vp∧OwnB w' base vb' (l++[c])∧(vb'.ownBlock=vb.ownBlock∨∃ g,vb'.ownBlock=some g∧w.heap.size≤g)∧Stp w w' 5 1 vb vb'∧Fr (fun i=>i≠mb∧some i≠vb.ownBlock) w w':=by
 obtain ⟨i0,hi,hz0,hz1,hz2⟩:=info_parts infoB
 have hc0:=hm.cells.1
 have HM:=aH hm
 have HO:=aH ho
 have hlt:=hm.lt
 clear hm ho
 go_enter Tryz.func341,Tryz.ntmps341
 go_wp2_with (at_builtin; go_loud (refine wpList_append_stp _ rfl (.tmp 8) (.tmp 10) 58 rfl base 5 i0 (.int .u8 0) 1 1 underB hi hz0 hz1 hz2 rfl (by decide) _ l.length _ rfl ((aU HO).alloc _) ⟨w.heap.size,0,none⟩ 1 1 [.int .u8 c.toNat] (by decide) rfl rfl ?c1 ?c2 ?c3 ?c4 ?c5 ?_))
 case c1 =>
  intro j u hj
  match j,hj with
  | 0,hj=>simp at hj; subst hj; simp [Addr.add]
  | n+1,hj=>simp at hj
 case c2=>intro u hu; simp at hu; subst hu; rfl
 case c3=>unfold maxLen; omega
 case c4=>omega
 case c5=>simp; omega
 intro v' w3 hown' hgrow hstp hat
 obtain ⟨va,vn,vc,rfl⟩:=own_slice hown'
 have HO3:Hid (OwnB w3 base (.slice va vn vc) (l++[c])):=by
  unfold Hid OwnB
  rw [List.length_append,List.map_append]
  exact hown'
 have hblk : ∀ i,i<w.heap.size→some i≠vb.ownBlock→w3.heap[i]? = w.heap[i]?:=fun i hi hne =>
  (hgrow.block i (by simp; omega) hne).trans (Below.heap_alloc _ _ _ hi)
 have hne:some mb≠vb.ownBlock:=msg_ne (aU HM) (aU HO)
 have HM3:=aH ((aU HM).kept (hblk mb hlt hne))
 have HF3:Hid (Fr (fun i=>i≠mb∧some i≠vb.ownBlock) w w3) :=
  ⟨hgrow.os,hgrow.tape,hgrow.output,Nat.le_trans (by simp) hgrow.size,fun i hi hp=>hblk i hi hp.2⟩
 have HA:Hid ((Value.slice va vn vc).ownBlock=vb.ownBlock∨∃ g,(Value.slice va vn vc).ownBlock=some g∧w.heap.size≤g):=by
  rcases hat with h | h
  ·exact .inl h
  ·exact .inr ⟨_,h,by simp⟩
 have HSTP:Hid (Stp w w3 5 1 vb (.slice va vn vc)):=(stp_alloc w _ _ _ _).trans hstp (by simp)
 have hfz:=(aU HM3).frozen
 have hc:=(aU HM3).cells.1
 clear hown' hgrow hstp hat hblk hne HM HO
 go_wp2_with fail
 refine bodyPost_end (v:=.tuple #[]) (by simp [results,Tryz.results341]) rfl ?_
 refine ⟨rfl,_,(aU HM3).set0 _,?_,aU HA,(aU HSTP).trans (stp_msg (aU HM3) (by decide) _ _ _ _) (aU HF3).size,(aU HF3).trans (Fr.of_set _ fun i h=>h.1)⟩
 exact aS (aU HO3) (msg_ne (aU HM3) (aU HO3)) _ _
end Wi
end Go.Proofs.YtkkpahmoljiepaaGreatDoor
