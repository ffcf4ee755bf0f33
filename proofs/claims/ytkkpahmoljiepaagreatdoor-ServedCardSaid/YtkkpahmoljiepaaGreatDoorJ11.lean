/- Contracts: wire's readQuestion. -/
import Derived.Test.YtkkpahmoljiepaaGreatDoorJ08
import Derived.Test.YtkkpahmoljiepaaGreatDoorJ10
import Derived.Maps.AppendAt
import Derived.Lib.AppendStr
import Derived.Laws.OwnMore
set_option linter.unusedSimpArgs false
set_option linter.unusedVariables false
set_option maxRecDepth 1000000
set_option maxHeartbeats 12800000
namespace Go.Proofs.YtkkpahmoljiepaaGreatDoor
open Go.RowKit
open Pu (Str aH aU)
def QAt (w:World) (b:Nat) (h0 h1 h2 h3 h4 h5:Int) (q n:Str) (k c:Int) (opt:Bool) (sz ver:Int):Prop :=
 w.heap[b]? = some (.cells #[.int .i64 h0,.int .i64 h1,.int .i64 h2,.int .i64 h3,.int .i64 h4,.int .i64 h5,.string (B q),.string (B n),.int .i64 k,.int .i64 c,.bool opt,.int .i64 sz,.int .i64 ver] 137)
section
variable {w:World} {b:Nat} {h0 h1 h2 h3 h4 h5:Int} {q n:Str} {k c:Int} {opt:Bool} {sz ver:Int}
theorem QAt.lt (h:QAt w b h0 h1 h2 h3 h4 h5 q n k c opt sz ver):b<w.heap.size:=(Array.getElem?_eq_some_iff.1 h).1
theorem QAt.frozen (h:QAt w b h0 h1 h2 h3 h4 h5 q n k c opt sz ver) (i:Nat):w.frozen? ⟨b,i,none⟩=false:=by
 unfold QAt at h; simp [World.frozen?,h]
theorem QAt.cells (h:QAt w b h0 h1 h2 h3 h4 h5 q n k c opt sz ver) :
  w.cell? ⟨b,0,none⟩=some (.int .i64 h0)∧w.cell? ⟨b,1,none⟩=some (.int .i64 h1)∧w.cell? ⟨b,2,none⟩=some (.int .i64 h2)∧w.cell? ⟨b,3,none⟩=some (.int .i64 h3)∧w.cell? ⟨b,4,none⟩=some (.int .i64 h4)∧w.cell? ⟨b,5,none⟩=some (.int .i64 h5) ∧
  w.cell? ⟨b,6,none⟩=some (.string (B q))∧w.cell? ⟨b,7,none⟩=some (.string (B n))∧w.cell? ⟨b,8,none⟩=some (.int .i64 k)∧w.cell? ⟨b,9,none⟩=some (.int .i64 c)∧w.cell? ⟨b,10,none⟩=some (.bool opt)∧w.cell? ⟨b,11,none⟩=some (.int .i64 sz)∧w.cell? ⟨b,12,none⟩=some (.int .i64 ver):=by
 unfold QAt at h
 refine ⟨?_,?_,?_,?_,?_,?_,?_,?_,?_,?_,?_,?_,?_⟩ <;> simp [World.cell?,h]
theorem QAt.set6 (h:QAt w b h0 h1 h2 h3 h4 h5 q n k c opt sz ver) (x:Str):QAt (w.setCell ⟨b,6,none⟩ (.string (B x))) b h0 h1 h2 h3 h4 h5 x n k c opt sz ver:=by
 unfold QAt at *; simp only [World.setCell]; rw [Array.getElem?_modify,if_pos rfl,h]; rfl
theorem QAt.set7 (h:QAt w b h0 h1 h2 h3 h4 h5 q n k c opt sz ver) (x:Str):QAt (w.setCell ⟨b,7,none⟩ (.string (B x))) b h0 h1 h2 h3 h4 h5 q x k c opt sz ver:=by
 unfold QAt at *; simp only [World.setCell]; rw [Array.getElem?_modify,if_pos rfl,h]; rfl
theorem QAt.set8 (h:QAt w b h0 h1 h2 h3 h4 h5 q n k c opt sz ver) (x:Int):QAt (w.setCell ⟨b,8,none⟩ (.int .i64 x)) b h0 h1 h2 h3 h4 h5 q n x c opt sz ver:=by
 unfold QAt at *; simp only [World.setCell]; rw [Array.getElem?_modify,if_pos rfl,h]; rfl
theorem QAt.set9 (h:QAt w b h0 h1 h2 h3 h4 h5 q n k c opt sz ver) (x:Int):QAt (w.setCell ⟨b,9,none⟩ (.int .i64 x)) b h0 h1 h2 h3 h4 h5 q n k x opt sz ver:=by
 unfold QAt at *; simp only [World.setCell]; rw [Array.getElem?_modify,if_pos rfl,h]; rfl
theorem QAt.kept {w':World} (h:QAt w b h0 h1 h2 h3 h4 h5 q n k c opt sz ver) (hb:w'.heap[b]? = w.heap[b]?):QAt w' b h0 h1 h2 h3 h4 h5 q n k c opt sz ver:=hb.trans h
end
namespace Wf
open Ka Wa Wb Wc Wd We Re
theorem strsV_of_own {w:World} {base:Nat} {v:Value} {ls:List Str} (h:StrsOwn w base v ls):StrsV w v ls:=by
 obtain ⟨⟨h1,h2⟩,h3⟩:=h
 rcases h2 with ⟨hv,_⟩ | ⟨g,cap,cur,hv,hb,hcur,hn,hm,hs,ht⟩
 ·exact .inl ⟨hv,h3.1 hv⟩
 ·refine .inr ⟨g,cap,hv,hn,(Array.getElem?_eq_some_iff.1 hcur).1,fun j hj=>?_⟩
  have e:cur.toList[j]? = (ls.map fun l=>Value.string (B l))[j]?:=by
   rw [← ht,List.getElem?_take]
   rw [if_pos (by omega)]
  simp only [World.cell?,hcur]
  rw [← Array.getElem?_toList,e]
  simp [hj]
theorem takP_le (s:Str) (br:Bool) (n:Nat):(takP s br n).1.length≤n:=by unfold takP; split <;> simp; omega
theorem labGo_ok : ∀ (f n:Nat) (s:Str) (br:Bool) (size:Nat) (acc:List Str),(∀ l∈acc,l.length≤63)→acc.length≤size→size≤255 →
  (∀ l∈(labGo f n s br size acc).1,l.length≤63)∧(labGo f n s br size acc).1.length≤255∧(labGo f n s br size acc).2.1.length≤s.length
 | 0,n,s,br,size,acc,h1,h2,h3=>⟨h1,by simp only [labGo]; omega,Nat.le_refl _⟩
 | f+1,n,s,br,size,acc,h1,h2,h3=>by
  rw [labGo]
  split
  ·exact ⟨h1,by simp only; omega,Nat.le_refl _⟩
  ·split
   ·exact ⟨by simp,by simp,Nat.le_refl _⟩
   ·rename_i hn hb
    have:=labGo_ok f (octP (takP s br n).2.1 (takP s br n).2.2).1 (octP (takP s br n).2.1 (takP s br n).2.2).2.1 (octP (takP s br n).2.1 (takP s br n).2.2).2.2 (size+1+n) (acc++[(takP s br n).1]) ?_ (by simp; omega) (by omega)
    ·exact ⟨this.1,this.2.1,Nat.le_trans this.2.2 (Nat.le_trans (octP_len _ _) (takP_len _ _ _))⟩
    ·intro l hl
     rcases List.mem_append.1 hl with hl | hl
     ·exact h1 l hl
     ·rw [List.mem_singleton.1 hl]
      have:=takP_le s br n
      omega
theorem labP_ok (s:Str) (br:Bool):(∀ l∈(labP s br).1,l.length≤63)∧(labP s br).1.length≤255∧(labP s br).2.1.length≤s.length:=by
 have:=labGo_ok 256 (octP s br).1 (octP s br).2.1 (octP s br).2.2 1 [] (by simp) (by simp) (by omega)
 exact ⟨this.1,this.2.1,Nat.le_trans this.2.2 (octP_len _ _)⟩
theorem readQuestion_any (qb rb:Nat) (s:Str) (br:Bool) (w:World) {h0 h1 h2 h3 h4 h5:Int} {q n:Str} {k c:Int} {opt:Bool} {sz ver:Int}
  (hq:QAt w qb h0 h1 h2 h3 h4 h5 q n k c opt sz ver) (hr:RdAt w rb s br) (hne:qb≠rb) (hl:s.length≤1000000000)
  {ls:List Str} {k' c':Nat} {s1 s2 s3:Str} {br1 br2 br3:Bool} (e1:labP s br=(ls,s1,br1)) (e2:shortP s1 br1=(k',s2,br2)) (e3:shortP s2 br2=(c',s3,br3)) :
  Calls Tryz.prog 133 #[.pointer (some ⟨qb,0,none⟩),.pointer (some ⟨rb,0,none⟩)] w fun e w' =>
   e=.returned (.tuple #[])∧QAt w' qb h0 h1 h2 h3 h4 h5 (s.take (s.length - s3.length)) (nameP ls) k' c' opt sz ver∧RdAt w' rb s3 br3∧Fr (fun i=>i≠qb∧i≠rb) w w':=by
 have HC1:=aH (labels_any rb s br w hr hl)
 have hok:=labP_ok s br
 rw [e1] at hok
 rw [Hid,e1] at HC1
 obtain ⟨ok1,ok2,ok3⟩:=hok
 simp only at HC1 ok1 ok2 ok3
 have l2:=shortP_len s1 br1
 have l3:=shortP_len s2 br2
 rw [e2] at l2
 rw [e3] at l3
 simp only at l2 l3
 have hc0:=hr.cells.1
 have HQ:=aH hq
 have HE2:=aH e2
 have HE3:=aH e3
 have HOK:=aH ok1
 have hlt:=hq.lt
 clear hq hr e1 e2 e3 ok1
 go_enter Tryz.func133,Tryz.ntmps133
 go_wp2_with fail
 refine HC1.mono ?_
 rintro e w1 ⟨v,rfl,hv,hr1,hk1⟩
 have HC2:=aH (fromLabels_any v ls w1 (strsV_of_own hv) (by omega) (fun l hl=>by have:=aU HOK l hl; omega))
 have HQ1:=aH ((aU HQ).kept (hk1.block qb hlt hne))
 have HR1:=aH hr1
 have HF1:Hid (Fr (fun i=>i≠qb∧i≠rb) w w1):=(Fr.of_keeps hk1).mono fun i _ h=>h.2
 clear hv hr1 hk1 HC1
 go_wp2_with fail
 refine (aU HC2).mono ?_
 rintro e w2 ⟨rfl,hb2⟩
 have HQ2:=aH ((aU HQ1).kept (hb2.block qb (aU HQ1).lt))
 have HR2:Hid (RdAt w2 rb s1 br1):=(hb2.block rb (aU HR1).lt).trans (aU HR1)
 have HF2:Hid (Fr (fun i=>i≠qb∧i≠rb) w w2):=(aU HF1).trans (Fr.of_below hb2)
 have hfz:=(aU HQ2).frozen
 have hc7:=(aU HQ2).cells.2.2.2.2.2.2.2.1
 clear hb2 HC2 HQ1 HR1 HF1
 go_wp2_with fail
 have HQ3:=aH ((aU HQ2).set7 (nameP ls))
 have HR3:Hid (RdAt (w2.setCell ⟨qb,7,none⟩ (.string (B (nameP ls)))) rb s1 br1):=(Below.heap_setCell _ _ _ _ (by show rb≠qb; omega)).trans (aU HR2)
 have HF3:Hid (Fr (fun i=>i≠qb∧i≠rb) w (w2.setCell ⟨qb,7,none⟩ (.string (B (nameP ls))))):=(aU HF2).trans (Fr.of_set _ fun i h=>h.1)
 clear HQ2 HR2 HF2 hc7 hfz
 generalize w2.setCell ⟨qb,7,none⟩ (.string (B (nameP ls)))=w3 at *
 have HC3:=short_any rb s1 br1 w3 (aU HR3) (by omega)
 rw [aU HE2] at HC3
 refine HC3.mono ?_
 rintro e w4 ⟨rfl,hr4,hk4,hs4⟩
 have HQ4:=aH ((aU HQ3).kept (hk4.block qb (aU HQ3).lt hne))
 have HR4:=aH hr4
 have HF4:Hid (Fr (fun i=>i≠qb∧i≠rb) w w4):=(aU HF3).trans ((Fr.of_keeps hk4).mono fun i _ h=>h.2)
 clear hr4 hk4 hs4 HC3 HQ3 HR3 HF3
 go_wp2_with fail
 have HC4:=short_any rb s2 br2 w4 (aU HR4) (by omega)
 rw [aU HE3] at HC4
 refine HC4.mono ?_
 rintro e w5 ⟨rfl,hr5,hk5,hs5⟩
 have HQ5:=aH ((aU HQ4).kept (hk5.block qb (aU HQ4).lt hne))
 have HR5:Hid (RdAt w5 rb s3 br3):=hr5
 have HF5:Hid (Fr (fun i=>i≠qb∧i≠rb) w w5):=(aU HF4).trans ((Fr.of_keeps hk5).mono fun i _ h=>h.2)
 clear hr5 hk5 hs5 HC4 HQ4 HR4 HF4
 have hfz:=(aU HQ5).frozen
 obtain ⟨-,-,-,-,-,-,hc6,-,hc8,hc9,-,-,-⟩:=(aU HQ5).cells
 have hcr:=(aU HR5).cells.1
 have hs:(B s).size=s.length:=size_B s
 have hs3:(B s3).size=s3.length:=size_B s3
 have hsub:(s.length:Int) - s3.length=((s.length - s3.length:Nat):Int):=by omega
 have hle:s.length - s3.length≤s.length:=by omega
 have HT:=aH (B_take s (s.length - s3.length) hle)
 have hne':rb≠qb:=fun e=>hne e.symm
 generalize hd:s.length - s3.length=d at *
 go_wp2_with fail
 refine bodyPost_end (v:=.tuple #[]) (by simp [results,Tryz.results133]) rfl ?_
 rw [aU HT,hd]
 refine ⟨rfl,(((aU HQ5).set8 _).set9 _).set6 _,?_,(((aU HF5).trans (Fr.of_set _ fun i h=>h.1)).trans (Fr.of_set _ fun i h=>h.1)).trans (Fr.of_set _ fun i h=>h.1)⟩
 exact (Below.heap_setCell _ _ _ _ (by show rb≠qb; omega)).trans ((Below.heap_setCell _ _ _ _ (by show rb≠qb; omega)).trans ((Below.heap_setCell _ _ _ _ (by show rb≠qb; omega)).trans (aU HR5)))
end Wf
def qVal (h0 h1 h2 h3 h4 h5:Int) (q n:Str) (k c:Int) (opt:Bool) (sz ver:Int):Value :=
 .agg #[.int .i64 h0,.int .i64 h1,.int .i64 h2,.int .i64 h3,.int .i64 h4,.int .i64 h5,.string (B q),.string (B n),.int .i64 k,.int .i64 c,.bool opt,.int .i64 sz,.int .i64 ver]
namespace Wg
open Ka Wa Wb Wc Wd We Wf Re
theorem equal4 (W:World):(Op.equalIn 10000 131 (.agg #[.int .i64 1,.int .i64 0,.int .i64 0,.int .i64 0]) (.agg #[.int .i64 1,.int .i64 0,.int .i64 0,.int .i64 0])).run Tryz.prog W=.ok true W:=by kernel_rfl
def qW (w:World) (id bits:Int) (s:Str):World :=
 (((w.alloc (.cells #[.int .i64 id,.int .i64 bits,.int .i64 1,.int .i64 0,.int .i64 0,.int .i64 0] 133)).alloc
   (.cells #[.int .i64 0,.int .i64 0,.int .i64 0,.int .i64 0,.int .i64 0,.int .i64 0,.string ⟨#[]⟩,.string ⟨#[]⟩,.int .i64 0,.int .i64 0,.bool false,.int .i64 0,.int .i64 0] 137)).alloc
   (.cells #[.int .i64 id,.int .i64 bits,.int .i64 1,.int .i64 0,.int .i64 0,.int .i64 0,.string ⟨#[]⟩,.string ⟨#[]⟩,.int .i64 0,.int .i64 0,.bool false,.int .i64 0,.int .i64 0] 137)).alloc
   (.cells #[.string (B s),.bool false] 215)
theorem qW_ok (w:World) (id bits:Int) (s:Str):QAt (qW w id bits s) (w.heap.size+1+1) id bits 1 0 0 0 [] [] 0 0 false 0 0∧QAt (qW w id bits s) (w.heap.size+1) 0 0 0 0 0 0 [] [] 0 0 false 0 0∧RdAt (qW w id bits s) (w.heap.size+1+1+1) s false∧Below w.heap.size w (qW w id bits s):=by
 refine ⟨?_,?_,?_,?_⟩
 ·refine (Below.heap_alloc _ _ _ (by simp)).trans ?_
  have:=World.alloc_heap_new ((w.alloc (.cells #[.int .i64 id,.int .i64 bits,.int .i64 1,.int .i64 0,.int .i64 0,.int .i64 0] 133)).alloc (.cells #[.int .i64 0,.int .i64 0,.int .i64 0,.int .i64 0,.int .i64 0,.int .i64 0,.string ⟨#[]⟩,.string ⟨#[]⟩,.int .i64 0,.int .i64 0,.bool false,.int .i64 0,.int .i64 0] 137)) (.cells #[.int .i64 id,.int .i64 bits,.int .i64 1,.int .i64 0,.int .i64 0,.int .i64 0,.string ⟨#[]⟩,.string ⟨#[]⟩,.int .i64 0,.int .i64 0,.bool false,.int .i64 0,.int .i64 0] 137)
  simpa [B] using this
 ·refine (Below.heap_alloc _ _ _ (by simp)).trans ((Below.heap_alloc _ _ _ (by simp)).trans ?_)
  have:=World.alloc_heap_new (w.alloc (.cells #[.int .i64 id,.int .i64 bits,.int .i64 1,.int .i64 0,.int .i64 0,.int .i64 0] 133)) (.cells #[.int .i64 0,.int .i64 0,.int .i64 0,.int .i64 0,.int .i64 0,.int .i64 0,.string ⟨#[]⟩,.string ⟨#[]⟩,.int .i64 0,.int .i64 0,.bool false,.int .i64 0,.int .i64 0] 137)
  simpa [B] using this
 ·have:=World.alloc_heap_new (((w.alloc (.cells #[.int .i64 id,.int .i64 bits,.int .i64 1,.int .i64 0,.int .i64 0,.int .i64 0] 133)).alloc (.cells #[.int .i64 0,.int .i64 0,.int .i64 0,.int .i64 0,.int .i64 0,.int .i64 0,.string ⟨#[]⟩,.string ⟨#[]⟩,.int .i64 0,.int .i64 0,.bool false,.int .i64 0,.int .i64 0] 137)).alloc (.cells #[.int .i64 id,.int .i64 bits,.int .i64 1,.int .i64 0,.int .i64 0,.int .i64 0,.string ⟨#[]⟩,.string ⟨#[]⟩,.int .i64 0,.int .i64 0,.bool false,.int .i64 0,.int .i64 0] 137)) (.cells #[.string (B s),.bool false] 215)
  simpa [RdAt,qW] using this
 ·exact ((((Below.refl _ _).alloc (Nat.le_refl _) _).alloc (by simp) _).alloc (by simp; omega) _).alloc (by simp; omega) _
theorem readQuery_plain (id bits:Int) (m:Str) (w:World) (hm:12≤m.length) (hl:m.length≤1000000000)
  {ls:List Str} {k' c':Nat} {s1 s2 s3:Str} {br1 br2 br3:Bool} (e1:labP (m.drop 12) false=(ls,s1,br1)) (e2:shortP s1 br1=(k',s2,br2)) (e3:shortP s2 br2=(c',s3,br3)) :
  Calls Tryz.prog 72 #[.agg #[.int .i64 id,.int .i64 bits,.int .i64 1,.int .i64 0,.int .i64 0,.int .i64 0],.string (B m)] w fun e w' =>
   e=.returned (.tuple #[qVal id bits 1 0 0 0 ((m.drop 12).take ((m.drop 12).length - s3.length)) (nameP ls) k' c' false 0 0,.bool (!br3 && s3.isEmpty)])∧Below w.heap.size w w':=by
 have hs:(B m).size=m.length:=size_B m
 have HD:=aH (B_drop m 12 _ rfl)
 have kq : ∀ W:World,(Op.equalIn 10000 131 (.agg #[.int .i64 1,.int .i64 0,.int .i64 0,.int .i64 0]) (.agg #[.int .i64 1,.int .i64 0,.int .i64 0,.int .i64 0])).run Tryz.prog W=.ok true W:=equal4
 have HE1:=aH e1
 have HE2:=aH e2
 have HE3:=aH e3
 clear e1 e2 e3
 obtain ⟨hq0,ht0,hr0,hb0⟩:=qW_ok w id bits (m.drop 12)
 have HC:=aH (readQuestion_any (w.heap.size+1+1) (w.heap.size+1+1+1) (m.drop 12) false (qW w id bits (m.drop 12)) hq0 hr0 (by omega) (by simp; omega) (aU HE1) (aU HE2) (aU HE3))
 have HT0:=aH ht0
 have HB0:=aH hb0
 clear hq0 ht0 hr0 hb0
 go_enter Tryz.func72,Tryz.ntmps72
 go_wp2_with fail
 rw [aU HD]
 refine (aU HC).mono ?_
 rintro e w1 ⟨rfl,hq1,hr1,hf1⟩
 have HT1:=aH ((aU HT0).kept (hf1.block _ (aU HT0).lt ⟨by omega,by omega⟩))
 have HB1:Hid (Below w.heap.size w w1):=(aU HB0).trans (hf1.below (fun i hi=>⟨by omega,by omega⟩) (aU HB0).size)
 have HQ1:=aH hq1
 have HR1:=aH hr1
 clear hq1 hr1 hf1 HC HT0 HB0 kq
 generalize hqe:(m.drop 12).take ((m.drop 12).length - s3.length)=q at *
 generalize hnm:nameP ls=nm at *
 have HQE:=aH hqe
 have HNM:=aH hnm
 clear hqe hnm
 obtain ⟨c0,c1,c2,c3,c4,c5,c6,c7,c8,c9,c10,c11,c12⟩:=(aU HQ1).cells
 obtain ⟨d0,d1,d2,d3,d4,d5,d6,d7,d8,d9,d10,d11,d12⟩:=(aU HT1).cells
 have hfz:=(aU HT1).frozen
 obtain ⟨r0,r1⟩:=(aU HR1).cells
 go_wp2_with fail
 clear HE1 HE2 HE3 HD hm hl hs HQ1 HR1 HT1
 have ret : ∀ b:Bool,(!br3 && s3.isEmpty)=b→Ending.returned (.tuple #[qVal id bits 1 0 0 0 q nm k' c' false 0 0,.bool b])=.returned (.tuple #[qVal id bits 1 0 0 0 ((m.drop 12).take ((m.drop 12).length - s3.length)) (nameP ls) k' c' false 0 0,.bool (!br3 && s3.isEmpty)]):=fun b hb=>by
  rw [aU HQE,aU HNM,hb]
 have RET:=aH ret
 clear ret HQE HNM
 have HBS:=aH fun (W:World) (hW:Below w.heap.size w W) (o:Nat) (v:Value)=>hW.setCell (p:=⟨w.heap.size+1,o,none⟩) (by show w.heap.size≤w.heap.size+1; omega) v
 cases br3
 ·cases s3 with
  | nil =>
   have e1:B []=⟨#[]⟩:=rfl
   rw [e1] at r0
   go_region
   all_goals
    go_wp2
    refine bodyPost_ret (v:=.tuple #[qVal id bits 1 0 0 0 q nm k' c' false 0 0,.bool true]) (by simp [results,Tryz.results72,go_sem,qVal,d0,d1,d2,d3,d4,d5,d6,d7,d8,d9,d10,d11,d12]) rfl ⟨aU RET true rfl,?_⟩
    first | exact (aU HBS _ (aU HBS _ (aU HBS _ (aU HBS _ (aU HBS _ (aU HBS _ (aU HBS _ (aU HBS _ (aU HBS _ (aU HBS _ (aU HBS _ (aU HBS _ (aU HBS _ (aU HB1) _ _) _ _) _ _) _ _) _ _) _ _) _ _) _ _) _ _) _ _) _ _) _ _) _ _).drew | exact (aU HBS _ (aU HBS _ (aU HBS _ (aU HBS _ (aU HBS _ (aU HBS _ (aU HBS _ (aU HBS _ (aU HBS _ (aU HBS _ (aU HBS _ (aU HBS _ (aU HBS _ (aU HB1).drew _ _) _ _) _ _) _ _) _ _) _ _) _ _) _ _) _ _) _ _) _ _) _ _) _ _)
  | cons x t =>
   have e1:((B (x :: t)).toList == (⟨#[]⟩:ByteArray).toList)=false:=by rw [Kd.str_eq]; rfl
   have e2:(B (x :: t)).toList.isEmpty=false:=by rw [ByteArray.toList_eq]; rfl
   have e3 : ¬ (B (x :: t)).size=0:=by rw [size_B]; simp
   generalize B (x :: t)=bt at *
   go_region
   all_goals
    go_wp2
    refine bodyPost_ret (v:=.tuple #[qVal id bits 1 0 0 0 q nm k' c' false 0 0,.bool false]) (by simp [results,Tryz.results72,go_sem,qVal,d0,d1,d2,d3,d4,d5,d6,d7,d8,d9,d10,d11,d12]) rfl ⟨aU RET false rfl,?_⟩
    first | exact (aU HBS _ (aU HBS _ (aU HBS _ (aU HBS _ (aU HBS _ (aU HBS _ (aU HBS _ (aU HBS _ (aU HBS _ (aU HBS _ (aU HBS _ (aU HBS _ (aU HBS _ (aU HB1) _ _) _ _) _ _) _ _) _ _) _ _) _ _) _ _) _ _) _ _) _ _) _ _) _ _).drew | exact (aU HBS _ (aU HBS _ (aU HBS _ (aU HBS _ (aU HBS _ (aU HBS _ (aU HBS _ (aU HBS _ (aU HBS _ (aU HBS _ (aU HBS _ (aU HBS _ (aU HBS _ (aU HB1).drew _ _) _ _) _ _) _ _) _ _) _ _) _ _) _ _) _ _) _ _) _ _) _ _) _ _)
 ·go_region
  all_goals
   go_wp2
   refine bodyPost_ret (v:=.tuple #[qVal id bits 1 0 0 0 q nm k' c' false 0 0,.bool false]) (by simp [results,Tryz.results72,go_sem,qVal,d0,d1,d2,d3,d4,d5,d6,d7,d8,d9,d10,d11,d12]) rfl ⟨aU RET false rfl,?_⟩
   first | exact (aU HBS _ (aU HBS _ (aU HBS _ (aU HBS _ (aU HBS _ (aU HBS _ (aU HBS _ (aU HBS _ (aU HBS _ (aU HBS _ (aU HBS _ (aU HBS _ (aU HBS _ (aU HB1) _ _) _ _) _ _) _ _) _ _) _ _) _ _) _ _) _ _) _ _) _ _) _ _) _ _).drew | exact (aU HBS _ (aU HBS _ (aU HBS _ (aU HBS _ (aU HBS _ (aU HBS _ (aU HBS _ (aU HBS _ (aU HBS _ (aU HBS _ (aU HBS _ (aU HBS _ (aU HBS _ (aU HB1).drew _ _) _ _) _ _) _ _) _ _) _ _) _ _) _ _) _ _) _ _) _ _) _ _) _ _)
end Wg
namespace Wh
open Ka Wa Wb Wc Wd We Wf Wg Re
theorem isAskable_yes (k:Int) (w:World) (h1:(k != 0)=true) (h2:(k != 41)=true) (h3:k<249) :
  Calls Tryz.prog 140 #[.int .i64 k] w fun e w'=>e=.returned (.bool true)∧w'=w:=by
 go_enter Tryz.func140,Tryz.ntmps140
 go_wp2
 go_ret
 exact ⟨rfl,rfl⟩
def turnedP (b rc:Int):Int:=bits .or .i64 (bits .or .i64 32768 (bits .and .i64 b 30976)) (bits .and .i64 rc 15)
theorem turned_any (i b c0 c1 c2 c3 rc:Int) (w:World) :
  Calls Tryz.prog 132 #[.agg #[.int .i64 i,.int .i64 b,.int .i64 c0,.int .i64 c1,.int .i64 c2,.int .i64 c3],.int .i64 rc] w fun e w' =>
   e=.returned (.agg #[.int .i64 i,.int .i64 (turnedP b rc),.int .i64 0,.int .i64 0,.int .i64 0,.int .i64 0])∧Below w.heap.size w w':=by
 go_enter Tryz.func132,Tryz.ntmps132
 go_wp2
 refine bodyPost_ret (v:=.agg #[.int .i64 i,.int .i64 (turnedP b rc),.int .i64 0,.int .i64 0,.int .i64 0,.int .i64 0]) (by simp [results,Tryz.results132,go_sem,turnedP]) rfl ⟨rfl,?_⟩
 first | exact ((Below.refl _ _).alloc (Nat.le_refl _) _).alloc (by simp) _ | exact (((((((((Below.refl _ _).alloc (Nat.le_refl _) _).alloc (by simp) _).setCell (by show w.heap.size≤w.heap.size+1; omega) _).setCell (by show w.heap.size≤w.heap.size+1; omega) _).setCell (by show w.heap.size≤w.heap.size+1; omega) _).setCell (by show w.heap.size≤w.heap.size+1; omega) _).setCell (by show w.heap.size≤w.heap.size+1; omega) _).setCell (by show w.heap.size≤w.heap.size+1; omega) _)
theorem limit_plain (h0 h1 h2 h3 h4 h5:Int) (q n:Str) (k c sz ver:Int) (w:World) :
  Calls Tryz.prog 138 #[qVal h0 h1 h2 h3 h4 h5 q n k c false sz ver] w fun e w'=>e=.returned (.int .i64 512)∧Below w.heap.size w w':=by
 unfold qVal
 go_enter Tryz.func138,Tryz.ntmps138
 go_wp2
 go_ret
 exact ⟨rfl,(Below.refl _ _).alloc (Nat.le_refl _) _⟩
theorem last_plain (h0 h1 h2 h3 h4 h5:Int) (q n:Str) (k c sz ver rc:Int) (w:World) :
  Calls Tryz.prog 136 #[qVal h0 h1 h2 h3 h4 h5 q n k c false sz ver,.int .i64 rc] w fun e w'=>e=.returned (.string ⟨#[]⟩)∧Below w.heap.size w w':=by
 unfold qVal
 go_enter Tryz.func136,Tryz.ntmps136
 go_wp2
 go_ret
 exact ⟨rfl,(Below.refl _ _).alloc (Nat.le_refl _) _⟩
end Wh
def MsgAt (w:World) (b:Nat) (vb vp:Value):Prop:=w.heap[b]? = some (.cells #[vb,vp] 283)
section
variable {w:World} {b:Nat} {vb vp:Value}
theorem MsgAt.lt (h:MsgAt w b vb vp):b<w.heap.size:=(Array.getElem?_eq_some_iff.1 h).1
theorem MsgAt.cells (h:MsgAt w b vb vp):w.cell? ⟨b,0,none⟩=some vb∧w.cell? ⟨b,1,none⟩=some vp:=by
 unfold MsgAt at h
 constructor <;> simp [World.cell?,h]
theorem MsgAt.frozen (h:MsgAt w b vb vp) (i:Nat):w.frozen? ⟨b,i,none⟩=false:=by
 unfold MsgAt at h; simp [World.frozen?,h]
theorem MsgAt.set0 (h:MsgAt w b vb vp) (v:Value):MsgAt (w.setCell ⟨b,0,none⟩ v) b v vp:=by
 unfold MsgAt at *; simp only [World.setCell]; rw [Array.getElem?_modify,if_pos rfl,h]; rfl
theorem MsgAt.set1 (h:MsgAt w b vb vp) (v:Value):MsgAt (w.setCell ⟨b,1,none⟩ v) b vb v:=by
 unfold MsgAt at *; simp only [World.setCell]; rw [Array.getElem?_modify,if_pos rfl,h]; rfl
theorem MsgAt.kept {w':World} (h:MsgAt w b vb vp) (hb:w'.heap[b]? = w.heap[b]?):MsgAt w' b vb vp:=hb.trans h
end
def OwnB (w:World) (base:Nat) (v:Value) (l:Str):Prop:=w.ownsRow base 5 1 v l.length (l.map fun c=>.int .u8 c.toNat)
namespace Wi
open Ka Wa Wb Wc Wd We Wf Wg Wh Re
theorem infoB:(Tryz.prog.info? 5).map (fun i=>(i.zero,i.size,i.bytes))=some (some (.int .u8 0),1,1):=by kernel_rfl
theorem underB:Tryz.prog.underlying 58=some (.slice 5):=by kernel_rfl
theorem aS {w:World} {base d:Nat} {t:TypeId} {sz n:Nat} {v:Value} {xs:List Value} (h:w.ownsRow base t sz v n xs) (hd:some d≠v.ownBlock) (o:Nat) (u:Value):(w.setCell ⟨d,o,none⟩ u).ownsRow base t sz v n xs:=by
 obtain ⟨h1,h2⟩:=h
 refine ⟨h1,?_⟩
 rcases h2 with h2 | ⟨g,cap,cur,rfl,hb,hcur,hr⟩
 ·exact .inl h2
 ·exact .inr ⟨g,cap,cur,rfl,hb,(Below.heap_setCell _ _ _ _ (by show g≠d; intro e; subst e; exact hd rfl)).trans hcur,hr⟩
theorem msg_ne {w:World} {mb base:Nat} {vb vp v:Value} {l:Str} (hm:MsgAt w mb vb vp) (ho:OwnB w base v l):some mb≠v.ownBlock:=fun e=>by
 obtain ⟨_,⟨rfl,_⟩ | ⟨g,cap,cur,rfl,_,hcur,_⟩⟩:=ho
 ·simp [Value.ownBlock] at e
 ·simp only [Value.ownBlock,Option.some.injEq] at e
  subst e
  rw [hm] at hcur
  simp at hcur
theorem own_slice {w:World} {base:Nat} {t:TypeId} {sz n:Nat} {v:Value} {xs:List Value} (h:w.ownsRow base t sz v n xs) : ∃ a m c,v=.slice a m c:=by
 obtain ⟨_,⟨rfl,_⟩ | ⟨g,cap,cur,rfl,_⟩⟩:=h
 ·exact ⟨_,_,_,rfl⟩
 ·exact ⟨_,_,_,rfl⟩
theorem octet_w (mb base:Nat) (c:UInt8) (vb vp:Value) (l:Str) (w:World) (hm:MsgAt w mb vb vp) (ho:OwnB w base vb l) (hbs:base≤w.heap.size) (hl:l.length≤1000000) :
  Calls Tryz.prog 341 #[.int .u8 c.toNat,.pointer (some ⟨mb,0,none⟩)] w fun e w' =>
   e=.returned (.tuple #[])∧∃ vb',MsgAt w' mb vb' vp∧OwnB w' base vb' (l++[c])∧(vb'.ownBlock=vb.ownBlock∨∃ g,vb'.ownBlock=some g∧w.heap.size≤g)∧Fr (fun i=>i≠mb∧some i≠vb.ownBlock) w w':=by
 obtain ⟨i0,hi,hz0,hz1,hz2⟩:=info_parts infoB
 have hc0:=hm.cells.1
 have HM:=aH hm
 have HO:=aH ho
 have hlt:=hm.lt
 clear hm ho
 go_enter Tryz.func341,Tryz.ntmps341
 go_wp2_with (at_builtin; go_loud (refine wpList_append_own_at _ rfl (.tmp 8) (.tmp 10) 58 rfl base 5 i0 (.int .u8 0) 1 1 underB hi hz0 hz1 hz2 rfl (by decide) _ l.length _ rfl ((aU HO).alloc _) ⟨w.heap.size,0,none⟩ 1 1 [.int .u8 c.toNat] rfl rfl ?c1 ?c2 ?c3 ?c4 ?c5 ?_))
 case c1 =>
  intro j u hj
  match j,hj with
  | 0,hj=>simp at hj; subst hj; simp [Addr.add]
  | n+1,hj=>simp at hj
 case c2=>intro u hu; simp at hu; subst hu; rfl
 case c3=>unfold maxLen; omega
 case c4=>omega
 case c5=>simp; omega
 intro v' w3 hown' hgrow _ hat
 obtain ⟨va,vn,vc,rfl⟩:=own_slice hown'
 have HO3:Hid (OwnB w3 base (.slice va vn vc) (l++[c])):=by
  unfold Hid OwnB
  rw [List.length_append,List.map_append]
  exact hown'
 have hblk : ∀ i,i<w.heap.size→some i≠vb.ownBlock→w3.heap[i]? = w.heap[i]?:=fun i hi hne =>
  (hgrow.block i (by simp; omega) hne).trans (Below.heap_alloc _ _ _ hi)
 have hne:some mb≠vb.ownBlock:=msg_ne (aU HM) (aU HO)
 have HM3:=aH ((aU HM).kept (hblk mb hlt hne))
 have HF3:Hid (Fr (fun i=>i≠mb∧some i≠vb.ownBlock) w w3) :=
  ⟨hgrow.os,hgrow.tape,hgrow.output,Nat.le_trans (by simp) hgrow.size,fun i hi hp=>hblk i hi hp.2⟩
 have HA:Hid ((Value.slice va vn vc).ownBlock=vb.ownBlock∨∃ g,(Value.slice va vn vc).ownBlock=some g∧w.heap.size≤g):=by
  rcases hat with h | h
  ·exact .inl h
  ·exact .inr ⟨_,h,by simp⟩
 have hfz:=(aU HM3).frozen
 have hc:=(aU HM3).cells.1
 clear hown' hgrow hat hblk hne HM HO
 go_wp2_with fail
 refine bodyPost_end (v:=.tuple #[]) (by simp [results,Tryz.results341]) rfl ?_
 refine ⟨rfl,_,(aU HM3).set0 _,?_,aU HA,(aU HF3).trans (Fr.of_set _ fun i h=>h.1)⟩
 exact aS (aU HO3) (msg_ne (aU HM3) (aU HO3)) _ _
end Wi
structure TF (mb base:Nat) (w w':World):Prop where
 os:w'.os=w.os
 tape:w'.tape=w.tape
 output:w'.output=w.output
 size:w.heap.size≤w'.heap.size
 block : ∀ i,i<w.heap.size→i≠mb→(i<base∨∀ cur,w.heap[i]?≠some (.cells cur 5 (0,0)))→w'.heap[i]? = w.heap[i]?
theorem TF.refl (mb base:Nat) (w:World):TF mb base w w:=⟨rfl,rfl,rfl,Nat.le_refl _,fun _ _ _ _=>rfl⟩
theorem TF.trans {mb base:Nat} {A B C:World} (h:TF mb base A B) (k:TF mb base B C):TF mb base A C :=
 ⟨k.os.trans h.os,k.tape.trans h.tape,k.output.trans h.output,Nat.le_trans h.size k.size,fun i hi hm hp=>by
  have e:=h.block i hi hm hp
  refine (k.block i (Nat.lt_of_lt_of_le hi h.size) hm ?_).trans e
  rw [e]; exact hp⟩
theorem TF.of_below {mb base:Nat} {A B:World} (h:Below A.heap.size A B):TF mb base A B:=⟨h.os,h.tape,h.output,h.size,fun i hi _ _=>h.block i hi⟩
theorem TF.of_fr {mb base:Nat} {A B:World} {v:Value} {l:Str} (ho:OwnB A base v l) (h:Fr (fun i=>i≠mb∧some i≠v.ownBlock) A B):TF mb base A B :=
 ⟨h.os,h.tape,h.output,h.size,fun i hi hm hp=>h.block i hi ⟨hm,fun e=>by
  obtain ⟨_,⟨rfl,_⟩ | ⟨g,cap,cur,rfl,hb,hcur,_⟩⟩:=ho
  ·simp [Value.ownBlock] at e
  ·simp only [Value.ownBlock,Option.some.injEq] at e
   subst e
   rcases hp with hp | hp
   ·omega
   ·exact hp cur hcur⟩⟩
namespace Wj
open Ka Wa Wb Wc Wd We Wf Wg Wh Wi Re
theorem octet_t (mb base:Nat) (c:UInt8) (vb vp:Value) (l:Str) (w:World) (hm:MsgAt w mb vb vp) (ho:OwnB w base vb l) (hbs:base≤w.heap.size) (hl:l.length≤1000000) :
  Calls Tryz.prog 341 #[.int .u8 c.toNat,.pointer (some ⟨mb,0,none⟩)] w fun e w' =>
   e=.returned (.tuple #[])∧(∃ vb',MsgAt w' mb vb' vp∧OwnB w' base vb' (l++[c]))∧TF mb base w w':=by
 refine (octet_w mb base c vb vp l w hm ho hbs hl).mono ?_
 rintro e w' ⟨rfl,vb',h1,h2,_,h4⟩
 exact ⟨rfl,⟨vb',h1,h2⟩,TF.of_fr ho h4⟩
theorem raw_t (mb base:Nat) (s:Str) (vb vp:Value) (l:Str) (w:World) (hm:MsgAt w mb vb vp) (ho:OwnB w base vb l) (hbs:base≤w.heap.size) (hl:l.length≤1000000) (hs:s.length≤1000000000) :
  Calls Tryz.prog 336 #[.string (B s),.pointer (some ⟨mb,0,none⟩)] w fun e w' =>
   e=.returned (.tuple #[])∧(∃ vb',MsgAt w' mb vb' vp∧OwnB w' base vb' (l++s))∧TF mb base w w':=by
 obtain ⟨i0,hi,hz0,hz1,hz2⟩:=info_parts infoB
 have hc0:=hm.cells.1
 have HM:=aH hm
 have HO:=aH ho
 have hlt:=hm.lt
 have hsz:(B s).size=s.length:=size_B s
 have HU:Hid (Tryz.prog.underlying 224=some .string):=by unfold Hid; kernel_rfl
 clear hm ho
 go_enter Tryz.func336,Tryz.ntmps336
 go_wp2_with (at_builtin; go_loud (refine Lib.wpList_append_own_string _ rfl (.tmp 8) (.tmp 9) 58 224 rfl base 5 i0 underB (aU HU) hi hz0 hz1 hz2 _ l.length _ rfl (aU HO) (B s) rfl ?c3 ?c4 hbs ?_))
 case c3=>unfold maxLen; omega
 case c4=>omega
 intro v' w3 hown' hgrow _
 obtain ⟨va,vn,vc,rfl⟩:=own_slice hown'
 have HO3:Hid (OwnB w3 base (.slice va vn vc) (l++s)):=by
  unfold Hid OwnB
  rw [List.length_append,List.map_append,← hsz]
  exact hown'
 have hne:some mb≠vb.ownBlock:=msg_ne (aU HM) (aU HO)
 have HM3:=aH ((aU HM).kept (hgrow.block mb hlt hne))
 have HF3:Hid (TF mb base w w3):=TF.of_fr (aU HO)
  ⟨hgrow.os,hgrow.tape,hgrow.output,hgrow.size,fun i hi hp=>hgrow.block i hi hp.2⟩
 have hfz:=(aU HM3).frozen
 have hc:=(aU HM3).cells.1
 clear hown' hgrow hne HM HO
 go_wp2_with fail
 refine bodyPost_end (v:=.tuple #[]) (by simp [results,Tryz.results336]) rfl ?_
 refine ⟨rfl,⟨_,(aU HM3).set0 _,aS (aU HO3) (msg_ne (aU HM3) (aU HO3)) _ _⟩,(aU HF3).trans ?_⟩
 exact ⟨rfl,rfl,rfl,by simp [World.setCell],fun i _ hm _=>Below.heap_setCell _ _ _ _ hm⟩
end Wj
def Wr (fn:FuncId) (x:Value) (out:Str):Prop:=∀ (mb base:Nat) (vb vp:Value) (l:Str) (w:World),MsgAt w mb vb vp→OwnB w base vb l→base≤w.heap.size→l.length+out.length≤1000000 →
 Calls Tryz.prog fn #[x,.pointer (some ⟨mb,0,none⟩)] w fun e w'=>e=.returned (.tuple #[])∧(∃ vb',MsgAt w' mb vb' vp∧OwnB w' base vb' (l++out))∧TF mb base w w'
structure Fd where
 t:TypeId
 x:Value
 fn:FuncId
 out:Str
def Fd.Ok (f : Fd) : Prop := (∀ W : World, (method 521 f.t f.x "beacon/wire.writeTo").run Tryz.prog W = .ok (f.fn, f.x) W) ∧ (∀ (args : Array Value) (W : World), (callFunc f.fn args).run Tryz.prog W = .ok (.enter f.fn args) W) ∧ Wr f.fn f.x f.out
def outs (fs:List Fd):Str:=fs.flatMap (·.out)
namespace Wk
open Ka Wa Wb Wc Wd We Wf Wg Wh Wi Wj Re
theorem outs_take (fs:List Fd) (k:Nat) (h:k<fs.length):outs (fs.take (k+1))=outs (fs.take k)++fs[k].out:=by
 rw [outs,List.take_succ_eq_append_getElem h,List.flatMap_append]; simp [outs]
theorem outs_le (fs:List Fd) (k:Nat):(outs (fs.take k)).length≤(outs fs).length:=by
 have:outs fs=outs (fs.take k)++outs (fs.drop k):=by rw [outs,outs,outs,← List.flatMap_append,List.take_append_drop]
 rw [this]; simp
theorem put_any (mb base g cap:Nat) (fs:List Fd) (vb vp:Value) (l:Str) (w:World) (hm:MsgAt w mb vb vp) (ho:OwnB w base vb l) (hbs:base≤w.heap.size)
  (hok : ∀ f∈fs,f.Ok) (hlt:g<w.heap.size) (hgm:g≠mb) (hkeep:g<base∨∀ cur,w.heap[g]?≠some (.cells cur 5 (0,0))) (hcells : ∀ j (h:j<fs.length),w.cell? ⟨g,j,none⟩=some (.iface fs[j].t fs[j].x))
  (hn:fs.length≤cap) (hc:fs.length≤1000000) (hl:l.length+(outs fs).length≤1000000) :
  Calls Tryz.prog 139 #[.pointer (some ⟨mb,0,none⟩),.slice (some ⟨g,0,none⟩) fs.length cap] w fun e w' =>
   e=.returned (.tuple #[])∧(∃ vb',MsgAt w' mb vb' vp∧OwnB w' base vb' (l++outs fs))∧TF mb base w w':=by
 have HM:=aH hm
 have HO:=aH ho
 have HOK:=aH hok
 have HC:=aH hcells
 have HK:=aH hkeep
 clear hm ho hok hcells hkeep
 go_enter Tryz.func139,Tryz.ntmps139
 go_wp2_with fail
 go_loopw [8] (fun i wr=>∃ (k:Nat) (vb':Value),i=.int .i64 k∧k≤fs.length∧MsgAt wr mb vb' vp∧OwnB wr base vb' (l++outs (fs.take k))∧TF mb base w wr) (fun i _=>fs.length - (intOf i).toNat)
 case atStart=>exact ⟨0,vb,rfl,Nat.zero_le _,aU HM,by simpa [outs] using aU HO,TF.refl _ _ _⟩
 case round =>
  obtain ⟨k,vb',rfl,hk,hm,ho,ht⟩:=hrel
  have HM1:=aH hm
  have HO1:=aH ho
  have HT1:=aH ht
  have hsz:=ht.size
  clear hm ho ht
  by_cases hlk:k<fs.length
  ·have hcell:wr.cell? ⟨g,k,none⟩=some (.iface fs[k].t fs[k].x):=(World.cell?_of_block (w:=w) ((aU HT1).block g hlt hgm (aU HK))).trans (aU HC k hlk)
   have hOK:=aU HOK fs[k] (List.getElem_mem hlk)
   have HE:=aH (outs_take fs k hlk)
   have HL:=aH (outs_le fs (k+1))
   rw [outs_take fs k hlk,List.length_append] at HL
   generalize fs[k]=f at *
   have hmeth:=hOK.1
   have hcf:=hOK.2.1
   have HW:=aH (hOK.2.2 mb base vb' vp _ wr (aU HM1) (aU HO1) (by omega) (by rw [List.length_append]; have:=aU HL; omega))
   clear hOK
   go_wp2_with fail
   refine (aU HW).mono ?_
   rintro e w2 ⟨rfl,⟨vb2,h1,h2⟩,h3⟩
   rw [List.append_assoc,← aU HE] at h2
   have HF:=aH (And.intro h1 (And.intro h2 ((aU HT1).trans h3)))
   clear h1 h2 h3 HW
   go_wp2_with fail
   exact ⟨⟨k+1,vb2,by go_num,by omega,(aU HF).1,(aU HF).2.1,(aU HF).2.2⟩,by simp [intOf]; omega⟩
  ·have hkl:k=fs.length:=by omega
   subst hkl
   have HO2:=aU HO1
   rw [List.take_length] at HO2
   have HO3:=aH HO2
   clear HO2
   go_wp2
   refine bodyPost_end (v:=.tuple #[]) (by simp [results,Tryz.results139]) rfl ?_
   exact ⟨rfl,⟨vb',aU HM1,aU HO3⟩,aU HT1⟩
end Wk
namespace Wl
open Ka Wa Wb Wc Wd We Wf Wg Wh Wi Wj Wk Re
def fOctet (c:UInt8):Fd:=⟨292,.int .u8 c.toNat,341,[c]⟩
def fRaw (s:Str):Fd:=⟨224,.string (B s),336,s⟩
theorem m_octet (n : Int) (W : World) : (method 521 292 (.int .u8 n) "beacon/wire.writeTo").run Tryz.prog W = .ok (341, .int .u8 n) W := by kernel_rfl
theorem m_raw (s : ByteArray) (W : World) : (method 521 224 (.string s) "beacon/wire.writeTo").run Tryz.prog W = .ok (336, .string s) W := by kernel_rfl
theorem c_octet (args:Array Value) (W:World):(callFunc 341 args).run Tryz.prog W=.ok (.enter 341 args) W:=by kernel_rfl
theorem c_raw (args:Array Value) (W:World):(callFunc 336 args).run Tryz.prog W=.ok (.enter 336 args) W:=by kernel_rfl
theorem octet_ok (c:UInt8):(fOctet c).Ok :=
 ⟨m_octet _,c_octet,fun mb base vb vp l w hm ho hbs hl=>octet_t mb base c vb vp l w hm ho hbs (by simp [fOctet] at hl; omega)⟩
theorem raw_ok (s:Str):(fRaw s).Ok :=
 ⟨m_raw _,c_raw,fun mb base vb vp l w hm ho hbs hl=>raw_t mb base s vb vp l w hm ho hbs (by simp [fRaw] at hl; omega) (by simp [fRaw] at hl; omega)⟩
def hi (n:Nat):UInt8:=UInt8.ofNat (n/256)
def lo (n:Nat):UInt8:=UInt8.ofNat n
def fShort (n:Nat):Fd:=⟨284,.int .u16 n,337,[hi n,lo n]⟩
theorem m_short (n : Int) (W : World) : (method 521 284 (.int .u16 n) "beacon/wire.writeTo").run Tryz.prog W = .ok (337, .int .u16 n) W := by kernel_rfl
theorem c_short (args:Array Value) (W:World):(callFunc 337 args).run Tryz.prog W=.ok (.enter 337 args) W:=by kernel_rfl
theorem short_w (n:Nat) (hn:n<65536):Wr 337 (.int .u16 n) [hi n,lo n]:=by
 intro mb base vb vp l w hm ho hbs hl
 have HM:=aH hm
 have HO:=aH ho
 have hlt:=hm.lt
 clear hm ho
 go_enter Tryz.func337,Tryz.ntmps337
 go_wp2_with fail
 have eh:(n:Int)/256=((hi n).toNat:Int):=by unfold hi; rw [UInt8.toNat_ofNat']; omega
 have el:(n:Int)%256=((lo n).toNat:Int):=by unfold lo; rw [UInt8.toNat_ofNat']; omega
 rw [eh,el]
 have hnew:=World.alloc_heap_new w (.cells #[.iface 292 (.int .u8 (hi n).toNat),.iface 292 (.int .u8 (lo n).toNat)] 297)
 refine (put_any mb base w.heap.size 2 [fOctet (hi n),fOctet (lo n)] vb vp l _ ((Below.heap_alloc _ _ _ hlt).trans (aU HM)) ((aU HO).alloc _) (by simp; omega) ?_ (by simp) (by omega) (.inr ?_) ?_ (by simp) (by simp) ?_).mono ?_
 ·intro f hf
  simp at hf
  rcases hf with rfl | rfl <;> exact octet_ok _
 ·intro cur h
  rw [hnew] at h
  simp at h
 ·intro j hj
  match j,hj with
  | 0,_=>unfold World.cell?; rw [hnew]; rfl
  | 1,_=>unfold World.cell?; rw [hnew]; rfl
  | j+2,hj=>simp at hj; omega
 ·simp [outs,fOctet] at hl ⊢; omega
 rintro e w2 ⟨rfl,⟨vb2,h1,h2⟩,h3⟩
 have HF:Hid ((∃ vb',MsgAt w2 mb vb' vp∧OwnB w2 base vb' (l++[hi n,lo n]))∧TF mb base w w2) :=
  ⟨⟨vb2,h1,h2⟩,(TF.of_below ((Below.refl _ _).alloc (Nat.le_refl _) _)).trans h3⟩
 clear h1 h2 h3 hnew eh el
 go_wp2_with fail
 refine bodyPost_end (v:=.tuple #[]) (by simp [results,Tryz.results337]) rfl ?_
 exact ⟨rfl,aU HF⟩
theorem short_ok (n:Nat) (hn:n<65536):(fShort n).Ok:=⟨m_short _,c_short,short_w n hn⟩
def fLong (n:Nat):Fd:=⟨344,.int .u32 n,343,[hi (n/65536),lo (n/65536),hi (n%65536),lo (n%65536)]⟩
theorem m_long (n : Int) (W : World) : (method 521 344 (.int .u32 n) "beacon/wire.writeTo").run Tryz.prog W = .ok (343, .int .u32 n) W := by kernel_rfl
theorem c_long (args:Array Value) (W:World):(callFunc 343 args).run Tryz.prog W=.ok (.enter 343 args) W:=by kernel_rfl
theorem long_w (n:Nat) (hn:n<4294967296):Wr 343 (.int .u32 n) [hi (n/65536),lo (n/65536),hi (n%65536),lo (n%65536)]:=by
 intro mb base vb vp l w hm ho hbs hl
 have HM:=aH hm
 have HO:=aH ho
 have hlt:=hm.lt
 clear hm ho
 go_enter Tryz.func343,Tryz.ntmps343
 go_wp2_with fail
 have eh:(n:Int)/65536=((n/65536:Nat):Int):=by omega
 have el:IntKind.u16.wrap (n:Int)=((n%65536:Nat):Int):=by rw [IntKind.wrap_u16]; omega
 rw [eh,el]
 have hnew:=World.alloc_heap_new w (.cells #[.iface 284 (.int .u16 (n/65536:Nat)),.iface 284 (.int .u16 (n%65536:Nat))] 297)
 refine (put_any mb base w.heap.size 2 [fShort (n/65536),fShort (n%65536)] vb vp l _ ((Below.heap_alloc _ _ _ hlt).trans (aU HM)) ((aU HO).alloc _) (by simp; omega) ?_ (by simp) (by omega) (.inr ?_) ?_ (by simp) (by simp) ?_).mono ?_
 ·intro f hf
  simp at hf
  rcases hf with rfl | rfl <;> exact short_ok _ (by omega)
 ·intro cur h
  rw [hnew] at h
  simp at h
 ·intro j hj
  match j,hj with
  | 0,_=>unfold World.cell?; rw [hnew]; rfl
  | 1,_=>unfold World.cell?; rw [hnew]; rfl
  | j+2,hj=>simp at hj; omega
 ·simp [outs,fShort] at hl ⊢; omega
 rintro e w2 ⟨rfl,⟨vb2,h1,h2⟩,h3⟩
 have HF:Hid ((∃ vb',MsgAt w2 mb vb' vp∧OwnB w2 base vb' (l++[hi (n/65536),lo (n/65536),hi (n%65536),lo (n%65536)]))∧TF mb base w w2) :=
  ⟨⟨vb2,h1,h2⟩,(TF.of_below ((Below.refl _ _).alloc (Nat.le_refl _) _)).trans h3⟩
 clear h1 h2 h3 hnew eh el
 go_wp2_with fail
 refine bodyPost_end (v:=.tuple #[]) (by simp [results,Tryz.results343]) rfl ?_
 exact ⟨rfl,aU HF⟩
theorem long_ok (n:Nat) (hn:n<4294967296):(fLong n).Ok:=⟨m_long _,c_long,long_w n hn⟩
end Wl
end Go.Proofs.YtkkpahmoljiepaaGreatDoor
