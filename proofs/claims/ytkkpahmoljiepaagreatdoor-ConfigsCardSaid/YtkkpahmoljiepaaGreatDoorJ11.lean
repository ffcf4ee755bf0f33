/- Contracts: beaconref's Memory: Store of a byte of an index where the last mark is another. -/
import Derived.Test.YtkkpahmoljiepaaGreatDoorJ10
import Derived.Deep.RegionHeld
set_option linter.unusedSimpArgs false
set_option linter.unusedVariables false
set_option maxRecDepth 1000000
set_option maxHeartbeats 12800000
namespace Go.Proofs.YtkkpahmoljiepaaGreatDoor
open Go.RowKit
open Pu (Str aH aU)
namespace Qe
open Ka Wa Wb Wc Wd We Wf Wg Wh Wi Wj Wk Wl Wm Ha Hb Hc Re Qa Qb Qc Qd
def flatM (ms:List (Int×Int)):List Value:=ms.flatMap fun x=>[.int .i64 x.1,.int .i64 x.2]
theorem flatM_len (ms:List (Int×Int)):(flatM ms).length=2*ms.length:=by
 induction ms with
 | nil=>rfl
 | cons a l ih=>simp [flatM] at ih ⊢; omega
theorem last_cells {w:World} {base g cap k:Nat} {l:List (Int×Int)} {x y:Int} (hk:l.length=k) (ho:OwnM w base (.slice (some ⟨g,0,none⟩) (k+1) cap) (l++[(x,y)])):w.cell? ⟨g,2*k,none⟩=some (.int .i64 x)∧w.cell? ⟨g,2*k+1,none⟩=some (.int .i64 y):=by
 subst hk
 obtain ⟨_,⟨h,_⟩ | ⟨g',cap',cur,hv,_,hcur,hn,hm,hs,ht⟩⟩:=ho
 ·cases h
 ·obtain rfl:g=g':=by simpa using (Value.slice.inj hv).1
  have hl:(l++[(x,y)]).length*2=2*l.length+2:=by simp; omega
  rw [hl] at ht
  have e : ∀ j,j<2*l.length+2→cur.toList[j]? = (flatM (l++[(x,y)]))[j]?:=fun j hj=>by
   have:(cur.toList.take (2*l.length+2))[j]? = cur.toList[j]?:=by rw [List.getElem?_take,if_pos hj]
   rw [← this,ht]; rfl
  have f:flatM (l++[(x,y)])=flatM l++[.int .i64 x,.int .i64 y]:=by simp [flatM]
  constructor
  ·simp only [World.cell?,hcur]
   rw [← Array.getElem?_toList,e _ (by omega),f,List.getElem?_append_right (by rw [flatM_len]; omega),flatM_len]; simp
  ·simp only [World.cell?,hcur]
   rw [← Array.getElem?_toList,e _ (by omega),f,List.getElem?_append_right (by rw [flatM_len]; omega),flatM_len]; simp
theorem own_more {w:World} {base k:Nat} {v:Value} {ms:List (Int×Int)} {a b:Int} (hl:ms.length=k+1) (h:w.ownsRow base 177 2 v (k+1+1) (flatM ms++[.int .i64 a,.int .i64 b])):OwnM w base v (ms++[(a,b)]):=by
 unfold OwnM
 rw [List.length_append,hl,List.flatMap_append]
 exact h
theorem marks_le {w:World} {base a b:Nat} {v:Value} (h:MarksAt w base v a) (hab:a≤b):MarksAt w base v b:=by
 obtain ⟨ms,h1,h2⟩:=h
 exact ⟨ms,h1,Nat.le_trans h2 hab⟩
theorem store_next (mb bb base g cap n rg k:Nat) (c:UInt8) (vl:Value) (wild early d0 d1:Bool) (cnt st:Nat) (bs:Str) (l:List (Int×Int)) (x y:Int) (w:World) (h:aF w mb bb vl (.slice (some ⟨g,0,none⟩) (k+1) cap) wild cnt early d0 d1 st) (ho:OwnM w base (.slice (some ⟨g,0,none⟩) (k+1) cap) (l++[(x,y)])) (hr:RowB w bb bs) (hbs:base≤w.heap.size) (hst:st≤100000000) (hk:k≤100000000) (hkk:l.length=k) (hn:Idx n rg) (hxy : ¬ x=rg∨(x=rg∧¬ y=cnt)) :
  Calls Tryz.prog 155 #[.pointer (some ⟨mb,0,none⟩),.int .i64 n,.int .u8 c.toNat] w fun e w' =>
   e=.returned (.tuple #[])∧(∃ vm',aF w' mb bb vl vm' wild cnt early (fl0 n d0) (fl1 n d1) (st+1)∧MarksAt w' base vm' (k+2))∧RowB w' bb (bs.set n c)∧Fr (fun i=>i≠mb∧i≠bb∧i≠g) w w':=by
 obtain ⟨i0,hi,hz0,hz1,hz2⟩:=info_parts infoM
 obtain ⟨s1,hs1⟩ : ∃ s1,s1=st+1:=⟨_,rfl⟩
 have ks:(st:Int)+1=(s1:Int):=by omega
 rw [← hs1]
 have hsb:s1≤200000000:=by omega
 obtain ⟨hx,hy⟩:=last_cells hkk ho
 have m0:=aF.at0 h
 have m4:=aF.at4 h
 have m5:=aF.at5 h
 have m7:=aF.at7 h
 have m8:=aF.at8 h
 have m9:=aF.at9 h
 have hf:=aF.fz h
 have HM:=aH h
 have HR:=aH hr
 have HO:=aH ho
 have hmb:mb≠bb:=blk_ne h hr.2 (by decide)
 have hlt:=aF.lt h
 have hne:some mb≠(Value.slice (some ⟨g,0,none⟩) (k+1) cap).ownBlock:=own_ne h ho (by decide)
 have hneb:some bb≠(Value.slice (some ⟨g,0,none⟩) (k+1) cap).ownBlock:=own_ne hr.2 ho (by decide)
 have hg:g≠mb:=fun e=>hne (by rw [e]; rfl)
 have HL:Hid (∀ a b:Int,flatM (l++[(x,y)])++[.int .i64 a,.int .i64 b]=flatM ((l++[(x,y)])++[(a,b)])):=fun a b=>by simp [flatM]
 have k0 : ¬ (k:Int)<0:=by omega
 have dk:decide ((k:Int)<0)=false:=decide_eq_false k0
 have kb:(k:Int)<(k:Int)+1:=by omega
 have kb0:(0:Int)≤(k:Int):=by omega
 have kbn:k<k+1:=by omega
 have hln:(l++[(x,y)]).length=k+1:=by simp [hkk]
 have HLN:=aH hln
 have HKK:=aH hkk
 clear h hr ho hs1 hst hkk hln
 go_enter Tryz.func155,Tryz.ntmps155
 rcases hn with ⟨rfl,rfl⟩ | ⟨rfl,rfl⟩ | ⟨rfl,rfl⟩ | ⟨rfl,rfl⟩
 ·have hM1:=aF.set7 (aF.set9 (aU HM) s1) true
  have c0:=aF.at0 hM1
  have c4:=aF.at4 hM1
  have c5:=aF.at5 hM1
  have hgk : ∀ o v,w.cell? ⟨g,o,none⟩=some v→((w.setCell ⟨mb,9,none⟩ (.int .i64 s1)).setCell ⟨mb,7,none⟩ (.bool true)).cell? ⟨g,o,none⟩=some v:=fun o v h=>(World.cell?_of_block ((Below.heap_setCell _ _ _ _ hg).trans (Below.heap_setCell _ _ _ _ hg))).trans h
  have y1:((w.setCell ⟨mb,9,none⟩ (.int .i64 s1)).setCell ⟨mb,7,none⟩ (.bool true)).cell? ⟨g,k*2,none⟩=some (.int .i64 x):=by rw [Nat.mul_comm]; exact hgk _ _ hx
  have y2:((w.setCell ⟨mb,9,none⟩ (.int .i64 s1)).setCell ⟨mb,7,none⟩ (.bool true)).cell? ⟨g,k*2+1,none⟩=some (.int .i64 y):=by rw [Nat.mul_comm]; exact hgk _ _ hy
  have HM1:=aH hM1
  have HO1:Hid (((w.setCell ⟨mb,9,none⟩ (.int .i64 s1)).setCell ⟨mb,7,none⟩ (.bool true)).ownsRow base 177 2 (.slice (some ⟨g,0,none⟩) (k+1) cap) (k+1) (flatM (l++[(x,y)]))):=by
   have:=aS (aS (aU HO) hne 9 (.int .i64 s1)) hne 7 (.bool true)
   rw [aU HLN] at this
   exact this
  clear hM1 hgk hx hy
  go_upto_region 9 with fail
  rcases hxy with hxy | ⟨rfl,hxy⟩
  all_goals
   go_quiet (fail)
   go_upto_region 10 with fail
   go_region_law (first | (refine step_append_lies _ rfl (.tmp 84) (.tmp 91) 81 rfl base 177 i0 (.agg #[.int .i64 0,.int .i64 0]) 2 16 underM hi hz0 hz1 hz2 rfl (by decide) _ (k+1) _ rfl ((aU HO1).alloc _) _ 1 1 [.int .i64 0,.int .i64 cnt] rfl rfl (new2 _ _ (by simp [World.setCell]) 0 cnt _) (one2 0 cnt) (by decide) (by unfold maxLen; omega) (by omega) (by simp [World.setCell]; omega) (w.heap.size+1) (by simp [World.setCell]) ?_; intro g2 cap2 w3 hown hgrow hat hlt3; have hm3:=aF.of (aU HM1) ((hgrow.block mb (by simp [World.setCell]; omega) hne).trans (Below.heap_alloc _ _ _ (by simpa [World.setCell] using hlt))); have b5:=aF.at5 hm3; have hf3:=aF.fz hm3))
   all_goals
    have hown':=own_more (aU HLN) hown
    have hgr:World.grownBy (((w.setCell ⟨mb,9,none⟩ (.int .i64 s1)).setCell ⟨mb,7,none⟩ (.bool true)).alloc (.cells #[.int .i64 0,.int .i64 cnt] 177)) w3 (Value.slice (some ⟨g,0,none⟩) (k+1) cap).ownBlock:=⟨hgrow.os,hgrow.tape,hgrow.output,hgrow.size,hgrow.block⟩
    have hblk : ∀ i,i<w.heap.size→i≠mb→some i≠(Value.slice (some ⟨g,0,none⟩) (k+1) cap).ownBlock→w3.heap[i]? = w.heap[i]?:=fun i hi h1 h2 =>
     ((hgr.block i (by simp [World.setCell]; omega) h2).trans (Below.heap_alloc _ _ _ (by simpa [World.setCell] using hi))).trans ((Below.heap_setCell _ _ _ _ h1).trans (Below.heap_setCell _ _ _ _ h1))
    have hr3:RowB w3 bb bs:=RowB.of (aU HR) (hblk bb (aU HR).2.lt (fun e=>hmb e.symm) hneb)
    have hF3:Fr (fun i=>i≠mb∧i≠bb∧i≠g) w w3:=⟨hgr.os,hgr.tape,hgr.output,Nat.le_trans (by simp [World.setCell]) hgr.size,fun i hi hp=>hblk i hi hp.1 (fun e=>hp.2.2 (Option.some.inj e))⟩
    have HFIN:=aH (fin_index (n:=130) (c:=c) hm3 hown' hr3 hF3 fun i h=>⟨h.1,h.2.1⟩)
    have b0:=aF.at0 hm3
    obtain ⟨v0,hrow⟩ : ∃ v,w3.cell? ⟨bb,130,none⟩=some v:=⟨_,hr3.2.cell 130 (by simp [hr3.1])⟩
    have hfrow:=hr3.2.frozen
    clear hown hgrow hat hgr hblk hr3 hF3 hown' hm3 y1 y2 c0 c4 c5 hxy
    go_wp2
    refine bodyPost_end (v:=.tuple #[]) (by simp [results,Tryz.results155]) rfl ?_
    have hfin:=aU HFIN
    exact ⟨rfl,⟨_,hfin.1,marks_le hfin.2.1 (by rw [List.length_append,aU HLN]; simp)⟩,hfin.2.2.1,hfin.2.2.2⟩
 ·have hM1:=aF.set7 (aF.set9 (aU HM) s1) true
  have c0:=aF.at0 hM1
  have c4:=aF.at4 hM1
  have c5:=aF.at5 hM1
  have hgk : ∀ o v,w.cell? ⟨g,o,none⟩=some v→((w.setCell ⟨mb,9,none⟩ (.int .i64 s1)).setCell ⟨mb,7,none⟩ (.bool true)).cell? ⟨g,o,none⟩=some v:=fun o v h=>(World.cell?_of_block ((Below.heap_setCell _ _ _ _ hg).trans (Below.heap_setCell _ _ _ _ hg))).trans h
  have y1:((w.setCell ⟨mb,9,none⟩ (.int .i64 s1)).setCell ⟨mb,7,none⟩ (.bool true)).cell? ⟨g,k*2,none⟩=some (.int .i64 x):=by rw [Nat.mul_comm]; exact hgk _ _ hx
  have y2:((w.setCell ⟨mb,9,none⟩ (.int .i64 s1)).setCell ⟨mb,7,none⟩ (.bool true)).cell? ⟨g,k*2+1,none⟩=some (.int .i64 y):=by rw [Nat.mul_comm]; exact hgk _ _ hy
  have HM1:=aH hM1
  have HO1:Hid (((w.setCell ⟨mb,9,none⟩ (.int .i64 s1)).setCell ⟨mb,7,none⟩ (.bool true)).ownsRow base 177 2 (.slice (some ⟨g,0,none⟩) (k+1) cap) (k+1) (flatM (l++[(x,y)]))):=by
   have:=aS (aS (aU HO) hne 9 (.int .i64 s1)) hne 7 (.bool true)
   rw [aU HLN] at this
   exact this
  clear hM1 hgk hx hy
  go_upto_region 9 with fail
  rcases hxy with hxy | ⟨rfl,hxy⟩
  all_goals
   go_quiet (fail)
   go_upto_region 10 with fail
   go_region_law (first | (refine step_append_lies _ rfl (.tmp 84) (.tmp 91) 81 rfl base 177 i0 (.agg #[.int .i64 0,.int .i64 0]) 2 16 underM hi hz0 hz1 hz2 rfl (by decide) _ (k+1) _ rfl ((aU HO1).alloc _) _ 1 1 [.int .i64 0,.int .i64 cnt] rfl rfl (new2 _ _ (by simp [World.setCell]) 0 cnt _) (one2 0 cnt) (by decide) (by unfold maxLen; omega) (by omega) (by simp [World.setCell]; omega) (w.heap.size+1) (by simp [World.setCell]) ?_; intro g2 cap2 w3 hown hgrow hat hlt3; have hm3:=aF.of (aU HM1) ((hgrow.block mb (by simp [World.setCell]; omega) hne).trans (Below.heap_alloc _ _ _ (by simpa [World.setCell] using hlt))); have b5:=aF.at5 hm3; have hf3:=aF.fz hm3))
   all_goals
    have hown':=own_more (aU HLN) hown
    have hgr:World.grownBy (((w.setCell ⟨mb,9,none⟩ (.int .i64 s1)).setCell ⟨mb,7,none⟩ (.bool true)).alloc (.cells #[.int .i64 0,.int .i64 cnt] 177)) w3 (Value.slice (some ⟨g,0,none⟩) (k+1) cap).ownBlock:=⟨hgrow.os,hgrow.tape,hgrow.output,hgrow.size,hgrow.block⟩
    have hblk : ∀ i,i<w.heap.size→i≠mb→some i≠(Value.slice (some ⟨g,0,none⟩) (k+1) cap).ownBlock→w3.heap[i]? = w.heap[i]?:=fun i hi h1 h2 =>
     ((hgr.block i (by simp [World.setCell]; omega) h2).trans (Below.heap_alloc _ _ _ (by simpa [World.setCell] using hi))).trans ((Below.heap_setCell _ _ _ _ h1).trans (Below.heap_setCell _ _ _ _ h1))
    have hr3:RowB w3 bb bs:=RowB.of (aU HR) (hblk bb (aU HR).2.lt (fun e=>hmb e.symm) hneb)
    have hF3:Fr (fun i=>i≠mb∧i≠bb∧i≠g) w w3:=⟨hgr.os,hgr.tape,hgr.output,Nat.le_trans (by simp [World.setCell]) hgr.size,fun i hi hp=>hblk i hi hp.1 (fun e=>hp.2.2 (Option.some.inj e))⟩
    have HFIN:=aH (fin_index (n:=131) (c:=c) hm3 hown' hr3 hF3 fun i h=>⟨h.1,h.2.1⟩)
    have b0:=aF.at0 hm3
    obtain ⟨v0,hrow⟩ : ∃ v,w3.cell? ⟨bb,131,none⟩=some v:=⟨_,hr3.2.cell 131 (by simp [hr3.1])⟩
    have hfrow:=hr3.2.frozen
    clear hown hgrow hat hgr hblk hr3 hF3 hown' hm3 y1 y2 c0 c4 c5 hxy
    go_wp2
    refine bodyPost_end (v:=.tuple #[]) (by simp [results,Tryz.results155]) rfl ?_
    have hfin:=aU HFIN
    exact ⟨rfl,⟨_,hfin.1,marks_le hfin.2.1 (by rw [List.length_append,aU HLN]; simp)⟩,hfin.2.2.1,hfin.2.2.2⟩
 ·have hM1:=aF.set8 (aF.set9 (aU HM) s1) true
  have c0:=aF.at0 hM1
  have c4:=aF.at4 hM1
  have c5:=aF.at5 hM1
  have hgk : ∀ o v,w.cell? ⟨g,o,none⟩=some v→((w.setCell ⟨mb,9,none⟩ (.int .i64 s1)).setCell ⟨mb,8,none⟩ (.bool true)).cell? ⟨g,o,none⟩=some v:=fun o v h=>(World.cell?_of_block ((Below.heap_setCell _ _ _ _ hg).trans (Below.heap_setCell _ _ _ _ hg))).trans h
  have y1:((w.setCell ⟨mb,9,none⟩ (.int .i64 s1)).setCell ⟨mb,8,none⟩ (.bool true)).cell? ⟨g,k*2,none⟩=some (.int .i64 x):=by rw [Nat.mul_comm]; exact hgk _ _ hx
  have y2:((w.setCell ⟨mb,9,none⟩ (.int .i64 s1)).setCell ⟨mb,8,none⟩ (.bool true)).cell? ⟨g,k*2+1,none⟩=some (.int .i64 y):=by rw [Nat.mul_comm]; exact hgk _ _ hy
  have HM1:=aH hM1
  have HO1:Hid (((w.setCell ⟨mb,9,none⟩ (.int .i64 s1)).setCell ⟨mb,8,none⟩ (.bool true)).ownsRow base 177 2 (.slice (some ⟨g,0,none⟩) (k+1) cap) (k+1) (flatM (l++[(x,y)]))):=by
   have:=aS (aS (aU HO) hne 9 (.int .i64 s1)) hne 8 (.bool true)
   rw [aU HLN] at this
   exact this
  clear hM1 hgk hx hy
  go_upto_region 9 with fail
  rcases hxy with hxy | ⟨rfl,hxy⟩
  all_goals
   go_quiet (fail)
   go_upto_region 10 with fail
   go_region_law (first | (refine step_append_lies _ rfl (.tmp 84) (.tmp 91) 81 rfl base 177 i0 (.agg #[.int .i64 0,.int .i64 0]) 2 16 underM hi hz0 hz1 hz2 rfl (by decide) _ (k+1) _ rfl ((aU HO1).alloc _) _ 1 1 [.int .i64 1,.int .i64 cnt] rfl rfl (new2 _ _ (by simp [World.setCell]) 1 cnt _) (one2 1 cnt) (by decide) (by unfold maxLen; omega) (by omega) (by simp [World.setCell]; omega) (w.heap.size+1) (by simp [World.setCell]) ?_; intro g2 cap2 w3 hown hgrow hat hlt3; have hm3:=aF.of (aU HM1) ((hgrow.block mb (by simp [World.setCell]; omega) hne).trans (Below.heap_alloc _ _ _ (by simpa [World.setCell] using hlt))); have b5:=aF.at5 hm3; have hf3:=aF.fz hm3))
   all_goals
    have hown':=own_more (aU HLN) hown
    have hgr:World.grownBy (((w.setCell ⟨mb,9,none⟩ (.int .i64 s1)).setCell ⟨mb,8,none⟩ (.bool true)).alloc (.cells #[.int .i64 1,.int .i64 cnt] 177)) w3 (Value.slice (some ⟨g,0,none⟩) (k+1) cap).ownBlock:=⟨hgrow.os,hgrow.tape,hgrow.output,hgrow.size,hgrow.block⟩
    have hblk : ∀ i,i<w.heap.size→i≠mb→some i≠(Value.slice (some ⟨g,0,none⟩) (k+1) cap).ownBlock→w3.heap[i]? = w.heap[i]?:=fun i hi h1 h2 =>
     ((hgr.block i (by simp [World.setCell]; omega) h2).trans (Below.heap_alloc _ _ _ (by simpa [World.setCell] using hi))).trans ((Below.heap_setCell _ _ _ _ h1).trans (Below.heap_setCell _ _ _ _ h1))
    have hr3:RowB w3 bb bs:=RowB.of (aU HR) (hblk bb (aU HR).2.lt (fun e=>hmb e.symm) hneb)
    have hF3:Fr (fun i=>i≠mb∧i≠bb∧i≠g) w w3:=⟨hgr.os,hgr.tape,hgr.output,Nat.le_trans (by simp [World.setCell]) hgr.size,fun i hi hp=>hblk i hi hp.1 (fun e=>hp.2.2 (Option.some.inj e))⟩
    have HFIN:=aH (fin_index (n:=642) (c:=c) hm3 hown' hr3 hF3 fun i h=>⟨h.1,h.2.1⟩)
    have b0:=aF.at0 hm3
    obtain ⟨v0,hrow⟩ : ∃ v,w3.cell? ⟨bb,642,none⟩=some v:=⟨_,hr3.2.cell 642 (by simp [hr3.1])⟩
    have hfrow:=hr3.2.frozen
    clear hown hgrow hat hgr hblk hr3 hF3 hown' hm3 y1 y2 c0 c4 c5 hxy
    go_wp2
    refine bodyPost_end (v:=.tuple #[]) (by simp [results,Tryz.results155]) rfl ?_
    have hfin:=aU HFIN
    exact ⟨rfl,⟨_,hfin.1,marks_le hfin.2.1 (by rw [List.length_append,aU HLN]; simp)⟩,hfin.2.2.1,hfin.2.2.2⟩
 ·have hM1:=aF.set8 (aF.set9 (aU HM) s1) true
  have c0:=aF.at0 hM1
  have c4:=aF.at4 hM1
  have c5:=aF.at5 hM1
  have hgk : ∀ o v,w.cell? ⟨g,o,none⟩=some v→((w.setCell ⟨mb,9,none⟩ (.int .i64 s1)).setCell ⟨mb,8,none⟩ (.bool true)).cell? ⟨g,o,none⟩=some v:=fun o v h=>(World.cell?_of_block ((Below.heap_setCell _ _ _ _ hg).trans (Below.heap_setCell _ _ _ _ hg))).trans h
  have y1:((w.setCell ⟨mb,9,none⟩ (.int .i64 s1)).setCell ⟨mb,8,none⟩ (.bool true)).cell? ⟨g,k*2,none⟩=some (.int .i64 x):=by rw [Nat.mul_comm]; exact hgk _ _ hx
  have y2:((w.setCell ⟨mb,9,none⟩ (.int .i64 s1)).setCell ⟨mb,8,none⟩ (.bool true)).cell? ⟨g,k*2+1,none⟩=some (.int .i64 y):=by rw [Nat.mul_comm]; exact hgk _ _ hy
  have HM1:=aH hM1
  have HO1:Hid (((w.setCell ⟨mb,9,none⟩ (.int .i64 s1)).setCell ⟨mb,8,none⟩ (.bool true)).ownsRow base 177 2 (.slice (some ⟨g,0,none⟩) (k+1) cap) (k+1) (flatM (l++[(x,y)]))):=by
   have:=aS (aS (aU HO) hne 9 (.int .i64 s1)) hne 8 (.bool true)
   rw [aU HLN] at this
   exact this
  clear hM1 hgk hx hy
  go_upto_region 9 with fail
  rcases hxy with hxy | ⟨rfl,hxy⟩
  all_goals
   go_quiet (fail)
   go_upto_region 10 with fail
   go_region_law (first | (refine step_append_lies _ rfl (.tmp 84) (.tmp 91) 81 rfl base 177 i0 (.agg #[.int .i64 0,.int .i64 0]) 2 16 underM hi hz0 hz1 hz2 rfl (by decide) _ (k+1) _ rfl ((aU HO1).alloc _) _ 1 1 [.int .i64 1,.int .i64 cnt] rfl rfl (new2 _ _ (by simp [World.setCell]) 1 cnt _) (one2 1 cnt) (by decide) (by unfold maxLen; omega) (by omega) (by simp [World.setCell]; omega) (w.heap.size+1) (by simp [World.setCell]) ?_; intro g2 cap2 w3 hown hgrow hat hlt3; have hm3:=aF.of (aU HM1) ((hgrow.block mb (by simp [World.setCell]; omega) hne).trans (Below.heap_alloc _ _ _ (by simpa [World.setCell] using hlt))); have b5:=aF.at5 hm3; have hf3:=aF.fz hm3))
   all_goals
    have hown':=own_more (aU HLN) hown
    have hgr:World.grownBy (((w.setCell ⟨mb,9,none⟩ (.int .i64 s1)).setCell ⟨mb,8,none⟩ (.bool true)).alloc (.cells #[.int .i64 1,.int .i64 cnt] 177)) w3 (Value.slice (some ⟨g,0,none⟩) (k+1) cap).ownBlock:=⟨hgrow.os,hgrow.tape,hgrow.output,hgrow.size,hgrow.block⟩
    have hblk : ∀ i,i<w.heap.size→i≠mb→some i≠(Value.slice (some ⟨g,0,none⟩) (k+1) cap).ownBlock→w3.heap[i]? = w.heap[i]?:=fun i hi h1 h2 =>
     ((hgr.block i (by simp [World.setCell]; omega) h2).trans (Below.heap_alloc _ _ _ (by simpa [World.setCell] using hi))).trans ((Below.heap_setCell _ _ _ _ h1).trans (Below.heap_setCell _ _ _ _ h1))
    have hr3:RowB w3 bb bs:=RowB.of (aU HR) (hblk bb (aU HR).2.lt (fun e=>hmb e.symm) hneb)
    have hF3:Fr (fun i=>i≠mb∧i≠bb∧i≠g) w w3:=⟨hgr.os,hgr.tape,hgr.output,Nat.le_trans (by simp [World.setCell]) hgr.size,fun i hi hp=>hblk i hi hp.1 (fun e=>hp.2.2 (Option.some.inj e))⟩
    have HFIN:=aH (fin_index (n:=643) (c:=c) hm3 hown' hr3 hF3 fun i h=>⟨h.1,h.2.1⟩)
    have b0:=aF.at0 hm3
    obtain ⟨v0,hrow⟩ : ∃ v,w3.cell? ⟨bb,643,none⟩=some v:=⟨_,hr3.2.cell 643 (by simp [hr3.1])⟩
    have hfrow:=hr3.2.frozen
    clear hown hgrow hat hgr hblk hr3 hF3 hown' hm3 y1 y2 c0 c4 c5 hxy
    go_wp2
    refine bodyPost_end (v:=.tuple #[]) (by simp [results,Tryz.results155]) rfl ?_
    have hfin:=aU HFIN
    exact ⟨rfl,⟨_,hfin.1,marks_le hfin.2.1 (by rw [List.length_append,aU HLN]; simp)⟩,hfin.2.2.1,hfin.2.2.2⟩
end Qe
abbrev Fl:=Bool×Bool×Bool
def stF (f:Fl) (n:Nat):Fl:=if n=130∨n=131 then (f.1,true,f.2.2) else if n=642∨n=643 then (f.1,f.2.1,true) else (f.1 || (if n<512∨(1024≤n∧n<13312) then f.2.1 else f.2.2),f.2.1,f.2.2)
def MemX (w:World) (mb bb base:Nat) (bs:Str) (wild:Bool) (cnt st:Nat) (f:Fl):Prop:=∃ vl vm ns,aF w mb bb vl vm wild cnt f.1 f.2.1 f.2.2 st∧RowB w bb bs∧OwnI w base vl ns∧ns.length≤cnt∧Qc.MarksAt w base vm st
def Mem (w:World) (mb bb base:Nat) (bs:Str) (wild:Bool) (cnt st:Nat):Prop:=∃ f,MemX w mb bb base bs wild cnt st f
structure MF (mb bb base:Nat) (A B:World):Prop where
 os:B.os=A.os
 tape:B.tape=A.tape
 output:B.output=A.output
 size:A.heap.size≤B.heap.size
 block : ∀ i,i<A.heap.size→i≠mb→i≠bb→(i<base∨((∀ cur,A.heap[i]?≠some (.cells cur 3 (0,0)))∧∀ cur,A.heap[i]?≠some (.cells cur 177 (0,0))))→B.heap[i]? = A.heap[i]?
structure SF (mb bb base:Nat) (A B:World):Prop where
 os:B.os=A.os
 tape:B.tape=A.tape
 output:B.output=A.output
 size:A.heap.size≤B.heap.size
 block : ∀ i,i<A.heap.size→i≠mb→i≠bb→(i<base∨∀ cur,A.heap[i]?≠some (.cells cur 177 (0,0)))→B.heap[i]? = A.heap[i]?
namespace Qf
open Ka Wa Wb Wc Wd We Wf Wg Wh Wi Wj Wk Wl Wm Ha Hb Hc Re Qa Qb Qc Qd Qe
theorem MF.refl (mb bb base:Nat) (w:World):MF mb bb base w w:=⟨rfl,rfl,rfl,Nat.le_refl _,fun _ _ _ _ _=>rfl⟩
theorem MF.trans {mb bb base:Nat} {A B C:World} (h:MF mb bb base A B) (k:MF mb bb base B C):MF mb bb base A C :=
 ⟨k.os.trans h.os,k.tape.trans h.tape,k.output.trans h.output,Nat.le_trans h.size k.size,fun i hi h1 h2 hp=>by
  have e:=h.block i hi h1 h2 hp
  refine (k.block i (Nat.lt_of_lt_of_le hi h.size) h1 h2 ?_).trans e
  rw [e]; exact hp⟩
theorem MF.of_below {mb bb base:Nat} {A B:World} (h:Below A.heap.size A B):MF mb bb base A B:=⟨h.os,h.tape,h.output,h.size,fun i hi _ _ _=>h.block i hi⟩
theorem SF.refl (mb bb base:Nat) (w:World):SF mb bb base w w:=⟨rfl,rfl,rfl,Nat.le_refl _,fun _ _ _ _ _=>rfl⟩
theorem SF.trans {mb bb base:Nat} {A B C:World} (h:SF mb bb base A B) (k:SF mb bb base B C):SF mb bb base A C :=
 ⟨k.os.trans h.os,k.tape.trans h.tape,k.output.trans h.output,Nat.le_trans h.size k.size,fun i hi h1 h2 hp=>by
  have e:=h.block i hi h1 h2 hp
  refine (k.block i (Nat.lt_of_lt_of_le hi h.size) h1 h2 ?_).trans e
  rw [e]; exact hp⟩
theorem SF.of_below {mb bb base:Nat} {A B:World} (h:Below A.heap.size A B):SF mb bb base A B:=⟨h.os,h.tape,h.output,h.size,fun i hi _ _ _=>h.block i hi⟩
theorem SF.mf {mb bb base:Nat} {A B:World} (h:SF mb bb base A B):MF mb bb base A B:=⟨h.os,h.tape,h.output,h.size,fun i hi h1 h2 hp=>h.block i hi h1 h2 (hp.imp id And.right)⟩
theorem own_at {w:World} {base:Nat} {t:TypeId} {sz n g:Nat} {v:Value} {xs:List Value} (h:w.ownsRow base t sz v n xs) (hg:v.ownBlock=some g):base≤g∧∃ cur,w.heap[g]? = some (.cells cur t (0,0)):=by
 obtain ⟨_,⟨rfl,_⟩ | ⟨g',cap,cur,rfl,hb,hcur,_⟩⟩:=h
 ·simp [Value.ownBlock] at hg
 ·simp only [Value.ownBlock,Option.some.injEq] at hg
  subst hg
  exact ⟨hb,cur,hcur⟩
theorem own_keep {w w':World} {base:Nat} {t:TypeId} {sz n:Nat} {v:Value} {xs:List Value} (h:w.ownsRow base t sz v n xs) (hb : ∀ g,v.ownBlock=some g→w'.heap[g]? = w.heap[g]?):w'.ownsRow base t sz v n xs:=by
 obtain ⟨h1,h2⟩:=h
 refine ⟨h1,?_⟩
 rcases h2 with h2 | ⟨g,cap,cur,rfl,hbb,hcur,hr⟩
 ·exact .inl h2
 ·exact .inr ⟨g,cap,cur,rfl,hbb,(hb g rfl).trans hcur,hr⟩
theorem own_lt {w:World} {base:Nat} {t:TypeId} {sz n g:Nat} {v:Value} {xs:List Value} (h:w.ownsRow base t sz v n xs) (hg:v.ownBlock=some g):g<w.heap.size:=by
 obtain ⟨_,cur,hc⟩:=own_at h hg
 exact (Array.getElem?_eq_some_iff.1 hc).1
theorem own_apart {w:World} {base:Nat} {t t':TypeId} {sz sz' n n' g:Nat} {v v':Value} {xs xs':List Value} (h:w.ownsRow base t sz v n xs) (h':w.ownsRow base t' sz' v' n' xs') (ht:t≠t') (hg:v.ownBlock=some g):some g≠v'.ownBlock:=fun e=>by
 obtain ⟨_,cur,hc⟩:=own_at h hg
 obtain ⟨_,cur',hc'⟩:=own_at h' e.symm
 rw [hc] at hc'
 simp at hc'
 exact ht hc'.2
theorem mem_load (mb bb base n:Nat) (wild:Bool) (cnt st:Nat) (bs:Str) (bv:UInt8) (w:World) (h:Mem w mb bb base bs wild cnt st) (hbs:base≤w.heap.size) (hbv:bs[n]? = some bv) (hcnt:cnt≤1000000) :
  Calls Tryz.prog 159 #[.pointer (some ⟨mb,0,none⟩),.int .i64 n] w fun e w'=>e=.returned (.int .u8 bv.toNat)∧Mem w' mb bb base bs wild (cnt+1) st∧MF mb bb base w w':=by
 obtain ⟨f,vl,vm,ns,hm,hr,ho,hl,ms,hms,hml⟩:=h
 refine (load_any mb bb base n vl vm wild _ _ _ cnt st bs ns w hm hr ho hbs bv hbv (by omega) hcnt).mono ?_
 rintro e w' ⟨rfl,vl',hm',ho',_,hF⟩
 refine ⟨rfl,⟨(f.1,false,false),vl',vm,_,hm',RowB.of hr (hF.block bb hr.2.lt ⟨fun e=>blk_ne hm hr.2 (by decide) e.symm,own_ne hr.2 ho (by decide)⟩),ho',by simp; omega,ms,?_,hml⟩,?_⟩
 ·refine own_keep hms fun g hg=>hF.block g (own_lt hms hg) ⟨fun e=>?_,own_apart hms ho (by decide) hg⟩
  exact own_ne hm hms (by decide) (by rw [hg,e])
 ·refine ⟨hF.os,hF.tape,hF.output,hF.size,fun i hi h1 h2 hp=>hF.block i hi ⟨h1,fun e=>?_⟩⟩
  obtain ⟨hb,cur,hc⟩:=own_at ho e.symm
  rcases hp with hp | hp
  ·omega
  ·exact hp.1 cur hc
theorem stF_i {n rg:Nat} (f:Fl) (h:Idx n rg):stF f n=(f.1,fl0 n f.2.1,fl1 n f.2.2):=by
 rcases h with ⟨rfl,rfl⟩ | ⟨rfl,rfl⟩ | ⟨rfl,rfl⟩ | ⟨rfl,rfl⟩ <;> rfl
theorem stF_p {n rg:Nat} (f:Fl) (h:Ring n rg) (h0:n≠130+512*rg) (h1:n≠131+512*rg):stF f n=(f.1 || dR rg f.2.1 f.2.2,f.2.1,f.2.2):=by
 unfold stF
 unfold Ring at h
 rw [if_neg (by omega),if_neg (by omega)]
 rcases h with ⟨rfl,q⟩ | ⟨rfl,q⟩ | ⟨rfl,q⟩ | ⟨rfl,q⟩
 ·rw [if_pos (by omega)]; rfl
 ·rw [if_pos (by omega)]; rfl
 ·rw [if_neg (by omega)]; rfl
 ·rw [if_neg (by omega)]; rfl
theorem mem_store_x (mb bb base n:Nat) (c:UInt8) (wild:Bool) (cnt st:Nat) (f:Fl) (bs:Str) (w:World) (h:MemX w mb bb base bs wild cnt st f) (hbs:base≤w.heap.size) (hn:n<25600) (hst:st≤1000000) :
  Calls Tryz.prog 155 #[.pointer (some ⟨mb,0,none⟩),.int .i64 n,.int .u8 c.toNat] w fun e w'=>e=.returned (.tuple #[])∧MemX w' mb bb base (bs.set n c) wild cnt (st+1) (stF f n)∧SF mb bb base w w':=by
 obtain ⟨vl,vm,ns,hm,hr,ho,hl,ms,hms,hml⟩:=h
 have nm : ∀ {g},vl.ownBlock=some g→g≠mb:=fun hg e=>own_ne hm ho (by decide) (by rw [hg,e])
 have nb : ∀ {g},vl.ownBlock=some g→g≠bb:=fun hg e=>own_ne hr.2 ho (by decide) (by rw [hg,e])
 have mm : ∀ {g},vm.ownBlock=some g→g≠mb:=fun hg e=>own_ne hm hms (by decide) (by rw [hg,e])
 have mn : ∀ {g},vm.ownBlock=some g→g≠bb:=fun hg e=>own_ne hr.2 hms (by decide) (by rw [hg,e])
 have hex : ∃ rg,Ring n rg∧(Idx n rg∨(n≠130+512*rg∧n≠131+512*rg)):=by
  unfold Ring Idx
  by_cases h1:n<512
  ·exact ⟨0,.inl ⟨rfl,h1⟩,by omega⟩
  by_cases h2:n<1024
  ·exact ⟨1,.inr (.inr (.inl ⟨rfl,by omega,h2⟩)),by omega⟩
  by_cases h3:n<13312
  ·exact ⟨0,.inr (.inl ⟨rfl,by omega,h3⟩),by omega⟩
  ·exact ⟨1,.inr (.inr (.inr ⟨rfl,by omega⟩)),by omega⟩
 obtain ⟨rg,hrg,hix | ⟨hx0,hx1⟩⟩:=hex
 ·rw [stF_i f hix]
  rcases List.eq_nil_or_concat ms with rfl | ⟨l,⟨x,y⟩,rfl⟩
  ·refine (store_first mb bb base n c vl wild f.1 f.2.1 f.2.2 cnt st bs vm w hm hms hr hbs (by omega) (by unfold Idx at hix; omega)).mono ?_
   rintro e w' ⟨rfl,⟨vm',hd,hmk⟩,hr',hF⟩
   refine ⟨rfl,⟨vl,vm',ns,hd,hr',own_keep ho fun g hg=>hF.block g (own_lt ho hg) ⟨nm hg,nb hg,own_apart ho hms (by decide) hg⟩,hl,marks_le hmk (by omega)⟩,hF.os,hF.tape,hF.output,hF.size,fun i hi h1 h2 hp=>hF.block i hi ⟨h1,h2,fun e=>?_⟩⟩
   obtain ⟨hb,cur,hc⟩:=own_at hms e.symm
   rcases hp with hp | hp
   ·omega
   ·exact hp cur hc
  ·rw [List.concat_eq_append] at hms hml
   obtain ⟨g,cap,hv⟩ : ∃ g cap,vm=.slice (some ⟨g,0,none⟩) (l.length+1) cap:=by
    have h':=hms
    obtain ⟨_,⟨_,h0⟩ | ⟨g,cap,cur,hv,_⟩⟩:=h'
    ·simp at h0
    ·exact ⟨g,cap,by rw [hv]; simp⟩
   subst hv
   have hg0:(Value.slice (some ⟨g,0,none⟩) (l.length+1) cap).ownBlock=some g:=rfl
   by_cases hxy:x=rg∧y=cnt
   ·obtain ⟨rfl,rfl⟩:=hxy
    obtain ⟨c1,c2⟩:=last_cells rfl hms
    refine (store_same mb bb g cap l.length n rg c vl wild f.1 f.2.1 f.2.2 cnt st bs w hm hr (by omega) (by simp at hml; omega) hix c1 c2 (mm hg0) (mn hg0)).mono ?_
    rintro e w' ⟨rfl,hd,hr',hF⟩
    exact ⟨rfl,⟨vl,_,ns,hd,hr',own_keep ho fun g hg=>hF.block g (own_lt ho hg) ⟨nm hg,nb hg⟩,hl,_,own_keep hms fun g hg=>hF.block g (own_lt hms hg) ⟨mm hg,mn hg⟩,by omega⟩,hF.os,hF.tape,hF.output,hF.size,fun i hi h1 h2 hp=>hF.block i hi ⟨h1,h2⟩⟩
   ·refine (store_next mb bb base g cap n rg l.length c vl wild f.1 f.2.1 f.2.2 cnt st bs l x y w hm hms hr hbs (by omega) (by simp at hml; omega) rfl hix ((Classical.em (x=rg)).elim (fun hh=>.inr ⟨hh,fun h=>hxy ⟨hh,h⟩⟩) (fun hh=>.inl hh))).mono ?_
    rintro e w' ⟨rfl,⟨vm',hd,hmk⟩,hr',hF⟩
    refine ⟨rfl,⟨vl,vm',ns,hd,hr',own_keep ho fun g' hg=>hF.block g' (own_lt ho hg) ⟨nm hg,nb hg,fun e=>own_apart ho hms (by decide) hg (congrArg some e)⟩,hl,marks_le hmk (by simp at hml; omega)⟩,hF.os,hF.tape,hF.output,hF.size,fun i hi h1 h2 hp=>hF.block i hi ⟨h1,h2,fun e=>?_⟩⟩
    obtain ⟨hb,cur,hc⟩:=own_at hms hg0
    subst e
    rcases hp with hp | hp
    ·omega
    ·exact hp cur hc
 ·rw [stF_p f hrg hx0 hx1]
  refine (store_plain mb bb n rg c vl vm wild f.1 f.2.1 f.2.2 cnt st bs w hm hr hn (by omega) hrg hx0 hx1).mono ?_
  rintro e w' ⟨rfl,hd,hr',hF⟩
  exact ⟨rfl,⟨vl,vm,ns,hd,hr',own_keep ho fun g hg=>hF.block g (own_lt ho hg) ⟨nm hg,nb hg⟩,hl,ms,own_keep hms fun g hg=>hF.block g (own_lt hms hg) ⟨mm hg,mn hg⟩,by omega⟩,hF.os,hF.tape,hF.output,hF.size,fun i hi h1 h2 hp=>hF.block i hi ⟨h1,h2⟩⟩
theorem mem_store (mb bb base n:Nat) (c:UInt8) (wild:Bool) (cnt st:Nat) (bs:Str) (w:World) (h:Mem w mb bb base bs wild cnt st) (hbs:base≤w.heap.size) (hn:n<25600) (hst:st≤1000000) :
  Calls Tryz.prog 155 #[.pointer (some ⟨mb,0,none⟩),.int .i64 n,.int .u8 c.toNat] w fun e w'=>e=.returned (.tuple #[])∧Mem w' mb bb base (bs.set n c) wild cnt (st+1)∧SF mb bb base w w':=by
 obtain ⟨f,h⟩:=h
 exact (mem_store_x mb bb base n c wild cnt st f bs w h hbs hn hst).mono fun e w' ⟨a,b,c⟩=>⟨a,⟨_,b⟩,c⟩
end Qf
def aO (w:World) (rb:Nat) (t:TypeId) (mb ba bu av us:Nat) (out:List Bool):Prop :=
 aB w rb ([.iface 71 (.pointer (some ⟨mb,0,none⟩)),.int .i64 ba,.int .i64 bu,.int .u16 av,.int .u16 us]++out.map Value.bool) t
namespace Qg
open Ka Wa Wb Wc Wd We Wf Wg Wh Wi Wj Wk Wl Wm Ha Hb Hc Re Qa Qb Qc Qd Qe Qf
def wrN (bs:Str) (p v:Nat):Nat→Str
 | 0=>bs
 | k+1=>(wrN bs p v k).set (p+k) (UInt8.ofNat (v/2 ^ (8*k)))
theorem aT (bs:Str) (p v k:Nat):(wrN bs p v k).length=bs.length:=by
 induction k with
 | zero=>rfl
 | succ k ih=>rw [wrN,List.length_set,ih]
def stFs (f:Fl) (p:Nat):Nat→Fl
 | 0=>f
 | k+1=>stF (stFs f p k) (p+k)
theorem m_store (mb : Nat) (W : World) : (method 521 71 (.pointer (some ⟨mb, 0, none⟩)) "Store").run Tryz.prog W = .ok (155, .pointer (some ⟨mb, 0, none⟩)) W := by kernel_rfl
theorem m_load (mb : Nat) (W : World) : (method 521 71 (.pointer (some ⟨mb, 0, none⟩)) "Load").run Tryz.prog W = .ok (159, .pointer (some ⟨mb, 0, none⟩)) W := by kernel_rfl
theorem cf_store (args:Array Value) (W:World):(callFunc 155 args).run Tryz.prog W=.ok (.enter 155 args) W:=by kernel_rfl
theorem cf_load (args:Array Value) (W:World):(callFunc 159 args).run Tryz.prog W=.ok (.enter 159 args) W:=by kernel_rfl
theorem rstore_x (rb mb bb base ba bu av us p size v:Nat) (t:TypeId) (out:List Bool) (wild:Bool) (cnt st:Nat) (f:Fl) (bs:Str) (w:World) (h:MemX w mb bb base bs wild cnt st f) (hr:aO w rb t mb ba bu av us out) (hbs:base≤w.heap.size) (hsz:size≤8) (hp:ba+p+size≤25600) (hv:v<4294967296) (hst:st≤900000) (ht2:t≠177) (hrm:rb≠mb) (hrb:rb≠bb) :
  Calls Tryz.prog 213 #[.pointer (some ⟨rb,0,none⟩),.int .i64 p,.int .i64 size,.int .i64 v] w fun e w' =>
   e=.returned (.tuple #[])∧MemX w' mb bb base (wrN bs (ba+p) v size) wild cnt (st+size) (stFs f (ba+p) size)∧SF mb bb base w w':=by
 have HM:=aH h
 have HR:=aH hr
 have HMS:=aH m_store
 have HCF:=aH cf_store
 clear h hr
 go_enter Tryz.func213,Tryz.ntmps213
 go_wp2_with fail
 go_loopw [10] (fun i wr=>∃ k:Nat,i=.int .i64 k∧k≤size∧MemX wr mb bb base (wrN bs (ba+p) v k) wild cnt (st+k) (stFs f (ba+p) k)∧SF mb bb base w wr) (fun i _=>size - (intOf i).toNat)
 case atStart=>exact ⟨0,rfl,Nat.zero_le _,aU HM,Qf.SF.refl _ _ _ _⟩
 case round =>
  obtain ⟨k,rfl,hk,hm,hF⟩:=hrel
  have HM1:=aH hm
  have HF1:=aH hF
  have hR1:aO wr rb t mb ba bu av us out:=(hF.block rb (aB.lt (aU HR)) hrm hrb (.inr fun cur e=>ht2 (by have:=(aU HR).symm.trans e; simp at this; exact this.2))).trans (aU HR)
  have r0:=aB.cell hR1 0 (by simp)
  have r1:=aB.cell hR1 1 (by simp)
  simp only [List.cons_append,List.getElem_cons_zero,List.getElem_cons_succ] at r0 r1
  have hsz1:=hF.size
  clear hm hF
  by_cases hlk:k<size
  ·have hms:=m_store mb
   have hcf:=cf_store
   obtain ⟨q,hq⟩ : ∃ q,q=ba+p:=⟨_,rfl⟩
   obtain ⟨pk,hpk⟩ : ∃ pk,pk=q+k:=⟨_,rfl⟩
   obtain ⟨k8,hk8⟩ : ∃ k8,k8=8*k:=⟨_,rfl⟩
   obtain ⟨x,hx⟩ : ∃ x,x=v/2 ^ k8:=⟨_,rfl⟩
   obtain ⟨cb,hcb⟩ : ∃ cb:UInt8,cb=UInt8.ofNat x:=⟨_,rfl⟩
   have e1:IntKind.i64.wrap ((ba:Int)+(p:Int))=(q:Int):=by rw [IntKind.wrap_i64]; omega
   have e2:IntKind.i64.wrap ((q:Int)+(k:Int))=(pk:Int):=by rw [IntKind.wrap_i64]; omega
   have e3:IntKind.i64.wrap (8*(k:Int))=(k8:Int):=by rw [IntKind.wrap_i64]; omega
   have hxv:x≤v:=by rw [hx]; exact Nat.div_le_self _ _
   have e4:IntKind.u8.wrap (x:Int)=(cb.toNat:Int):=by rw [IntKind.wrap_u8,hcb,UInt8.toNat_ofNat']; omega
   have e6:IntKind.u8.wrap ((v:Int)/2 ^ min k8 64)=(cb.toNat:Int):=by
    rw [Nat.min_eq_left (by omega),← e4,hx]; simp
   have HST:=aH (mem_store_x mb bb base pk cb wild cnt (st+k) (stFs f (ba+p) k) (wrN bs (ba+p) v k) wr.drew (aU HM1) (by show base≤wr.heap.size; omega) (by omega) (by omega))
   have HWN:Hid ((wrN bs (ba+p) v k).set pk cb=wrN bs (ba+p) v (k+1)∧stF (stFs f (ba+p) k) pk=stFs f (ba+p) (k+1)):=⟨by rw [wrN,hpk,hq,hcb,hx,hk8],by rw [stFs,hpk,hq]⟩
   have hS0:wr.drew.cell? ⟨rb,0,none⟩=some (.iface 71 (.pointer (some ⟨mb,0,none⟩)))∧wr.drew.cell? ⟨rb,1,none⟩=some (.int .i64 ba):=⟨r0,r1⟩
   have HKP:Hid (∀ W':World,SF mb bb base wr.drew W'→W'.cell? ⟨rb,0,none⟩=some (.iface 71 (.pointer (some ⟨mb,0,none⟩)))∧W'.cell? ⟨rb,1,none⟩=some (.int .i64 ba)):=fun W' hF=>by
    have e:W'.heap[rb]? = wr.heap[rb]?:=hF.block rb (aB.lt hR1) hrm hrb (.inr fun cur e=>ht2 (by have:=hR1.symm.trans e; simp at this; exact this.2))
    exact ⟨(World.cell?_of_block e).trans r0,(World.cell?_of_block e).trans r1⟩
   clear hq hpk hk8 hx hcb hxv e4 hR1
   go_wp2_with fail
   go_region_held (fun w'=>w'.cell? ⟨rb,0,none⟩=some (.iface 71 (.pointer (some ⟨mb,0,none⟩)))∧w'.cell? ⟨rb,1,none⟩=some (.int .i64 ba)) (first | assumption | go_keep)
    (first | (go_at_call 155; go_loud (refine (aU HST).mono ?_; rintro e w' ⟨rfl,hm2,hF2⟩; have hS2:=aU HKP w' hF2)))
   all_goals
    rw [(aU HWN).1,(aU HWN).2] at hm2
    have HM2:=aH hm2
    have HF2:=aH (Qf.SF.trans (aU HF1) (Qf.SF.trans (Qf.SF.of_below (Below.refl _ _).drew) hF2))
    clear hm2 hF2
    go_wp2_with fail
    exact ⟨⟨k+1,by go_num,by omega,by have:=aU HM2; rwa [Nat.add_assoc] at this,aU HF2⟩,by simp [intOf]; omega⟩
  ·have hkl:k=size:=by omega
   subst hkl
   go_wp2
   refine bodyPost_end (v:=.tuple #[]) (by simp [results,Tryz.results213]) rfl ?_
   exact ⟨rfl,aU HM1,aU HF1⟩
theorem rstore_any (rb mb bb base ba bu av us p size v:Nat) (t:TypeId) (out:List Bool) (wild:Bool) (cnt st:Nat) (bs:Str) (w:World) (h:Mem w mb bb base bs wild cnt st) (hr:aO w rb t mb ba bu av us out) (hbs:base≤w.heap.size) (hsz:size≤8) (hp:ba+p+size≤25600) (hv:v<4294967296) (hst:st≤900000) (ht2:t≠177) (hrm:rb≠mb) (hrb:rb≠bb) :
  Calls Tryz.prog 213 #[.pointer (some ⟨rb,0,none⟩),.int .i64 p,.int .i64 size,.int .i64 v] w fun e w' =>
   e=.returned (.tuple #[])∧Mem w' mb bb base (wrN bs (ba+p) v size) wild cnt (st+size)∧SF mb bb base w w':=by
 obtain ⟨f,h⟩:=h
 exact (rstore_x rb mb bb base ba bu av us p size v t out wild cnt st f bs w h hr hbs hsz hp hv hst ht2 hrm hrb).mono fun e w' ⟨a,b,c⟩=>⟨a,⟨_,b⟩,c⟩
end Qg
namespace Qi
open Ka Wa Wb Wc Wd We Wf Wg Wh Wi Wj Wk Wl Wm Ha Hb Hc Re Qa Qb Qc Qd Qe Qf Qg
theorem buffer_any (rb mb ba bu av us slot:Nat) (t:TypeId) (out:List Bool) (w:World) (hr:aO w rb t mb ba bu av us out) (h1:bu≤100000) (h2:slot≤100) :
  Calls Tryz.prog 214 #[.pointer (some ⟨rb,0,none⟩),.int .i64 slot] w fun e w'=>e=.returned (.int .i64 ((bu+1536*slot:Nat):Int))∧w'=w:=by
 have r2:=aB.cell hr 2 (by simp)
 simp only [List.cons_append,List.getElem_cons_zero,List.getElem_cons_succ] at r2
 clear hr
 go_enter Tryz.func214,Tryz.ntmps214
 go_wp2
 go_ret
 exact ⟨by simp,rfl⟩
theorem entry_any (rb mb ba bu av us:Nat) (t:TypeId) (out:List Bool) (w:World) (hr:aO w rb t mb ba bu av us out) (h1:us<65536) :
  Calls Tryz.prog 218 #[.pointer (some ⟨rb,0,none⟩)] w fun e w'=>e=.returned (.int .i64 ((260+8*(us%8):Nat):Int))∧w'=w:=by
 have r4:=aB.cell hr 4 (by simp)
 simp only [List.cons_append,List.getElem_cons_zero,List.getElem_cons_succ] at r4
 clear hr
 have e1:(0:Int)≤(us:Int)%8:=by omega
 have e2:(us:Int)%8<8:=by omega
 go_enter Tryz.func218,Tryz.ntmps218
 go_wp2
 go_ret
 exact ⟨by simp,rfl⟩
end Qi
end Go.Proofs.YtkkpahmoljiepaaGreatDoor
