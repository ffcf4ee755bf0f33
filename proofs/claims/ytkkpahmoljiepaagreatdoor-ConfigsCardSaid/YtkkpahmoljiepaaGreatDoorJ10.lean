/- Contracts: beaconref's Memory: Store. -/
import Derived.Test.YtkkpahmoljiepaaGreatDoorJ09
import Derived.Deep.Cut
import Derived.Deep.CutRange
import Derived.Deep.RegionLaw
import Derived.Deep.AppendLies
import Derived.BigQuiet
set_option linter.unusedSimpArgs false
set_option linter.unusedVariables false
set_option maxRecDepth 1000000
set_option maxHeartbeats 12800000
namespace Go.Proofs.YtkkpahmoljiepaaGreatDoor
open Go.RowKit
open Pu (Str aH aU)
namespace Qb
open Ka Wa Wb Wc Wd We Wf Wg Wh Wi Wj Wk Wl Wm Ha Hb Hc Re Qa
theorem RowB.set {w:World} {bb:Nat} {bs:Str} (h:RowB w bb bs) (n:Nat) (c:UInt8):RowB (w.setCell ⟨bb,n,none⟩ (.int .u8 c.toNat)) bb (bs.set n c) :=
 ⟨by rw [List.length_set]; exact h.1,by have:=h.2.set n (.int .u8 c.toNat); rwa [List.map_set]⟩
theorem RowB.of {w w':World} {bb:Nat} {bs:Str} (h:RowB w bb bs) (hb:w'.heap[bb]? = w.heap[bb]?):RowB w' bb bs:=⟨h.1,hb.trans h.2⟩
def dR (rg:Nat) (d0 d1:Bool):Bool:=match rg with
 | 0=>d0
 | _=>d1
def Ring (n rg:Nat):Prop:=(rg=0∧n<512)∨(rg=0∧1024≤n∧n<13312)∨(rg=1∧512≤n∧n<1024)∨(rg=1∧13312≤n)
theorem store_plain (mb bb n rg:Nat) (c:UInt8) (vl vm:Value) (wild early d0 d1:Bool) (cnt st:Nat) (bs:Str) (w:World) (h:aF w mb bb vl vm wild cnt early d0 d1 st) (hr:RowB w bb bs) (hn:n<25600) (hst:st≤100000000) (hrg:Ring n rg) (h0:n≠130+512*rg) (h1:n≠131+512*rg) :
  Calls Tryz.prog 155 #[.pointer (some ⟨mb,0,none⟩),.int .i64 n,.int .u8 c.toNat] w fun e w' =>
   e=.returned (.tuple #[])∧aF w' mb bb vl vm wild cnt (early || dR rg d0 d1) d0 d1 (st+1)∧RowB w' bb (bs.set n c)∧Fr (fun i=>i≠mb∧i≠bb) w w':=by
 have hmb:mb≠bb:=blk_ne h hr.2 (by decide)
 obtain ⟨s1,hs1⟩ : ∃ s1,s1=st+1:=⟨_,rfl⟩
 have ks:(st:Int)+1=(s1:Int):=by omega
 rw [← hs1]
 have hsb:s1≤200000000:=by omega
 have hM1:=aF.set9 h s1
 have m0:=aF.at0 h
 have m9:=aF.at9 h
 have m6:=aF.at6 h
 have m7:=aF.at7 h
 have m8:=aF.at8 h
 have hf:=aF.fz h
 have p0:=aF.at0 hM1
 have p6:=aF.at6 hM1
 have p7:=aF.at7 hM1
 have p8:=aF.at8 hM1
 have hf1:=aF.fz hM1
 have HM1:=aH hM1
 have HR:=aH hr
 have hbl:=hr.2.lt
 have hbc:=hr.2.cell n (by simpa using (by rw [hr.1]; exact hn))
 have hbf:=hr.2.frozen
 simp only [List.getElem_map] at hbc
 have hbn:n<bs.length:=by rw [hr.1]; exact hn
 have hbc2 : ∃ v,w.cell? ⟨bb,n,none⟩=some (.int .u8 v):=⟨_,hbc⟩
 obtain ⟨v0,hv0⟩:=hbc2
 clear h hr hs1 hM1 hbc
 have HF:Hid (∀ (W:World) (b:Bool),W=(w.setCell ⟨mb,9,none⟩ (.int .i64 s1)).setCell ⟨mb,6,none⟩ (.bool b)→aF (W.setCell ⟨bb,n,none⟩ (.int .u8 c.toNat)) mb bb vl vm wild cnt b d0 d1 s1∧RowB (W.setCell ⟨bb,n,none⟩ (.int .u8 c.toNat)) bb (bs.set n c)∧Fr (fun i=>i≠mb∧i≠bb) w (W.setCell ⟨bb,n,none⟩ (.int .u8 c.toNat))):=fun W b hW=>by
  subst hW
  have e1:=aF.set6 (aU HM1) b
  have r1:RowB ((w.setCell ⟨mb,9,none⟩ (.int .i64 s1)).setCell ⟨mb,6,none⟩ (.bool b)) bb bs:=RowB.of (aU HR) ((Below.heap_setCell _ _ _ _ (fun e=>hmb e.symm)).trans (Below.heap_setCell _ _ _ _ (fun e=>hmb e.symm)))
  exact ⟨aF.of e1 (Below.heap_setCell _ _ _ _ hmb),RowB.set r1 n c,((Fr.of_set (a:=⟨mb,9,none⟩) (p:=fun i=>i≠mb∧i≠bb) _ fun i h=>h.1).trans (Fr.of_set _ fun i h=>h.1)).trans (Fr.of_set _ fun i h=>h.2)⟩
 go_enter Tryz.func155,Tryz.ntmps155
 rcases hrg with ⟨rfl,q1⟩ | ⟨rfl,q1,q2⟩ | ⟨rfl,q1,q2⟩ | ⟨rfl,q1⟩
 ·have k0 : ¬ (n:Int)<0:=by omega
  have k1 : ¬ (25600:Int)≤(n:Int):=by omega
  have k2 : ¬ (512:Int)≤(n:Int):=by omega
  have k3 : ¬ (13312:Int)≤(n:Int):=by omega
  have k6 : ¬ (n:Int)=130:=by omega
  have k7 : ¬ (n:Int)=131:=by omega
  have k4:((n:Int) == 130)=false:=by simpa using k6
  have k5:((n:Int) == 131)=false:=by simpa using k7
  have k8 : ¬ n=130:=by omega
  have k9 : ¬ n=131:=by omega
  clear hst hbn h0 h1 q1 p0 p6 p7 p8 hf1
  cases early with
  | true =>
   go_wp2
   refine bodyPost_end (v:=.tuple #[]) (by simp [results,Tryz.results155]) rfl ?_
   have hfin:=aU HF _ true rfl
   exact ⟨rfl,hfin.1,hfin.2.1,hfin.2.2⟩
  | false =>
   go_wp2
   refine bodyPost_end (v:=.tuple #[]) (by simp [results,Tryz.results155]) rfl ?_
   have hfin:=aU HF _ d0 rfl
   exact ⟨rfl,hfin.1,hfin.2.1,hfin.2.2⟩
 ·have k0 : ¬ (n:Int)<0:=by omega
  have k1 : ¬ (25600:Int)≤(n:Int):=by omega
  have k2:(512:Int)≤(n:Int):=by omega
  have k2a : ¬ (n:Int)<1024:=by omega
  have k3 : ¬ (13312:Int)≤(n:Int):=by omega
  have k6 : ¬ (n:Int)=130:=by omega
  have k7 : ¬ (n:Int)=131:=by omega
  have k4:((n:Int) == 130)=false:=by simpa using k6
  have k5:((n:Int) == 131)=false:=by simpa using k7
  have k8 : ¬ n=130:=by omega
  have k9 : ¬ n=131:=by omega
  clear hst hbn h0 h1 q1 q2 p0 p6 p7 p8 hf1
  cases early with
  | true =>
   go_wp2
   refine bodyPost_end (v:=.tuple #[]) (by simp [results,Tryz.results155]) rfl ?_
   have hfin:=aU HF _ true rfl
   exact ⟨rfl,hfin.1,hfin.2.1,hfin.2.2⟩
  | false =>
   go_wp2
   refine bodyPost_end (v:=.tuple #[]) (by simp [results,Tryz.results155]) rfl ?_
   have hfin:=aU HF _ d0 rfl
   exact ⟨rfl,hfin.1,hfin.2.1,hfin.2.2⟩
 ·have k0 : ¬ (n:Int)<0:=by omega
  have k1 : ¬ (25600:Int)≤(n:Int):=by omega
  have k2:(512:Int)≤(n:Int):=by omega
  have k2a:(n:Int)<1024:=by omega
  have k6 : ¬ (n:Int)=642:=by omega
  have k7 : ¬ (n:Int)=643:=by omega
  have k4:((n:Int) == 642)=false:=by simpa using k6
  have k5:((n:Int) == 643)=false:=by simpa using k7
  have k8 : ¬ n=642:=by omega
  have k9 : ¬ n=643:=by omega
  clear hst hbn h0 h1 q1 q2 p0 p6 p7 p8 hf1
  cases early with
  | true =>
   go_wp2
   refine bodyPost_end (v:=.tuple #[]) (by simp [results,Tryz.results155]) rfl ?_
   have hfin:=aU HF _ true rfl
   exact ⟨rfl,hfin.1,hfin.2.1,hfin.2.2⟩
  | false =>
   go_wp2
   refine bodyPost_end (v:=.tuple #[]) (by simp [results,Tryz.results155]) rfl ?_
   have hfin:=aU HF _ d1 rfl
   exact ⟨rfl,hfin.1,hfin.2.1,hfin.2.2⟩
 ·have k0 : ¬ (n:Int)<0:=by omega
  have k1 : ¬ (25600:Int)≤(n:Int):=by omega
  have k2:(512:Int)≤(n:Int):=by omega
  have k2a : ¬ (n:Int)<1024:=by omega
  have k3:(13312:Int)≤(n:Int):=by omega
  have k6 : ¬ (n:Int)=642:=by omega
  have k7 : ¬ (n:Int)=643:=by omega
  have k4:((n:Int) == 642)=false:=by simpa using k6
  have k5:((n:Int) == 643)=false:=by simpa using k7
  have k8 : ¬ n=642:=by omega
  have k9 : ¬ n=643:=by omega
  clear hst hbn h0 h1 q1 p0 p6 p7 p8 hf1
  cases early with
  | true =>
   go_wp2
   refine bodyPost_end (v:=.tuple #[]) (by simp [results,Tryz.results155]) rfl ?_
   have hfin:=aU HF _ true rfl
   exact ⟨rfl,hfin.1,hfin.2.1,hfin.2.2⟩
  | false =>
   go_wp2
   refine bodyPost_end (v:=.tuple #[]) (by simp [results,Tryz.results155]) rfl ?_
   have hfin:=aU HF _ d1 rfl
   exact ⟨rfl,hfin.1,hfin.2.1,hfin.2.2⟩
end Qb
namespace Qc
open Ka Wa Wb Wc Wd We Wf Wg Wh Wi Wj Wk Wl Wm Ha Hb Hc Re Qa Qb
theorem infoM:(Tryz.prog.info? 177).map (fun i=>(i.zero,i.size,i.bytes))=some (some (.agg #[.int .i64 0,.int .i64 0]),2,16):=by kernel_rfl
theorem underM:Tryz.prog.underlying 81=some (.slice 177):=by kernel_rfl
theorem new2 (W:World) (b:Nat) (hb:b=W.heap.size) (x y:Int) (t:TypeId) : ∀ (j:Nat) (u:Value),[Value.int .i64 x,Value.int .i64 y][j]? = some u→(W.alloc (.cells #[.int .i64 x,.int .i64 y] t)).cell? ((⟨b,0,none⟩:Addr).add j)=some u:=fun j u hj=>by
 subst hb
 match j,hj with
 | 0,hj=>simp at hj; subst hj; simp [Addr.add]
 | 1,hj=>simp at hj; subst hj; exact (aB.new W [Value.int .i64 x,Value.int .i64 y] t).cell 1 (by simp)
 | n+2,hj=>simp at hj
theorem one2 (x y:Int) : ∀ u∈[Value.int .i64 x,Value.int .i64 y],u.oneCell'=true:=by
 intro u hu
 simp at hu
 rcases hu with rfl | rfl <;> rfl
def fl0 (n:Nat) (d:Bool):Bool:=if n<512 then true else d
def fl1 (n:Nat) (d:Bool):Bool:=if n<512 then d else true
def MarksAt (w:World) (base:Nat) (v:Value) (k:Nat):Prop:=∃ ms,OwnM w base v ms∧ms.length≤k
theorem fin_index {w w3:World} {mb bb base n:Nat} {c:UInt8} {vl vm vm':Value} {wild early d0 d1:Bool} {cnt s1:Nat} {bs:Str} {ms:List (Int×Int)} {P:Nat→Prop}
  (hm:aF w3 mb bb vl vm wild cnt early d0 d1 s1) (ho:OwnM w3 base vm' ms) (hr:RowB w3 bb bs) (hF:Fr P w w3) (hP : ∀ i,P i→i≠mb∧i≠bb) :
  aF ((w3.setCell ⟨mb,5,none⟩ vm').setCell ⟨bb,n,none⟩ (.int .u8 c.toNat)) mb bb vl vm' wild cnt early d0 d1 s1∧MarksAt ((w3.setCell ⟨mb,5,none⟩ vm').setCell ⟨bb,n,none⟩ (.int .u8 c.toNat)) base vm' ms.length∧RowB ((w3.setCell ⟨mb,5,none⟩ vm').setCell ⟨bb,n,none⟩ (.int .u8 c.toNat)) bb (bs.set n c)∧Fr P w ((w3.setCell ⟨mb,5,none⟩ vm').setCell ⟨bb,n,none⟩ (.int .u8 c.toNat)):=by
 have hmb:mb≠bb:=blk_ne hm hr.2 (by decide)
 have n1:some mb≠vm'.ownBlock:=own_ne hm ho (by decide)
 have n2:some bb≠vm'.ownBlock:=own_ne hr.2 ho (by decide)
 refine ⟨aF.of (aF.set5 hm vm') (Below.heap_setCell _ _ _ _ hmb),⟨ms,aS (aS ho n1 _ _) n2 _ _,Nat.le_refl _⟩,RowB.set (RowB.of hr (Below.heap_setCell _ _ _ _ (fun e=>hmb e.symm))) n c,(hF.trans (Fr.of_set _ fun i h=>(hP i h).1)).trans (Fr.of_set _ fun i h=>(hP i h).2)⟩
theorem store_first (mb bb base n:Nat) (c:UInt8) (vl:Value) (wild early d0 d1:Bool) (cnt st:Nat) (bs:Str) (vm:Value) (w:World) (h:aF w mb bb vl vm wild cnt early d0 d1 st) (ho:OwnM w base vm []) (hr:RowB w bb bs) (hbs:base≤w.heap.size) (hst:st≤100000000) (hn:n=130∨n=131∨n=642∨n=643) :
  Calls Tryz.prog 155 #[.pointer (some ⟨mb,0,none⟩),.int .i64 n,.int .u8 c.toNat] w fun e w' =>
   e=.returned (.tuple #[])∧(∃ vm',aF w' mb bb vl vm' wild cnt early (fl0 n d0) (fl1 n d1) (st+1)∧MarksAt w' base vm' 1)∧RowB w' bb (bs.set n c)∧Fr (fun i=>i≠mb∧i≠bb∧some i≠vm.ownBlock) w w':=by
 obtain ⟨i0,hi,hz0,hz1,hz2⟩:=info_parts infoM
 obtain ⟨va,vc,rfl⟩ : ∃ a c,vm=.slice a 0 c:=by
  obtain ⟨_,⟨rfl,_⟩ | ⟨g,cap,cur,rfl,_⟩⟩:=ho
  ·exact ⟨_,_,rfl⟩
  ·exact ⟨_,_,rfl⟩
 obtain ⟨s1,hs1⟩ : ∃ s1,s1=st+1:=⟨_,rfl⟩
 have ks:(st:Int)+1=(s1:Int):=by omega
 rw [← hs1]
 have hsb:s1≤200000000:=by omega
 have m0:=aF.at0 h
 have m4:=aF.at4 h
 have m5:=aF.at5 h
 have m7:=aF.at7 h
 have m8:=aF.at8 h
 have m9:=aF.at9 h
 have hf:=aF.fz h
 have HM:=aH h
 have HR:=aH hr
 have HO:=aH ho
 clear h hr ho hs1 hst
 have hne:some mb≠(Value.slice va 0 vc).ownBlock:=own_ne (aU HM) (aU HO) (by decide)
 have hneb:some bb≠(Value.slice va 0 vc).ownBlock:=own_ne (aU HR).2 (aU HO) (by decide)
 have hmb:mb≠bb:=blk_ne (aU HM) (aU HR).2 (by decide)
 have hlt:=aF.lt (aU HM)
 go_enter Tryz.func155,Tryz.ntmps155
 rcases hn with rfl | rfl | rfl | rfl
 ·have HM1:=aH (aF.set7 (aF.set9 (aU HM) s1) true)
  have HO1:Hid (OwnM ((w.setCell ⟨mb,9,none⟩ (.int .i64 s1)).setCell ⟨mb,7,none⟩ (.bool true)) base (.slice va 0 vc) []):=aS (aS (aU HO) hne _ _) hne _ _
  go_upto_region 9 with fail
  go_region
  go_upto_region 10 with fail
  go_region_law (first | (refine step_append_lies _ rfl (.tmp 84) (.tmp 91) 81 rfl base 177 i0 (.agg #[.int .i64 0,.int .i64 0]) 2 16 underM hi hz0 hz1 hz2 rfl (by decide) _ 0 [] rfl ((aU HO1).alloc _) _ 1 1 [.int .i64 0,.int .i64 cnt] rfl rfl (new2 _ _ (by simp [World.setCell]) 0 cnt _) (one2 0 cnt) (by decide) (by unfold maxLen; omega) (by omega) (by simp [World.setCell]; omega) (w.heap.size+1) (by simp [World.setCell]) ?_; intro g cap w3 hown hgrow hat hlt3; have hm3:=aF.of (aU HM1) ((hgrow.block mb (by simp [World.setCell]; omega) hne).trans (Below.heap_alloc _ _ _ (by simpa [World.setCell] using hlt))); have b5:=aF.at5 hm3; have hf3:=aF.fz hm3))
  all_goals
   have hown':OwnM w3 base (.slice (some ⟨g,0,none⟩) 1 cap) [((0:Int),(cnt:Int))]:=hown
   have hgr:World.grownBy (((w.setCell ⟨mb,9,none⟩ (.int .i64 s1)).setCell ⟨mb,7,none⟩ (.bool true)).alloc (.cells #[.int .i64 0,.int .i64 cnt] 177)) w3 (Value.slice va 0 vc).ownBlock:=⟨hgrow.os,hgrow.tape,hgrow.output,hgrow.size,hgrow.block⟩
   have hblk : ∀ i,i<w.heap.size→i≠mb→some i≠(Value.slice va 0 vc).ownBlock→w3.heap[i]? = w.heap[i]?:=fun i hi h1 h2 =>
    ((hgr.block i (by simp [World.setCell]; omega) h2).trans (Below.heap_alloc _ _ _ (by simpa [World.setCell] using hi))).trans ((Below.heap_setCell _ _ _ _ h1).trans (Below.heap_setCell _ _ _ _ h1))
   have hr3:RowB w3 bb bs:=RowB.of (aU HR) (hblk bb (aU HR).2.lt (fun e=>hmb e.symm) hneb)
   have hF3:Fr (fun i=>i≠mb∧i≠bb∧some i≠(Value.slice va 0 vc).ownBlock) w w3:=⟨hgr.os,hgr.tape,hgr.output,Nat.le_trans (by simp [World.setCell]) hgr.size,fun i hi hp=>hblk i hi hp.1 hp.2.2⟩
   have HFIN:=aH (fin_index (n:=130) (c:=c) hm3 hown' hr3 hF3 fun i h=>⟨h.1,h.2.1⟩)
   have b0:=aF.at0 hm3
   obtain ⟨v0,hrow⟩ : ∃ v,w3.cell? ⟨bb,130,none⟩=some v:=⟨_,hr3.2.cell 130 (by simp [hr3.1])⟩
   have hfrow:=hr3.2.frozen
   clear hown hgrow hat hgr hblk hr3 hF3 hown' hm3
   go_wp2
   refine bodyPost_end (v:=.tuple #[]) (by simp [results,Tryz.results155]) rfl ?_
   have hfin:=aU HFIN
   exact ⟨rfl,⟨_,hfin.1,hfin.2.1⟩,hfin.2.2.1,hfin.2.2.2⟩
 ·have HM1:=aH (aF.set7 (aF.set9 (aU HM) s1) true)
  have HO1:Hid (OwnM ((w.setCell ⟨mb,9,none⟩ (.int .i64 s1)).setCell ⟨mb,7,none⟩ (.bool true)) base (.slice va 0 vc) []):=aS (aS (aU HO) hne _ _) hne _ _
  go_upto_region 9 with fail
  go_region
  go_upto_region 10 with fail
  go_region_law (first | (refine step_append_lies _ rfl (.tmp 84) (.tmp 91) 81 rfl base 177 i0 (.agg #[.int .i64 0,.int .i64 0]) 2 16 underM hi hz0 hz1 hz2 rfl (by decide) _ 0 [] rfl ((aU HO1).alloc _) _ 1 1 [.int .i64 0,.int .i64 cnt] rfl rfl (new2 _ _ (by simp [World.setCell]) 0 cnt _) (one2 0 cnt) (by decide) (by unfold maxLen; omega) (by omega) (by simp [World.setCell]; omega) (w.heap.size+1) (by simp [World.setCell]) ?_; intro g cap w3 hown hgrow hat hlt3; have hm3:=aF.of (aU HM1) ((hgrow.block mb (by simp [World.setCell]; omega) hne).trans (Below.heap_alloc _ _ _ (by simpa [World.setCell] using hlt))); have b5:=aF.at5 hm3; have hf3:=aF.fz hm3))
  all_goals
   have hown':OwnM w3 base (.slice (some ⟨g,0,none⟩) 1 cap) [((0:Int),(cnt:Int))]:=hown
   have hgr:World.grownBy (((w.setCell ⟨mb,9,none⟩ (.int .i64 s1)).setCell ⟨mb,7,none⟩ (.bool true)).alloc (.cells #[.int .i64 0,.int .i64 cnt] 177)) w3 (Value.slice va 0 vc).ownBlock:=⟨hgrow.os,hgrow.tape,hgrow.output,hgrow.size,hgrow.block⟩
   have hblk : ∀ i,i<w.heap.size→i≠mb→some i≠(Value.slice va 0 vc).ownBlock→w3.heap[i]? = w.heap[i]?:=fun i hi h1 h2 =>
    ((hgr.block i (by simp [World.setCell]; omega) h2).trans (Below.heap_alloc _ _ _ (by simpa [World.setCell] using hi))).trans ((Below.heap_setCell _ _ _ _ h1).trans (Below.heap_setCell _ _ _ _ h1))
   have hr3:RowB w3 bb bs:=RowB.of (aU HR) (hblk bb (aU HR).2.lt (fun e=>hmb e.symm) hneb)
   have hF3:Fr (fun i=>i≠mb∧i≠bb∧some i≠(Value.slice va 0 vc).ownBlock) w w3:=⟨hgr.os,hgr.tape,hgr.output,Nat.le_trans (by simp [World.setCell]) hgr.size,fun i hi hp=>hblk i hi hp.1 hp.2.2⟩
   have HFIN:=aH (fin_index (n:=131) (c:=c) hm3 hown' hr3 hF3 fun i h=>⟨h.1,h.2.1⟩)
   have b0:=aF.at0 hm3
   obtain ⟨v0,hrow⟩ : ∃ v,w3.cell? ⟨bb,131,none⟩=some v:=⟨_,hr3.2.cell 131 (by simp [hr3.1])⟩
   have hfrow:=hr3.2.frozen
   clear hown hgrow hat hgr hblk hr3 hF3 hown' hm3
   go_wp2
   refine bodyPost_end (v:=.tuple #[]) (by simp [results,Tryz.results155]) rfl ?_
   have hfin:=aU HFIN
   exact ⟨rfl,⟨_,hfin.1,hfin.2.1⟩,hfin.2.2.1,hfin.2.2.2⟩
 ·have HM1:=aH (aF.set8 (aF.set9 (aU HM) s1) true)
  have HO1:Hid (OwnM ((w.setCell ⟨mb,9,none⟩ (.int .i64 s1)).setCell ⟨mb,8,none⟩ (.bool true)) base (.slice va 0 vc) []):=aS (aS (aU HO) hne _ _) hne _ _
  go_upto_region 9 with fail
  go_region
  go_upto_region 10 with fail
  go_region_law (first | (refine step_append_lies _ rfl (.tmp 84) (.tmp 91) 81 rfl base 177 i0 (.agg #[.int .i64 0,.int .i64 0]) 2 16 underM hi hz0 hz1 hz2 rfl (by decide) _ 0 [] rfl ((aU HO1).alloc _) _ 1 1 [.int .i64 1,.int .i64 cnt] rfl rfl (new2 _ _ (by simp [World.setCell]) 1 cnt _) (one2 1 cnt) (by decide) (by unfold maxLen; omega) (by omega) (by simp [World.setCell]; omega) (w.heap.size+1) (by simp [World.setCell]) ?_; intro g cap w3 hown hgrow hat hlt3; have hm3:=aF.of (aU HM1) ((hgrow.block mb (by simp [World.setCell]; omega) hne).trans (Below.heap_alloc _ _ _ (by simpa [World.setCell] using hlt))); have b5:=aF.at5 hm3; have hf3:=aF.fz hm3))
  all_goals
   have hown':OwnM w3 base (.slice (some ⟨g,0,none⟩) 1 cap) [((1:Int),(cnt:Int))]:=hown
   have hgr:World.grownBy (((w.setCell ⟨mb,9,none⟩ (.int .i64 s1)).setCell ⟨mb,8,none⟩ (.bool true)).alloc (.cells #[.int .i64 1,.int .i64 cnt] 177)) w3 (Value.slice va 0 vc).ownBlock:=⟨hgrow.os,hgrow.tape,hgrow.output,hgrow.size,hgrow.block⟩
   have hblk : ∀ i,i<w.heap.size→i≠mb→some i≠(Value.slice va 0 vc).ownBlock→w3.heap[i]? = w.heap[i]?:=fun i hi h1 h2 =>
    ((hgr.block i (by simp [World.setCell]; omega) h2).trans (Below.heap_alloc _ _ _ (by simpa [World.setCell] using hi))).trans ((Below.heap_setCell _ _ _ _ h1).trans (Below.heap_setCell _ _ _ _ h1))
   have hr3:RowB w3 bb bs:=RowB.of (aU HR) (hblk bb (aU HR).2.lt (fun e=>hmb e.symm) hneb)
   have hF3:Fr (fun i=>i≠mb∧i≠bb∧some i≠(Value.slice va 0 vc).ownBlock) w w3:=⟨hgr.os,hgr.tape,hgr.output,Nat.le_trans (by simp [World.setCell]) hgr.size,fun i hi hp=>hblk i hi hp.1 hp.2.2⟩
   have HFIN:=aH (fin_index (n:=642) (c:=c) hm3 hown' hr3 hF3 fun i h=>⟨h.1,h.2.1⟩)
   have b0:=aF.at0 hm3
   obtain ⟨v0,hrow⟩ : ∃ v,w3.cell? ⟨bb,642,none⟩=some v:=⟨_,hr3.2.cell 642 (by simp [hr3.1])⟩
   have hfrow:=hr3.2.frozen
   clear hown hgrow hat hgr hblk hr3 hF3 hown' hm3
   go_wp2
   refine bodyPost_end (v:=.tuple #[]) (by simp [results,Tryz.results155]) rfl ?_
   have hfin:=aU HFIN
   exact ⟨rfl,⟨_,hfin.1,hfin.2.1⟩,hfin.2.2.1,hfin.2.2.2⟩
 ·have HM1:=aH (aF.set8 (aF.set9 (aU HM) s1) true)
  have HO1:Hid (OwnM ((w.setCell ⟨mb,9,none⟩ (.int .i64 s1)).setCell ⟨mb,8,none⟩ (.bool true)) base (.slice va 0 vc) []):=aS (aS (aU HO) hne _ _) hne _ _
  go_upto_region 9 with fail
  go_region
  go_upto_region 10 with fail
  go_region_law (first | (refine step_append_lies _ rfl (.tmp 84) (.tmp 91) 81 rfl base 177 i0 (.agg #[.int .i64 0,.int .i64 0]) 2 16 underM hi hz0 hz1 hz2 rfl (by decide) _ 0 [] rfl ((aU HO1).alloc _) _ 1 1 [.int .i64 1,.int .i64 cnt] rfl rfl (new2 _ _ (by simp [World.setCell]) 1 cnt _) (one2 1 cnt) (by decide) (by unfold maxLen; omega) (by omega) (by simp [World.setCell]; omega) (w.heap.size+1) (by simp [World.setCell]) ?_; intro g cap w3 hown hgrow hat hlt3; have hm3:=aF.of (aU HM1) ((hgrow.block mb (by simp [World.setCell]; omega) hne).trans (Below.heap_alloc _ _ _ (by simpa [World.setCell] using hlt))); have b5:=aF.at5 hm3; have hf3:=aF.fz hm3))
  all_goals
   have hown':OwnM w3 base (.slice (some ⟨g,0,none⟩) 1 cap) [((1:Int),(cnt:Int))]:=hown
   have hgr:World.grownBy (((w.setCell ⟨mb,9,none⟩ (.int .i64 s1)).setCell ⟨mb,8,none⟩ (.bool true)).alloc (.cells #[.int .i64 1,.int .i64 cnt] 177)) w3 (Value.slice va 0 vc).ownBlock:=⟨hgrow.os,hgrow.tape,hgrow.output,hgrow.size,hgrow.block⟩
   have hblk : ∀ i,i<w.heap.size→i≠mb→some i≠(Value.slice va 0 vc).ownBlock→w3.heap[i]? = w.heap[i]?:=fun i hi h1 h2 =>
    ((hgr.block i (by simp [World.setCell]; omega) h2).trans (Below.heap_alloc _ _ _ (by simpa [World.setCell] using hi))).trans ((Below.heap_setCell _ _ _ _ h1).trans (Below.heap_setCell _ _ _ _ h1))
   have hr3:RowB w3 bb bs:=RowB.of (aU HR) (hblk bb (aU HR).2.lt (fun e=>hmb e.symm) hneb)
   have hF3:Fr (fun i=>i≠mb∧i≠bb∧some i≠(Value.slice va 0 vc).ownBlock) w w3:=⟨hgr.os,hgr.tape,hgr.output,Nat.le_trans (by simp [World.setCell]) hgr.size,fun i hi hp=>hblk i hi hp.1 hp.2.2⟩
   have HFIN:=aH (fin_index (n:=643) (c:=c) hm3 hown' hr3 hF3 fun i h=>⟨h.1,h.2.1⟩)
   have b0:=aF.at0 hm3
   obtain ⟨v0,hrow⟩ : ∃ v,w3.cell? ⟨bb,643,none⟩=some v:=⟨_,hr3.2.cell 643 (by simp [hr3.1])⟩
   have hfrow:=hr3.2.frozen
   clear hown hgrow hat hgr hblk hr3 hF3 hown' hm3
   go_wp2
   refine bodyPost_end (v:=.tuple #[]) (by simp [results,Tryz.results155]) rfl ?_
   have hfin:=aU HFIN
   exact ⟨rfl,⟨_,hfin.1,hfin.2.1⟩,hfin.2.2.1,hfin.2.2.2⟩
end Qc
namespace Qd
open Ka Wa Wb Wc Wd We Wf Wg Wh Wi Wj Wk Wl Wm Ha Hb Hc Re Qa Qb Qc
def Idx (n rg:Nat):Prop:=(rg=0∧n=130)∨(rg=0∧n=131)∨(rg=1∧n=642)∨(rg=1∧n=643)
theorem store_same (mb bb g cap k n rg:Nat) (c:UInt8) (vl:Value) (wild early d0 d1:Bool) (cnt st:Nat) (bs:Str) (w:World) (h:aF w mb bb vl (.slice (some ⟨g,0,none⟩) (k+1) cap) wild cnt early d0 d1 st) (hr:RowB w bb bs) (hst:st≤100000000) (hk:k≤100000000) (hn:Idx n rg)
  (hx:w.cell? ⟨g,2*k,none⟩=some (.int .i64 rg)) (hy:w.cell? ⟨g,2*k+1,none⟩=some (.int .i64 cnt)) (hg:g≠mb) (hgb:g≠bb) :
  Calls Tryz.prog 155 #[.pointer (some ⟨mb,0,none⟩),.int .i64 n,.int .u8 c.toNat] w fun e w' =>
   e=.returned (.tuple #[])∧aF w' mb bb vl (.slice (some ⟨g,0,none⟩) (k+1) cap) wild cnt early (fl0 n d0) (fl1 n d1) (st+1)∧RowB w' bb (bs.set n c)∧Fr (fun i=>i≠mb∧i≠bb) w w':=by
 obtain ⟨s1,hs1⟩ : ∃ s1,s1=st+1:=⟨_,rfl⟩
 have ks:(st:Int)+1=(s1:Int):=by omega
 rw [← hs1]
 have hsb:s1≤200000000:=by omega
 have m0:=aF.at0 h
 have m4:=aF.at4 h
 have m5:=aF.at5 h
 have m7:=aF.at7 h
 have m8:=aF.at8 h
 have m9:=aF.at9 h
 have hf:=aF.fz h
 have HM:=aH h
 have HR:=aH hr
 have hmb:mb≠bb:=blk_ne h hr.2 (by decide)
 have k0 : ¬ (k:Int)<0:=by omega
 have dk:decide ((k:Int)<0)=false:=decide_eq_false k0
 have kb:(k:Int)<(k:Int)+1:=by omega
 have kb0:(0:Int)≤(k:Int):=by omega
 have kbn:k<k+1:=by omega
 clear h hr hs1 hst
 go_enter Tryz.func155,Tryz.ntmps155
 rcases hn with ⟨rfl,rfl⟩ | ⟨rfl,rfl⟩ | ⟨rfl,rfl⟩ | ⟨rfl,rfl⟩
 ·have hM1:=aF.set7 (aF.set9 (aU HM) s1) true
  have c0:=aF.at0 hM1
  have c4:=aF.at4 hM1
  have c5:=aF.at5 hM1
  have hgk : ∀ o v,w.cell? ⟨g,o,none⟩=some v→((w.setCell ⟨mb,9,none⟩ (.int .i64 s1)).setCell ⟨mb,7,none⟩ (.bool true)).cell? ⟨g,o,none⟩=some v:=fun o v h=>(World.cell?_of_block ((Below.heap_setCell _ _ _ _ hg).trans (Below.heap_setCell _ _ _ _ hg))).trans h
  have y1:((w.setCell ⟨mb,9,none⟩ (.int .i64 s1)).setCell ⟨mb,7,none⟩ (.bool true)).cell? ⟨g,k*2,none⟩=some (.int .i64 0):=by rw [Nat.mul_comm]; exact hgk _ _ hx
  have y2:((w.setCell ⟨mb,9,none⟩ (.int .i64 s1)).setCell ⟨mb,7,none⟩ (.bool true)).cell? ⟨g,k*2+1,none⟩=some (.int .i64 cnt):=by rw [Nat.mul_comm]; exact hgk _ _ hy
  have hR1:RowB ((w.setCell ⟨mb,9,none⟩ (.int .i64 s1)).setCell ⟨mb,7,none⟩ (.bool true)) bb bs:=RowB.of (aU HR) ((Below.heap_setCell _ _ _ _ (fun e=>hmb e.symm)).trans (Below.heap_setCell _ _ _ _ (fun e=>hmb e.symm)))
  obtain ⟨v0,hrow⟩ : ∃ v,((w.setCell ⟨mb,9,none⟩ (.int .i64 s1)).setCell ⟨mb,7,none⟩ (.bool true)).cell? ⟨bb,130,none⟩=some v:=⟨_,hR1.2.cell 130 (by simp [hR1.1])⟩
  have hfrow:=hR1.2.frozen
  have HFIN:Hid (∀ q,aF ((((w.setCell ⟨mb,9,none⟩ (.int .i64 s1)).setCell ⟨mb,7,none⟩ (.bool true)).drewN q).setCell ⟨bb,130,none⟩ (.int .u8 c.toNat)) mb bb vl (.slice (some ⟨g,0,none⟩) (k+1) cap) wild cnt early true d1 s1∧RowB ((((w.setCell ⟨mb,9,none⟩ (.int .i64 s1)).setCell ⟨mb,7,none⟩ (.bool true)).drewN q).setCell ⟨bb,130,none⟩ (.int .u8 c.toNat)) bb (bs.set 130 c)∧Fr (fun i=>i≠mb∧i≠bb) w ((((w.setCell ⟨mb,9,none⟩ (.int .i64 s1)).setCell ⟨mb,7,none⟩ (.bool true)).drewN q).setCell ⟨bb,130,none⟩ (.int .u8 c.toNat))):=fun q=>by
   have hF1:Fr (fun i=>i≠mb∧i≠bb) w ((w.setCell ⟨mb,9,none⟩ (.int .i64 s1)).setCell ⟨mb,7,none⟩ (.bool true)):=(Fr.of_set (p:=fun i=>i≠mb∧i≠bb) _ fun i h=>h.1).trans (Fr.of_set _ fun i h=>h.1)
   have hF2:Fr (fun i=>i≠mb∧i≠bb) w (((w.setCell ⟨mb,9,none⟩ (.int .i64 s1)).setCell ⟨mb,7,none⟩ (.bool true)).drewN q):=⟨hF1.os,hF1.tape,hF1.output,hF1.size,hF1.block⟩
   exact ⟨aF.of (w:=((w.setCell ⟨mb,9,none⟩ (.int .i64 s1)).setCell ⟨mb,7,none⟩ (.bool true)).drewN q) hM1 (Below.heap_setCell _ _ _ _ hmb),RowB.set (w:=((w.setCell ⟨mb,9,none⟩ (.int .i64 s1)).setCell ⟨mb,7,none⟩ (.bool true)).drewN q) hR1 130 c,hF2.trans (Fr.of_set _ fun i h=>h.2)⟩
  clear hM1 hgk hR1 hx hy
  go_upto_region 9 with fail
  go_quiet (fail)
  go_wp2
  refine bodyPost_end (v:=.tuple #[]) (by simp [results,Tryz.results155]) rfl ?_
  have hfin:=aU HFIN nq
  exact ⟨rfl,hfin.1,hfin.2.1,hfin.2.2⟩
 ·have hM1:=aF.set7 (aF.set9 (aU HM) s1) true
  have c0:=aF.at0 hM1
  have c4:=aF.at4 hM1
  have c5:=aF.at5 hM1
  have hgk : ∀ o v,w.cell? ⟨g,o,none⟩=some v→((w.setCell ⟨mb,9,none⟩ (.int .i64 s1)).setCell ⟨mb,7,none⟩ (.bool true)).cell? ⟨g,o,none⟩=some v:=fun o v h=>(World.cell?_of_block ((Below.heap_setCell _ _ _ _ hg).trans (Below.heap_setCell _ _ _ _ hg))).trans h
  have y1:((w.setCell ⟨mb,9,none⟩ (.int .i64 s1)).setCell ⟨mb,7,none⟩ (.bool true)).cell? ⟨g,k*2,none⟩=some (.int .i64 0):=by rw [Nat.mul_comm]; exact hgk _ _ hx
  have y2:((w.setCell ⟨mb,9,none⟩ (.int .i64 s1)).setCell ⟨mb,7,none⟩ (.bool true)).cell? ⟨g,k*2+1,none⟩=some (.int .i64 cnt):=by rw [Nat.mul_comm]; exact hgk _ _ hy
  have hR1:RowB ((w.setCell ⟨mb,9,none⟩ (.int .i64 s1)).setCell ⟨mb,7,none⟩ (.bool true)) bb bs:=RowB.of (aU HR) ((Below.heap_setCell _ _ _ _ (fun e=>hmb e.symm)).trans (Below.heap_setCell _ _ _ _ (fun e=>hmb e.symm)))
  obtain ⟨v0,hrow⟩ : ∃ v,((w.setCell ⟨mb,9,none⟩ (.int .i64 s1)).setCell ⟨mb,7,none⟩ (.bool true)).cell? ⟨bb,131,none⟩=some v:=⟨_,hR1.2.cell 131 (by simp [hR1.1])⟩
  have hfrow:=hR1.2.frozen
  have HFIN:Hid (∀ q,aF ((((w.setCell ⟨mb,9,none⟩ (.int .i64 s1)).setCell ⟨mb,7,none⟩ (.bool true)).drewN q).setCell ⟨bb,131,none⟩ (.int .u8 c.toNat)) mb bb vl (.slice (some ⟨g,0,none⟩) (k+1) cap) wild cnt early true d1 s1∧RowB ((((w.setCell ⟨mb,9,none⟩ (.int .i64 s1)).setCell ⟨mb,7,none⟩ (.bool true)).drewN q).setCell ⟨bb,131,none⟩ (.int .u8 c.toNat)) bb (bs.set 131 c)∧Fr (fun i=>i≠mb∧i≠bb) w ((((w.setCell ⟨mb,9,none⟩ (.int .i64 s1)).setCell ⟨mb,7,none⟩ (.bool true)).drewN q).setCell ⟨bb,131,none⟩ (.int .u8 c.toNat))):=fun q=>by
   have hF1:Fr (fun i=>i≠mb∧i≠bb) w ((w.setCell ⟨mb,9,none⟩ (.int .i64 s1)).setCell ⟨mb,7,none⟩ (.bool true)):=(Fr.of_set (p:=fun i=>i≠mb∧i≠bb) _ fun i h=>h.1).trans (Fr.of_set _ fun i h=>h.1)
   have hF2:Fr (fun i=>i≠mb∧i≠bb) w (((w.setCell ⟨mb,9,none⟩ (.int .i64 s1)).setCell ⟨mb,7,none⟩ (.bool true)).drewN q):=⟨hF1.os,hF1.tape,hF1.output,hF1.size,hF1.block⟩
   exact ⟨aF.of (w:=((w.setCell ⟨mb,9,none⟩ (.int .i64 s1)).setCell ⟨mb,7,none⟩ (.bool true)).drewN q) hM1 (Below.heap_setCell _ _ _ _ hmb),RowB.set (w:=((w.setCell ⟨mb,9,none⟩ (.int .i64 s1)).setCell ⟨mb,7,none⟩ (.bool true)).drewN q) hR1 131 c,hF2.trans (Fr.of_set _ fun i h=>h.2)⟩
  clear hM1 hgk hR1 hx hy
  go_upto_region 9 with fail
  go_quiet (fail)
  go_wp2
  refine bodyPost_end (v:=.tuple #[]) (by simp [results,Tryz.results155]) rfl ?_
  have hfin:=aU HFIN nq
  exact ⟨rfl,hfin.1,hfin.2.1,hfin.2.2⟩
 ·have hM1:=aF.set8 (aF.set9 (aU HM) s1) true
  have c0:=aF.at0 hM1
  have c4:=aF.at4 hM1
  have c5:=aF.at5 hM1
  have hgk : ∀ o v,w.cell? ⟨g,o,none⟩=some v→((w.setCell ⟨mb,9,none⟩ (.int .i64 s1)).setCell ⟨mb,8,none⟩ (.bool true)).cell? ⟨g,o,none⟩=some v:=fun o v h=>(World.cell?_of_block ((Below.heap_setCell _ _ _ _ hg).trans (Below.heap_setCell _ _ _ _ hg))).trans h
  have y1:((w.setCell ⟨mb,9,none⟩ (.int .i64 s1)).setCell ⟨mb,8,none⟩ (.bool true)).cell? ⟨g,k*2,none⟩=some (.int .i64 1):=by rw [Nat.mul_comm]; exact hgk _ _ hx
  have y2:((w.setCell ⟨mb,9,none⟩ (.int .i64 s1)).setCell ⟨mb,8,none⟩ (.bool true)).cell? ⟨g,k*2+1,none⟩=some (.int .i64 cnt):=by rw [Nat.mul_comm]; exact hgk _ _ hy
  have hR1:RowB ((w.setCell ⟨mb,9,none⟩ (.int .i64 s1)).setCell ⟨mb,8,none⟩ (.bool true)) bb bs:=RowB.of (aU HR) ((Below.heap_setCell _ _ _ _ (fun e=>hmb e.symm)).trans (Below.heap_setCell _ _ _ _ (fun e=>hmb e.symm)))
  obtain ⟨v0,hrow⟩ : ∃ v,((w.setCell ⟨mb,9,none⟩ (.int .i64 s1)).setCell ⟨mb,8,none⟩ (.bool true)).cell? ⟨bb,642,none⟩=some v:=⟨_,hR1.2.cell 642 (by simp [hR1.1])⟩
  have hfrow:=hR1.2.frozen
  have HFIN:Hid (∀ q,aF ((((w.setCell ⟨mb,9,none⟩ (.int .i64 s1)).setCell ⟨mb,8,none⟩ (.bool true)).drewN q).setCell ⟨bb,642,none⟩ (.int .u8 c.toNat)) mb bb vl (.slice (some ⟨g,0,none⟩) (k+1) cap) wild cnt early d0 true s1∧RowB ((((w.setCell ⟨mb,9,none⟩ (.int .i64 s1)).setCell ⟨mb,8,none⟩ (.bool true)).drewN q).setCell ⟨bb,642,none⟩ (.int .u8 c.toNat)) bb (bs.set 642 c)∧Fr (fun i=>i≠mb∧i≠bb) w ((((w.setCell ⟨mb,9,none⟩ (.int .i64 s1)).setCell ⟨mb,8,none⟩ (.bool true)).drewN q).setCell ⟨bb,642,none⟩ (.int .u8 c.toNat))):=fun q=>by
   have hF1:Fr (fun i=>i≠mb∧i≠bb) w ((w.setCell ⟨mb,9,none⟩ (.int .i64 s1)).setCell ⟨mb,8,none⟩ (.bool true)):=(Fr.of_set (p:=fun i=>i≠mb∧i≠bb) _ fun i h=>h.1).trans (Fr.of_set _ fun i h=>h.1)
   have hF2:Fr (fun i=>i≠mb∧i≠bb) w (((w.setCell ⟨mb,9,none⟩ (.int .i64 s1)).setCell ⟨mb,8,none⟩ (.bool true)).drewN q):=⟨hF1.os,hF1.tape,hF1.output,hF1.size,hF1.block⟩
   exact ⟨aF.of (w:=((w.setCell ⟨mb,9,none⟩ (.int .i64 s1)).setCell ⟨mb,8,none⟩ (.bool true)).drewN q) hM1 (Below.heap_setCell _ _ _ _ hmb),RowB.set (w:=((w.setCell ⟨mb,9,none⟩ (.int .i64 s1)).setCell ⟨mb,8,none⟩ (.bool true)).drewN q) hR1 642 c,hF2.trans (Fr.of_set _ fun i h=>h.2)⟩
  clear hM1 hgk hR1 hx hy
  go_upto_region 9 with fail
  go_quiet (fail)
  go_wp2
  refine bodyPost_end (v:=.tuple #[]) (by simp [results,Tryz.results155]) rfl ?_
  have hfin:=aU HFIN nq
  exact ⟨rfl,hfin.1,hfin.2.1,hfin.2.2⟩
 ·have hM1:=aF.set8 (aF.set9 (aU HM) s1) true
  have c0:=aF.at0 hM1
  have c4:=aF.at4 hM1
  have c5:=aF.at5 hM1
  have hgk : ∀ o v,w.cell? ⟨g,o,none⟩=some v→((w.setCell ⟨mb,9,none⟩ (.int .i64 s1)).setCell ⟨mb,8,none⟩ (.bool true)).cell? ⟨g,o,none⟩=some v:=fun o v h=>(World.cell?_of_block ((Below.heap_setCell _ _ _ _ hg).trans (Below.heap_setCell _ _ _ _ hg))).trans h
  have y1:((w.setCell ⟨mb,9,none⟩ (.int .i64 s1)).setCell ⟨mb,8,none⟩ (.bool true)).cell? ⟨g,k*2,none⟩=some (.int .i64 1):=by rw [Nat.mul_comm]; exact hgk _ _ hx
  have y2:((w.setCell ⟨mb,9,none⟩ (.int .i64 s1)).setCell ⟨mb,8,none⟩ (.bool true)).cell? ⟨g,k*2+1,none⟩=some (.int .i64 cnt):=by rw [Nat.mul_comm]; exact hgk _ _ hy
  have hR1:RowB ((w.setCell ⟨mb,9,none⟩ (.int .i64 s1)).setCell ⟨mb,8,none⟩ (.bool true)) bb bs:=RowB.of (aU HR) ((Below.heap_setCell _ _ _ _ (fun e=>hmb e.symm)).trans (Below.heap_setCell _ _ _ _ (fun e=>hmb e.symm)))
  obtain ⟨v0,hrow⟩ : ∃ v,((w.setCell ⟨mb,9,none⟩ (.int .i64 s1)).setCell ⟨mb,8,none⟩ (.bool true)).cell? ⟨bb,643,none⟩=some v:=⟨_,hR1.2.cell 643 (by simp [hR1.1])⟩
  have hfrow:=hR1.2.frozen
  have HFIN:Hid (∀ q,aF ((((w.setCell ⟨mb,9,none⟩ (.int .i64 s1)).setCell ⟨mb,8,none⟩ (.bool true)).drewN q).setCell ⟨bb,643,none⟩ (.int .u8 c.toNat)) mb bb vl (.slice (some ⟨g,0,none⟩) (k+1) cap) wild cnt early d0 true s1∧RowB ((((w.setCell ⟨mb,9,none⟩ (.int .i64 s1)).setCell ⟨mb,8,none⟩ (.bool true)).drewN q).setCell ⟨bb,643,none⟩ (.int .u8 c.toNat)) bb (bs.set 643 c)∧Fr (fun i=>i≠mb∧i≠bb) w ((((w.setCell ⟨mb,9,none⟩ (.int .i64 s1)).setCell ⟨mb,8,none⟩ (.bool true)).drewN q).setCell ⟨bb,643,none⟩ (.int .u8 c.toNat))):=fun q=>by
   have hF1:Fr (fun i=>i≠mb∧i≠bb) w ((w.setCell ⟨mb,9,none⟩ (.int .i64 s1)).setCell ⟨mb,8,none⟩ (.bool true)):=(Fr.of_set (p:=fun i=>i≠mb∧i≠bb) _ fun i h=>h.1).trans (Fr.of_set _ fun i h=>h.1)
   have hF2:Fr (fun i=>i≠mb∧i≠bb) w (((w.setCell ⟨mb,9,none⟩ (.int .i64 s1)).setCell ⟨mb,8,none⟩ (.bool true)).drewN q):=⟨hF1.os,hF1.tape,hF1.output,hF1.size,hF1.block⟩
   exact ⟨aF.of (w:=((w.setCell ⟨mb,9,none⟩ (.int .i64 s1)).setCell ⟨mb,8,none⟩ (.bool true)).drewN q) hM1 (Below.heap_setCell _ _ _ _ hmb),RowB.set (w:=((w.setCell ⟨mb,9,none⟩ (.int .i64 s1)).setCell ⟨mb,8,none⟩ (.bool true)).drewN q) hR1 643 c,hF2.trans (Fr.of_set _ fun i h=>h.2)⟩
  clear hM1 hgk hR1 hx hy
  go_upto_region 9 with fail
  go_quiet (fail)
  go_wp2
  refine bodyPost_end (v:=.tuple #[]) (by simp [results,Tryz.results155]) rfl ?_
  have hfin:=aU HFIN nq
  exact ⟨rfl,hfin.1,hfin.2.1,hfin.2.2⟩
end Qd
end Go.Proofs.YtkkpahmoljiepaaGreatDoor
