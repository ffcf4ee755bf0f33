/- The row of beaconkeep.Served: whatever is asked, the function returns true, and nothing that was there has turned. -/
import Derived.Test.YtkkpahmoljiepaaGreatDoorJ37
import Derived.Test.YtkkpahmoljiepaaGreatDoorRows
import Derived.Test.YtkkpahmoljiepaaGreatDoorJGx
set_option linter.unusedSimpArgs false
set_option linter.unusedVariables false
set_option maxRecDepth 1000000
set_option maxHeartbeats 12800000
namespace Go.Proofs.YtkkpahmoljiepaaGreatDoor
open Go.ChangeShapes Go.WideShapes Go.ChangeAt Go.RowKit
namespace Ye
open Uw
theorem cells3:Tryz.prog.cellsOf 3=1:=by kernel_rfl
theorem lifted (os:Os) (started:os.Started) (H:Type) (enc:TypeId×Value→H) :
  ReturnsInHanded {} Tryz.checked os 13 .any (fun w args=>(Rows.servedSpec.pre enc Tryz.prog Tryz.f13 [] false w args∧laidMetH Tryz.prog Rows.servedRow.laid w)∧sizedMet enc Tryz.prog Tryz.f13 (OpenSpec.ofChange Rows.servedSpec) false w args)
   (Rows.servedSpec.post enc Tryz.prog Tryz.f13 false true false false):=by
 refine wrap (C:=Tryz.checked) (X:=fun w _=>laidMetH Tryz.prog Rows.servedRow.laid w) (fun _ _ _ hh h=>h.of_heap hh) own started (by kernel_rfl) Tryz.func13
  (ChangeSpec.witness_shaped (enc:=enc) (C:=Tryz.checked) (os:=os) (X:=fun w _=>laidMetH Tryz.prog Rows.servedRow.laid w) false (World.laidAll Tryz.prog os Rows.servedRow.laid) #[.slice none 0 0,.int .i64 0,.bool false] 8 (World.laidAll_os _ _ _)
   (World.shaped_of_ZipB (by kernel_rfl) (by kernel_rfl)) (by kernel_rfl) (by kernel_rfl) (by kernel_rfl)
   (by rw [MakeChecks.laidMetH_plain _ _ _ (by kernel_rfl)]; exact laidMet_laidAll _ (by kernel_rfl) (by kernel_rfl))) ?_
 intro W base args ds gs before hval0 hW hsh _
 have hval : ∀ (j:Nat) t v,Tryz.f13.params[j]? = some t→args[j]? = some v→Value.okWide Tryz.prog W .any base t v:=hval0
 have hW':=hW
 obtain ⟨p,q,hA0,hV,rfl,hfz,hnd⟩:=hW
 have hA:DataW.TrodAll enc Tryz.prog W 0 (fun _=>true) true Tryz.f13.params.toList args.toList ds p:=hA0
 rw [Tryz.params13] at hA hval
 obtain ⟨v0,vs0,d0,ds0,p0,q0,hargs,rfl,rfl,h0,r0⟩:=trodAll_cons hA
 obtain ⟨v1,vs1,d1,ds1,p1,q1,rfl,rfl,rfl,h1,r1⟩:=trodAll_cons r0
 obtain ⟨v2,vs2,d2,ds2,p2,q2,rfl,rfl,rfl,h2,r2⟩:=trodAll_cons r1
 obtain ⟨rfl,rfl,rfl⟩:=trodAll_nil r2
 obtain rfl:args=#[v0,v1,v2]:=by cases args; simp_all
 obtain ⟨rfl,rfl⟩:=trodVars_none hV
 obtain ⟨a1,rfl,rfl,rfl,w1⟩:=open_int Tryz.underlying3 (hval 1 3 v1 rfl rfl) h1
 obtain ⟨a2,rfl,rfl,rfl⟩:=open_bool Tryz.underlying4 (hval 2 4 v2 rfl rfl) h2
 obtain ⟨a0,len,cap,rfl⟩:=okWide_slice Tryz.underlying56 (hval 0 56 v0 rfl rfl)
 obtain ⟨fuel,hf⟩:=h0
 clear hA0 hval0
 simp only [List.append_nil] at hW'
 have b1:=bounds_i64 w1
 rcases open_ints Tryz.underlying56 Tryz.underlying3 cells3 hf with ⟨hcs,hx⟩ | ⟨a,len',cap',zs,hcs,_,hl,hm,hz,hx,hcell,hwz⟩
 ·simp [Value.cells] at hcs
  obtain ⟨rfl,rfl,rfl⟩:=hcs
  simp only [Prod.mk.injEq] at hx
  obtain ⟨rfl,rfl⟩:=hx
  refine (Nw.served [] none 0 0 0 a1 a2 W (g_of_shaped hsh) (fun _ h=>by cases h) b1.1 b1.2 (by simp) (fun h=>absurd rfl h) (fun k h=>by simp at h)).mono fun e W' ⟨he,hb⟩=>?_
  subst he
  have t0:DataW.Trod enc Tryz.prog W' 0 (fun c=>decide (c<W.heap.size)) true 56 (.slice none 0 0) .nil []:=shut_slice_nil Tryz.underlying56
  exact ⟨_,rfl,_,_,_,[],[],[],hW',(trodAll_cons_mk (shut_bool Tryz.underlying4 _) trodAll_mk0),(trodAll_cons_mk t0 (trodAll_cons_mk (shut_int Tryz.underlying3 w1) (trodAll_cons_mk (shut_bool Tryz.underlying4 _) trodAll_mk0))),rfl,hb.frame _,fun h=>by cases h⟩
 ·simp [Value.cells] at hcs
  obtain ⟨rfl,rfl,rfl⟩:=hcs
  simp only [Prod.mk.injEq] at hx
  obtain ⟨rfl,rfl⟩:=hx
  simp only [if_true] at hz
  have hal:(zs.take len).length=len:=by rw [List.length_take]; omega
  have hlt:0<zs.length→a.block<W.heap.size:=fun h0=>by
   obtain ⟨b,off,rfl,hc⟩:=ints_at hcell h0
   have:=hc 0 h0
   unfold World.cell? at this
   by_cases hb:b<W.heap.size
   ·exact hb
   ·rw [Array.getElem?_eq_none (by show W.heap.size≤b; omega)] at this
    simp at this
  have hS : ∃ ab ao,(zs.take len≠[]→some a=some ⟨ab,ao,none⟩∧ab<W.heap.size)∧∀ k (h:k<(zs.take len).length),W.cell? ⟨ab,ao+k,none⟩=some (.int .i64 (zs.take len)[k]):=by
   by_cases h0:0<zs.length
   ·obtain ⟨b,off,rfl,hc⟩:=ints_at hcell h0
    refine ⟨b,off,fun _=>⟨rfl,hlt h0⟩,fun k hk=>?_⟩
    rw [hc k (by omega),List.getElem_take]
    simp [List.getD,List.getElem?_eq_getElem (show k<zs.length by omega)]
   ·have e:zs = []:=List.eq_nil_of_length_eq_zero (by omega)
    subst e
    exact ⟨0,0,fun h=>absurd (by simp) h,fun k hk=>by simp at hk⟩
  obtain ⟨ab,ao,hS1,hS2⟩:=hS
  have hcall:=Nw.served (zs.take len) (some a) cap ab ao a1 a2 W (g_of_shaped hsh) (fun x hx=>bounds_i64 (hwz x (List.mem_of_mem_take hx))) b1.1 b1.2 (by rw [hal]; have:=hm; unfold maxLen at this; omega) hS1 hS2
  rw [hal] at hcall
  refine hcall.mono fun e W' ⟨he,hb⟩=>?_
  subst he
  have t0:=shut_ints (enc:=enc) (P:=Tryz.prog) (w:=W') (base:=0) (spare:=fun c=>decide (c<W.heap.size)) (held:=true) (a:=a) (len:=len) (cap:=cap) (zs:=zs) 0 Tryz.underlying56 Tryz.underlying3 cells3 (Nat.zero_le _) hl hm (by
   by_cases h0:0<zs.length
   ·simp [hlt h0,hz]
   ·split <;> omega) (fun i hi=>by
   have hbk:(a.add i).block<W.heap.size:=by rw [block_add]; exact hlt (by omega)
   rw [hb.cell (p:=a.add i) hbk]; exact hcell i hi) hwz
  exact ⟨_,rfl,_,_,_,[],_,[],hW',(trodAll_cons_mk (shut_bool Tryz.underlying4 _) trodAll_mk0),(trodAll_cons_mk ⟨_,t0⟩ (trodAll_cons_mk (shut_int Tryz.underlying3 w1) (trodAll_cons_mk (shut_bool Tryz.underlying4 _) trodAll_mk0))),rfl,hb.frame _,fun h=>by cases h⟩
theorem inst:Tryz.f13.isInstance Tryz.prog Rows.servedRow.origin Rows.servedRow.targs:=of_decide_eq_true (by kernel_rfl)
theorem wrapper:Tryz.f13.isWrapper Tryz.prog Rows.servedRow.wrapper Rows.servedRow.mainSum:=by
 unfold Func.isWrapper
 first | (rw [if_pos (by decide +kernel)]; kernel_rfl) | (rw [if_neg (by decide +kernel)]; exact ⟨rfl,rfl⟩)
theorem row:Rows.ServedSaid :=
 OpenClaim.holds_of_wide 13 Tryz.f13 rfl rfl rfl rfl rfl rfl rfl ⟨rfl,rfl,rfl,rfl,rfl⟩ rfl rfl rfl rfl rfl Fx.named Tryz.func13 Fx.closed inst wrapper
  (fun os started H enc _=>lifted os started H enc)
end Ye
end Go.Proofs.YtkkpahmoljiepaaGreatDoor
