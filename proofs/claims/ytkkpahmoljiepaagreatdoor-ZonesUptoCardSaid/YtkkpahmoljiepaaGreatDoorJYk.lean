/- The row of beaconlaw.Zones, its second form: where the text and the asks are of no more than so many letters, the function returns true, and nothing that was there has turned. -/
import Derived.Test.YtkkpahmoljiepaaGreatDoorJ31
import Derived.Test.YtkkpahmoljiepaaGreatDoorRows
import Derived.Test.YtkkpahmoljiepaaGreatDoorJGu
import Derived.Deep.DeepHandedRow
import Derived.Deep.SlicePairs
import Derived.Carry
import Derived.ChangeMaps5
set_option linter.unusedSimpArgs false
set_option linter.unusedVariables false
set_option maxRecDepth 1000000
set_option maxHeartbeats 12800000
namespace Go.Proofs.YtkkpahmoljiepaaGreatDoor
open Go.ChangeShapes Go.WideShapes Go.ChangeAt Go.RowKit
namespace Yk
open Uw
open Go.ChangeMaps (open_string shut_string)
variable {H:Type} {enc:TypeId×Value→H}
theorem bulk_one (d:DataW H):1≤Rows.uptoBulk d:=by
 cases d with
 | lit l=>cases l <;> simp [Rows.uptoBulk]
 | nil=>simp [Rows.uptoBulk]
 | ptr d=>simp [Rows.uptoBulk]
 | slice a b=>simp [Rows.uptoBulk]
 | agg l=>simp [Rows.uptoBulk]
 | iface t d=>simp [Rows.uptoBulk]
 | map l=>simp [Rows.uptoBulk]
 | held h=>simp [Rows.uptoBulk]
theorem bulk_len : ∀ l:List (DataW H),l.length≤Rows.uptoBulkAll l
 | []=>Nat.zero_le _
 | d :: l=>by have:=bulk_one d; have:=bulk_len l; simp only [Rows.uptoBulkAll,List.length_cons]; omega
theorem bulk_mem : ∀ (l:List (DataW H)) (d:DataW H),d∈l→Rows.uptoBulk d≤Rows.uptoBulkAll l
 | [],_,h=>by cases h
 | x :: l,d,h=>by
  simp only [Rows.uptoBulkAll]
  rcases List.mem_cons.1 h with rfl | h
  ·omega
  ·have:=bulk_mem l d h; omega
theorem underA:Tryz.prog.underlying 22=some (.slice 36):=by kernel_rfl
theorem cellsA:Tryz.prog.cellsOf 36=2:=by kernel_rfl
theorem cellsS:Tryz.prog.cellsOf 9=1:=by kernel_rfl
theorem cellsI:Tryz.prog.cellsOf 3=1:=by kernel_rfl
theorem laidOut:laidOutB Tryz.prog=true:=by kernel_rfl
theorem readA:Tryz.prog.readableRec 22=true:=by kernel_rfl
theorem asks {W:World} {v:Value} {d:DataW H} {ps:List MemPlace} (hval : ∃ a len cap,v=.slice a len cap) (h:DataW.Trod enc Tryz.prog W 0 (fun _=>true) true 22 v d ps) :
  ∃ ks0:List (Pu.Str×Int),AsksAt W v ks0∧ks0.length≤Rows.uptoBulk d∧∀ a∈ks0,a.1.length≤Rows.uptoBulk d:=by
 obtain ⟨a0,l0,c0,rfl⟩:=hval
 obtain ⟨fuel,hf⟩:=h
 rcases Deep.open_slice_pairs underA Tryz.underlying36 cellsA rfl rfl cellsS cellsI hf with ⟨hc,hx⟩ | ⟨a,len,cap,m,k,V0,V1,D0,D1,P0,P1,hc,_,hl,hm,hmm,hx,hall⟩
 ·have hc':Value.slice a0 l0 c0=.slice none 0 0:=by simpa [Value.cells] using hc
  rw [hc']
  exact ⟨[],.inl ⟨⟨_,_,rfl⟩,rfl⟩,Nat.zero_le _,(fun a h=>by cases h)⟩
 ·have hc':Value.slice a0 l0 c0=.slice (some a) len cap:=by simpa [Value.cells] using hc
  rw [hc']
  simp only [if_true] at hmm
  subst hmm
  simp only [Prod.mk.injEq] at hx
  obtain ⟨rfl,rfl⟩:=hx
  have hs : ∀ i,i<len→∃ s:ByteArray,V0 i=.string s∧D0 i=.lit (.string s.data.toList):=fun i hi=>by
   obtain ⟨s,h1,h2,_⟩:=DataW.trod_string Tryz.underlying9 (hall i (by omega)).2.2.1
   simp only [Prod.mk.injEq] at h2
   exact ⟨s,by simpa using h1,h2.1⟩
  have hi : ∀ i,i<len→∃ n:Int,V1 i=.int .i64 n:=fun i hi=>by
   obtain ⟨n,h1,_⟩:=DataW.trod_int Tryz.underlying3 (hall i (by omega)).2.2.2
   exact ⟨n,by simpa using h1⟩
  obtain ⟨S,hS⟩:=Deep.choose_lt (α:=ByteArray) (p:=fun i s=>V0 i=.string s∧D0 i=.lit (.string s.data.toList)) hs
  obtain ⟨I,hI⟩:=Deep.choose_lt (α:=Int) (p:=fun i n=>V1 i=.int .i64 n) hi
  have hlen:((List.range len).map fun i=>((S i).data.toList,I i)).length=len:=by simp
  refine ⟨(List.range len).map fun i=>((S i).data.toList,I i),?_,?_,?_⟩
  ·by_cases h0:len=0
   ·subst h0
    exact .inl ⟨⟨_,_,rfl⟩,rfl⟩
   ·obtain ⟨b,off,spot⟩:=a
    have hspot:spot=none:=by simpa [Addr.add] using World.cell?_spot (hall 0 (by omega)).1
    subst hspot
    refine .inr ⟨b,off,m,by rw [hlen],by rw [hlen]; exact hl,?_,fun i hi=>?_⟩
    ·exact World.block_lt_of_cell? _ _ (by have:=(hall 0 (by omega)).1; simpa [Addr.add] using this)
    ·rw [hlen] at hi
     have h1:=(hall i (by omega)).1
     have h2:=(hall i (by omega)).2.1
     rw [(hS i hi).1,add_plain] at h1
     rw [hI i hi,add_plain] at h2
     simp only [List.getElem_map,List.getElem_range]
     refine ⟨?_,by rw [Nat.add_assoc]; exact h2⟩
     rw [h1]
     rfl
  ·rw [hlen]
   have:=bulk_len ((List.range len).map fun i=>DataW.agg [D0 i,D1 i])
   simp only [List.length_map,List.length_range] at this
   simp only [Rows.uptoBulk]
   omega
  ·intro x hx
   obtain ⟨i,hi,rfl⟩:=List.mem_map.1 hx
   have hi':=List.mem_range.1 hi
   have h1:=bulk_mem ((List.range len).map fun i=>DataW.agg [D0 i,D1 i]) (.agg [D0 i,D1 i]) (List.mem_map.2 ⟨i,hi,rfl⟩)
   have h2:(S i).data.toList.length≤Rows.uptoBulk (DataW.agg [D0 i,D1 i]):=by
    rw [(hS i hi').2]
    simp only [Rows.uptoBulk,Rows.uptoBulkAll]
    omega
   simp only [Rows.uptoBulk] at h1 h2 ⊢
   omega
theorem contract (F:Stop.Interp) (W:World) (base:Nat) (args:Array Value) (ds gs:List (DataW H)) (before:List MemPlace)
  (hval0 : ∀ (j:Nat) t v,Tryz.f3.params[j]? = some t→args[j]? = some v→Value.okWide Tryz.prog W .any base t v)
  (hW:DataW.Whole enc Tryz.prog Tryz.f3.params.toList (Rows.OpenSpec.upto Rows.zonesSpec).vars false W args.toList ds gs before)
  (hk:Rows.uptoSmall H (ds++gs)=true) (hsh:W.ShapedOpen Tryz.prog) :
  Calls Tryz.prog 3 args W fun e W'=>∃ v,e=.returned v∧((Rows.OpenSpec.upto Rows.zonesSpec).at F).post enc Tryz.prog Tryz.f3 false true false false W args v W':=by
 have hval : ∀ (j:Nat) t v,Tryz.f3.params[j]? = some t→args[j]? = some v→Value.okWide Tryz.prog W .any base t v:=hval0
 have hW':=hW
 obtain ⟨p,q,hA0,hV,rfl,hfz,hnd⟩:=hW
 have hA:DataW.TrodAll enc Tryz.prog W 0 (fun _=>true) true Tryz.f3.params.toList args.toList ds p:=hA0
 rw [Tryz.params3] at hA hval
 obtain ⟨v0,vs0,d0,ds0,p0,q0,hargs,rfl,rfl,h0,r0⟩:=trodAll_cons hA
 obtain ⟨v1,vs1,d1,ds1,p1,q1,rfl,rfl,rfl,h1,r1⟩:=trodAll_cons r0
 obtain ⟨rfl,rfl,rfl⟩:=trodAll_nil r1
 obtain rfl:args=#[v0,v1]:=by cases args; simp_all
 obtain ⟨rfl,rfl⟩:=trodVars_none hV
 obtain ⟨s0,rfl,rfl,rfl,w0⟩:=open_string Tryz.underlying9 (hval 0 9 v0 rfl rfl) h0
 have hb:Rows.uptoBulk d1≤1048576:=by
  have:=of_decide_eq_true hk
  simp only [List.cons_append,List.nil_append,Rows.uptoBulkAll] at this
  omega
 obtain ⟨ks0,ha,hl,hn⟩:=asks (okWide_slice underA (hval 1 22 v1 rfl rfl)) h1
 clear hA0 hval0
 have hlt : ∀ x∈p1,x.block<W.heap.size:=fun x hx=>hW'.lt x (by simp [hx])
 simp only [List.append_nil] at hW'
 have hz:=Dj.zones_ok s0.data.toList ks0 v1 W (g_of_shaped hsh) ha (by omega) (fun a h=>by have:=hn a h; omega)
 refine hz.mono fun e W' ⟨he,hbl⟩=>?_
 subst he
 exact ⟨_,rfl,_,_,_,[],[]++(p1++[]),[],hW',(trodAll_cons_mk (shut_bool Tryz.underlying4 _) trodAll_mk0),(trodAll_cons_mk (shut_string Tryz.underlying9 w0) (trodAll_cons_mk (Below.trod laidOut readA (of_decide_eq_true (by kernel_rfl)) h1 hbl hlt) trodAll_mk0)),rfl,hbl.frame _,fun h=>by cases h⟩
theorem lifted (os:Os) (started:os.Started) (H:Type) (enc:TypeId×Value→H) (F:Stop.Interp) :
  ReturnsInHanded {} Tryz.checked os 3 .any ((Rows.OpenSpec.upto Rows.zonesSpec).preRow enc Tryz.prog Tryz.f3 Rows.zonesUptoRow.domain false Rows.zonesUptoRow.laid) (((Rows.OpenSpec.upto Rows.zonesSpec).at F).post enc Tryz.prog Tryz.f3 false true false false):=by
 have hx:DataW.whole enc Tryz.prog ((World.laidAll Tryz.prog os Rows.zonesUptoRow.laid).forCall (fun _ _=>0) ⟨#[],#[.string ⟨#[]⟩,.slice none 0 0],[]⟩).memory Tryz.f3.params.toList (Rows.OpenSpec.upto Rows.zonesSpec).vars false (#[Value.string ⟨#[]⟩,.slice none 0 0]:Array Value).toList 8=some ([.lit (.string []),.nil],[],[]):=by kernel_rfl
 refine returnsInHanded_of_row (C:=Tryz.checked) (s:=Rows.OpenSpec.upto Rows.zonesSpec) Uw.own started (by kernel_rfl) Tryz.func3
  ⟨World.laidAll Tryz.prog os Rows.zonesUptoRow.laid,fun _ _=>0,⟨#[],#[.string ⟨#[]⟩,.slice none 0 0],[]⟩,World.laidAll_os _ _ _,World.shaped_of_ZipB (by kernel_rfl) (by kernel_rfl),rfl,(Input.okWide_of_okWideB (by kernel_rfl)).2,
   OpenSpec.preRow_of_cond 8 hx (by kernel_rfl) (fun k hk=>by cases hk; kernel_rfl) (by kernel_rfl) (by rw [MakeChecks.laidMetH_plain _ _ _ (by kernel_rfl)]; exact laidMet_laidAll _ (by kernel_rfl) (by kernel_rfl)),by
   simp only [Assume.holds]
   exact ⟨by simp,by simp,fun _=>Modest.zero,by simp,by simp⟩⟩ ?_
 intro W base args ds gs before hval hW _ hcond _ _ hsh _
 exact contract F W base args ds gs before hval hW (hcond _ rfl) hsh
theorem inst:Tryz.f3.isInstance Tryz.prog Rows.zonesUptoRow.origin Rows.zonesUptoRow.targs:=of_decide_eq_true (by kernel_rfl)
theorem wrapper:Tryz.f3.isWrapper Tryz.prog Rows.zonesUptoRow.wrapper Rows.zonesUptoRow.mainSum:=by
 unfold Func.isWrapper
 first | (rw [if_pos (by decide +kernel)]; kernel_rfl) | (rw [if_neg (by decide +kernel)]; exact ⟨rfl,rfl⟩)
theorem row:Rows.ZonesUptoSaid :=
 OpenClaim.holds_of_cond 3 Tryz.f3 rfl rfl rfl rfl rfl rfl rfl ⟨rfl,rfl,rfl,rfl,rfl⟩ rfl rfl rfl rfl rfl Fu.named Tryz.func3 Fu.closed inst wrapper
  (fun os started H enc _ F=>by rw [OpenClaim.pre_eq_preRow]; exact lifted os started H enc F)
end Yk
end Go.Proofs.YtkkpahmoljiepaaGreatDoor
