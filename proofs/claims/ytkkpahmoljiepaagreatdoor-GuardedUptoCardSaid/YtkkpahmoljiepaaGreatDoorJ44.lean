/- beaconkeep.Guarded answers true whatever the seed, the pokes and the number are that it is given, where they are of no more than so many bytes, and changes nothing that was there: the second form's tied card. -/
import Derived.Test.YtkkpahmoljiepaaGreatDoorJ42
import Derived.Test.YtkkpahmoljiepaaGreatDoorTie
import Derived.Test.YtkkpahmoljiepaaGreatDoorJ43
set_option maxRecDepth 1000000
set_option maxHeartbeats 12800000
set_option linter.unusedSimpArgs false
set_option linter.unusedVariables false
namespace Go.Proofs.YtkkpahmoljiepaaGreatDoor
section
open Go
theorem apI:Rows.guardedUptoRow.wfByText (Rows.OpenSpec.upto Rows.guardedSpec)=true:=aK
theorem apJ:false=Rows.guardedUptoRow.goesBy Tryz.prog:=aK
theorem apK:Tryz.prog.wantsStandIn 58=false:=aK
theorem apL:Tryz.prog.wantsStandIn 80=false:=aK
theorem apM:Tryz.prog.wantsStandIn 3=false:=aK
theorem guarded_upto_card_holds:Rows.GuardedUptoCardSaid :=
 Claim7.holds_tied_plain_at .later [] _ _ _ _ apF (fun _ h=>by cases h) apI (fun _ h=>by cases h) guardedUpto_row_tie rfl ⟨rfl,rfl⟩ apG rfl
  (fun f fn hf hfn=>by
   obtain rfl:f=14:=gT (abN.symm.trans hf) |>.symm;obtain rfl:fn=Tryz.f14:=(gT (Tryz.func14.symm.trans hfn)).symm;exact⟨apH,fun j t ht=>by
    rw[Tryz.params14]at ht;have hm:t∈[58,80,3]:=by simpa using Sc ht
    rcases eK.1 hm with rfl|hm
    ·exact apK
    ·rcases eK.1 hm with rfl|hm
     ·exact apL
     ·obtain rfl:=Sz.1 hm;exact apM⟩)
  apJ
end
end Go.Proofs.YtkkpahmoljiepaaGreatDoor
