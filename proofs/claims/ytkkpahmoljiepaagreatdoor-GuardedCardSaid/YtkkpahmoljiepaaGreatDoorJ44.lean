/- beaconkeep.Guarded answers true whatever the seed, the pokes and the number are that it is given and changes nothing that was there: the first form's tied card. -/
import Derived.Test.YtkkpahmoljiepaaGreatDoorJ42
import Derived.Test.YtkkpahmoljiepaaGreatDoorTie
import Derived.Test.YtkkpahmoljiepaaGreatDoorJ43
set_option maxRecDepth 1000000
set_option maxHeartbeats 12800000
set_option linter.unusedSimpArgs false
set_option linter.unusedVariables false
namespace Go.Proofs.YtkkpahmoljiepaaGreatDoor
section
open Go
theorem apI:Rows.guardedRow.wfByText (OpenSpec.ofChange Rows.guardedSpec)=true:=aK
theorem apJ:false=Rows.guardedRow.goesBy Tryz.prog:=aK
theorem apK:Tryz.prog.wantsStandIn 58=false:=aK
theorem apL:Tryz.prog.wantsStandIn 80=false:=aK
theorem apM:Tryz.prog.wantsStandIn 3=false:=aK
theorem guarded_card_holds:Rows.GuardedCardSaid :=
 Claim7.holds_tied_plain_at .later [] _ _ _ _ apF (fun _ h=>by cases h) apI (fun _ h=>by cases h) guarded_row_tie rfl ⟨rfl,rfl⟩ apG rfl
  (fun f fn hf hfn=>by
   obtain rfl:f=14:=gT (abN.symm.trans hf) |>.symm;obtain rfl:fn=Tryz.f14:=(gT (Tryz.func14.symm.trans hfn)).symm;exact⟨apH,fun j t ht=>by
    rw[Tryz.params14]at ht;have hm:t∈[58,80,3]:=by simpa using Sc ht
    rcases eK.1 hm with rfl|hm
    ·exact apK
    ·rcases eK.1 hm with rfl|hm
     ·exact apL
     ·obtain rfl:=Sz.1 hm;exact apM⟩)
  apJ
end
end Go.Proofs.YtkkpahmoljiepaaGreatDoor
