/- beaconlaw.Replies answers true whatever the text and the messages are that it is given, where they are of no more than so many letters, and changes nothing that was there: the second form's tied card. -/
import Derived.Test.YtkkpahmoljiepaaGreatDoorJ26
import Derived.Test.YtkkpahmoljiepaaGreatDoorTie
import Derived.Test.YtkkpahmoljiepaaGreatDoorJ27
set_option maxRecDepth 1000000
set_option maxHeartbeats 12800000
set_option linter.unusedSimpArgs false
set_option linter.unusedVariables false
namespace Go.Proofs.YtkkpahmoljiepaaGreatDoor
section
open Go
theorem ay0:Rows.repliesUptoRow.wfByText (Rows.OpenSpec.upto Rows.repliesSpec)=true:=aI
theorem ay1:false=Rows.repliesUptoRow.goesBy Tryz.prog:=aI
theorem UX:Tryz.prog.wantsStandIn 9=false:=aI
theorem ay2:Tryz.prog.wantsStandIn 49=false:=aI
theorem replies_upto_card_holds:Rows.RepliesUptoCardSaid :=
 Claim7.holds_tied_plain_at .later [] _ _ _ _ ayX (fun _ h=>by cases h) ay0 (fun _ h=>by cases h) repliesUpto_row_tie rfl ⟨rfl,rfl⟩ ayY rfl
  (fun f fn hf hfn=>by
   obtain rfl:f=6:=fq (aj0.symm.trans hf) |>.symm;obtain rfl:fn=Tryz.f6:=(fq (Tryz.func6.symm.trans hfn)).symm;exact⟨ayZ,fun j t ht=>by
    rw[Tryz.params6]at ht;have hm:t∈[9,49]:=by simpa using ZM ht
    rcases ei.1 hm with rfl|hm
    ·exact UX
    ·obtain rfl:=vY.1 hm;exact ay2⟩)
  ay1
end
end Go.Proofs.YtkkpahmoljiepaaGreatDoor
