/- beaconlaw.Frames answers true whatever the text, the config's two texts and the frames are that it is given and changes nothing that was there: the first form's tied card. -/
import Derived.Test.YtkkpahmoljiepaaGreatDoorJ36
import Derived.Test.YtkkpahmoljiepaaGreatDoorTie
import Derived.Test.YtkkpahmoljiepaaGreatDoorJ37
set_option maxRecDepth 1000000
set_option maxHeartbeats 12800000
set_option linter.unusedSimpArgs false
set_option linter.unusedVariables false
namespace Go.Proofs.YtkkpahmoljiepaaGreatDoor
section
open Go
theorem Pc:Rows.framesRow.wfByText (OpenSpec.ofChange Rows.framesSpec)=true:=aB
theorem Pd:false=Rows.framesRow.goesBy Tryz.prog:=aB
theorem t7:Tryz.prog.wantsStandIn 9=false:=aB
theorem Pe:Tryz.prog.wantsStandIn 49=false:=aB
theorem frames_card_holds:Rows.FramesCardSaid :=
 Claim7.holds_tied_plain_at .later [] _ _ _ _ O_ (fun _ b=>by cases b) Pc (fun _ b=>by cases b) frames_row_tie rfl ⟨rfl,rfl⟩ Pa rfl
  (fun f d e g=>by
   obtain rfl:f=9:=cZ (Mt.symm.trans e) |>.symm;obtain rfl:d=Tryz.f9:=(cZ (Tryz.func9.symm.trans g)).symm;exact⟨Pb,fun i h c=>by
    rw[Tryz.params9]at c;have a:h∈[9,9,9,49]:=by simpa using GK c
    rcases co.1 a with rfl|a
    ·exact t7
    rcases co.1 a with rfl|a
    ·exact t7
    rcases co.1 a with rfl|a
    ·exact t7
    ·obtain rfl:=kU.1 a;exact Pe⟩)
  Pd
end
end Go.Proofs.YtkkpahmoljiepaaGreatDoor
