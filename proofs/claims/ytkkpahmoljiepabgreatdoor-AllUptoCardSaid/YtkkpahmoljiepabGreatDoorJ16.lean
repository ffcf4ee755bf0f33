/- beaconlaw.All answers true whatever the text, the asks, the messages, the frames, the seed and the rounds are that it is given, and changes nothing that was there: the second form's tied card. Its condition: what it reads is, all together, of bulk at most 1048576, as Rows counts it (letters, and one for each value). -/
import Derived.Test.YtkkpahmoljiepabGreatDoorJ15
set_option maxRecDepth 1000000
set_option maxHeartbeats 12800000
set_option linter.all false
namespace Go.Proofs.YtkkpahmoljiepabGreatDoor
section
open Go
def afD:Rows.allUptoRow.wfByText (Rows.OpenSpec.upto Rows.allSpec)=true:=b6
def afE:false=Rows.allUptoRow.goesBy Tryz.prog:=b6
def C6:Tryz.prog.wantsStandIn 9=false:=b6
def afF:Tryz.prog.wantsStandIn 24=false:=b6
def aga:Tryz.prog.wantsStandIn 22=false:=b6
def OA:Tryz.prog.wantsStandIn 23=false:=b6
theorem all_upto_card_holds:Rows.AllUptoCardSaid:=
 Claim7.holds_tied_plain_at .later [] _ _ _ _ afz (λ_ b=>by cases b) afD (λ_ b=>by cases b) V7 U ⟨U,U⟩ afA U
  (λf c d e=>by
   obtain rfl:f=3:=gm (VF.symm.trans d) |>.symm;obtain rfl:c=Tryz.f3:=(gm<|Tryz.func3.symm.trans e).symm;exact⟨afC,λi h g=>by
    rw[Tryz.params3]at g;have a:h∈[9,22,23,23,9,24]:=by grind
    rcases fw.1 a with rfl|a
    ·exact C6
    rcases fw.1 a with rfl|a
    ·exact aga
    rcases fw.1 a with rfl|a
    ·exact OA
    rcases fw.1 a with rfl|a
    ·exact OA
    rcases fw.1 a with rfl|a
    ·exact C6
    ·obtain rfl:=yR.1 a;exact afF⟩)
  afE
end
end Go.Proofs.YtkkpahmoljiepabGreatDoor
