/- beaconlaw.Machines answers true whatever the text, the config's two texts, the seed and the rounds are that it is given, where they are of no more than so many letters, and changes nothing that was there: the second form's tied card. -/
import Derived.Test.YtkkpahmoljiepaaGreatDoorJ17
set_option maxRecDepth 1000000
set_option maxHeartbeats 12800000
set_option linter.all false
namespace Go.Proofs.YtkkpahmoljiepaaGreatDoor
section
open Go
def akq:Rows.machinesUptoRow.wfByText (Rows.OpenSpec.upto Rows.machinesSpec)=true:=b8
def akr:false=Rows.machinesUptoRow.goesBy Tryz.prog:=b8
def B4:Tryz.prog.wantsStandIn 9=false:=b8
def aks:Tryz.prog.wantsStandIn 86=false:=b8
theorem machines_upto_card_holds:Rows.MachinesUptoCardSaid :=
 Claim7.holds_tied_plain_at .later [] _ _ _ _ akn (λ_ b=>by cases b) akq (λ_ b=>by cases b) ZN af ⟨af,af⟩ ako af
  (λf c d e=>by
   obtain rfl:f=12:=ih (Zi.symm.trans d) |>.symm;obtain rfl:c=Tryz.f12:=(ih<|Tryz.func12.symm.trans e).symm;exact⟨akp,λi h g=>by
    rw[Tryz.params12]at g;have a:h∈[9,9,9,9,86]:=by grind
    rcases gC.1 a with rfl|a
    ·exact B4
    rcases gC.1 a with rfl|a
    ·exact B4
    rcases gC.1 a with rfl|a
    ·exact B4
    rcases gC.1 a with rfl|a
    ·exact B4
    ·obtain rfl:=BU.1 a;exact aks⟩)
  akr
end
end Go.Proofs.YtkkpahmoljiepaaGreatDoor
