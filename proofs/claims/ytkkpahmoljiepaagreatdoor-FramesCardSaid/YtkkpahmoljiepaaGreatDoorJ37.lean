import Derived.Test.YtkkpahmoljiepaaGreatDoorCards
import Derived.SevenTiedAt
import Derived.Test.YtkkpahmoljiepaaGreatDoorJ00
set_option maxRecDepth 1000000
set_option maxHeartbeats 12800000
set_option linter.unusedSimpArgs false
set_option linter.unusedVariables false
namespace Go.Proofs.YtkkpahmoljiepaaGreatDoor
theorem Pa : Tryz.prog.mainIs = some (true, "5b2062f78c25776db10a3b5217a7e108862c6d0a3f58b80340ffd2b28c0468f7".toList) := by kernel_rfl
theorem Pb:true=Tryz.prog.looks []:=aB
end Go.Proofs.YtkkpahmoljiepaaGreatDoor
