/- Closed facts of the program that the cards ask for, one by one. -/
import Derived.Test.YtkkpahmoljiepaaGreatDoorCards
import Derived.SevenTiedAt
set_option linter.unusedSimpArgs false
set_option linter.unusedVariables false
namespace Go.Proofs.YtkkpahmoljiepaaGreatDoor
namespace Pg
theorem mainIs : Tryz.prog.mainIs = some (true, "5b2062f78c25776db10a3b5217a7e108862c6d0a3f58b80340ffd2b28c0468f7".toList) := by kernel_rfl
theorem looks:true=Tryz.prog.looks []:=by kernel_rfl
end Pg
end Go.Proofs.YtkkpahmoljiepaaGreatDoor
