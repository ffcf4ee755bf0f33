import Derived.Test.YtkkpahmoljiepaaGreatDoorRows
import Derived.JoinedOf
import Derived.Test.YtkkpahmoljiepaaGreatDoorJ00
set_option maxRecDepth 1000000
set_option maxHeartbeats 12800000
set_option linter.unusedSimpArgs false
set_option linter.unusedVariables false
namespace Go.Proofs.YtkkpahmoljiepaaGreatDoor
theorem fh:laidOutB Tryz.prog=true:=aI
theorem eK:mapsRowed Tryz.prog=true:=aI
theorem adQ:(Tryz.prog.stops == [])=true:=aI
theorem ayx:(Tryz.prog.stopKnobs == [])=true:=aI
theorem ayy:Tryz.prog.stopsHeard=true:=aI
theorem ah7:Tryz.prog.mayEnter=true:=aI
end Go.Proofs.YtkkpahmoljiepaaGreatDoor
