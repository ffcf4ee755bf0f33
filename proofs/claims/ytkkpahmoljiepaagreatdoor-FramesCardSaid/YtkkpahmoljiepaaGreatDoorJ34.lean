import Derived.Test.YtkkpahmoljiepaaGreatDoorRows
import Derived.JoinedOf
import Derived.Test.YtkkpahmoljiepaaGreatDoorJ00
set_option maxRecDepth 1000000
set_option maxHeartbeats 12800000
set_option linter.unusedSimpArgs false
set_option linter.unusedVariables false
namespace Go.Proofs.YtkkpahmoljiepaaGreatDoor
theorem cK:laidOutB Tryz.prog=true:=aB
theorem cx:mapsRowed Tryz.prog=true:=aB
theorem J9:(Tryz.prog.stops==[])=true:=aB
theorem ON:(Tryz.prog.stopKnobs==[])=true:=aB
theorem OO:Tryz.prog.stopsHeard=true:=aB
theorem KV:Tryz.prog.mayEnter=true:=aB
end Go.Proofs.YtkkpahmoljiepaaGreatDoor
