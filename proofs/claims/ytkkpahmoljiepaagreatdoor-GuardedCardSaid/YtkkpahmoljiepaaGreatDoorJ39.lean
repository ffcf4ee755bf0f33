import Derived.Test.YtkkpahmoljiepaaGreatDoorRows
import Derived.JoinedOf
import Derived.Test.YtkkpahmoljiepaaGreatDoorJ00
set_option maxRecDepth 1000000
set_option maxHeartbeats 12800000
set_option linter.unusedSimpArgs false
set_option linter.unusedVariables false
namespace Go.Proofs.YtkkpahmoljiepaaGreatDoor
theorem gB:laidOutB Tryz.prog=true:=aK
theorem fD:mapsRowed Tryz.prog=true:=aK
theorem Bu:(Tryz.prog.stops == [])=true:=aK
theorem ao9:(Tryz.prog.stopKnobs == [])=true:=aK
theorem ao_:Tryz.prog.stopsHeard=true:=aK
theorem apa:Tryz.prog.mayEnter=true:=aK
end Go.Proofs.YtkkpahmoljiepaaGreatDoor
