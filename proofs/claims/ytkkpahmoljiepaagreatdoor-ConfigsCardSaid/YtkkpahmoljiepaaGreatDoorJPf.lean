/- Closed facts of the program, one by one: each a theorem of its own, so that the kernel gives its memory back. -/
import Derived.Test.YtkkpahmoljiepaaGreatDoorRows
import Derived.JoinedOf
set_option linter.unusedSimpArgs false
set_option linter.unusedVariables false
namespace Go.Proofs.YtkkpahmoljiepaaGreatDoor
namespace Pf
theorem p2:laidOutB Tryz.prog=true:=by kernel_rfl
theorem p3:mapsRowed Tryz.prog=true:=by kernel_rfl
theorem p7:(Tryz.prog.stops == [])=true:=by kernel_rfl
theorem p9:(Tryz.prog.stopKnobs == [])=true:=by kernel_rfl
theorem p25:Tryz.prog.stopsHeard=true:=by kernel_rfl
theorem p26:Tryz.prog.mayEnter=true:=by kernel_rfl
end Pf
end Go.Proofs.YtkkpahmoljiepaaGreatDoor
