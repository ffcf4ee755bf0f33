/- Closed facts of Carried's row, one by one. -/
import Derived.Test.YtkkpahmoljiepaaGreatDoorJPf
set_option linter.unusedSimpArgs false
set_option linter.unusedVariables false
namespace Go.Proofs.YtkkpahmoljiepaaGreatDoor
namespace Fv
theorem c1 : Rows.carriedRow.wf (OpenSpec.ofChange Rows.carriedSpec) = true := by kernel_rfl
theorem c4 : Tryz.f10.params.all (Tryz.prog.readableRec ·) = true := by kernel_rfl
theorem c5 : namedTie Tryz.prog Rows.carriedRow.named Rows.carriedSpec.vars = true := by kernel_rfl
theorem c6 : (Rows.carriedRow.stops == []) = true := by kernel_rfl
theorem c8 : (Rows.carriedRow.knobs == []) = true := by kernel_rfl
theorem c10 : (Rows.carriedRow.inPlace == Tryz.prog.inPlace 10) = true := by kernel_rfl
theorem c11 : (Rows.carriedRow.unfollowed == Tryz.prog.unfollowed 10) = true := by kernel_rfl
theorem c12 : (Rows.carriedRow.recurses == Tryz.prog.recurses 10) = true := by kernel_rfl
theorem c13 : (Rows.carriedRow.named == Tryz.prog.varsNamed 10) = true := by kernel_rfl
theorem c14 : (Rows.carriedRow.maps == (Tryz.f10.params.toList ++ Rows.carriedSpec.plain.varTypes Tryz.prog).any (Tryz.prog.mapsRec ·)) = true := by kernel_rfl
theorem c15 : (Rows.carriedRow.ifaces == (Tryz.f10.params.toList ++ Rows.carriedSpec.plain.varTypes Tryz.prog).any (Tryz.prog.ifacesRec ·)) = true := by kernel_rfl
theorem c16 : (Rows.carriedRow.mapsOut == Tryz.prog.mapsAmong Tryz.f10.resultTypes.toList) = true := by kernel_rfl
theorem c17 : (Rows.carriedRow.loops == (Tryz.f10.params.toList ++ Rows.carriedSpec.plain.varTypes Tryz.prog).any (Tryz.prog.loopsFrom ·)) = true := by kernel_rfl
theorem c18 : (Rows.carriedRow.wideKeys == (Tryz.f10.params.toList ++ Rows.carriedSpec.plain.varTypes Tryz.prog ++ Tryz.f10.resultTypes.toList).any (Tryz.prog.wideKeysFrom ·)) = true := by kernel_rfl
theorem c19 : Rows.carriedSpec.vars.all (Tryz.prog.varReadable ·) = true := by kernel_rfl
theorem c20 : Tryz.f10.resultTypes.all (fun t => Tryz.prog.readableRec t && decide (t < Tryz.prog.types.size)) = true := by kernel_rfl
theorem c21 : (Rows.carriedRow.ifacesOut == Tryz.f10.resultTypes.toList.any (Tryz.prog.ifacesRec ·)) = true := by kernel_rfl
theorem c22 : (Rows.carriedRow.loopsOut == Tryz.f10.resultTypes.toList.any (Tryz.prog.loopsFrom ·)) = true := by kernel_rfl
theorem c23 : (Rows.carriedRow.plainKeys == Tryz.prog.plainKeys) = true := by kernel_rfl
theorem c24 : Rows.carriedRow.shortTexts.isNone = true := by kernel_rfl
theorem c27 : (Rows.carriedRow.lifted == Tryz.prog.liftsFinal) = true := by kernel_rfl
theorem c28 : (Tryz.prog.make == some Rows.carriedRow.make) = true := by kernel_rfl
theorem c30 : (Rows.carriedRow.pinned == Rows.carriedRow.pinnedBy) = true := by kernel_rfl
theorem c31 : (Rows.carriedRow.veiled == (Tryz.f10.params.toList ++ Rows.carriedSpec.plain.varTypes Tryz.prog ++ Tryz.f10.resultTypes.toList).any (Tryz.prog.veiledRec ·)) = true := by kernel_rfl
theorem c32 : Rows.carriedRow.veiledFits Tryz.prog Tryz.f10.params.toList (Tryz.f10.params.toList ++ Rows.carriedSpec.plain.varTypes Tryz.prog ++ Tryz.f10.resultTypes.toList) = true := by kernel_rfl
end Fv
end Go.Proofs.YtkkpahmoljiepaaGreatDoor
