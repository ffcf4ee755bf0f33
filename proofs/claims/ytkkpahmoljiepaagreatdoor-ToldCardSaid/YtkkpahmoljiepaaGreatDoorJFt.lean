/- Closed facts of Told's row, one by one. -/
import Derived.Test.YtkkpahmoljiepaaGreatDoorJPf
set_option linter.unusedSimpArgs false
set_option linter.unusedVariables false
namespace Go.Proofs.YtkkpahmoljiepaaGreatDoor
namespace Ft
theorem c1 : Rows.toldRow.wf (OpenSpec.ofChange Rows.toldSpec) = true := by kernel_rfl
theorem c4 : Tryz.f7.params.all (Tryz.prog.readableRec ·) = true := by kernel_rfl
theorem c5 : namedTie Tryz.prog Rows.toldRow.named Rows.toldSpec.vars = true := by kernel_rfl
theorem c6 : (Rows.toldRow.stops == []) = true := by kernel_rfl
theorem c8 : (Rows.toldRow.knobs == []) = true := by kernel_rfl
theorem c10 : (Rows.toldRow.inPlace == Tryz.prog.inPlace 7) = true := by kernel_rfl
theorem c11 : (Rows.toldRow.unfollowed == Tryz.prog.unfollowed 7) = true := by kernel_rfl
theorem c12 : (Rows.toldRow.recurses == Tryz.prog.recurses 7) = true := by kernel_rfl
theorem c13 : (Rows.toldRow.named == Tryz.prog.varsNamed 7) = true := by kernel_rfl
theorem c14 : (Rows.toldRow.maps == (Tryz.f7.params.toList ++ Rows.toldSpec.plain.varTypes Tryz.prog).any (Tryz.prog.mapsRec ·)) = true := by kernel_rfl
theorem c15 : (Rows.toldRow.ifaces == (Tryz.f7.params.toList ++ Rows.toldSpec.plain.varTypes Tryz.prog).any (Tryz.prog.ifacesRec ·)) = true := by kernel_rfl
theorem c16 : (Rows.toldRow.mapsOut == Tryz.prog.mapsAmong Tryz.f7.resultTypes.toList) = true := by kernel_rfl
theorem c17 : (Rows.toldRow.loops == (Tryz.f7.params.toList ++ Rows.toldSpec.plain.varTypes Tryz.prog).any (Tryz.prog.loopsFrom ·)) = true := by kernel_rfl
theorem c18 : (Rows.toldRow.wideKeys == (Tryz.f7.params.toList ++ Rows.toldSpec.plain.varTypes Tryz.prog ++ Tryz.f7.resultTypes.toList).any (Tryz.prog.wideKeysFrom ·)) = true := by kernel_rfl
theorem c19 : Rows.toldSpec.vars.all (Tryz.prog.varReadable ·) = true := by kernel_rfl
theorem c20 : Tryz.f7.resultTypes.all (fun t => Tryz.prog.readableRec t && decide (t < Tryz.prog.types.size)) = true := by kernel_rfl
theorem c21 : (Rows.toldRow.ifacesOut == Tryz.f7.resultTypes.toList.any (Tryz.prog.ifacesRec ·)) = true := by kernel_rfl
theorem c22 : (Rows.toldRow.loopsOut == Tryz.f7.resultTypes.toList.any (Tryz.prog.loopsFrom ·)) = true := by kernel_rfl
theorem c23 : (Rows.toldRow.plainKeys == Tryz.prog.plainKeys) = true := by kernel_rfl
theorem c24 : Rows.toldRow.shortTexts.isNone = true := by kernel_rfl
theorem c27 : (Rows.toldRow.lifted == Tryz.prog.liftsFinal) = true := by kernel_rfl
theorem c28 : (Tryz.prog.make == some Rows.toldRow.make) = true := by kernel_rfl
theorem c30 : (Rows.toldRow.pinned == Rows.toldRow.pinnedBy) = true := by kernel_rfl
theorem c31 : (Rows.toldRow.veiled == (Tryz.f7.params.toList ++ Rows.toldSpec.plain.varTypes Tryz.prog ++ Tryz.f7.resultTypes.toList).any (Tryz.prog.veiledRec ·)) = true := by kernel_rfl
theorem c32 : Rows.toldRow.veiledFits Tryz.prog Tryz.f7.params.toList (Tryz.f7.params.toList ++ Rows.toldSpec.plain.varTypes Tryz.prog ++ Tryz.f7.resultTypes.toList) = true := by kernel_rfl
end Ft
end Go.Proofs.YtkkpahmoljiepaaGreatDoor
