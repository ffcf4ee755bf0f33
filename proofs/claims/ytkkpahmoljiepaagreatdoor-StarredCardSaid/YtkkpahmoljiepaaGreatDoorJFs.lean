/- Closed facts of Starred's row, one by one. -/
import Derived.Test.YtkkpahmoljiepaaGreatDoorJPf
set_option linter.unusedSimpArgs false
set_option linter.unusedVariables false
namespace Go.Proofs.YtkkpahmoljiepaaGreatDoor
namespace Fs
theorem c1 : Rows.starredRow.wf (OpenSpec.ofChange Rows.starredSpec) = true := by kernel_rfl
theorem c4 : Tryz.f5.params.all (Tryz.prog.readableRec ·) = true := by kernel_rfl
theorem c5 : namedTie Tryz.prog Rows.starredRow.named Rows.starredSpec.vars = true := by kernel_rfl
theorem c6 : (Rows.starredRow.stops == []) = true := by kernel_rfl
theorem c8 : (Rows.starredRow.knobs == []) = true := by kernel_rfl
theorem c10 : (Rows.starredRow.inPlace == Tryz.prog.inPlace 5) = true := by kernel_rfl
theorem c11 : (Rows.starredRow.unfollowed == Tryz.prog.unfollowed 5) = true := by kernel_rfl
theorem c12 : (Rows.starredRow.recurses == Tryz.prog.recurses 5) = true := by kernel_rfl
theorem c13 : (Rows.starredRow.named == Tryz.prog.varsNamed 5) = true := by kernel_rfl
theorem c14 : (Rows.starredRow.maps == (Tryz.f5.params.toList ++ Rows.starredSpec.plain.varTypes Tryz.prog).any (Tryz.prog.mapsRec ·)) = true := by kernel_rfl
theorem c15 : (Rows.starredRow.ifaces == (Tryz.f5.params.toList ++ Rows.starredSpec.plain.varTypes Tryz.prog).any (Tryz.prog.ifacesRec ·)) = true := by kernel_rfl
theorem c16 : (Rows.starredRow.mapsOut == Tryz.prog.mapsAmong Tryz.f5.resultTypes.toList) = true := by kernel_rfl
theorem c17 : (Rows.starredRow.loops == (Tryz.f5.params.toList ++ Rows.starredSpec.plain.varTypes Tryz.prog).any (Tryz.prog.loopsFrom ·)) = true := by kernel_rfl
theorem c18 : (Rows.starredRow.wideKeys == (Tryz.f5.params.toList ++ Rows.starredSpec.plain.varTypes Tryz.prog ++ Tryz.f5.resultTypes.toList).any (Tryz.prog.wideKeysFrom ·)) = true := by kernel_rfl
theorem c19 : Rows.starredSpec.vars.all (Tryz.prog.varReadable ·) = true := by kernel_rfl
theorem c20 : Tryz.f5.resultTypes.all (fun t => Tryz.prog.readableRec t && decide (t < Tryz.prog.types.size)) = true := by kernel_rfl
theorem c21 : (Rows.starredRow.ifacesOut == Tryz.f5.resultTypes.toList.any (Tryz.prog.ifacesRec ·)) = true := by kernel_rfl
theorem c22 : (Rows.starredRow.loopsOut == Tryz.f5.resultTypes.toList.any (Tryz.prog.loopsFrom ·)) = true := by kernel_rfl
theorem c23 : (Rows.starredRow.plainKeys == Tryz.prog.plainKeys) = true := by kernel_rfl
theorem c24 : Rows.starredRow.shortTexts.isNone = true := by kernel_rfl
theorem c27 : (Rows.starredRow.lifted == Tryz.prog.liftsFinal) = true := by kernel_rfl
theorem c28 : (Tryz.prog.make == some Rows.starredRow.make) = true := by kernel_rfl
theorem c30 : (Rows.starredRow.pinned == Rows.starredRow.pinnedBy) = true := by kernel_rfl
theorem c31 : (Rows.starredRow.veiled == (Tryz.f5.params.toList ++ Rows.starredSpec.plain.varTypes Tryz.prog ++ Tryz.f5.resultTypes.toList).any (Tryz.prog.veiledRec ·)) = true := by kernel_rfl
theorem c32 : Rows.starredRow.veiledFits Tryz.prog Tryz.f5.params.toList (Tryz.f5.params.toList ++ Rows.starredSpec.plain.varTypes Tryz.prog ++ Tryz.f5.resultTypes.toList) = true := by kernel_rfl
end Fs
end Go.Proofs.YtkkpahmoljiepaaGreatDoor
