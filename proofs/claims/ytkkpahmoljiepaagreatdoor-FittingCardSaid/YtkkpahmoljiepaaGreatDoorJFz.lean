/- Closed facts of Fitting's row, one by one. -/
import Derived.Test.YtkkpahmoljiepaaGreatDoorJPf
set_option linter.unusedSimpArgs false
set_option linter.unusedVariables false
namespace Go.Proofs.YtkkpahmoljiepaaGreatDoor
namespace Fz
theorem c1:Rows.fittingRow.wf (OpenSpec.ofChange Rows.fittingSpec)=true:=by kernel_rfl
theorem c4:Tryz.f8.params.all (Tryz.prog.readableRec ·)=true:=by kernel_rfl
theorem c5:namedTie Tryz.prog Rows.fittingRow.named Rows.fittingSpec.vars=true:=by kernel_rfl
theorem c6:(Rows.fittingRow.stops == [])=true:=by kernel_rfl
theorem c8:(Rows.fittingRow.knobs == [])=true:=by kernel_rfl
theorem c10:(Rows.fittingRow.inPlace == Tryz.prog.inPlace 8)=true:=by kernel_rfl
theorem c11:(Rows.fittingRow.unfollowed == Tryz.prog.unfollowed 8)=true:=by kernel_rfl
theorem c12:(Rows.fittingRow.recurses == Tryz.prog.recurses 8)=true:=by kernel_rfl
theorem c13:(Rows.fittingRow.named == Tryz.prog.varsNamed 8)=true:=by kernel_rfl
theorem c14:(Rows.fittingRow.maps == (Tryz.f8.params.toList++Rows.fittingSpec.plain.varTypes Tryz.prog).any (Tryz.prog.mapsRec ·))=true:=by kernel_rfl
theorem c15:(Rows.fittingRow.ifaces == (Tryz.f8.params.toList++Rows.fittingSpec.plain.varTypes Tryz.prog).any (Tryz.prog.ifacesRec ·))=true:=by kernel_rfl
theorem c16:(Rows.fittingRow.mapsOut == Tryz.prog.mapsAmong Tryz.f8.resultTypes.toList)=true:=by kernel_rfl
theorem c17:(Rows.fittingRow.loops == (Tryz.f8.params.toList++Rows.fittingSpec.plain.varTypes Tryz.prog).any (Tryz.prog.loopsFrom ·))=true:=by kernel_rfl
theorem c18:(Rows.fittingRow.wideKeys == (Tryz.f8.params.toList++Rows.fittingSpec.plain.varTypes Tryz.prog++Tryz.f8.resultTypes.toList).any (Tryz.prog.wideKeysFrom ·))=true:=by kernel_rfl
theorem c19:Rows.fittingSpec.vars.all (Tryz.prog.varReadable ·)=true:=by kernel_rfl
theorem c20:Tryz.f8.resultTypes.all (fun t=>Tryz.prog.readableRec t && decide (t<Tryz.prog.types.size))=true:=by kernel_rfl
theorem c21:(Rows.fittingRow.ifacesOut == Tryz.f8.resultTypes.toList.any (Tryz.prog.ifacesRec ·))=true:=by kernel_rfl
theorem c22:(Rows.fittingRow.loopsOut == Tryz.f8.resultTypes.toList.any (Tryz.prog.loopsFrom ·))=true:=by kernel_rfl
theorem c23:(Rows.fittingRow.plainKeys == Tryz.prog.plainKeys)=true:=by kernel_rfl
theorem c24:Rows.fittingRow.shortTexts.isNone=true:=by kernel_rfl
theorem c27:(Rows.fittingRow.lifted == Tryz.prog.liftsFinal)=true:=by kernel_rfl
theorem c28:(Tryz.prog.make == some Rows.fittingRow.make)=true:=by kernel_rfl
theorem c30:(Rows.fittingRow.pinned == Rows.fittingRow.pinnedBy)=true:=by kernel_rfl
theorem c31:(Rows.fittingRow.veiled == (Tryz.f8.params.toList++Rows.fittingSpec.plain.varTypes Tryz.prog++Tryz.f8.resultTypes.toList).any (Tryz.prog.veiledRec ·))=true:=by kernel_rfl
theorem c32:Rows.fittingRow.veiledFits Tryz.prog Tryz.f8.params.toList (Tryz.f8.params.toList++Rows.fittingSpec.plain.varTypes Tryz.prog++Tryz.f8.resultTypes.toList)=true:=by kernel_rfl
end Fz
end Go.Proofs.YtkkpahmoljiepaaGreatDoor
