/- Closed facts of Chained's row, one by one. -/
import Derived.Test.YtkkpahmoljiepaaGreatDoorJPf
set_option linter.unusedSimpArgs false
set_option linter.unusedVariables false
namespace Go.Proofs.YtkkpahmoljiepaaGreatDoor
namespace Fy
theorem c1:Rows.chainedRow.wf (OpenSpec.ofChange Rows.chainedSpec)=true:=by kernel_rfl
theorem c4:Tryz.f4.params.all (Tryz.prog.readableRec ·)=true:=by kernel_rfl
theorem c5:namedTie Tryz.prog Rows.chainedRow.named Rows.chainedSpec.vars=true:=by kernel_rfl
theorem c6:(Rows.chainedRow.stops == [])=true:=by kernel_rfl
theorem c8:(Rows.chainedRow.knobs == [])=true:=by kernel_rfl
theorem c10:(Rows.chainedRow.inPlace == Tryz.prog.inPlace 4)=true:=by kernel_rfl
theorem c11:(Rows.chainedRow.unfollowed == Tryz.prog.unfollowed 4)=true:=by kernel_rfl
theorem c12:(Rows.chainedRow.recurses == Tryz.prog.recurses 4)=true:=by kernel_rfl
theorem c13:(Rows.chainedRow.named == Tryz.prog.varsNamed 4)=true:=by kernel_rfl
theorem c14:(Rows.chainedRow.maps == (Tryz.f4.params.toList++Rows.chainedSpec.plain.varTypes Tryz.prog).any (Tryz.prog.mapsRec ·))=true:=by kernel_rfl
theorem c15:(Rows.chainedRow.ifaces == (Tryz.f4.params.toList++Rows.chainedSpec.plain.varTypes Tryz.prog).any (Tryz.prog.ifacesRec ·))=true:=by kernel_rfl
theorem c16:(Rows.chainedRow.mapsOut == Tryz.prog.mapsAmong Tryz.f4.resultTypes.toList)=true:=by kernel_rfl
theorem c17:(Rows.chainedRow.loops == (Tryz.f4.params.toList++Rows.chainedSpec.plain.varTypes Tryz.prog).any (Tryz.prog.loopsFrom ·))=true:=by kernel_rfl
theorem c18:(Rows.chainedRow.wideKeys == (Tryz.f4.params.toList++Rows.chainedSpec.plain.varTypes Tryz.prog++Tryz.f4.resultTypes.toList).any (Tryz.prog.wideKeysFrom ·))=true:=by kernel_rfl
theorem c19:Rows.chainedSpec.vars.all (Tryz.prog.varReadable ·)=true:=by kernel_rfl
theorem c20:Tryz.f4.resultTypes.all (fun t=>Tryz.prog.readableRec t && decide (t<Tryz.prog.types.size))=true:=by kernel_rfl
theorem c21:(Rows.chainedRow.ifacesOut == Tryz.f4.resultTypes.toList.any (Tryz.prog.ifacesRec ·))=true:=by kernel_rfl
theorem c22:(Rows.chainedRow.loopsOut == Tryz.f4.resultTypes.toList.any (Tryz.prog.loopsFrom ·))=true:=by kernel_rfl
theorem c23:(Rows.chainedRow.plainKeys == Tryz.prog.plainKeys)=true:=by kernel_rfl
theorem c24:Rows.chainedRow.shortTexts.isNone=true:=by kernel_rfl
theorem c27:(Rows.chainedRow.lifted == Tryz.prog.liftsFinal)=true:=by kernel_rfl
theorem c28:(Tryz.prog.make == some Rows.chainedRow.make)=true:=by kernel_rfl
theorem c30:(Rows.chainedRow.pinned == Rows.chainedRow.pinnedBy)=true:=by kernel_rfl
theorem c31:(Rows.chainedRow.veiled == (Tryz.f4.params.toList++Rows.chainedSpec.plain.varTypes Tryz.prog++Tryz.f4.resultTypes.toList).any (Tryz.prog.veiledRec ·))=true:=by kernel_rfl
theorem c32:Rows.chainedRow.veiledFits Tryz.prog Tryz.f4.params.toList (Tryz.f4.params.toList++Rows.chainedSpec.plain.varTypes Tryz.prog++Tryz.f4.resultTypes.toList)=true:=by kernel_rfl
end Fy
end Go.Proofs.YtkkpahmoljiepaaGreatDoor
