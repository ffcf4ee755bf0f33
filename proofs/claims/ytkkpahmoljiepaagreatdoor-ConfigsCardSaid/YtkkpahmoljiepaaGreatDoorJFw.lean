/- Closed facts of Configs's row, one by one. -/
import Derived.Test.YtkkpahmoljiepaaGreatDoorJPf
set_option linter.unusedSimpArgs false
set_option linter.unusedVariables false
namespace Go.Proofs.YtkkpahmoljiepaaGreatDoor
namespace Fw
theorem c1:Rows.configsRow.wf (OpenSpec.ofChange Rows.configsSpec)=true:=by kernel_rfl
theorem c4:Tryz.f11.params.all (Tryz.prog.readableRec ·)=true:=by kernel_rfl
theorem c5:namedTie Tryz.prog Rows.configsRow.named Rows.configsSpec.vars=true:=by kernel_rfl
theorem c6:(Rows.configsRow.stops == [])=true:=by kernel_rfl
theorem c8:(Rows.configsRow.knobs == [])=true:=by kernel_rfl
theorem c10:(Rows.configsRow.inPlace == Tryz.prog.inPlace 11)=true:=by kernel_rfl
theorem c11:(Rows.configsRow.unfollowed == Tryz.prog.unfollowed 11)=true:=by kernel_rfl
theorem c12:(Rows.configsRow.recurses == Tryz.prog.recurses 11)=true:=by kernel_rfl
theorem c13:(Rows.configsRow.named == Tryz.prog.varsNamed 11)=true:=by kernel_rfl
theorem c14:(Rows.configsRow.maps == (Tryz.f11.params.toList++Rows.configsSpec.plain.varTypes Tryz.prog).any (Tryz.prog.mapsRec ·))=true:=by kernel_rfl
theorem c15:(Rows.configsRow.ifaces == (Tryz.f11.params.toList++Rows.configsSpec.plain.varTypes Tryz.prog).any (Tryz.prog.ifacesRec ·))=true:=by kernel_rfl
theorem c16:(Rows.configsRow.mapsOut == Tryz.prog.mapsAmong Tryz.f11.resultTypes.toList)=true:=by kernel_rfl
theorem c17:(Rows.configsRow.loops == (Tryz.f11.params.toList++Rows.configsSpec.plain.varTypes Tryz.prog).any (Tryz.prog.loopsFrom ·))=true:=by kernel_rfl
theorem c18:(Rows.configsRow.wideKeys == (Tryz.f11.params.toList++Rows.configsSpec.plain.varTypes Tryz.prog++Tryz.f11.resultTypes.toList).any (Tryz.prog.wideKeysFrom ·))=true:=by kernel_rfl
theorem c19:Rows.configsSpec.vars.all (Tryz.prog.varReadable ·)=true:=by kernel_rfl
theorem c20:Tryz.f11.resultTypes.all (fun t=>Tryz.prog.readableRec t && decide (t<Tryz.prog.types.size))=true:=by kernel_rfl
theorem c21:(Rows.configsRow.ifacesOut == Tryz.f11.resultTypes.toList.any (Tryz.prog.ifacesRec ·))=true:=by kernel_rfl
theorem c22:(Rows.configsRow.loopsOut == Tryz.f11.resultTypes.toList.any (Tryz.prog.loopsFrom ·))=true:=by kernel_rfl
theorem c23:(Rows.configsRow.plainKeys == Tryz.prog.plainKeys)=true:=by kernel_rfl
theorem c24:Rows.configsRow.shortTexts.isNone=true:=by kernel_rfl
theorem c27:(Rows.configsRow.lifted == Tryz.prog.liftsFinal)=true:=by kernel_rfl
theorem c28:(Tryz.prog.make == some Rows.configsRow.make)=true:=by kernel_rfl
theorem c30:(Rows.configsRow.pinned == Rows.configsRow.pinnedBy)=true:=by kernel_rfl
theorem c31:(Rows.configsRow.veiled == (Tryz.f11.params.toList++Rows.configsSpec.plain.varTypes Tryz.prog++Tryz.f11.resultTypes.toList).any (Tryz.prog.veiledRec ·))=true:=by kernel_rfl
theorem c32:Rows.configsRow.veiledFits Tryz.prog Tryz.f11.params.toList (Tryz.f11.params.toList++Rows.configsSpec.plain.varTypes Tryz.prog++Tryz.f11.resultTypes.toList)=true:=by kernel_rfl
end Fw
end Go.Proofs.YtkkpahmoljiepaaGreatDoor
