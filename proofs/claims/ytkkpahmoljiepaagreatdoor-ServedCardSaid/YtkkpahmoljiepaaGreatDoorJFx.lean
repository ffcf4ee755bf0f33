/- Closed facts of Served's row, one by one. -/
import Derived.Test.YtkkpahmoljiepaaGreatDoorJPf
set_option linter.unusedSimpArgs false
set_option linter.unusedVariables false
namespace Go.Proofs.YtkkpahmoljiepaaGreatDoor
namespace Fx
theorem c1:Rows.servedRow.wf (OpenSpec.ofChange Rows.servedSpec)=true:=by kernel_rfl
theorem c4:Tryz.f13.params.all (Tryz.prog.readableRec ·)=true:=by kernel_rfl
theorem c5:namedTie Tryz.prog Rows.servedRow.named Rows.servedSpec.vars=true:=by kernel_rfl
theorem c6:(Rows.servedRow.stops == [])=true:=by kernel_rfl
theorem c8:(Rows.servedRow.knobs == [])=true:=by kernel_rfl
theorem c10:(Rows.servedRow.inPlace == Tryz.prog.inPlace 13)=true:=by kernel_rfl
theorem c11:(Rows.servedRow.unfollowed == Tryz.prog.unfollowed 13)=true:=by kernel_rfl
theorem c12:(Rows.servedRow.recurses == Tryz.prog.recurses 13)=true:=by kernel_rfl
theorem c13:(Rows.servedRow.named == Tryz.prog.varsNamed 13)=true:=by kernel_rfl
theorem c14:(Rows.servedRow.maps == (Tryz.f13.params.toList++Rows.servedSpec.plain.varTypes Tryz.prog).any (Tryz.prog.mapsRec ·))=true:=by kernel_rfl
theorem c15:(Rows.servedRow.ifaces == (Tryz.f13.params.toList++Rows.servedSpec.plain.varTypes Tryz.prog).any (Tryz.prog.ifacesRec ·))=true:=by kernel_rfl
theorem c16:(Rows.servedRow.mapsOut == Tryz.prog.mapsAmong Tryz.f13.resultTypes.toList)=true:=by kernel_rfl
theorem c17:(Rows.servedRow.loops == (Tryz.f13.params.toList++Rows.servedSpec.plain.varTypes Tryz.prog).any (Tryz.prog.loopsFrom ·))=true:=by kernel_rfl
theorem c18:(Rows.servedRow.wideKeys == (Tryz.f13.params.toList++Rows.servedSpec.plain.varTypes Tryz.prog++Tryz.f13.resultTypes.toList).any (Tryz.prog.wideKeysFrom ·))=true:=by kernel_rfl
theorem c19:Rows.servedSpec.vars.all (Tryz.prog.varReadable ·)=true:=by kernel_rfl
theorem c20:Tryz.f13.resultTypes.all (fun t=>Tryz.prog.readableRec t && decide (t<Tryz.prog.types.size))=true:=by kernel_rfl
theorem c21:(Rows.servedRow.ifacesOut == Tryz.f13.resultTypes.toList.any (Tryz.prog.ifacesRec ·))=true:=by kernel_rfl
theorem c22:(Rows.servedRow.loopsOut == Tryz.f13.resultTypes.toList.any (Tryz.prog.loopsFrom ·))=true:=by kernel_rfl
theorem c23:(Rows.servedRow.plainKeys == Tryz.prog.plainKeys)=true:=by kernel_rfl
theorem c24:Rows.servedRow.shortTexts.isNone=true:=by kernel_rfl
theorem c27:(Rows.servedRow.lifted == Tryz.prog.liftsFinal)=true:=by kernel_rfl
theorem c28:(Tryz.prog.make == some Rows.servedRow.make)=true:=by kernel_rfl
theorem c30:(Rows.servedRow.pinned == Rows.servedRow.pinnedBy)=true:=by kernel_rfl
theorem c31:(Rows.servedRow.veiled == (Tryz.f13.params.toList++Rows.servedSpec.plain.varTypes Tryz.prog++Tryz.f13.resultTypes.toList).any (Tryz.prog.veiledRec ·))=true:=by kernel_rfl
theorem c32:Rows.servedRow.veiledFits Tryz.prog Tryz.f13.params.toList (Tryz.f13.params.toList++Rows.servedSpec.plain.varTypes Tryz.prog++Tryz.f13.resultTypes.toList)=true:=by kernel_rfl
end Fx
end Go.Proofs.YtkkpahmoljiepaaGreatDoor
