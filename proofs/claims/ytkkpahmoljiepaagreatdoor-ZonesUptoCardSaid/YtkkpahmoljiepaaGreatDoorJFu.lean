/- Closed facts of Zones' row (the second form), one by one. -/
import Derived.Test.YtkkpahmoljiepaaGreatDoorJPf
set_option linter.unusedSimpArgs false
set_option linter.unusedVariables false
namespace Go.Proofs.YtkkpahmoljiepaaGreatDoor
namespace Fu
theorem c1:Rows.zonesUptoRow.wf (OpenSpec.ofChange (Rows.OpenSpec.upto Rows.zonesSpec).bare)=true:=by kernel_rfl
theorem c4:Tryz.f3.params.all (Tryz.prog.readableRec ·)=true:=by kernel_rfl
theorem c5:namedTie Tryz.prog Rows.zonesUptoRow.named (Rows.OpenSpec.upto Rows.zonesSpec).bare.vars=true:=by kernel_rfl
theorem c6:(Rows.zonesUptoRow.stops == [])=true:=by kernel_rfl
theorem c8:(Rows.zonesUptoRow.knobs == [])=true:=by kernel_rfl
theorem c10:(Rows.zonesUptoRow.inPlace == Tryz.prog.inPlace 3)=true:=by kernel_rfl
theorem c11:(Rows.zonesUptoRow.unfollowed == Tryz.prog.unfollowed 3)=true:=by kernel_rfl
theorem c12:(Rows.zonesUptoRow.recurses == Tryz.prog.recurses 3)=true:=by kernel_rfl
theorem c13:(Rows.zonesUptoRow.named == Tryz.prog.varsNamed 3)=true:=by kernel_rfl
theorem c14:(Rows.zonesUptoRow.maps == (Tryz.f3.params.toList++(Rows.OpenSpec.upto Rows.zonesSpec).bare.plain.varTypes Tryz.prog).any (Tryz.prog.mapsRec ·))=true:=by kernel_rfl
theorem c15:(Rows.zonesUptoRow.ifaces == (Tryz.f3.params.toList++(Rows.OpenSpec.upto Rows.zonesSpec).bare.plain.varTypes Tryz.prog).any (Tryz.prog.ifacesRec ·))=true:=by kernel_rfl
theorem c16:(Rows.zonesUptoRow.mapsOut == Tryz.prog.mapsAmong Tryz.f3.resultTypes.toList)=true:=by kernel_rfl
theorem c17:(Rows.zonesUptoRow.loops == (Tryz.f3.params.toList++(Rows.OpenSpec.upto Rows.zonesSpec).bare.plain.varTypes Tryz.prog).any (Tryz.prog.loopsFrom ·))=true:=by kernel_rfl
theorem c18:(Rows.zonesUptoRow.wideKeys == (Tryz.f3.params.toList++(Rows.OpenSpec.upto Rows.zonesSpec).bare.plain.varTypes Tryz.prog++Tryz.f3.resultTypes.toList).any (Tryz.prog.wideKeysFrom ·))=true:=by kernel_rfl
theorem c19:(Rows.OpenSpec.upto Rows.zonesSpec).bare.vars.all (Tryz.prog.varReadable ·)=true:=by kernel_rfl
theorem c20:Tryz.f3.resultTypes.all (fun t=>Tryz.prog.readableRec t && decide (t<Tryz.prog.types.size))=true:=by kernel_rfl
theorem c21:(Rows.zonesUptoRow.ifacesOut == Tryz.f3.resultTypes.toList.any (Tryz.prog.ifacesRec ·))=true:=by kernel_rfl
theorem c22:(Rows.zonesUptoRow.loopsOut == Tryz.f3.resultTypes.toList.any (Tryz.prog.loopsFrom ·))=true:=by kernel_rfl
theorem c23:(Rows.zonesUptoRow.plainKeys == Tryz.prog.plainKeys)=true:=by kernel_rfl
theorem c24:Rows.zonesUptoRow.shortTexts.isNone=true:=by kernel_rfl
theorem c27:(Rows.zonesUptoRow.lifted == Tryz.prog.liftsFinal)=true:=by kernel_rfl
theorem c28:(Tryz.prog.make == some Rows.zonesUptoRow.make)=true:=by kernel_rfl
theorem c30:(Rows.zonesUptoRow.pinned == Rows.zonesUptoRow.pinnedBy)=true:=by kernel_rfl
theorem c31:(Rows.zonesUptoRow.veiled == (Tryz.f3.params.toList++(Rows.OpenSpec.upto Rows.zonesSpec).bare.plain.varTypes Tryz.prog++Tryz.f3.resultTypes.toList).any (Tryz.prog.veiledRec ·))=true:=by kernel_rfl
theorem c32:Rows.zonesUptoRow.veiledFits Tryz.prog Tryz.f3.params.toList (Tryz.f3.params.toList++(Rows.OpenSpec.upto Rows.zonesSpec).bare.plain.varTypes Tryz.prog++Tryz.f3.resultTypes.toList)=true:=by kernel_rfl
end Fu
end Go.Proofs.YtkkpahmoljiepaaGreatDoor
