import Derived.Test.YtkkpahmoljiepaaGreatDoorJ39
set_option maxRecDepth 1000000
set_option maxHeartbeats 12800000
set_option linter.unusedSimpArgs false
set_option linter.unusedVariables false
namespace Go.Proofs.YtkkpahmoljiepaaGreatDoor
theorem az:Rows.guardedUptoRow.wf (OpenSpec.ofChange (Rows.OpenSpec.upto Rows.guardedSpec).bare)=true:=aK
theorem bw:Tryz.f14.params.all (Tryz.prog.readableRec ·)=true:=aK
theorem dm:namedTie Tryz.prog Rows.guardedUptoRow.named (Rows.OpenSpec.upto Rows.guardedSpec).bare.vars=true:=aK
theorem jl:(Rows.guardedUptoRow.stops == [])=true:=aK
theorem t_:(Rows.guardedUptoRow.knobs == [])=true:=aK
theorem ua:(Rows.guardedUptoRow.inPlace == Tryz.prog.inPlace 14)=true:=aK
theorem yG:(Rows.guardedUptoRow.unfollowed == Tryz.prog.unfollowed 14)=true:=aK
theorem yH:(Rows.guardedUptoRow.recurses == Tryz.prog.recurses 14)=true:=aK
theorem apb:(Rows.guardedUptoRow.named == Tryz.prog.varsNamed 14)=true:=aK
theorem apc:(Rows.guardedUptoRow.maps == (Tryz.f14.params.toList++(Rows.OpenSpec.upto Rows.guardedSpec).bare.plain.varTypes Tryz.prog).any (Tryz.prog.mapsRec ·))=true:=aK
theorem apd:(Rows.guardedUptoRow.ifaces == (Tryz.f14.params.toList++(Rows.OpenSpec.upto Rows.guardedSpec).bare.plain.varTypes Tryz.prog).any (Tryz.prog.ifacesRec ·))=true:=aK
theorem ape:(Rows.guardedUptoRow.mapsOut == Tryz.prog.mapsAmong Tryz.f14.resultTypes.toList)=true:=aK
theorem apf:(Rows.guardedUptoRow.loops == (Tryz.f14.params.toList++(Rows.OpenSpec.upto Rows.guardedSpec).bare.plain.varTypes Tryz.prog).any (Tryz.prog.loopsFrom ·))=true:=aK
theorem apg:(Rows.guardedUptoRow.wideKeys == (Tryz.f14.params.toList++(Rows.OpenSpec.upto Rows.guardedSpec).bare.plain.varTypes Tryz.prog++Tryz.f14.resultTypes.toList).any (Tryz.prog.wideKeysFrom ·))=true:=aK
theorem aph:(Rows.OpenSpec.upto Rows.guardedSpec).bare.vars.all (Tryz.prog.varReadable ·)=true:=aK
theorem api:Tryz.f14.resultTypes.all (fun t=>Tryz.prog.readableRec t && decide (t<Tryz.prog.types.size))=true:=aK
theorem apj:(Rows.guardedUptoRow.ifacesOut == Tryz.f14.resultTypes.toList.any (Tryz.prog.ifacesRec ·))=true:=aK
theorem apk:(Rows.guardedUptoRow.loopsOut == Tryz.f14.resultTypes.toList.any (Tryz.prog.loopsFrom ·))=true:=aK
theorem apl:(Rows.guardedUptoRow.plainKeys == Tryz.prog.plainKeys)=true:=aK
theorem apm:Rows.guardedUptoRow.shortTexts.isNone=true:=aK
theorem apn:(Rows.guardedUptoRow.lifted == Tryz.prog.liftsFinal)=true:=aK
theorem apo:(Tryz.prog.make == some Rows.guardedUptoRow.make)=true:=aK
theorem apq:(Rows.guardedUptoRow.pinned == Rows.guardedUptoRow.pinnedBy)=true:=aK
theorem apr:(Rows.guardedUptoRow.veiled == (Tryz.f14.params.toList++(Rows.OpenSpec.upto Rows.guardedSpec).bare.plain.varTypes Tryz.prog++Tryz.f14.resultTypes.toList).any (Tryz.prog.veiledRec ·))=true:=aK
theorem aps:Rows.guardedUptoRow.veiledFits Tryz.prog Tryz.f14.params.toList (Tryz.f14.params.toList++(Rows.OpenSpec.upto Rows.guardedSpec).bare.plain.varTypes Tryz.prog++Tryz.f14.resultTypes.toList)=true:=aK
end Go.Proofs.YtkkpahmoljiepaaGreatDoor
