import Derived.Test.YtkkpahmoljiepaaGreatDoorJ39
set_option maxRecDepth 1000000
set_option maxHeartbeats 12800000
set_option linter.unusedSimpArgs false
set_option linter.unusedVariables false
namespace Go.Proofs.YtkkpahmoljiepaaGreatDoor
theorem az:Rows.guardedRow.wf (OpenSpec.ofChange (OpenSpec.ofChange Rows.guardedSpec).bare)=true:=aK
theorem bw:Tryz.f14.params.all (Tryz.prog.readableRec ·)=true:=aK
theorem dm:namedTie Tryz.prog Rows.guardedRow.named (OpenSpec.ofChange Rows.guardedSpec).bare.vars=true:=aK
theorem jl:(Rows.guardedRow.stops == [])=true:=aK
theorem t_:(Rows.guardedRow.knobs == [])=true:=aK
theorem ua:(Rows.guardedRow.inPlace == Tryz.prog.inPlace 14)=true:=aK
theorem yG:(Rows.guardedRow.unfollowed == Tryz.prog.unfollowed 14)=true:=aK
theorem yH:(Rows.guardedRow.recurses == Tryz.prog.recurses 14)=true:=aK
theorem apb:(Rows.guardedRow.named == Tryz.prog.varsNamed 14)=true:=aK
theorem apc:(Rows.guardedRow.maps == (Tryz.f14.params.toList++(OpenSpec.ofChange Rows.guardedSpec).bare.plain.varTypes Tryz.prog).any (Tryz.prog.mapsRec ·))=true:=aK
theorem apd:(Rows.guardedRow.ifaces == (Tryz.f14.params.toList++(OpenSpec.ofChange Rows.guardedSpec).bare.plain.varTypes Tryz.prog).any (Tryz.prog.ifacesRec ·))=true:=aK
theorem ape:(Rows.guardedRow.mapsOut == Tryz.prog.mapsAmong Tryz.f14.resultTypes.toList)=true:=aK
theorem apf:(Rows.guardedRow.loops == (Tryz.f14.params.toList++(OpenSpec.ofChange Rows.guardedSpec).bare.plain.varTypes Tryz.prog).any (Tryz.prog.loopsFrom ·))=true:=aK
theorem apg:(Rows.guardedRow.wideKeys == (Tryz.f14.params.toList++(OpenSpec.ofChange Rows.guardedSpec).bare.plain.varTypes Tryz.prog++Tryz.f14.resultTypes.toList).any (Tryz.prog.wideKeysFrom ·))=true:=aK
theorem aph:(OpenSpec.ofChange Rows.guardedSpec).bare.vars.all (Tryz.prog.varReadable ·)=true:=aK
theorem api:Tryz.f14.resultTypes.all (fun t=>Tryz.prog.readableRec t && decide (t<Tryz.prog.types.size))=true:=aK
theorem apj:(Rows.guardedRow.ifacesOut == Tryz.f14.resultTypes.toList.any (Tryz.prog.ifacesRec ·))=true:=aK
theorem apk:(Rows.guardedRow.loopsOut == Tryz.f14.resultTypes.toList.any (Tryz.prog.loopsFrom ·))=true:=aK
theorem apl:(Rows.guardedRow.plainKeys == Tryz.prog.plainKeys)=true:=aK
theorem apm:Rows.guardedRow.shortTexts.isNone=true:=aK
theorem apn:(Rows.guardedRow.lifted == Tryz.prog.liftsFinal)=true:=aK
theorem apo:(Tryz.prog.make == some Rows.guardedRow.make)=true:=aK
theorem apq:(Rows.guardedRow.pinned == Rows.guardedRow.pinnedBy)=true:=aK
theorem apr:(Rows.guardedRow.veiled == (Tryz.f14.params.toList++(OpenSpec.ofChange Rows.guardedSpec).bare.plain.varTypes Tryz.prog++Tryz.f14.resultTypes.toList).any (Tryz.prog.veiledRec ·))=true:=aK
theorem aps:Rows.guardedRow.veiledFits Tryz.prog Tryz.f14.params.toList (Tryz.f14.params.toList++(OpenSpec.ofChange Rows.guardedSpec).bare.plain.varTypes Tryz.prog++Tryz.f14.resultTypes.toList)=true:=aK
end Go.Proofs.YtkkpahmoljiepaaGreatDoor
