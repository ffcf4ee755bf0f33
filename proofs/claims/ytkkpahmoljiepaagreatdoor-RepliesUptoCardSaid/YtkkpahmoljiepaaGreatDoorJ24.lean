import Derived.Test.YtkkpahmoljiepaaGreatDoorJ23
set_option maxRecDepth 1000000
set_option maxHeartbeats 12800000
set_option linter.unusedSimpArgs false
set_option linter.unusedVariables false
namespace Go.Proofs.YtkkpahmoljiepaaGreatDoor
theorem aC:Rows.repliesUptoRow.wf (OpenSpec.ofChange (Rows.OpenSpec.upto Rows.repliesSpec).bare)=true:=aI
theorem aV:Tryz.f6.params.all (Tryz.prog.readableRec ·)=true:=aI
theorem gh:namedTie Tryz.prog Rows.repliesUptoRow.named (Rows.OpenSpec.upto Rows.repliesSpec).bare.vars=true:=aI
theorem jF:(Rows.repliesUptoRow.stops == [])=true:=aI
theorem oU:(Rows.repliesUptoRow.knobs == [])=true:=aI
theorem zU:(Rows.repliesUptoRow.inPlace == Tryz.prog.inPlace 6)=true:=aI
theorem DM:(Rows.repliesUptoRow.unfollowed == Tryz.prog.unfollowed 6)=true:=aI
theorem DN:(Rows.repliesUptoRow.recurses == Tryz.prog.recurses 6)=true:=aI
theorem ayz:(Rows.repliesUptoRow.named == Tryz.prog.varsNamed 6)=true:=aI
theorem ayA:(Rows.repliesUptoRow.maps == (Tryz.f6.params.toList++(Rows.OpenSpec.upto Rows.repliesSpec).bare.plain.varTypes Tryz.prog).any (Tryz.prog.mapsRec ·))=true:=aI
theorem ayB:(Rows.repliesUptoRow.ifaces == (Tryz.f6.params.toList++(Rows.OpenSpec.upto Rows.repliesSpec).bare.plain.varTypes Tryz.prog).any (Tryz.prog.ifacesRec ·))=true:=aI
theorem ayC:(Rows.repliesUptoRow.mapsOut == Tryz.prog.mapsAmong Tryz.f6.resultTypes.toList)=true:=aI
theorem ayD:(Rows.repliesUptoRow.loops == (Tryz.f6.params.toList++(Rows.OpenSpec.upto Rows.repliesSpec).bare.plain.varTypes Tryz.prog).any (Tryz.prog.loopsFrom ·))=true:=aI
theorem ayE:(Rows.repliesUptoRow.wideKeys == (Tryz.f6.params.toList++(Rows.OpenSpec.upto Rows.repliesSpec).bare.plain.varTypes Tryz.prog++Tryz.f6.resultTypes.toList).any (Tryz.prog.wideKeysFrom ·))=true:=aI
theorem ayF:(Rows.OpenSpec.upto Rows.repliesSpec).bare.vars.all (Tryz.prog.varReadable ·)=true:=aI
theorem ayG:Tryz.f6.resultTypes.all (fun t=>Tryz.prog.readableRec t && decide (t<Tryz.prog.types.size))=true:=aI
theorem acv:(Rows.repliesUptoRow.ifacesOut == Tryz.f6.resultTypes.toList.any (Tryz.prog.ifacesRec ·))=true:=aI
theorem PB:(Rows.repliesUptoRow.loopsOut == Tryz.f6.resultTypes.toList.any (Tryz.prog.loopsFrom ·))=true:=aI
theorem ayH:(Rows.repliesUptoRow.plainKeys == Tryz.prog.plainKeys)=true:=aI
theorem ayI:Rows.repliesUptoRow.shortTexts.isNone=true:=aI
theorem ayJ:(Rows.repliesUptoRow.lifted == Tryz.prog.liftsFinal)=true:=aI
theorem ayK:(Tryz.prog.make == some Rows.repliesUptoRow.make)=true:=aI
theorem YF:(Rows.repliesUptoRow.pinned == Rows.repliesUptoRow.pinnedBy)=true:=aI
theorem M7:(Rows.repliesUptoRow.veiled == (Tryz.f6.params.toList++(Rows.OpenSpec.upto Rows.repliesSpec).bare.plain.varTypes Tryz.prog++Tryz.f6.resultTypes.toList).any (Tryz.prog.veiledRec ·))=true:=aI
theorem ayL:Rows.repliesUptoRow.veiledFits Tryz.prog Tryz.f6.params.toList (Tryz.f6.params.toList++(Rows.OpenSpec.upto Rows.repliesSpec).bare.plain.varTypes Tryz.prog++Tryz.f6.resultTypes.toList)=true:=aI
end Go.Proofs.YtkkpahmoljiepaaGreatDoor
