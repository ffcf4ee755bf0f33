import Derived.Test.YtkkpahmoljiepaaGreatDoorJ40
set_option maxRecDepth 1000000
set_option maxHeartbeats 12800000
set_option linter.unusedSimpArgs false
set_option linter.unusedVariables false
namespace Go.Proofs.YtkkpahmoljiepaaGreatDoor
theorem apt:joinedFacts Tryz.prog 14 Tryz.f14 (OpenSpec.ofChange Rows.guardedSpec).bare Rows.guardedRow=true:=by simp only[joinedFacts,fo];exact⟨⟨⟨⟨⟨⟨⟨⟨⟨⟨⟨⟨⟨⟨⟨⟨⟨⟨⟨⟨⟨⟨⟨⟨⟨⟨⟨⟨⟨⟨⟨az,gB⟩,fD⟩,bw⟩,dm⟩,jl⟩,Bu⟩,t_⟩,ao9⟩,ua⟩,yG⟩,yH⟩,apb⟩,apc⟩,apd⟩,ape⟩,apf⟩,apg⟩,aph⟩,api⟩,apj⟩,apk⟩,apl⟩,apm⟩,ao_⟩,apa⟩,apn⟩,apo⟩,aK⟩,apq⟩,apr⟩,aps⟩
theorem abN:Tryz.prog.funcNamed Rows.guardedRow.func=some 14:=aK
end Go.Proofs.YtkkpahmoljiepaaGreatDoor
