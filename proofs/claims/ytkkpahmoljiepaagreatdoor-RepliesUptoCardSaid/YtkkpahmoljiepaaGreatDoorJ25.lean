import Derived.Test.YtkkpahmoljiepaaGreatDoorJ24
set_option maxRecDepth 1000000
set_option maxHeartbeats 12800000
set_option linter.unusedSimpArgs false
set_option linter.unusedVariables false
namespace Go.Proofs.YtkkpahmoljiepaaGreatDoor
theorem ayM:joinedFacts Tryz.prog 6 Tryz.f6 (Rows.OpenSpec.upto Rows.repliesSpec).bare Rows.repliesUptoRow=true:=by simp only[joinedFacts,cY];exact⟨⟨⟨⟨⟨⟨⟨⟨⟨⟨⟨⟨⟨⟨⟨⟨⟨⟨⟨⟨⟨⟨⟨⟨⟨⟨⟨⟨⟨⟨⟨aC,fh⟩,eK⟩,aV⟩,gh⟩,jF⟩,adQ⟩,oU⟩,ayx⟩,zU⟩,DM⟩,DN⟩,ayz⟩,ayA⟩,ayB⟩,ayC⟩,ayD⟩,ayE⟩,ayF⟩,ayG⟩,acv⟩,PB⟩,ayH⟩,ayI⟩,ayy⟩,ah7⟩,ayJ⟩,ayK⟩,aI⟩,YF⟩,M7⟩,ayL⟩
theorem aj0:Tryz.prog.funcNamed Rows.repliesUptoRow.func=some 6:=aI
end Go.Proofs.YtkkpahmoljiepaaGreatDoor
