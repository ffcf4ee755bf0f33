/- The closed facts of a row, together. -/
import Derived.Test.YtkkpahmoljiepaaGreatDoorJFw
set_option linter.unusedSimpArgs false
set_option linter.unusedVariables false
set_option maxRecDepth 1000000
set_option maxHeartbeats 12800000
namespace Go.Proofs.YtkkpahmoljiepaaGreatDoor
namespace Fw
theorem closed:joinedFacts Tryz.prog 11 Tryz.f11 Rows.configsSpec Rows.configsRow=true:=by
 simp only [joinedFacts,Bool.and_eq_true]
 exact ⟨⟨⟨⟨⟨⟨⟨⟨⟨⟨⟨⟨⟨⟨⟨⟨⟨⟨⟨⟨⟨⟨⟨⟨⟨⟨⟨⟨⟨⟨⟨c1,Pf.p2⟩,Pf.p3⟩,c4⟩,c5⟩,c6⟩,Pf.p7⟩,c8⟩,Pf.p9⟩,c10⟩,c11⟩,c12⟩,c13⟩,c14⟩,c15⟩,c16⟩,c17⟩,c18⟩,c19⟩,c20⟩,c21⟩,c22⟩,c23⟩,c24⟩,Pf.p25⟩,Pf.p26⟩,c27⟩,c28⟩,(by kernel_rfl)⟩,c30⟩,c31⟩,c32⟩
theorem named:Tryz.prog.funcNamed Rows.configsRow.func=some 11:=by kernel_rfl
end Fw
end Go.Proofs.YtkkpahmoljiepaaGreatDoor
