/- beaconkeep.Carried answers true whatever the five numbers are that it is given, and changes nothing that was there: the tied card, for the seven listed variables as the program's text and the pinned table lay them. -/
import Derived.Test.YtkkpahmoljiepaaGreatDoorJYc
import Derived.Test.YtkkpahmoljiepaaGreatDoorCards
import Derived.Test.YtkkpahmoljiepaaGreatDoorTie
import Derived.SevenTiedAt
import Derived.Test.YtkkpahmoljiepaaGreatDoorJPg
set_option linter.unusedSimpArgs false
set_option linter.unusedVariables false
namespace Go.Proofs.YtkkpahmoljiepaaGreatDoor
open Go

namespace Yd
theorem wf : Rows.carriedRow.wfByText (OpenSpec.ofChange Rows.carriedSpec) = true := by kernel_rfl
theorem goes : false = Rows.carriedRow.goesBy Tryz.prog := by kernel_rfl
end Yd

theorem carried_card_holds : Rows.CarriedCardSaid :=
  Claim7.holds_tied_plain_at .later [] [.data, .data, .data, .data, .sentinel, .sentinel, .pinned] true (true, "5b2062f78c25776db10a3b5217a7e108862c6d0a3f58b80340ffd2b28c0468f7") true
    Yc.row (fun _ h => by cases h) Yd.wf (fun _ h => by cases h) carried_row_tie rfl ⟨rfl, rfl⟩ Pg.mainIs rfl
    (fun f fn hf hfn => by
      obtain rfl : f = 10 := Option.some.inj (Fv.named.symm.trans hf) |>.symm
      obtain rfl : fn = Tryz.f10 := (Option.some.inj (Tryz.func10.symm.trans hfn)).symm
      exact ⟨Pg.looks, fun j t ht => by
        rw [Tryz.params10] at ht
        have hm : t ∈ [3, 3, 3, 3, 3] := by simpa using Array.mem_of_getElem? ht
        obtain rfl : t = 3 := by simpa using hm
        exact Pg.int⟩)
    Yd.goes
#print axioms carried_card_holds
end Go.Proofs.YtkkpahmoljiepaaGreatDoor
