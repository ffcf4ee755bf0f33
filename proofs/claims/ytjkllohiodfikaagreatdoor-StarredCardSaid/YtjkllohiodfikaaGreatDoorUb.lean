/- beaconkeep.Starred answers true whatever the two numbers are that it is given, and changes nothing that was there: the tied card, for the seven listed variables as the program's text and the pinned table lay them. -/
import Derived.Test.YtjkllohiodfikaaGreatDoorUa
import Derived.Test.YtjkllohiodfikaaGreatDoorCards
import Derived.Test.YtjkllohiodfikaaGreatDoorTie
import Derived.SevenTiedAt
set_option linter.unusedSimpArgs false
set_option linter.unusedVariables false
namespace Go.Proofs.YtjkllohiodfikaaGreatDoor
open Go

theorem starred_card_holds : Rows.StarredCardSaid :=
  Claim7.holds_tied_plain_at .later [] [.data, .data, .data, .data, .sentinel, .sentinel, .pinned] true (true, "58566429b9301f1e2c4958b8d2793211a4db38b60565b9d656bba02e8b47e164") true
    Ua.row (fun _ h => by cases h) (by kernel_rfl) (fun _ h => by cases h) starred_row_tie rfl ⟨rfl, rfl⟩ (by kernel_rfl) rfl
    (fun f fn hf hfn => by
      obtain rfl : f = 5 := Option.some.inj ((show Tryz.prog.funcNamed Rows.starredRow.func = some 5 by kernel_rfl).symm.trans hf) |>.symm
      obtain rfl : fn = Tryz.f5 := (Option.some.inj (Tryz.func5.symm.trans hfn)).symm
      exact ⟨by kernel_rfl, fun j t ht => by
        rw [Tryz.params5] at ht
        have hm : t ∈ [3, 3] := by simpa using Array.mem_of_getElem? ht
        have hall : ([3, 3].all fun u => !Tryz.prog.wantsStandIn u) = true := by kernel_rfl
        exact (show Tryz.prog.wantsStandIn t = false by simpa using List.all_eq_true.1 hall t hm)⟩)
    (by kernel_rfl)
#print axioms starred_card_holds
end Go.Proofs.YtjkllohiodfikaaGreatDoor
