/- beaconkeep.Chained answers true whatever the two numbers are that it is given, and changes nothing that was there: the tied card, for the seven listed variables as the program's text and the pinned table lay them. -/
import Derived.Test.YtkkpahmoljiepaaGreatDoorJYg
import Derived.Test.YtkkpahmoljiepaaGreatDoorCards
import Derived.Test.YtkkpahmoljiepaaGreatDoorTie
import Derived.SevenTiedAt
import Derived.Test.YtkkpahmoljiepaaGreatDoorJPg
set_option linter.unusedSimpArgs false
set_option linter.unusedVariables false
namespace Go.Proofs.YtkkpahmoljiepaaGreatDoor
open Go
namespace Yh
theorem wf:Rows.chainedRow.wfByText (OpenSpec.ofChange Rows.chainedSpec)=true:=by kernel_rfl
theorem goes:false=Rows.chainedRow.goesBy Tryz.prog:=by kernel_rfl
end Yh
theorem chained_card_holds:Rows.ChainedCardSaid :=
 Claim7.holds_tied_plain_at .later [] [.data, .data, .data, .data, .sentinel, .sentinel, .pinned] true (true, "5b2062f78c25776db10a3b5217a7e108862c6d0a3f58b80340ffd2b28c0468f7") true
  Yg.row (fun _ h=>by cases h) Yh.wf (fun _ h=>by cases h) chained_row_tie rfl ⟨rfl,rfl⟩ Pg.mainIs rfl
  (fun f fn hf hfn=>by
   obtain rfl:f=4:=Option.some.inj (Fy.named.symm.trans hf) |>.symm
   obtain rfl:fn=Tryz.f4:=(Option.some.inj (Tryz.func4.symm.trans hfn)).symm
   exact ⟨Pg.looks,fun j t ht=>by
    rw [Tryz.params4] at ht
    have hm:t∈[3,3]:=by simpa using Array.mem_of_getElem? ht
    obtain rfl:t=3:=by simpa using hm
    exact Pg.int⟩)
  Yh.goes
#print axioms chained_card_holds
end Go.Proofs.YtkkpahmoljiepaaGreatDoor
