/- beaconkeep.Fitting answers true whatever the three numbers are that it is given, and changes nothing that was there: the tied card, for the seven listed variables as the program's text and the pinned table lay them. -/
import Derived.Test.YtkkpahmoljiepaaGreatDoorJYi
import Derived.Test.YtkkpahmoljiepaaGreatDoorCards
import Derived.Test.YtkkpahmoljiepaaGreatDoorTie
import Derived.SevenTiedAt
import Derived.Test.YtkkpahmoljiepaaGreatDoorJPg
set_option linter.unusedSimpArgs false
set_option linter.unusedVariables false
namespace Go.Proofs.YtkkpahmoljiepaaGreatDoor
open Go
namespace Yj
theorem wf:Rows.fittingRow.wfByText (OpenSpec.ofChange Rows.fittingSpec)=true:=by kernel_rfl
theorem goes:false=Rows.fittingRow.goesBy Tryz.prog:=by kernel_rfl
end Yj
theorem fitting_card_holds:Rows.FittingCardSaid :=
 Claim7.holds_tied_plain_at .later [] [.data, .data, .data, .data, .sentinel, .sentinel, .pinned] true (true, "5b2062f78c25776db10a3b5217a7e108862c6d0a3f58b80340ffd2b28c0468f7") true
  Yi.row (fun _ h=>by cases h) Yj.wf (fun _ h=>by cases h) fitting_row_tie rfl ⟨rfl,rfl⟩ Pg.mainIs rfl
  (fun f fn hf hfn=>by
   obtain rfl:f=8:=Option.some.inj (Fz.named.symm.trans hf) |>.symm
   obtain rfl:fn=Tryz.f8:=(Option.some.inj (Tryz.func8.symm.trans hfn)).symm
   exact ⟨Pg.looks,fun j t ht=>by
    rw [Tryz.params8] at ht
    have hm:t∈[3,3,3]:=by simpa using Array.mem_of_getElem? ht
    obtain rfl:t=3:=by simpa using hm
    exact Pg.int⟩)
  Yj.goes
#print axioms fitting_card_holds
end Go.Proofs.YtkkpahmoljiepaaGreatDoor
