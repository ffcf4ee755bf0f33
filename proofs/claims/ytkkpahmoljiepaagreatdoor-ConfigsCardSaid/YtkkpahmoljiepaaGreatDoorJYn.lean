/- beaconlaw.Configs answers true whatever the four texts are that it is given (a zone's text, a MAC, an IP, a memory's seed), and changes nothing that was there: the tied card, for the seven listed variables as the program's text and the pinned table lay them. -/
import Derived.Test.YtkkpahmoljiepaaGreatDoorJYm
import Derived.Test.YtkkpahmoljiepaaGreatDoorCards
import Derived.Test.YtkkpahmoljiepaaGreatDoorTie
import Derived.SevenTiedAt
import Derived.Test.YtkkpahmoljiepaaGreatDoorJPg
set_option linter.unusedSimpArgs false
set_option linter.unusedVariables false
namespace Go.Proofs.YtkkpahmoljiepaaGreatDoor
open Go
namespace Yn
theorem str:Tryz.prog.wantsStandIn 9=false:=by kernel_rfl
theorem wf:Rows.configsRow.wfByText (OpenSpec.ofChange Rows.configsSpec)=true:=by kernel_rfl
theorem goes:false=Rows.configsRow.goesBy Tryz.prog:=by kernel_rfl
end Yn
theorem configs_card_holds:Rows.ConfigsCardSaid :=
 Claim7.holds_tied_plain_at .later [] [.data, .data, .data, .data, .sentinel, .sentinel, .pinned] true (true, "5b2062f78c25776db10a3b5217a7e108862c6d0a3f58b80340ffd2b28c0468f7") true
  Ym.row (fun _ h=>by cases h) Yn.wf (fun _ h=>by cases h) configs_row_tie rfl ⟨rfl,rfl⟩ Pg.mainIs rfl
  (fun f fn hf hfn=>by
   obtain rfl:f=11:=Option.some.inj (Fw.named.symm.trans hf) |>.symm
   obtain rfl:fn=Tryz.f11:=(Option.some.inj (Tryz.func11.symm.trans hfn)).symm
   exact ⟨Pg.looks,fun j t ht=>by
    rw [Tryz.params11] at ht
    have hm:t∈[9,9,9,9]:=by simpa using Array.mem_of_getElem? ht
    obtain rfl:t=9:=by simpa using hm
    exact Yn.str⟩)
  Yn.goes
#print axioms configs_card_holds
end Go.Proofs.YtkkpahmoljiepaaGreatDoor
