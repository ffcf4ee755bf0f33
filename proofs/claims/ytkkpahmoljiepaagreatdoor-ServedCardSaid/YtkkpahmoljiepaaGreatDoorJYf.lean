/- beaconkeep.Served answers true whatever it is asked, however many at a time, whether slots are given back or not, and changes nothing that was there: the tied card, for the seven listed variables as the program's text and the pinned table lay them. -/
import Derived.Test.YtkkpahmoljiepaaGreatDoorJYe
import Derived.Test.YtkkpahmoljiepaaGreatDoorCards
import Derived.Test.YtkkpahmoljiepaaGreatDoorTie
import Derived.SevenTiedAt
import Derived.Test.YtkkpahmoljiepaaGreatDoorJPg
set_option linter.unusedSimpArgs false
set_option linter.unusedVariables false
namespace Go.Proofs.YtkkpahmoljiepaaGreatDoor
open Go
namespace Yf
theorem s56:Tryz.prog.wantsStandIn 56=false:=by kernel_rfl
theorem s4:Tryz.prog.wantsStandIn 4=false:=by kernel_rfl
theorem wf:Rows.servedRow.wfByText (OpenSpec.ofChange Rows.servedSpec)=true:=by kernel_rfl
theorem goes:false=Rows.servedRow.goesBy Tryz.prog:=by kernel_rfl
end Yf
theorem served_card_holds:Rows.ServedCardSaid :=
 Claim7.holds_tied_plain_at .later [] [.data, .data, .data, .data, .sentinel, .sentinel, .pinned] true (true, "5b2062f78c25776db10a3b5217a7e108862c6d0a3f58b80340ffd2b28c0468f7") true
  Ye.row (fun _ h=>by cases h) Yf.wf (fun _ h=>by cases h) served_row_tie rfl ⟨rfl,rfl⟩ Pg.mainIs rfl
  (fun f fn hf hfn=>by
   obtain rfl:f=13:=Option.some.inj (Fx.named.symm.trans hf) |>.symm
   obtain rfl:fn=Tryz.f13:=(Option.some.inj (Tryz.func13.symm.trans hfn)).symm
   exact ⟨Pg.looks,fun j t ht=>by
    rw [Tryz.params13] at ht
    have hm:t∈[56,3,4]:=by simpa using Array.mem_of_getElem? ht
    have hm2:t=56∨t=3∨t=4:=by simpa using hm
    rcases hm2 with rfl | rfl | rfl
    ·exact Yf.s56
    ·exact Pg.int
    ·exact Yf.s4⟩)
  Yf.goes
#print axioms served_card_holds
end Go.Proofs.YtkkpahmoljiepaaGreatDoor
