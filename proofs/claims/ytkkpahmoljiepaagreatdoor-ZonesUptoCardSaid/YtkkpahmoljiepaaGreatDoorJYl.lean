/- beaconlaw.Zones answers true whatever the text and the asks are that it is given, where they are of no more than so many letters, and changes nothing that was there: the second form's tied card. -/
import Derived.Test.YtkkpahmoljiepaaGreatDoorJYk
import Derived.Test.YtkkpahmoljiepaaGreatDoorCards
import Derived.Test.YtkkpahmoljiepaaGreatDoorTie
import Derived.SevenTiedAt
import Derived.Test.YtkkpahmoljiepaaGreatDoorJPg
set_option linter.unusedSimpArgs false
set_option linter.unusedVariables false
namespace Go.Proofs.YtkkpahmoljiepaaGreatDoor
open Go
namespace Yl
theorem wf:Rows.zonesUptoRow.wfByText (Rows.OpenSpec.upto Rows.zonesSpec)=true:=by kernel_rfl
theorem goes:false=Rows.zonesUptoRow.goesBy Tryz.prog:=by kernel_rfl
theorem str:Tryz.prog.wantsStandIn 9=false:=by kernel_rfl
theorem asks:Tryz.prog.wantsStandIn 22=false:=by kernel_rfl
end Yl
theorem zones_upto_card_holds:Rows.ZonesUptoCardSaid :=
 Claim7.holds_tied_plain_at .later [] _ _ _ _ Yk.row (fun _ h=>by cases h) Yl.wf (fun _ h=>by cases h) zonesUpto_row_tie rfl ⟨rfl,rfl⟩ Pg.mainIs rfl
  (fun f fn hf hfn=>by
   obtain rfl:f=3:=Option.some.inj (Fu.named.symm.trans hf) |>.symm
   obtain rfl:fn=Tryz.f3:=(Option.some.inj (Tryz.func3.symm.trans hfn)).symm
   exact ⟨Pg.looks,fun j t ht=>by
    rw [Tryz.params3] at ht
    have hm:t∈[9,22]:=by simpa using Array.mem_of_getElem? ht
    rcases List.mem_cons.1 hm with rfl | hm
    ·exact Yl.str
    ·obtain rfl:=List.mem_singleton.1 hm
     exact Yl.asks⟩)
  Yl.goes
#print axioms zones_upto_card_holds
end Go.Proofs.YtkkpahmoljiepaaGreatDoor
