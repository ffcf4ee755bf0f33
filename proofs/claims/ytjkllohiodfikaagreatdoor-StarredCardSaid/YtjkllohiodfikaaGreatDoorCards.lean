/-
  DERIVED. GIVEN WITH THE SEED: THE CARDS: each row of YtjkllohiodfikaaGreatDoorRows.lean that lists a variable, with what it lists TIED to the program's text (the seventh form; the later family's looks); each row that meets fmt, with fmt's text TOLD by the authors' own Lean function (tested against real Go, not proved from fmt's source: count such statements apart). THE CARD IS WHAT COUNTS. Prove the row's statement (the work); the ties are given (YtjkllohiodfikaaGreatDoorTie.lean); close each card by the builder's one call (the guide's Derived/Test/ToyasCard.lean, 'card_holds'). Laid BY PROGRAM, IN A SANDBOX (cutbox-door.mjs). By AI agents, Wed Nov 11 2026. No macro, syntax, notation, axiom, sorry.
-/
import Derived.Test.YtjkllohiodfikaaGreatDoorRows
import GoSem.ClaimSeven
namespace Go.Proofs.YtjkllohiodfikaaGreatDoor
namespace Rows

/-- THE TIED CARD OF 'beaconlaw.Zones'. -/
def zonesCard : Claim7 := { stood := { row := zonesRow, standIns := [], harness := (true, "58566429b9301f1e2c4958b8d2793211a4db38b60565b9d656bba02e8b47e164"), looks := true }, kinds := [], alts := [], laidByText := true, laidKinds := [.data, .data, .data, .data, .sentinel, .sentinel, .pinned], laidTests := true, laidLooks := .later }
def ZonesCardSaid : Prop := Claim7.holds Tryz.pinned (.plain (OpenSpec.ofChange zonesSpec)) zonesCard

/-- THE TIED CARD OF 'beaconkeep.Chained'. -/
def chainedCard : Claim7 := { stood := { row := chainedRow, standIns := [], harness := (true, "58566429b9301f1e2c4958b8d2793211a4db38b60565b9d656bba02e8b47e164"), looks := true }, kinds := [], alts := [], laidByText := true, laidKinds := [.data, .data, .data, .data, .sentinel, .sentinel, .pinned], laidTests := true, laidLooks := .later }
def ChainedCardSaid : Prop := Claim7.holds Tryz.pinned (.plain (OpenSpec.ofChange chainedSpec)) chainedCard

/-- THE TIED CARD OF 'beaconkeep.Starred'. -/
def starredCard : Claim7 := { stood := { row := starredRow, standIns := [], harness := (true, "58566429b9301f1e2c4958b8d2793211a4db38b60565b9d656bba02e8b47e164"), looks := true }, kinds := [], alts := [], laidByText := true, laidKinds := [.data, .data, .data, .data, .sentinel, .sentinel, .pinned], laidTests := true, laidLooks := .later }
def StarredCardSaid : Prop := Claim7.holds Tryz.pinned (.plain (OpenSpec.ofChange starredSpec)) starredCard

/-- THE TIED CARD OF 'beaconlaw.Replies'. -/
def repliesCard : Claim7 := { stood := { row := repliesRow, standIns := [], harness := (true, "58566429b9301f1e2c4958b8d2793211a4db38b60565b9d656bba02e8b47e164"), looks := true }, kinds := [], alts := [], laidByText := true, laidKinds := [.data, .data, .data, .data, .sentinel, .sentinel, .pinned], laidTests := true, laidLooks := .later }
def RepliesCardSaid : Prop := Claim7.holds Tryz.pinned (.plain (OpenSpec.ofChange repliesSpec)) repliesCard

/-- THE TIED CARD OF 'beaconkeep.Told'. -/
def toldCard : Claim7 := { stood := { row := toldRow, standIns := [], harness := (true, "58566429b9301f1e2c4958b8d2793211a4db38b60565b9d656bba02e8b47e164"), looks := true }, kinds := [], alts := [], laidByText := true, laidKinds := [.data, .data, .data, .data, .sentinel, .sentinel, .pinned], laidTests := true, laidLooks := .later }
def ToldCardSaid : Prop := Claim7.holds Tryz.pinned (.plain (OpenSpec.ofChange toldSpec)) toldCard

/-- THE TIED CARD OF 'beaconkeep.Fitting'. -/
def fittingCard : Claim7 := { stood := { row := fittingRow, standIns := [], harness := (true, "58566429b9301f1e2c4958b8d2793211a4db38b60565b9d656bba02e8b47e164"), looks := true }, kinds := [], alts := [], laidByText := true, laidKinds := [.data, .data, .data, .data, .sentinel, .sentinel, .pinned], laidTests := true, laidLooks := .later }
def FittingCardSaid : Prop := Claim7.holds Tryz.pinned (.plain (OpenSpec.ofChange fittingSpec)) fittingCard

/-- THE TIED CARD OF 'beaconlaw.Frames'. -/
def framesCard : Claim7 := { stood := { row := framesRow, standIns := [], harness := (true, "58566429b9301f1e2c4958b8d2793211a4db38b60565b9d656bba02e8b47e164"), looks := true }, kinds := [], alts := [], laidByText := true, laidKinds := [.data, .data, .data, .data, .sentinel, .sentinel, .pinned], laidTests := true, laidLooks := .later }
def FramesCardSaid : Prop := Claim7.holds Tryz.pinned (.plain (OpenSpec.ofChange framesSpec)) framesCard

/-- THE TIED CARD OF 'beaconkeep.Carried'. -/
def carriedCard : Claim7 := { stood := { row := carriedRow, standIns := [], harness := (true, "58566429b9301f1e2c4958b8d2793211a4db38b60565b9d656bba02e8b47e164"), looks := true }, kinds := [], alts := [], laidByText := true, laidKinds := [.data, .data, .data, .data, .sentinel, .sentinel, .pinned], laidTests := true, laidLooks := .later }
def CarriedCardSaid : Prop := Claim7.holds Tryz.pinned (.plain (OpenSpec.ofChange carriedSpec)) carriedCard

/-- THE SECOND FORM's CARD OF 'beaconlaw.Zones'. -/
def zonesUptoCard : Claim7 := { stood := { row := zonesUptoRow, standIns := [], harness := (true, "58566429b9301f1e2c4958b8d2793211a4db38b60565b9d656bba02e8b47e164"), looks := true }, kinds := [], alts := [], laidByText := true, laidKinds := [.data, .data, .data, .data, .sentinel, .sentinel, .pinned], laidTests := true, laidLooks := .later }
def ZonesUptoCardSaid : Prop := Claim7.holds Tryz.pinned (.plain (OpenSpec.upto zonesSpec)) zonesUptoCard

/-- THE SECOND FORM's CARD OF 'beaconkeep.Chained'. -/
def chainedUptoCard : Claim7 := { stood := { row := chainedUptoRow, standIns := [], harness := (true, "58566429b9301f1e2c4958b8d2793211a4db38b60565b9d656bba02e8b47e164"), looks := true }, kinds := [], alts := [], laidByText := true, laidKinds := [.data, .data, .data, .data, .sentinel, .sentinel, .pinned], laidTests := true, laidLooks := .later }
def ChainedUptoCardSaid : Prop := Claim7.holds Tryz.pinned (.plain (OpenSpec.upto chainedSpec)) chainedUptoCard

/-- THE SECOND FORM's CARD OF 'beaconkeep.Starred'. -/
def starredUptoCard : Claim7 := { stood := { row := starredUptoRow, standIns := [], harness := (true, "58566429b9301f1e2c4958b8d2793211a4db38b60565b9d656bba02e8b47e164"), looks := true }, kinds := [], alts := [], laidByText := true, laidKinds := [.data, .data, .data, .data, .sentinel, .sentinel, .pinned], laidTests := true, laidLooks := .later }
def StarredUptoCardSaid : Prop := Claim7.holds Tryz.pinned (.plain (OpenSpec.upto starredSpec)) starredUptoCard

/-- THE SECOND FORM's CARD OF 'beaconlaw.Replies'. -/
def repliesUptoCard : Claim7 := { stood := { row := repliesUptoRow, standIns := [], harness := (true, "58566429b9301f1e2c4958b8d2793211a4db38b60565b9d656bba02e8b47e164"), looks := true }, kinds := [], alts := [], laidByText := true, laidKinds := [.data, .data, .data, .data, .sentinel, .sentinel, .pinned], laidTests := true, laidLooks := .later }
def RepliesUptoCardSaid : Prop := Claim7.holds Tryz.pinned (.plain (OpenSpec.upto repliesSpec)) repliesUptoCard

/-- THE SECOND FORM's CARD OF 'beaconkeep.Told'. -/
def toldUptoCard : Claim7 := { stood := { row := toldUptoRow, standIns := [], harness := (true, "58566429b9301f1e2c4958b8d2793211a4db38b60565b9d656bba02e8b47e164"), looks := true }, kinds := [], alts := [], laidByText := true, laidKinds := [.data, .data, .data, .data, .sentinel, .sentinel, .pinned], laidTests := true, laidLooks := .later }
def ToldUptoCardSaid : Prop := Claim7.holds Tryz.pinned (.plain (OpenSpec.upto toldSpec)) toldUptoCard

/-- THE SECOND FORM's CARD OF 'beaconkeep.Fitting'. -/
def fittingUptoCard : Claim7 := { stood := { row := fittingUptoRow, standIns := [], harness := (true, "58566429b9301f1e2c4958b8d2793211a4db38b60565b9d656bba02e8b47e164"), looks := true }, kinds := [], alts := [], laidByText := true, laidKinds := [.data, .data, .data, .data, .sentinel, .sentinel, .pinned], laidTests := true, laidLooks := .later }
def FittingUptoCardSaid : Prop := Claim7.holds Tryz.pinned (.plain (OpenSpec.upto fittingSpec)) fittingUptoCard

/-- THE SECOND FORM's CARD OF 'beaconlaw.Frames'. -/
def framesUptoCard : Claim7 := { stood := { row := framesUptoRow, standIns := [], harness := (true, "58566429b9301f1e2c4958b8d2793211a4db38b60565b9d656bba02e8b47e164"), looks := true }, kinds := [], alts := [], laidByText := true, laidKinds := [.data, .data, .data, .data, .sentinel, .sentinel, .pinned], laidTests := true, laidLooks := .later }
def FramesUptoCardSaid : Prop := Claim7.holds Tryz.pinned (.plain (OpenSpec.upto framesSpec)) framesUptoCard

/-- THE SECOND FORM's CARD OF 'beaconkeep.Carried'. -/
def carriedUptoCard : Claim7 := { stood := { row := carriedUptoRow, standIns := [], harness := (true, "58566429b9301f1e2c4958b8d2793211a4db38b60565b9d656bba02e8b47e164"), looks := true }, kinds := [], alts := [], laidByText := true, laidKinds := [.data, .data, .data, .data, .sentinel, .sentinel, .pinned], laidTests := true, laidLooks := .later }
def CarriedUptoCardSaid : Prop := Claim7.holds Tryz.pinned (.plain (OpenSpec.upto carriedSpec)) carriedUptoCard
end Rows
end Go.Proofs.YtjkllohiodfikaaGreatDoor
