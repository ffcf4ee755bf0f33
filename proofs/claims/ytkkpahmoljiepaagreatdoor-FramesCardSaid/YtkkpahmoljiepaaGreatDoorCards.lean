/-
  DERIVED. GIVEN WITH THE SEED: THE CARDS: each row of YtkkpahmoljiepaaGreatDoorRows.lean that lists a variable, with what it lists TIED to the program's text (the seventh form; the later family's looks); each row that meets fmt, with fmt's text TOLD by the authors' own Lean function (tested against real Go, not proved from fmt's source: count such statements apart). THE CARD IS WHAT COUNTS. Prove the row's statement (the work); the ties are given (YtkkpahmoljiepaaGreatDoorTie.lean); close each card by the builder's one call (the guide's Derived/Test/ToyasCard.lean, 'card_holds'). Laid BY PROGRAM, IN A SANDBOX (cutbox-door.mjs). By AI agents, Wed Nov 11 2026. No macro, syntax, notation, axiom, sorry.
-/
import Derived.Test.YtkkpahmoljiepaaGreatDoorRows
import GoSem.ClaimSeven
namespace Go.Proofs.YtkkpahmoljiepaaGreatDoor
namespace Rows

/-- THE TIED CARD OF 'beaconlaw.Zones'. -/
def zonesCard : Claim7 := { stood := { row := zonesRow, standIns := [], harness := (true, "5b2062f78c25776db10a3b5217a7e108862c6d0a3f58b80340ffd2b28c0468f7"), looks := true }, kinds := [], alts := [], laidByText := true, laidKinds := [.data, .data, .data, .data, .sentinel, .sentinel, .pinned], laidTests := true, laidLooks := .later }
def ZonesCardSaid : Prop := Claim7.holds Tryz.pinned (.plain (OpenSpec.ofChange zonesSpec)) zonesCard

/-- THE TIED CARD OF 'beaconkeep.Chained'. -/
def chainedCard : Claim7 := { stood := { row := chainedRow, standIns := [], harness := (true, "5b2062f78c25776db10a3b5217a7e108862c6d0a3f58b80340ffd2b28c0468f7"), looks := true }, kinds := [], alts := [], laidByText := true, laidKinds := [.data, .data, .data, .data, .sentinel, .sentinel, .pinned], laidTests := true, laidLooks := .later }
def ChainedCardSaid : Prop := Claim7.holds Tryz.pinned (.plain (OpenSpec.ofChange chainedSpec)) chainedCard

/-- THE TIED CARD OF 'beaconkeep.Starred'. -/
def starredCard : Claim7 := { stood := { row := starredRow, standIns := [], harness := (true, "5b2062f78c25776db10a3b5217a7e108862c6d0a3f58b80340ffd2b28c0468f7"), looks := true }, kinds := [], alts := [], laidByText := true, laidKinds := [.data, .data, .data, .data, .sentinel, .sentinel, .pinned], laidTests := true, laidLooks := .later }
def StarredCardSaid : Prop := Claim7.holds Tryz.pinned (.plain (OpenSpec.ofChange starredSpec)) starredCard

/-- THE TIED CARD OF 'beaconlaw.Replies'. -/
def repliesCard : Claim7 := { stood := { row := repliesRow, standIns := [], harness := (true, "5b2062f78c25776db10a3b5217a7e108862c6d0a3f58b80340ffd2b28c0468f7"), looks := true }, kinds := [], alts := [], laidByText := true, laidKinds := [.data, .data, .data, .data, .sentinel, .sentinel, .pinned], laidTests := true, laidLooks := .later }
def RepliesCardSaid : Prop := Claim7.holds Tryz.pinned (.plain (OpenSpec.ofChange repliesSpec)) repliesCard

/-- THE TIED CARD OF 'beaconkeep.Told'. -/
def toldCard : Claim7 := { stood := { row := toldRow, standIns := [], harness := (true, "5b2062f78c25776db10a3b5217a7e108862c6d0a3f58b80340ffd2b28c0468f7"), looks := true }, kinds := [], alts := [], laidByText := true, laidKinds := [.data, .data, .data, .data, .sentinel, .sentinel, .pinned], laidTests := true, laidLooks := .later }
def ToldCardSaid : Prop := Claim7.holds Tryz.pinned (.plain (OpenSpec.ofChange toldSpec)) toldCard

/-- THE TIED CARD OF 'beaconkeep.Fitting'. -/
def fittingCard : Claim7 := { stood := { row := fittingRow, standIns := [], harness := (true, "5b2062f78c25776db10a3b5217a7e108862c6d0a3f58b80340ffd2b28c0468f7"), looks := true }, kinds := [], alts := [], laidByText := true, laidKinds := [.data, .data, .data, .data, .sentinel, .sentinel, .pinned], laidTests := true, laidLooks := .later }
def FittingCardSaid : Prop := Claim7.holds Tryz.pinned (.plain (OpenSpec.ofChange fittingSpec)) fittingCard

/-- THE TIED CARD OF 'beaconlaw.Frames'. -/
def framesCard : Claim7 := { stood := { row := framesRow, standIns := [], harness := (true, "5b2062f78c25776db10a3b5217a7e108862c6d0a3f58b80340ffd2b28c0468f7"), looks := true }, kinds := [], alts := [], laidByText := true, laidKinds := [.data, .data, .data, .data, .sentinel, .sentinel, .pinned], laidTests := true, laidLooks := .later }
def FramesCardSaid : Prop := Claim7.holds Tryz.pinned (.plain (OpenSpec.ofChange framesSpec)) framesCard

/-- THE TIED CARD OF 'beaconkeep.Carried'. -/
def carriedCard : Claim7 := { stood := { row := carriedRow, standIns := [], harness := (true, "5b2062f78c25776db10a3b5217a7e108862c6d0a3f58b80340ffd2b28c0468f7"), looks := true }, kinds := [], alts := [], laidByText := true, laidKinds := [.data, .data, .data, .data, .sentinel, .sentinel, .pinned], laidTests := true, laidLooks := .later }
def CarriedCardSaid : Prop := Claim7.holds Tryz.pinned (.plain (OpenSpec.ofChange carriedSpec)) carriedCard

/-- THE TIED CARD OF 'beaconlaw.Configs'. -/
def configsCard : Claim7 := { stood := { row := configsRow, standIns := [], harness := (true, "5b2062f78c25776db10a3b5217a7e108862c6d0a3f58b80340ffd2b28c0468f7"), looks := true }, kinds := [], alts := [], laidByText := true, laidKinds := [.data, .data, .data, .data, .sentinel, .sentinel, .pinned], laidTests := true, laidLooks := .later }
def ConfigsCardSaid : Prop := Claim7.holds Tryz.pinned (.plain (OpenSpec.ofChange configsSpec)) configsCard

/-- THE TIED CARD OF 'beaconlaw.Machines'. -/
def machinesCard : Claim7 := { stood := { row := machinesRow, standIns := [], harness := (true, "5b2062f78c25776db10a3b5217a7e108862c6d0a3f58b80340ffd2b28c0468f7"), looks := true }, kinds := [], alts := [], laidByText := true, laidKinds := [.data, .data, .data, .data, .sentinel, .sentinel, .pinned], laidTests := true, laidLooks := .later }
def MachinesCardSaid : Prop := Claim7.holds Tryz.pinned (.plain (OpenSpec.ofChange machinesSpec)) machinesCard

/-- THE TIED CARD OF 'beaconkeep.Served'. -/
def servedCard : Claim7 := { stood := { row := servedRow, standIns := [], harness := (true, "5b2062f78c25776db10a3b5217a7e108862c6d0a3f58b80340ffd2b28c0468f7"), looks := true }, kinds := [], alts := [], laidByText := true, laidKinds := [.data, .data, .data, .data, .sentinel, .sentinel, .pinned], laidTests := true, laidLooks := .later }
def ServedCardSaid : Prop := Claim7.holds Tryz.pinned (.plain (OpenSpec.ofChange servedSpec)) servedCard

/-- THE TIED CARD OF 'beaconkeep.Guarded'. -/
def guardedCard : Claim7 := { stood := { row := guardedRow, standIns := [], harness := (true, "5b2062f78c25776db10a3b5217a7e108862c6d0a3f58b80340ffd2b28c0468f7"), looks := true }, kinds := [], alts := [], laidByText := true, laidKinds := [.data, .data, .data, .data, .sentinel, .sentinel, .pinned], laidTests := true, laidLooks := .later }
def GuardedCardSaid : Prop := Claim7.holds Tryz.pinned (.plain (OpenSpec.ofChange guardedSpec)) guardedCard

/-- THE SECOND FORM's CARD OF 'beaconlaw.Zones'. -/
def zonesUptoCard : Claim7 := { stood := { row := zonesUptoRow, standIns := [], harness := (true, "5b2062f78c25776db10a3b5217a7e108862c6d0a3f58b80340ffd2b28c0468f7"), looks := true }, kinds := [], alts := [], laidByText := true, laidKinds := [.data, .data, .data, .data, .sentinel, .sentinel, .pinned], laidTests := true, laidLooks := .later }
def ZonesUptoCardSaid : Prop := Claim7.holds Tryz.pinned (.plain (OpenSpec.upto zonesSpec)) zonesUptoCard

/-- THE SECOND FORM's CARD OF 'beaconkeep.Chained'. -/
def chainedUptoCard : Claim7 := { stood := { row := chainedUptoRow, standIns := [], harness := (true, "5b2062f78c25776db10a3b5217a7e108862c6d0a3f58b80340ffd2b28c0468f7"), looks := true }, kinds := [], alts := [], laidByText := true, laidKinds := [.data, .data, .data, .data, .sentinel, .sentinel, .pinned], laidTests := true, laidLooks := .later }
def ChainedUptoCardSaid : Prop := Claim7.holds Tryz.pinned (.plain (OpenSpec.upto chainedSpec)) chainedUptoCard

/-- THE SECOND FORM's CARD OF 'beaconkeep.Starred'. -/
def starredUptoCard : Claim7 := { stood := { row := starredUptoRow, standIns := [], harness := (true, "5b2062f78c25776db10a3b5217a7e108862c6d0a3f58b80340ffd2b28c0468f7"), looks := true }, kinds := [], alts := [], laidByText := true, laidKinds := [.data, .data, .data, .data, .sentinel, .sentinel, .pinned], laidTests := true, laidLooks := .later }
def StarredUptoCardSaid : Prop := Claim7.holds Tryz.pinned (.plain (OpenSpec.upto starredSpec)) starredUptoCard

/-- THE SECOND FORM's CARD OF 'beaconlaw.Replies'. -/
def repliesUptoCard : Claim7 := { stood := { row := repliesUptoRow, standIns := [], harness := (true, "5b2062f78c25776db10a3b5217a7e108862c6d0a3f58b80340ffd2b28c0468f7"), looks := true }, kinds := [], alts := [], laidByText := true, laidKinds := [.data, .data, .data, .data, .sentinel, .sentinel, .pinned], laidTests := true, laidLooks := .later }
def RepliesUptoCardSaid : Prop := Claim7.holds Tryz.pinned (.plain (OpenSpec.upto repliesSpec)) repliesUptoCard

/-- THE SECOND FORM's CARD OF 'beaconkeep.Told'. -/
def toldUptoCard : Claim7 := { stood := { row := toldUptoRow, standIns := [], harness := (true, "5b2062f78c25776db10a3b5217a7e108862c6d0a3f58b80340ffd2b28c0468f7"), looks := true }, kinds := [], alts := [], laidByText := true, laidKinds := [.data, .data, .data, .data, .sentinel, .sentinel, .pinned], laidTests := true, laidLooks := .later }
def ToldUptoCardSaid : Prop := Claim7.holds Tryz.pinned (.plain (OpenSpec.upto toldSpec)) toldUptoCard

/-- THE SECOND FORM's CARD OF 'beaconkeep.Fitting'. -/
def fittingUptoCard : Claim7 := { stood := { row := fittingUptoRow, standIns := [], harness := (true, "5b2062f78c25776db10a3b5217a7e108862c6d0a3f58b80340ffd2b28c0468f7"), looks := true }, kinds := [], alts := [], laidByText := true, laidKinds := [.data, .data, .data, .data, .sentinel, .sentinel, .pinned], laidTests := true, laidLooks := .later }
def FittingUptoCardSaid : Prop := Claim7.holds Tryz.pinned (.plain (OpenSpec.upto fittingSpec)) fittingUptoCard

/-- THE SECOND FORM's CARD OF 'beaconlaw.Frames'. -/
def framesUptoCard : Claim7 := { stood := { row := framesUptoRow, standIns := [], harness := (true, "5b2062f78c25776db10a3b5217a7e108862c6d0a3f58b80340ffd2b28c0468f7"), looks := true }, kinds := [], alts := [], laidByText := true, laidKinds := [.data, .data, .data, .data, .sentinel, .sentinel, .pinned], laidTests := true, laidLooks := .later }
def FramesUptoCardSaid : Prop := Claim7.holds Tryz.pinned (.plain (OpenSpec.upto framesSpec)) framesUptoCard

/-- THE SECOND FORM's CARD OF 'beaconkeep.Carried'. -/
def carriedUptoCard : Claim7 := { stood := { row := carriedUptoRow, standIns := [], harness := (true, "5b2062f78c25776db10a3b5217a7e108862c6d0a3f58b80340ffd2b28c0468f7"), looks := true }, kinds := [], alts := [], laidByText := true, laidKinds := [.data, .data, .data, .data, .sentinel, .sentinel, .pinned], laidTests := true, laidLooks := .later }
def CarriedUptoCardSaid : Prop := Claim7.holds Tryz.pinned (.plain (OpenSpec.upto carriedSpec)) carriedUptoCard

/-- THE SECOND FORM's CARD OF 'beaconlaw.Configs'. -/
def configsUptoCard : Claim7 := { stood := { row := configsUptoRow, standIns := [], harness := (true, "5b2062f78c25776db10a3b5217a7e108862c6d0a3f58b80340ffd2b28c0468f7"), looks := true }, kinds := [], alts := [], laidByText := true, laidKinds := [.data, .data, .data, .data, .sentinel, .sentinel, .pinned], laidTests := true, laidLooks := .later }
def ConfigsUptoCardSaid : Prop := Claim7.holds Tryz.pinned (.plain (OpenSpec.upto configsSpec)) configsUptoCard

/-- THE SECOND FORM's CARD OF 'beaconlaw.Machines'. -/
def machinesUptoCard : Claim7 := { stood := { row := machinesUptoRow, standIns := [], harness := (true, "5b2062f78c25776db10a3b5217a7e108862c6d0a3f58b80340ffd2b28c0468f7"), looks := true }, kinds := [], alts := [], laidByText := true, laidKinds := [.data, .data, .data, .data, .sentinel, .sentinel, .pinned], laidTests := true, laidLooks := .later }
def MachinesUptoCardSaid : Prop := Claim7.holds Tryz.pinned (.plain (OpenSpec.upto machinesSpec)) machinesUptoCard

/-- THE SECOND FORM's CARD OF 'beaconkeep.Served'. -/
def servedUptoCard : Claim7 := { stood := { row := servedUptoRow, standIns := [], harness := (true, "5b2062f78c25776db10a3b5217a7e108862c6d0a3f58b80340ffd2b28c0468f7"), looks := true }, kinds := [], alts := [], laidByText := true, laidKinds := [.data, .data, .data, .data, .sentinel, .sentinel, .pinned], laidTests := true, laidLooks := .later }
def ServedUptoCardSaid : Prop := Claim7.holds Tryz.pinned (.plain (OpenSpec.upto servedSpec)) servedUptoCard

/-- THE SECOND FORM's CARD OF 'beaconkeep.Guarded'. -/
def guardedUptoCard : Claim7 := { stood := { row := guardedUptoRow, standIns := [], harness := (true, "5b2062f78c25776db10a3b5217a7e108862c6d0a3f58b80340ffd2b28c0468f7"), looks := true }, kinds := [], alts := [], laidByText := true, laidKinds := [.data, .data, .data, .data, .sentinel, .sentinel, .pinned], laidTests := true, laidLooks := .later }
def GuardedUptoCardSaid : Prop := Claim7.holds Tryz.pinned (.plain (OpenSpec.upto guardedSpec)) guardedUptoCard
end Rows
end Go.Proofs.YtkkpahmoljiepaaGreatDoor
