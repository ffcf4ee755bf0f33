import Derived.Below
import Derived.OwnWalk
set_option maxRecDepth 1000000
set_option maxHeartbeats 12800000
set_option linter.unusedSimpArgs false
set_option linter.unusedVariables false
namespace Go.Proofs.YtkkpahmoljiepaaGreatDoor
open Go Go.RowKit
abbrev aw(w w':World):Prop:=Below w.heap.size w w'
theorem bj{d:Nat}{w:World}:Below d w w:=Below.refl _ _
abbrev I3:=@Go.DataW.trod_int
abbrev gM:=@Go.IntKind.wrap_i64
abbrev Ai:=@Go.IntKind.wrap_u32
abbrev MO:=@Go.IntKind.wrap_u8
abbrev bV:=@Go.RowKit.Below.heap_alloc
abbrev bf:=@Go.RowKit.Below.heap_setCell
abbrev bW:=@Go.RowKit.Below.refl
abbrev dC:=@Go.World.cell?_of_block
abbrev ab7:=@Go.World.frozen?_of_block
abbrev Aj:=@Go.World.ownsRow.cellAt
abbrev ab8:=@Go.World.ownsRow.kept
abbrev nC:=@Go.World.ownsRow.lt
abbrev iI:=@Go.World.ownsRow_nil
abbrev fy:=@Go.bodyPost_end
abbrev df:=@Go.bodyPost_ret
abbrev MP:=@Go.grownCap_ge
abbrev I4:=@Go.heap_alloc_new
abbrev kS:=@Go.info_parts
abbrev wP:=@Go.results_none
abbrev MQ:=@Go.run_make
abbrev I5:=@Go.wpList_append_own
end Go.Proofs.YtkkpahmoljiepaaGreatDoor
