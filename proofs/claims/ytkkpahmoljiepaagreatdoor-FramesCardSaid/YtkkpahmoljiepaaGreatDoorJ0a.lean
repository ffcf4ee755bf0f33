import Derived.Below
import Derived.OwnWalk
set_option maxRecDepth 1000000
set_option maxHeartbeats 12800000
set_option linter.unusedSimpArgs false
set_option linter.unusedVariables false
namespace Go.Proofs.YtkkpahmoljiepaaGreatDoor
open Go Go.RowKit
abbrev ax(w w':World):Prop:=Below w.heap.size w w'
theorem aE{d:Nat}{w:World}:Below d w w:=Below.refl _ _
abbrev Mx:=@Go.IntKind.wrap_i64
abbrev vS:=@Go.IntKind.wrap_u32
abbrev sO:=@Go.IntKind.wrap_u8
abbrev bx:=@Go.RowKit.Below.heap_alloc
abbrev bC:=@Go.RowKit.Below.heap_setCell
abbrev bk:=@Go.RowKit.Below.refl
abbrev b7:=@Go.World.cell?_of_block
abbrev lZ:=@Go.World.frozen?_of_block
abbrev kj:=@Go.World.ownsRow.cellAt
abbrev zU:=@Go.World.ownsRow.frozenAt
abbrev tm:=@Go.World.ownsRow.kept
abbrev e9:=@Go.World.ownsRow.lt
abbrev e8:=@Go.World.ownsRow_nil
abbrev iI:=@Go.bodyPost_end
abbrev cc:=@Go.bodyPost_ret
abbrev vT:=@Go.grownCap_ge
abbrev vU:=@Go.heap_alloc_new
abbrev kX:=@Go.heap_setCell_other
abbrev fO:=@Go.info_parts
abbrev sN:=@Go.results_none
abbrev vV:=@Go.wpList_append_own
end Go.Proofs.YtkkpahmoljiepaaGreatDoor
