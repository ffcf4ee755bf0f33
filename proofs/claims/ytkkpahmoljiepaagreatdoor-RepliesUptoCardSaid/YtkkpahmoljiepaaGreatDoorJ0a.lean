import Derived.Below
import Derived.OwnWalk
set_option maxRecDepth 1000000
set_option maxHeartbeats 12800000
set_option linter.unusedSimpArgs false
set_option linter.unusedVariables false
namespace Go.Proofs.YtkkpahmoljiepaaGreatDoor
open Go Go.RowKit
abbrev au(w w':World):Prop:=Below w.heap.size w w'
theorem aO{d:Nat}{w:World}:Below d w w:=Below.refl _ _
abbrev fF:=@Go.IntKind.wrap_i64
abbrev NZ:=@Go.IntKind.wrap_u32
abbrev AB:=@Go.IntKind.wrap_u8
abbrev cD:=@Go.RowKit.Below.heap_alloc
abbrev cZ:=@Go.RowKit.Below.heap_setCell
abbrev bR:=@Go.RowKit.Below.refl
abbrev dh:=@Go.World.cell?_of_block
abbrev AE:=@Go.World.frozen?_of_block
abbrev uy:=@Go.World.ownsRow.cellAt
abbrev S_:=@Go.World.ownsRow.frozenAt
abbrev Kc:=@Go.World.ownsRow.kept
abbrev iW:=@Go.World.ownsRow.lt
abbrev ia:=@Go.World.ownsRow_nil
abbrev pO:=@Go.bodyPost_end
abbrev fB:=@Go.bodyPost_ret
abbrev N0:=@Go.heap_alloc_new
abbrev wh:=@Go.heap_setCell_other
abbrev kJ:=@Go.info_parts
abbrev zg:=@Go.results_none
abbrev N3:=@Go.wpList_append_own
end Go.Proofs.YtkkpahmoljiepaaGreatDoor
