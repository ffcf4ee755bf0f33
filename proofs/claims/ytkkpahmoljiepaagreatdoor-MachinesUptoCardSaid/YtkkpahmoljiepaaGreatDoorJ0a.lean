import Derived.Below
import Derived.OwnWalk
set_option maxRecDepth 1000000
set_option maxHeartbeats 12800000
set_option linter.all false
namespace Go.Proofs.YtkkpahmoljiepaaGreatDoor
open Go Go.RowKit
abbrev a7(a b:World):Prop:=Below a.1.size a b
def cd{b:Nat}{a:World}:Below b a a:=Below.refl _ _
abbrev Ej:=@Go.ChangeShapes.trodAll_cons
abbrev Ek:=@Go.DataW.trod_int
abbrev nz:=@Go.World.ownsRow.cellAt
abbrev Gg:=@Go.World.ownsRow.frozenAt
abbrev El:=@Go.World.ownsRow.kept
abbrev kX:=@Go.World.ownsRow.lt
abbrev K_:=@Go.World.ownsRow.stored
section
open Go
abbrev lG:=@bodyPost_end
abbrev eh:=@bodyPost_ret
abbrev Gh:=@grownCap_ge
abbrev Gi:=@heap_alloc_new
abbrev tJ:=@heap_setCell_other
abbrev jN:=@info_parts
abbrev BH:=@results_none
abbrev Gk:=@wpList_append_own
end
section
open Go.IntKind
abbrev wL:=@wrap_i64
abbrev BM:=@wrap_u32
abbrev xT:=@wrap_u8
end
section
open Go.RowKit.Below
abbrev dT:=@heap_alloc
abbrev dJ:=@heap_setCell
abbrev dz:=@refl
end
section
open Go.World
abbrev ev:=@cell?_of_block
abbrev vH:=@frozen?_of_block
abbrev jO:=@ownsRow_nil
end
end Go.Proofs.YtkkpahmoljiepaaGreatDoor
