import Derived.Below
import Derived.OwnWalk
set_option maxRecDepth 1000000
set_option maxHeartbeats 12800000
set_option linter.all false
namespace Go.Proofs.YtkkpahmoljiepabGreatDoor
open Go Go.RowKit
abbrev a6(a b:World):Prop:=Below a.1.size a b
def cc{b:Nat}{a:World}:Below b a a:=Below.refl _ _
abbrev Ak:=@Go.ChangeShapes.trodAll_cons
abbrev Am:=@Go.DataW.trod_int
abbrev lG:=@Go.World.ownsRow.cellAt
abbrev Dj:=@Go.World.ownsRow.frozenAt
abbrev An:=@Go.World.ownsRow.kept
abbrev fS:=@Go.World.ownsRow.lt
abbrev Ip:=@Go.World.ownsRow.stored
section
open Go
abbrev kh:=@bodyPost_end
abbrev dQ:=@bodyPost_ret
abbrev Dk:=@grownCap_ge
abbrev Dl:=@heap_alloc_new
abbrev qZ:=@heap_setCell_other
abbrev im:=@info_parts
abbrev wq:=@results_none
abbrev Dm:=@wpList_append_own
end
section
open Go.IntKind
abbrev tv:=@wrap_i64
abbrev yJ:=@wrap_u32
abbrev ur:=@wrap_u8
end
section
open Go.RowKit.Below
abbrev dv:=@heap_alloc
abbrev dr:=@heap_setCell
abbrev cU:=@refl
end
section
open Go.World
abbrev dR:=@cell?_of_block
abbrev sN:=@frozen?_of_block
abbrev ih:=@ownsRow_nil
end
end Go.Proofs.YtkkpahmoljiepabGreatDoor
