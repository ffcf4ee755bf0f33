import Derived.CheckFast
import Derived.HeadItems
import Derived.JoinedTies
import Derived.LoadGo3
import Derived.PartsItems
import Derived.Shelf.ItemsParts
import Derived.WalkLawsBesides
import Derived.WalkSpells
import GoSem.PinnedTables
import Derived.Test.YtkkpahmoljiepaaGreatDoorChecked
set_option maxRecDepth 1000000
set_option maxHeartbeats 12800000
set_option linter.unusedSimpArgs false
set_option linter.unusedVariables false
namespace Go.Proofs.YtkkpahmoljiepaaGreatDoor
open Go Go.RowKit
abbrev aB:=Calls Tryz.prog
abbrev bQ(v:Value)(w:World):Ending → World → Prop:=fun e w'=>e=.returned v∧Below w.heap.size w w'
theorem c5{P:Prop}(h:P:=by simp [intOf]; omega):P:=h
theorem bW{P:Prop}(h:P:=by go_num):P:=h
abbrev nQ:=@Go.ByteArray.toList_eq
abbrev zh:=@Go.IntKind.wrap_u16
abbrev ZZ:=@Go.Lib.run_eql_slice_nil
abbrev cj:=@Go.callsIn_wide
abbrev N4:=@Go.cell_one_new
abbrev Ta:=@Go.run_convert_bytes_back
abbrev CH:=@Go.wpList_append_own_at
end Go.Proofs.YtkkpahmoljiepaaGreatDoor
