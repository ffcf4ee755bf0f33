import Derived.CheckFast
import Derived.HeadItems
import Derived.JoinedTies
import Derived.LoadGo3
import Derived.PartsItems
import Derived.Shelf.ItemsParts
import Derived.WalkLawsBesides
import Derived.WalkSpells
import GoSem.PinnedTables
import Derived.Test.YtkkpahmoljiepaaGreatDoorChecked
set_option maxRecDepth 1000000
set_option maxHeartbeats 12800000
set_option linter.unusedSimpArgs false
set_option linter.unusedVariables false
namespace Go.Proofs.YtkkpahmoljiepaaGreatDoor
open Go Go.RowKit
abbrev az:=Calls Tryz.prog
abbrev aP(v:Value)(w:World):Ending → World → Prop:=fun a b=>a=.returned v∧Below w.heap.size w b
theorem ci{a:Prop}(h:a:=by simp [intOf]; omega):a:=h
theorem bq{a:Prop}(h:a:=by go_num):a:=h
abbrev c7:=@Go.ByteArray.toList_eq
abbrev yQ:=@Go.IntKind.wrap_u16
abbrev Gj:=@Go.Lib.run_eql_slice_nil
abbrev bK:=@Go.callsIn_wide
abbrev vW:=@Go.cell_one_new
abbrev nU:=@Go.ofInt_u64
abbrev y8:=@Go.run_bytes_of_string
abbrev y9:=@Go.run_convert_bytes_back
abbrev oe:=@Go.wpList_append_own_at
end Go.Proofs.YtkkpahmoljiepaaGreatDoor
