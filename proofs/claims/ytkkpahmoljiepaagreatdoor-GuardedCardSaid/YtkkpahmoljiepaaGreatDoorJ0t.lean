import Derived.CheckFast
import Derived.HeadItems
import Derived.JoinedTies
import Derived.LoadGo3
import Derived.PartsItems
import Derived.Shelf.ItemsParts
import Derived.WalkLawsBesides
import Derived.WalkSpells
import GoSem.PinnedTables
import Derived.Test.YtkkpahmoljiepaaGreatDoorChecked
set_option maxRecDepth 1000000
set_option maxHeartbeats 12800000
set_option linter.unusedSimpArgs false
set_option linter.unusedVariables false
namespace Go.Proofs.YtkkpahmoljiepaaGreatDoor
open Go Go.RowKit
abbrev aF:=Calls Tryz.prog
abbrev cS(v:Value)(w:World):Ending → World → Prop:=fun e w'=>e=.returned v∧Below w.heap.size w w'
theorem gN{P:Prop}(h:P:=by simp [intOf]; omega):P:=h
theorem dD{P:Prop}(h:P:=by go_num):P:=h
abbrev gO:=@Go.ByteArray.toList_eq
abbrev jZ:=@Go.IntKind.wrap_u16
abbrev SL:=@Go.callsIn_of_wp
abbrev bR:=@Go.callsIn_wide
abbrev yf:=@Go.ofInt_u64
abbrev SM:=@Go.run_bytes_of_string
abbrev SN:=@Go.run_convert_bytes_back
abbrev ab9:=@Go.wpList_append_own_at
abbrev SQ:=@Go.wp_loop_rounds
end Go.Proofs.YtkkpahmoljiepaaGreatDoor
