import Derived.CheckFast
import Derived.HeadItems
import Derived.JoinedTies
import Derived.LoadGo3
import Derived.PartsItems
import Derived.Shelf.ItemsParts
import Derived.WalkLawsBesides
import Derived.WalkSpells
import GoSem.PinnedTables
import Derived.Test.YtkkpahmoljiepaaGreatDoorChecked
set_option maxRecDepth 1000000
set_option maxHeartbeats 12800000
set_option linter.all false
namespace Go.Proofs.YtkkpahmoljiepaaGreatDoor
open Go Go.RowKit
abbrev cQ(v:Value)(a:World):Ending → World → Prop:=λb c=>b=.returned v∧Below a.1.size a c
def ee{a:Prop}(b:a:=by simp [intOf]; omega):a:=b
def dH{a:Prop}(b:a:=by go_num):a:=b
abbrev hZ:=@Go.ByteArray.toList_eq
abbrev DF:=@Go.IntKind.wrap_u16
abbrev RQ:=@Go.Lib.run_eql_slice_nil
section
open Go
abbrev RR:=@callsIn_of_wp
abbrev ez:=@callsIn_wide
abbrev En:=@cell_one_new
abbrev yv:=@ofInt_u64
abbrev Gl:=@run_bytes_of_string
abbrev Gm:=@run_convert_bytes_back
abbrev vL:=@wpList_append_own_at
abbrev RS:=@wp_loop_rounds
end
end Go.Proofs.YtkkpahmoljiepaaGreatDoor
