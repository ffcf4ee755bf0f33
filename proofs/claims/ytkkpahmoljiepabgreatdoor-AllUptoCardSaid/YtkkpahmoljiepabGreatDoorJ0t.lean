import Derived.CheckFast
import Derived.HeadItems
import Derived.JoinedTies
import Derived.LoadGo3
import Derived.PartsItems
import Derived.Shelf.ItemsParts
import Derived.WalkLawsBesides
import Derived.WalkSpells
import GoSem.PinnedTables
import Derived.Test.YtkkpahmoljiepabGreatDoorChecked
set_option maxRecDepth 1000000
set_option maxHeartbeats 12800000
set_option linter.all false
namespace Go.Proofs.YtkkpahmoljiepabGreatDoor
open Go Go.RowKit
abbrev cI(v:Value)(a:World):Ending->World->Prop:=λb c=>b=.returned v∧Below a.1.size a c
def dz{a:Prop}(b:a:=by simp [intOf];omega):a:=b
def dd{a:Prop}(b:a:=by go_num):a:=b
abbrev gC:=@Go.ByteArray.toList_eq
abbrev AN:=@Go.IntKind.wrap_u16
abbrev LF:=@Go.Lib.run_eql_slice_nil
section
open Go
abbrev OW:=@callsIn_of_wp
abbrev ec:=@callsIn_wide
abbrev Bm:=@cell_one_new
abbrev uS:=@ofInt_u64
abbrev Dn:=@run_bytes_of_string
abbrev Do:=@run_convert_bytes_back
abbrev sQ:=@wpList_append_own_at
abbrev OX:=@wp_loop_rounds
end
end Go.Proofs.YtkkpahmoljiepabGreatDoor
