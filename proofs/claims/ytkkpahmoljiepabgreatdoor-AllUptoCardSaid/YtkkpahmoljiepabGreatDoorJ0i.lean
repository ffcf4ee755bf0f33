import Derived.CheckFast
import Derived.HeadItems
import Derived.JoinedTies
import Derived.LoadGo3
import Derived.LoopIn
import Derived.LoopNIn
import Derived.OwnWalkIn
import Derived.PartsItems
import Derived.RangeFuncBound
import Derived.RangeFuncNested
import Derived.Shelf.ItemsParts
import Derived.Shelf.LaySoft
import Derived.Shelf.Pu.ParseUintPublic10
import Derived.Shelf.RegionOpen
import Derived.Shelf.SlSortCmp.InsertionK
import Derived.Shelf.Slices.Turned
import Derived.Shelf.SlicesE.Clone
import Derived.Shelf.SlicesQ.Contains
import Derived.Shelf.SlicesQ.IndexFunc
import Derived.Shelf.Small.Wraps
import Derived.Shelf.Strconv.AtoiAll
import Derived.Shelf.Strings.LastIndex
import Derived.Shelf.Strings.OnBuilder
import Derived.Shelf.Strings.Shaped
import Derived.Shelf.Strings.SplitShaped
import Derived.Shelf.Unicode.DecodeSlow
import Derived.WalkLawsBesides
import Derived.WalkSpells
import GoSem.PinnedTables
set_option maxRecDepth 1000000
set_option maxHeartbeats 12800000
set_option linter.all false
namespace Go.Proofs.YtkkpahmoljiepabGreatDoor
open Go
abbrev ly:=@Go.AllReadyIn.cons
abbrev rH:=@Go.AllReadyIn.nil
abbrev r6:=@Go.World.putObj_heap_other
abbrev wL:=@Go.World.putObj_size
abbrev uT:=@Go.belowK_b
abbrev Dp:=@Go.callsIn_of_wp_marks
abbrev wM:=@Go.run_takeDeferred
abbrev wn:=@Go.wpAnyIn_done
abbrev rI:=@Go.wpAnyIn_ready
def lh{j:Fence}{r:Nat}{k:Program}{h:Region.Mode}{a:Array Oper}{d:Exit->Act->World->Prop}(e:Nat){i:Oper}{v:Value}{q:Nat}{g:Array Bool}{b:Act}{c:World}{o:Array Bool}{n:Act}(l:wpAnyIn j r k h a d q o n c)(A:j.4=none:=by rfl)(y:a[e]?=some i:=by rfl)(B:Region.noSelect a=true:=by kernel_rfl)(x:Region.free h a g e=true:=by kernel_rfl)(z:(Region.ready h a g).contains e=true:=by kernel_rfl)(w:∀p b c,d (.panic p) (b.put i.1 v) c->d (.panic p) b c:=by exact λ_ _ _ l=>l)(C:YieldsFenced k a i v b:=by exact ⟨Or.inl ⟨by rfl,by intro c;go_simp;first|done|with_reducible rfl⟩,λ_=>rfl⟩)(u:g.setIfInBounds e true=o:=by first|(simp only[List.setIfInBounds_toArray,List.set_cons_zero,List.set_cons_succ];rfl)|simp only[List.setIfInBounds_toArray,List.set_cons_zero,List.set_cons_succ]|rfl)(t:b.put i.1 v=n:=by first|(simp only[Act.put,List.setIfInBounds_toArray,List.set_cons_zero,List.set_cons_succ];rfl)|simp only[Act.put,List.setIfInBounds_toArray,List.set_cons_zero,List.set_cons_succ]|rfl):wpAnyIn j r k h a d (q+1) g b c:=by
 subst u t;exact wpAnyIn_take A y B x z w C l
def kA{e:Fence}{n:Nat}{g:Program}{l:Region.Mode}{d:Array Oper}{i:Exit->Act->World->Prop}{o:Nat}{k:Array Bool}{a:Act}{b:World}(j:Nat){c:Oper}(p:∀h:Act->World->Prop,(∀a b,wpAnyIn e n g l d i o (k.setIfInBounds j true) a b->h a b)->if Region.wanted c (yielded d a.1)=true then Oper.wpIn e n g c a b h i else (∀f,c.about g b a.eval=some f->e.1 f)/\h (a.put c.1 undef) b)(q:d[j]?=some c:=by rfl)(r:Region.ready l d k=[j]:=by kernel_rfl):wpAnyIn e n g l d i (o+1) k a b:=wpAnyIn_ready r (by simp)<|AllReadyIn.cons q p AllReadyIn.nil
end Go.Proofs.YtkkpahmoljiepabGreatDoor
