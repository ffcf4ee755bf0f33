import Derived.CheckFast
import Derived.HeadItems
import Derived.JoinedTies
import Derived.LoadGo3
import Derived.LoopIn
import Derived.LoopNIn
import Derived.OwnWalkIn
import Derived.PartsItems
import Derived.RangeFuncBound
import Derived.RangeFuncNested
import Derived.Shelf.ItemsParts
import Derived.Shelf.LaySoft
import Derived.Shelf.Pu.ParseUintPublic10
import Derived.Shelf.RegionOpen
import Derived.Shelf.SlSortCmp.InsertionK
import Derived.Shelf.Slices.Turned
import Derived.Shelf.SlicesE.Clone
import Derived.Shelf.SlicesQ.Contains
import Derived.Shelf.SlicesQ.IndexFunc
import Derived.Shelf.Small.Wraps
import Derived.Shelf.Strconv.AtoiAll
import Derived.Shelf.Strings.LastIndex
import Derived.Shelf.Strings.OnBuilder
import Derived.Shelf.Strings.Shaped
import Derived.Shelf.Strings.SplitShaped
import Derived.Shelf.Unicode.DecodeSlow
import Derived.WalkLawsBesides
import Derived.WalkSpells
import GoSem.PinnedTables
set_option maxRecDepth 1000000
set_option maxHeartbeats 12800000
set_option linter.unusedSimpArgs false
set_option linter.unusedVariables false
namespace Go.Proofs.YtkkpahmoljiepaaGreatDoor
open Go
abbrev hi:=@Go.AllReadyIn.cons
abbrev nn:=@Go.AllReadyIn.nil
abbrev lQ:=@Go.World.putObj_heap_other
abbrev pC:=@Go.World.putObj_size
abbrev og:=@Go.belowK_b
abbrev vX:=@Go.callsIn_of_wp_marks
abbrev pE:=@Go.run_takeDeferred
abbrev o8:=@Go.wpAnyIn_done
abbrev lF:=@Go.wpAnyIn_ready
theorem gb{i:Fence}{q:Nat}{j:Program}{g:Region.Mode}{a:Array Oper}{c:Exit → Act → World → Prop}(d:Nat){h:Oper}{v:Value}{p:Nat}{e:Array Bool}{b:Act}{w:World}{n:Array Bool}{l:Act}(k:wpAnyIn i q j g a c p n l w)(A:i.round=none:=by rfl)(y:a[d]?=some h:=by rfl)(B:Region.noSelect a=true:=by kernel_rfl)(x:Region.free g a e d=true:=by kernel_rfl)(z:(Region.ready g a e).contains d=true:=by kernel_rfl)(u:∀o b w,c (.panic o) (b.put h.dst v) w → c (.panic o) b w:=by exact fun _ _ _ k=>k)(C:YieldsFenced j a h v b:=by exact ⟨Or.inl ⟨by rfl,by intro w;go_simp;first|done|with_reducible rfl⟩,fun _=>rfl⟩)(t:e.setIfInBounds d true=n:=by first|(simp only[List.setIfInBounds_toArray,List.set_cons_zero,List.set_cons_succ];rfl)|simp only[List.setIfInBounds_toArray,List.set_cons_zero,List.set_cons_succ]|rfl)(r:b.put h.dst v=l:=by first|(simp only[Act.put,List.setIfInBounds_toArray,List.set_cons_zero,List.set_cons_succ];rfl)|simp only[Act.put,List.setIfInBounds_toArray,List.set_cons_zero,List.set_cons_succ]|rfl):wpAnyIn i q j g a c (p+1) e b w:=by
 subst t r;exact wpAnyIn_take A y B x z u C k
theorem fL{c:Fence}{k:Nat}{d:Program}{j:Region.Mode}{b:Array Oper}{g:Exit → Act → World → Prop}{l:Nat}{i:Array Bool}{a:Act}{w:World}(h:Nat){o:Oper}(n:∀e:Act → World → Prop,(∀a w,wpAnyIn c k d j b g l (i.setIfInBounds h true) a w → e a w) → if Region.wanted o (yielded b a.tmps)=true then Oper.wpIn c k d o a w e g else (∀f,o.about d w a.eval=some f → c.fn f) ∧ e (a.put o.dst undef) w)(p:b[h]?=some o:=by rfl)(q:Region.ready j b i=[h]:=by kernel_rfl):wpAnyIn c k d j b g (l+1) i a w:=wpAnyIn_ready q (by simp) (AllReadyIn.cons p n AllReadyIn.nil)
end Go.Proofs.YtkkpahmoljiepaaGreatDoor
