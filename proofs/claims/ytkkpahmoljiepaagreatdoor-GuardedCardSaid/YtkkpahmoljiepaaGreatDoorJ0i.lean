import Derived.CheckFast
import Derived.HeadItems
import Derived.JoinedTies
import Derived.LoadGo3
import Derived.LoopIn
import Derived.LoopNIn
import Derived.OwnWalkIn
import Derived.PartsItems
import Derived.RangeFuncBound
import Derived.RangeFuncNested
import Derived.Shelf.ItemsParts
import Derived.Shelf.LaySoft
import Derived.Shelf.Pu.ParseUintPublic10
import Derived.Shelf.RegionOpen
import Derived.Shelf.SlSortCmp.InsertionK
import Derived.Shelf.Slices.Turned
import Derived.Shelf.SlicesE.Clone
import Derived.Shelf.SlicesQ.Contains
import Derived.Shelf.SlicesQ.IndexFunc
import Derived.Shelf.Small.Wraps
import Derived.Shelf.Strconv.AtoiAll
import Derived.Shelf.Strings.LastIndex
import Derived.Shelf.Strings.OnBuilder
import Derived.Shelf.Strings.Shaped
import Derived.Shelf.Strings.SplitShaped
import Derived.Shelf.Unicode.DecodeSlow
import Derived.WalkLawsBesides
import Derived.WalkSpells
import GoSem.PinnedTables
set_option maxRecDepth 1000000
set_option maxHeartbeats 12800000
set_option linter.unusedSimpArgs false
set_option linter.unusedVariables false
namespace Go.Proofs.YtkkpahmoljiepaaGreatDoor
open Go
abbrev ju:=@Go.AllReadyIn.cons
abbrev rR:=@Go.AllReadyIn.nil
abbrev tJ:=@Go.World.putObj_heap_other
abbrev Ak:=@Go.World.putObj_size
abbrev yg:=@Go.belowK_b
abbrev I6:=@Go.callsIn_of_wp_marks
abbrev Al:=@Go.run_takeDeferred
abbrev lL:=@Go.wpAnyIn_done
abbrev rS:=@Go.wpAnyIn_ready
theorem hZ{F:Fence}{n:Nat}{P:Program}{md:Region.Mode}{ops:Array Oper}{Q:Exit → Act → World → Prop}(i:Nat){oi:Oper}{v:Value}{fuel:Nat}{listed:Array Bool}{a:Act}{w:World}{L:Array Bool}{A:Act}(h:wpAnyIn F n P md ops Q fuel L A w)(hro:F.round=none:=by rfl)(hi:ops[i]?=some oi:=by rfl)(hs:Region.noSelect ops=true:=by kernel_rfl)(hf:Region.free md ops listed i=true:=by kernel_rfl)(hr:(Region.ready md ops listed).contains i=true:=by kernel_rfl)(hQ:∀c a w,Q (.panic c) (a.put oi.dst v) w → Q (.panic c) a w:=by exact fun _ _ _ h=>h)(hy:YieldsFenced P ops oi v a:=by exact ⟨Or.inl ⟨by rfl,by intro w;go_simp;first|done|with_reducible rfl⟩,fun _=>rfl⟩)(eL:listed.setIfInBounds i true=L:=by first|(simp only[List.setIfInBounds_toArray,List.set_cons_zero,List.set_cons_succ];rfl)|simp only[List.setIfInBounds_toArray,List.set_cons_zero,List.set_cons_succ]|rfl)(eA:a.put oi.dst v=A:=by first|(simp only[Act.put,List.setIfInBounds_toArray,List.set_cons_zero,List.set_cons_succ];rfl)|simp only[Act.put,List.setIfInBounds_toArray,List.set_cons_zero,List.set_cons_succ]|rfl):wpAnyIn F n P md ops Q (fuel+1) listed a w:=by
 subst eL eA;exact wpAnyIn_take hro hi hs hf hr hQ hy h
theorem dM{F:Fence}{n:Nat}{P:Program}{md:Region.Mode}{ops:Array Oper}{Q:Exit → Act → World → Prop}{fuel:Nat}{listed:Array Bool}{a:Act}{w:World}(i:Nat){o:Oper}(h:∀K:Act → World → Prop,(∀a w,wpAnyIn F n P md ops Q fuel (listed.setIfInBounds i true) a w → K a w) → if Region.wanted o (yielded ops a.tmps)=true then Oper.wpIn F n P o a w K Q else (∀f,o.about P w a.eval=some f → F.fn f) ∧ K (a.put o.dst undef) w)(ho:ops[i]?=some o:=by rfl)(hr:Region.ready md ops listed=[i]:=by kernel_rfl):wpAnyIn F n P md ops Q (fuel+1) listed a w:=wpAnyIn_ready hr (by simp) (AllReadyIn.cons ho h AllReadyIn.nil)
end Go.Proofs.YtkkpahmoljiepaaGreatDoor
