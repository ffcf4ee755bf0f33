import Derived.Deep.RegionHeld
import Derived.Still
set_option maxRecDepth 1000000
set_option maxHeartbeats 12800000
set_option linter.unusedSimpArgs false
set_option linter.unusedVariables false
namespace Go.Proofs.YtkkpahmoljiepaaGreatDoor
open Go
abbrev SR:=@Go.AllReadyH.cons
abbrev SS:=@Go.AllReadyH.nil
abbrev SU:=@Go.wpAnyH_done
abbrev SV:=@Go.wpAnyH_ready
theorem apN{P:Program}{md:Region.Mode}{ops:Array Oper}{Q:Exit → Act → World → Prop}{S:World → Prop}(i:Nat){oi:Oper}{v:Value}{fuel:Nat}{listed:Array Bool}{a:Act}{w:World}{L:Array Bool}{A:Act}(hS:S w)(h:wpAnyH P md ops Q S fuel L A w)(hi:ops[i]?=some oi:=by rfl)(hs:Region.noSelect ops=true:=by kernel_rfl)(hf:Region.free md ops listed i=true:=by kernel_rfl)(hr:(Region.ready md ops listed).contains i=true:=by kernel_rfl)(hQ:∀c a w,Q (.panic c) (a.put oi.dst v) w → Q (.panic c) a w:=by exact fun _ _ _ h=>h)(hy:YieldsIf P ops S oi v a:=by exact Or.inl ⟨by rfl,by intro w hw;(try dsimp only at hw);go_simp;first|done|with_reducible rfl⟩)(eL:listed.setIfInBounds i true=L:=by first|(simp only[List.setIfInBounds_toArray,List.set_cons_zero,List.set_cons_succ];rfl)|simp only[List.setIfInBounds_toArray,List.set_cons_zero,List.set_cons_succ]|rfl)(eA:a.put oi.dst v=A:=by first|(simp only[Act.put,List.setIfInBounds_toArray,List.set_cons_zero,List.set_cons_succ];rfl)|simp only[Act.put,List.setIfInBounds_toArray,List.set_cons_zero,List.set_cons_succ]|rfl):wpAnyH P md ops Q S (fuel+1) listed a w:=by
 subst eL eA;exact wpAnyH_take hi hs hf hr hQ hy hS h
theorem kT{P:Program}{md:Region.Mode}{ops:Array Oper}{Q:Exit → Act → World → Prop}{S:World → Prop}(i:Nat){oi:Oper}{v:Value}{fuel:Nat}{listed:Array Bool}{a:Act}{w:World}{L:Array Bool}{A:Act}(hS:S w)(hQ:∀c a w,Q (.panic c) (a.put oi.dst v) w → Q (.panic c) a w)(h:wpAnyH P md ops Q S fuel L A w)(hi:ops[i]?=some oi:=by rfl)(hs:Region.noSelect ops=true:=by kernel_rfl)(hf:Region.free md ops listed i=true:=by kernel_rfl)(hr:(Region.ready md ops listed).contains i=true:=by kernel_rfl)(hy:YieldsIf P ops S oi v a:=by exact Or.inl ⟨by rfl,by intro w hw;(try dsimp only at hw);go_simp;first|done|with_reducible rfl⟩)(eL:listed.setIfInBounds i true=L:=by first|(simp only[List.setIfInBounds_toArray,List.set_cons_zero,List.set_cons_succ];rfl)|simp only[List.setIfInBounds_toArray,List.set_cons_zero,List.set_cons_succ]|rfl)(eA:a.put oi.dst v=A:=by first|(simp only[Act.put,List.setIfInBounds_toArray,List.set_cons_zero,List.set_cons_succ];rfl)|simp only[Act.put,List.setIfInBounds_toArray,List.set_cons_zero,List.set_cons_succ]|rfl):wpAnyH P md ops Q S (fuel+1) listed a w:=by
 subst eL eA;exact wpAnyH_take hi hs hf hr hQ hy hS h
end Go.Proofs.YtkkpahmoljiepaaGreatDoor
