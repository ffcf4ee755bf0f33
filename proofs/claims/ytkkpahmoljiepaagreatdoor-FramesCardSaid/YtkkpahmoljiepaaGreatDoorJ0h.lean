import Derived.Deep.RegionHeld
import Derived.Still
set_option maxRecDepth 1000000
set_option maxHeartbeats 12800000
set_option linter.unusedSimpArgs false
set_option linter.unusedVariables false
namespace Go.Proofs.YtkkpahmoljiepaaGreatDoor
open Go
abbrev dr:=@Go.AllReadyH.cons
abbrev eb:=@Go.AllReadyH.nil
abbrev mW:=@Go.mem_ready
abbrev mz:=@Go.wpAnyH_done
abbrev ec:=@Go.wpAnyH_ready
abbrev MB:=@Go.wpAnyH_take
abbrev y_:=@Go.wp_region_held_drew
theorem fS{k:Program}{i:Region.Mode}{a:Array Oper}{d:Exit → Act → World → Prop}{e:World → Prop}(g:Nat){j:Oper}{v:Value}{q:Nat}{h:Array Bool}{c:Act}{b:World}{o:Array Bool}{n:Act}(w:e b)(l:wpAnyH k i a d e q o n b)(y:a[g]?=some j:=by rfl)(A:Region.noSelect a=true:=by kernel_rfl)(x:Region.free i a h g=true:=by kernel_rfl)(z:(Region.ready i a h).contains g=true:=by kernel_rfl)(u:∀p c b,d (.panic p) (c.put j.dst v) b → d (.panic p) c b:=by exact fun _ _ _ l=>l)(C:YieldsIf k a e j v c:=by exact Or.inl ⟨by rfl,by intro b B;(try dsimp only at B);go_simp;first|done|with_reducible rfl⟩)(t:h.setIfInBounds g true=o:=by first|(simp only[List.setIfInBounds_toArray,List.set_cons_zero,List.set_cons_succ];rfl)|simp only[List.setIfInBounds_toArray,List.set_cons_zero,List.set_cons_succ]|rfl)(r:c.put j.dst v=n:=by first|(simp only[Act.put,List.setIfInBounds_toArray,List.set_cons_zero,List.set_cons_succ];rfl)|simp only[Act.put,List.setIfInBounds_toArray,List.set_cons_zero,List.set_cons_succ]|rfl):wpAnyH k i a d e (q+1) h c b:=by
 subst t r;exact wpAnyH_take y A x z u C w l
theorem gP{k:Program}{i:Region.Mode}{a:Array Oper}{d:Exit → Act → World → Prop}{e:World → Prop}(g:Nat){j:Oper}{v:Value}{p:Nat}{h:Array Bool}{c:Act}{b:World}{n:Array Bool}{l:Act}(w:e b)(u:∀o c b,d (.panic o) (c.put j.dst v) b → d (.panic o) c b)(t:wpAnyH k i a d e p n l b)(y:a[g]?=some j:=by rfl)(A:Region.noSelect a=true:=by kernel_rfl)(x:Region.free i a h g=true:=by kernel_rfl)(z:(Region.ready i a h).contains g=true:=by kernel_rfl)(C:YieldsIf k a e j v c:=by exact Or.inl ⟨by rfl,by intro b B;(try dsimp only at B);go_simp;first|done|with_reducible rfl⟩)(r:h.setIfInBounds g true=n:=by first|(simp only[List.setIfInBounds_toArray,List.set_cons_zero,List.set_cons_succ];rfl)|simp only[List.setIfInBounds_toArray,List.set_cons_zero,List.set_cons_succ]|rfl)(q:c.put j.dst v=l:=by first|(simp only[Act.put,List.setIfInBounds_toArray,List.set_cons_zero,List.set_cons_succ];rfl)|simp only[Act.put,List.setIfInBounds_toArray,List.set_cons_zero,List.set_cons_succ]|rfl):wpAnyH k i a d e (p+1) h c b:=by
 subst r q;exact wpAnyH_take y A x z u C w t
end Go.Proofs.YtkkpahmoljiepaaGreatDoor
