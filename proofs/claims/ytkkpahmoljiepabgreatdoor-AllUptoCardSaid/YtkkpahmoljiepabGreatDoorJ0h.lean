import Derived.Deep.RegionHeld
import Derived.Still
set_option maxRecDepth 1000000
set_option maxHeartbeats 12800000
set_option linter.all false
open Go renaming World->aQ
namespace Go.Proofs.YtkkpahmoljiepabGreatDoor
open Go
abbrev jv:=@Go.AllReadyH.cons
abbrev kU:=@Go.AllReadyH.nil
abbrev tJ:=@Go.mem_ready
abbrev su:=@Go.wpAnyH_done
abbrev lw:=@Go.wpAnyH_ready
abbrev agq:=@Go.wpAnyH_take
abbrev Gw:=@Go.wp_region_held_drew
def AH{a:Prop}(b:a:=by first|(simp only[Act.put,List.setIfInBounds_toArray,List.set_cons_zero,List.set_cons_succ];rfl)|simp only[Act.put,List.setIfInBounds_toArray,List.set_cons_zero,List.set_cons_succ]|rfl):a:=b
def HI(_:List Nat):Prop:=True
def NY(a:Prop):Prop:=a
def NX{e:Program}{c:Region.Mode}{d:Array Oper}{g:Exit->Act->aQ->Prop}{h:aQ->Prop}{a:List Nat}{j:Nat}{b:Array Bool}{i:Act}{k:aQ}(_:HI a)(o:Region.ready c d b=a)(n:a≠[])(l:AllReadyH e c d g h j b i k a):wpAnyH e c d g h (j+1) b i k:=wpAnyH_ready o n l
def oI{d e:Prop}{g:aQ->Prop}{h:aQ->Prop}(o:Nat)(b:d)(c:∀a,g a->h a)(l:HI [o]->d->NY (∀a,g a->h a)->e:=by intro p b c;refine NX p b6 ax<|jv rfl (λj i=>?_) kU;go_simp;go_wp2_with (with_reducible refine Go.Calls.m b ?_;intro a k);refine i.out _ _ k λn=>?_;clear i j;(try simp only[Act.put,kB,iR,iy]);exact c _ n):e:=l trivial b c
def CQ{b c:Prop}(h:Nat)(a:c)(g:HI [h]->NY c->b:=by intro i a;refine NX i b6 ax<|jv rfl (λe d=>?_) kU;go_simp;refine d.out _ _ cy λj=>?_;clear d e;(try simp only[Act.put,kB,iR,iy]);exact a):b:=g trivial a
def fT{k:Program}{i:Region.Mode}{a:Array Oper}{d:Exit->Act->aQ->Prop}{e:aQ->Prop}(g:Nat){j:Oper}{v:Value}{q:Nat}{h:Array Bool}{c:Act}{b:aQ}{o:Array Bool}{n:Act}(w:e b)(l:wpAnyH k i a d e q o n b)(y:a[g]?=some j:=by rfl)(A:Region.noSelect a=true:=by kernel_rfl)(x:Region.free i a h g=true:=by kernel_rfl)(z:(Region.ready i a h).contains g=true:=by kernel_rfl)(u:∀p c b,d (.panic p) (c.put j.1 v) b->d (.panic p) c b:=by exact λ_ _ _ l=>l)(C:YieldsIf k a e j v c:=by exact Or.inl ⟨by rfl,by intro b B;(try dsimp only at B);go_simp;first|done|with_reducible rfl⟩)(t:h.setIfInBounds g true=o:=by exact AH)(r:c.put j.1 v=n:=by exact AH):wpAnyH k i a d e (q+1) h c b:=by
 subst t r;exact wpAnyH_take y A x z u C w l
def l_{k:Program}{i:Region.Mode}{a:Array Oper}{d:Exit->Act->aQ->Prop}{e:aQ->Prop}(g:Nat){j:Oper}{v:Value}{p:Nat}{h:Array Bool}{c:Act}{b:aQ}{n:Array Bool}{l:Act}(w:e b)(u:∀o c b,d (.panic o) (c.put j.1 v) b->d (.panic o) c b)(t:wpAnyH k i a d e p n l b)(y:a[g]?=some j:=by rfl)(A:Region.noSelect a=true:=by kernel_rfl)(x:Region.free i a h g=true:=by kernel_rfl)(z:(Region.ready i a h).contains g=true:=by kernel_rfl)(C:YieldsIf k a e j v c:=by exact Or.inl ⟨by rfl,by intro b B;(try dsimp only at B);go_simp;first|done|with_reducible rfl⟩)(r:h.setIfInBounds g true=n:=by exact AH)(q:c.put j.1 v=l:=by exact AH):wpAnyH k i a d e (p+1) h c b:=by
 subst r q;exact wpAnyH_take y A x z u C w t
end Go.Proofs.YtkkpahmoljiepabGreatDoor
