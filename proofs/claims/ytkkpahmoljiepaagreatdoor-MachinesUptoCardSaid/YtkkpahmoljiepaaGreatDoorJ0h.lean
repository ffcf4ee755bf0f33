import Derived.Deep.RegionHeld
import Derived.Still
set_option maxRecDepth 1000000
set_option maxHeartbeats 12800000
set_option linter.all false
open Go renaming World->aQ
namespace Go.Proofs.YtkkpahmoljiepaaGreatDoor
open Go
abbrev lK:=@Go.AllReadyH.cons
abbrev m_:=@Go.AllReadyH.nil
abbrev xe:=@Go.mem_ready
abbrev uY:=@Go.wpAnyH_done
abbrev oh:=@Go.wpAnyH_ready
abbrev akt:=@Go.wpAnyH_take
abbrev La:=@Go.wp_region_held_drew
def DE{a:Prop}(b:a:=by first|(simp only[Act.put,List.setIfInBounds_toArray,List.set_cons_zero,List.set_cons_succ];rfl)|simp only[Act.put,List.setIfInBounds_toArray,List.set_cons_zero,List.set_cons_succ]|rfl):a:=b
def KE(_:List Nat):Prop:=True
def Rm(a:Prop):Prop:=a
def Rl{e:Program}{c:Region.Mode}{d:Array Oper}{g:Exit → Act → aQ → Prop}{h:aQ → Prop}{a:List Nat}{j:Nat}{b:Array Bool}{i:Act}{k:aQ}(_:KE a)(o:Region.ready c d b=a)(n:a≠[])(l:AllReadyH e c d g h j b i k a):wpAnyH e c d g h (j+1) b i k:=wpAnyH_ready o n l
def qO{d e:Prop}{g:aQ → Prop}{h:aQ → Prop}(o:Nat)(b:d)(c:∀a,g a → h a)(l:KE [o] → d → Rm (∀a,g a → h a) → e:=by intro p b c;refine Rl p b8 aA<|lK rfl (λj i=>?_) m_;go_simp;go_wp2_with (with_reducible refine Go.Calls.m b ?_;intro a k);refine i.out _ _ k λn=>?_;clear i j;(try simp only[Act.put,mK,kH,lp]);exact c _ n):e:=l trivial b c
def F1{b c:Prop}(h:Nat)(a:c)(g:KE [h] → Rm c → b:=by intro i a;refine Rl i b8 aA<|lK rfl (λe d=>?_) m_;go_simp;refine d.out _ _ cE λj=>?_;clear d e;(try simp only[Act.put,mK,kH,lp]);exact a):b:=g trivial a
def lX{k:Program}{i:Region.Mode}{a:Array Oper}{d:Exit → Act → aQ → Prop}{e:aQ → Prop}(g:Nat){j:Oper}{v:Value}{q:Nat}{h:Array Bool}{c:Act}{b:aQ}{o:Array Bool}{n:Act}(w:e b)(l:wpAnyH k i a d e q o n b)(y:a[g]?=some j:=by rfl)(A:Region.noSelect a=true:=by kernel_rfl)(x:Region.free i a h g=true:=by kernel_rfl)(z:(Region.ready i a h).contains g=true:=by kernel_rfl)(u:∀p c b,d (.panic p) (c.put j.1 v) b → d (.panic p) c b:=by exact λ_ _ _ l=>l)(C:YieldsIf k a e j v c:=by exact Or.inl ⟨by rfl,by intro b B;(try dsimp only at B);go_simp;first|done|with_reducible rfl⟩)(t:h.setIfInBounds g true=o:=by exact DE)(r:c.put j.1 v=n:=by exact DE):wpAnyH k i a d e (q+1) h c b:=by
 subst t r;exact wpAnyH_take y A x z u C w l
def nV{k:Program}{i:Region.Mode}{a:Array Oper}{d:Exit → Act → aQ → Prop}{e:aQ → Prop}(g:Nat){j:Oper}{v:Value}{p:Nat}{h:Array Bool}{c:Act}{b:aQ}{n:Array Bool}{l:Act}(w:e b)(u:∀o c b,d (.panic o) (c.put j.1 v) b → d (.panic o) c b)(t:wpAnyH k i a d e p n l b)(y:a[g]?=some j:=by rfl)(A:Region.noSelect a=true:=by kernel_rfl)(x:Region.free i a h g=true:=by kernel_rfl)(z:(Region.ready i a h).contains g=true:=by kernel_rfl)(C:YieldsIf k a e j v c:=by exact Or.inl ⟨by rfl,by intro b B;(try dsimp only at B);go_simp;first|done|with_reducible rfl⟩)(r:h.setIfInBounds g true=n:=by exact DE)(q:c.put j.1 v=l:=by exact DE):wpAnyH k i a d e (p+1) h c b:=by
 subst r q;exact wpAnyH_take y A x z u C w t
end Go.Proofs.YtkkpahmoljiepaaGreatDoor
