/- Contracts: lookup.isAlias; (*search).step of a name whose records are no CNAME. -/
import Derived.Test.YtkkpahmoljiepaaGreatDoorJLg
import Derived.Shelf.Spec.SlicesGrow
import Derived.Ground.Names8Prog
import Derived.Test.YtkkpahmoljiepaaGreatDoorProg
import Derived.Test.YtkkpahmoljiepaaGreatDoorJ07
import Derived.Conc.LoneSelect
import Derived.Conc.EventLaws
import Derived.KernelRfl
import Derived.Laws.Rows
set_option linter.unusedSimpArgs false
set_option linter.unusedVariables false
set_option maxRecDepth 1000000
set_option maxHeartbeats 12800000
namespace Go.Proofs.YtkkpahmoljiepaaGreatDoor
open Go.RowKit
open Pu (Str aH aU)
def aliasP (l:List Rec):Bool:=l.length == 1 && (l.headD Rec.zero).type == 5
def stepRc (o:Str) (rs:List Rec) (n:Str):Int:=if (cutP o rs n).length=0 then (if (matchP rs n).2 then 0 else 3) else 0
def aQ (o:Str) (rs:List Rec) (k:Int) (n:Str):List Rec:=if (cutP o rs n).length=0 then (if (matchP rs n).2 then takeP k (matchP rs n).1 else []) else []
def aP (o:Str) (rs:List Rec) (k:Int) (n:Str):List Rec :=
 if (cutP o rs n).length=0 then (if (matchP rs n).2 then (if takenP k (matchP rs n).1 then [] else denyP o rs) else denyP o rs) else cutP o rs n
namespace Lh
open Ka Kd Rf Rg Ia Iow Ie Zb Zc Za La Lb Re Lc Le Lf Lg
theorem isAlias_any (v:Value) (l:List Rec) (w:World) (hv:RV w v l) (hl:l.length≤3001) :
  Calls Tryz.prog 246 #[v] w fun e w'=>e=.returned (.bool (aliasP l))∧w'=w:=by
 rcases hv with ⟨rfl,rfl⟩ | ⟨b,off,cap,rfl,hc,hr⟩
 ·go_enter Tryz.func246,Tryz.ntmps246
  go_wp2
  go_ret
  exact ⟨rfl,rfl⟩
 ·by_cases h1:l.length=1
  ·obtain ⟨r,rfl⟩:=List.length_eq_one_iff.1 h1
   obtain ⟨c0,c1,c2,c3⟩:=hr.four 0 (by simp)
   simp only [Nat.zero_mul,Nat.add_zero,List.getElem_cons_zero] at c2
   have hfin:Hid (aliasP [r]=(r.type == 5)):=by unfold aliasP; rw [Hid]; simp
   clear hr c0 c1 c3 h1
   simp only [List.length_cons,List.length_nil] at hc ⊢
   go_enter Tryz.func246,Tryz.ntmps246
   go_wp2
   go_ret
   exact ⟨ret_bool (aU hfin).symm,rfl⟩
  ·have hfin:Hid (aliasP l=false):=by unfold aliasP; rw [Hid,beq_eq_false_iff_ne.2 h1]; rfl
   have h1I:((l.length:Int) == 1)=false:=by rw [beq_eq_false_iff_ne]; omega
   clear hr h1
   go_enter Tryz.func246,Tryz.ntmps246
   go_wp2
   go_ret
   exact ⟨ret_bool (aU hfin).symm,rfl⟩
theorem cutP_len (o:Str) (rs:List Rec) (n:Str):(cutP o rs n).length≤rs.length:=by
 unfold cutP
 generalize (ends n).takeWhile (fun e=>!(e == o))=es
 have : ∀ (es:List Str) (acc:List Rec),acc.length≤rs.length→(es.foldl (cutStep rs) acc).length≤rs.length:=by
  intro es
  induction es with
  | nil=>intro acc h; exact h
  | cons e t ih =>
   intro acc h
   rw [List.foldl_cons]
   refine ih _ ?_
   unfold cutStep
   split
   ·exact h
   ·exact Nat.le_trans (setP_len _ _) (ofP_len _ _)
 exact this es [] (by simp)
theorem step_plain (sb zb cb b off cap:Nat) (k:Int) (au:Bool) (va vb vc:Value) (o n:Str) (rs ans:List Rec) (w:World) (hs:aM w sb zb k 0 au va vb vc cb) (ho:OwnR w (sb+1) va ans) (hvb:vb=.slice none 0 0)
  (hz:aN w zb o b off cap rs) (hg:G w) (hzs:zb<sb) (hbs:b<sb) (h0:0<sb) (hfit:Fit o rs) (hn:n.length≤2900) (ha:ans.length≤90000)
  (hok : ∀ r∈setP (ofP rs o) 6,soaOk r∧r.data.length≤3000∧r.ttl≤1000000000) (h5:(k == 5)=false) (h255:(k == 255)=false) (hal:aliasP (matchP rs n).1=false) (hml:(matchP rs n).1.length≤3001) :
  Calls Tryz.prog 194 #[.pointer (some ⟨sb,0,none⟩),.string (B n)] w fun e w'=>e=.returned (.tuple #[.string ⟨#[]⟩,.bool false])∧(∃ va' vb',aM w' sb zb k (stepRc o rs n) au va' vb' vc cb∧OwnR w' (sb+1) va' (ans++aQ o rs k n)∧OwnR w' (sb+1) vb' (aP o rs k n))∧Below sb w w':=by
 subst hvb
 obtain ⟨hlen,hol,hrl⟩:=hfit
 have h5b:(k != 5)=true:=by unfold bne; rw [h5]; rfl
 have h255b:(k != 255)=true:=by unfold bne; rw [h255]; rfl
 clear h5 h255
 have hslt:=hs.lt
 have hown:=ho.own_lt
 obtain ⟨s0,s1,_⟩:=hs.cells
 have HS:=aH hs
 have HO:=aH ho
 have HZ:=aH hz
 have HG:=aH hg
 have HOK:=aH hok
 have HC:=aH (cutOver_any zb b off cap o n rs w hz hg hlen (by omega) hol)
 have HKS:Hid (∀ W,Below w.heap.size w W→aM W sb zb k 0 au va (.slice none 0 0) vc cb):=fun W hb=>hs.kept (hb.block sb hslt)
 have HOL:=aH hown
 clear hs ho hz hg hok hown
 have hcl:(cutP o rs n).length≤3001:=Nat.le_trans (cutP_len o rs n) hlen
 by_cases hc:(cutP o rs n).length=0
 ·have hcI : ¬ (0:Int)<((cutP o rs n).length:Int):=by omega
  have e1:Hid (stepRc o rs n=if (matchP rs n).2 then 0 else 3):=by unfold stepRc; rw [Hid,if_pos hc]
  have e2:Hid (aQ o rs k n=if (matchP rs n).2 then takeP k (matchP rs n).1 else []):=by unfold aQ; rw [Hid,if_pos hc]
  have e3:Hid (aP o rs k n=if (matchP rs n).2 then (if takenP k (matchP rs n).1 then [] else denyP o rs) else denyP o rs):=by unfold aP; rw [Hid,if_pos hc]
  clear hc
  have HM:=aH (fun W (hb:Below w.heap.size w W)=>match_any zb b off cap o n rs W ((aU HZ).below hb) ((aU HG).below hb) hlen hn (fun r hr=>(hrl r hr).1))
  cases hm:(matchP rs n).2
  ·rw [hm] at e1 e2 e3
   go_enter Tryz.func194,Tryz.ntmps194
   go_wp2_with fail
   refine (aU HC).mono ?_
   rintro e w1 ⟨⟨v1,rfl,hv1⟩,hb1⟩
   obtain ⟨a1,c1,rfl⟩:=hv1.slice
   clear hv1
   obtain ⟨t0,t1,_⟩:=(aU HKS w1 hb1).cells
   go_wp2_with fail
   refine (aU HM w1 hb1).mono ?_
   rintro e w2 ⟨⟨v2,rfl,hv2⟩,hb2⟩
   rw [hm]
   clear hv2
   have hb12:=hb1.trans (hb2.mono hb1.size)
   have hs2:=aU HKS w2 hb12
   obtain ⟨u0,u1,u2,u3,u4,u5,u6,u7⟩:=hs2.cells
   have f2:=hs2.frozen 2
   have S3:=aH (hs2.set2 3)
   have hs3:=hs2.set2 3
   obtain ⟨y0,_⟩:=hs3.cells
   have hb3:Below sb w (w2.setCell ⟨sb,2,none⟩ (.int .i64 3)):=(hb12.mono (show sb≤w.heap.size by omega)).setCell (p:=⟨sb,2,none⟩) (Nat.le_refl sb) _
   have hz3:aN (w2.setCell ⟨sb,2,none⟩ (.int .i64 3)) zb o b off cap rs:=(aU HZ).low hb3 hzs hbs
   have HD:=aH (denial_any zb b off cap o rs _ hz3 hlen (aU HOK))
   have HO3:=aH (((aU HO).below hb12).set_low (k:=sb) (i:=2) (by omega) (.int .i64 3))
   have hsz3:(w2.setCell ⟨sb,2,none⟩ (.int .i64 3)).heap.size=w2.heap.size:=by simp [World.setCell]
   clear hs2 hs3 u0 u1 u3 u4 u6 u7
   go_wp2_with fail
   refine (aU HD).mono ?_
   rintro e w4 ⟨v4,rfl,ho4,hb4⟩
   obtain ⟨a4,c4,rfl⟩:=ho4.slice
   have hs4:=(aU S3).kept (hb4.block sb (by rw [hsz3]; exact Nat.lt_of_lt_of_le hslt hb12.size))
   obtain ⟨z0,z1,z2,z3,z4,z5,z6,z7⟩:=hs4.cells
   have g5:=hs4.frozen 5
   have S5:=aH (hs4.set5 (.slice a4 (denyP o rs).length c4))
   have HO5:=aH (((aU HO3).below hb4).set_low (k:=sb) (i:=5) (by omega) (.slice a4 (denyP o rs).length c4))
   have HA5:=aH (ho4.set_low (k:=sb) (i:=5) (by rw [hsz3]; exact Nat.lt_of_lt_of_le hslt hb12.size) (.slice a4 (denyP o rs).length c4))
   have hb5:Below sb w (w4.setCell ⟨sb,5,none⟩ (.slice a4 (denyP o rs).length c4)):=(hb3.trans (hb4.mono (show sb≤_ by rw [hsz3]; have:=hb12.size; omega))).setCell (p:=⟨sb,5,none⟩) (Nat.le_refl sb) _
   clear hs4 ho4 z0 z1 z2 z3 z4 z6 z7
   go_wp2_with fail
   go_ret2
   refine ⟨rfl,⟨va,.slice a4 (denyP o rs).length c4,?_,?_,?_⟩,hb5⟩
   ·rw [aU e1]; exact aU S5
   ·rw [aU e2]; simpa using aU HO5
   ·rw [aU e3]; exact (aU HA5).base (by rw [hsz3]; have:=hb12.size; omega)
  ·rw [hm] at e1 e2 e3
   go_enter Tryz.func194,Tryz.ntmps194
   go_wp2_with fail
   refine (aU HC).mono ?_
   rintro e w1 ⟨⟨v1,rfl,hv1⟩,hb1⟩
   obtain ⟨a1,c1,rfl⟩:=hv1.slice
   clear hv1
   obtain ⟨t0,t1,_⟩:=(aU HKS w1 hb1).cells
   go_wp2_with fail
   refine (aU HM w1 hb1).mono ?_
   rintro e w2 ⟨⟨v2,rfl,hv2⟩,hb2⟩
   rw [hm]
   have hb12:=hb1.trans (hb2.mono hb1.size)
   have hs2:=aU HKS w2 hb12
   obtain ⟨u0,u1,u2,u3,u4,u5,u6,u7⟩:=hs2.cells
   have HAL:=aH (isAlias_any v2 _ w2 hv2.rv hml)
   obtain ⟨b',off',hL2,hr2,hn2⟩:=hv2
   have hs1:=hb1.size
   have hb'1:b'≠sb:=by rcases hn2 with h | h <;> omega
   have hb'2:va.ownBlock≠some b':=by
    intro h
    have:=aU HOL b' h
    rcases hn2 with h | h <;> omega
   have HT:=aH (take_any sb zb cb b' off' k 0 au va (.slice none 0 0) vc v2 ans _ w2 hs2 ((aU HO).below hb12) hL2 hr2 hb'1 hb'2 hml ha)
   clear hs2 hL2 hr2 hn2 u0 u2 u3 u4 u5 u6 u7
   rw [hal] at HAL
   go_wp2_with fail
   refine (aU HAL).mono ?_
   rintro e w2 ⟨rfl,rfl⟩
   go_wp2_with fail
   refine (aU HT).mono ?_
   rintro e w3 ⟨rfl,⟨va',hs3,ho3⟩,hf3⟩
   have hb3:Below sb w w3:=(hb12.mono (show sb≤w.heap.size by omega)).trans (hf3.below (fun j hj=>⟨by omega,fun h=>by have:=aU HOL j h.symm; omega⟩) (by have:=hb12.size; omega))
   have HS3:=aH hs3
   have HO3:=aH ho3
   obtain ⟨y0,_,_,_,_,y5,_,_⟩:=hs3.cells
   have hslt3:=hs3.lt
   have hz3:aN w3 zb o b off cap rs:=(aU HZ).low hb3 hzs hbs
   have HD:=aH (denial_any zb b off cap o rs w3 hz3 hlen (aU HOK))
   clear hs3 ho3 hz3 hf3
   cases ht:takenP k (matchP rs n).1
   ·rw [ht] at e3
    go_wp2_with fail
    refine (aU HD).mono ?_
    rintro e w4 ⟨v4,rfl,ho4,hb4⟩
    obtain ⟨a4,c4,rfl⟩:=ho4.slice
    have hs4:=(aU HS3).kept (hb4.block sb hslt3)
    obtain ⟨z0,z1,z2,z3,z4,z5,z6,z7⟩:=hs4.cells
    have g5:=hs4.frozen 5
    have S5:=aH (hs4.set5 (.slice a4 (denyP o rs).length c4))
    have HO5:=aH (((aU HO3).below hb4).set_low (k:=sb) (i:=5) (by omega) (.slice a4 (denyP o rs).length c4))
    have HA5:=aH (ho4.set_low (k:=sb) (i:=5) hslt3 (.slice a4 (denyP o rs).length c4))
    have hb5:Below sb w (w4.setCell ⟨sb,5,none⟩ (.slice a4 (denyP o rs).length c4)):=(hb3.trans (hb4.mono (show sb≤_ by omega))).setCell (p:=⟨sb,5,none⟩) (Nat.le_refl sb) _
    clear hs4 ho4 z0 z1 z2 z3 z4 z6 z7
    go_wp2_with fail
    go_ret2
    refine ⟨rfl,⟨va',.slice a4 (denyP o rs).length c4,?_,?_,?_⟩,hb5⟩
    ·rw [aU e1]; exact aU S5
    ·rw [aU e2]; exact aU HO5
    ·rw [aU e3]; exact (aU HA5).base (by omega)
   ·rw [ht] at e3
    go_wp2_with fail
    go_ret2
    refine ⟨rfl,⟨va',.slice none 0 0,?_,?_,?_⟩,hb3⟩
    ·rw [aU e1]; exact aU HS3
    ·rw [aU e2]; exact aU HO3
    ·rw [aU e3]; exact World.ownsRow_nil _ _ _ _
 ·have hcI:(0:Int)<((cutP o rs n).length:Int):=by omega
  have e1:Hid (stepRc o rs n=0):=by unfold stepRc; rw [Hid,if_neg hc]
  have e2:Hid (aQ o rs k n = []):=by unfold aQ; rw [Hid,if_neg hc]
  have e3:Hid (aP o rs k n=cutP o rs n):=by unfold aP; rw [Hid,if_neg hc]
  clear hc
  go_enter Tryz.func194,Tryz.ntmps194
  go_wp2_with fail
  refine (aU HC).mono ?_
  rintro e w1 ⟨⟨v1,rfl,hv1⟩,hb1⟩
  have HCL:=aH (clone_any v1 _ w1 (hv1.rv ((aU HZ).below hb1).2.2.2.2) hcl)
  obtain ⟨a1,c1,rfl⟩:=hv1.slice
  clear hv1
  go_wp2_with fail
  refine (aU HCL).mono ?_
  rintro e w4 ⟨v4,rfl,ho4,hb4⟩
  obtain ⟨a4,c4,rfl⟩:=ho4.slice
  have hb14:=hb1.trans (hb4.mono hb1.size)
  have hs4:=aU HKS w4 hb14
  obtain ⟨z0,z1,z2,z3,z4,z5,z6,z7⟩:=hs4.cells
  have g5:=hs4.frozen 5
  have S5:=aH (hs4.set5 (.slice a4 (cutP o rs n).length c4))
  have HO5:=aH (((aU HO).below hb14).set_low (k:=sb) (i:=5) (by omega) (.slice a4 (cutP o rs n).length c4))
  have HA5:=aH (ho4.set_low (k:=sb) (i:=5) (by have:=hb1.size; omega) (.slice a4 (cutP o rs n).length c4))
  have hb5:Below sb w (w4.setCell ⟨sb,5,none⟩ (.slice a4 (cutP o rs n).length c4)):=(hb14.mono (show sb≤_ by omega)).setCell (p:=⟨sb,5,none⟩) (Nat.le_refl sb) _
  clear hs4 ho4 z0 z1 z2 z3 z4 z6 z7
  go_wp2_with fail
  go_ret2
  refine ⟨rfl,⟨va,.slice a4 (cutP o rs n).length c4,?_,?_,?_⟩,hb5⟩
  ·rw [aU e1]; exact aU S5
  ·rw [aU e2]; simpa using aU HO5
  ·rw [aU e3]; exact (aU HA5).base (by have:=hb1.size; omega)
end Lh
end Go.Proofs.YtkkpahmoljiepaaGreatDoor

namespace Go.Proofs
open Go.Shelf
def Tryz.lGrow_ren : Go.Shelf.Ren := ⟨fun | 4 => 249 | n => n, fun | 22 => 41 | 25 => 47 | 3 => 3 | 4 => 4 | 9 => 9 | 20 => 20 | 0 => 0 | n => n, fun | n => n⟩
theorem Tryz.lGrow : Go.Proofs.Lays8.n4 Tryz.prog Tryz.lGrow_ren := {
  mixed := by kernel_rfl
  f4 := ⟨Tryz.f249.name, by decide, Tryz.func249.trans (congrArg some (by kernel_rfl))⟩
  t0 := Tryz.underlying0
  a0 := Tryz.isAgg0
  z0 := Tryz.sizeOf0
  v0 := Tryz.zeroValue0
  t3 := Tryz.underlying3
  a3 := Tryz.isAgg3
  z3 := Tryz.sizeOf3
  v3 := Tryz.zeroValue3
  t4 := Tryz.underlying4
  a4 := Tryz.isAgg4
  z4 := Tryz.sizeOf4
  v4 := Tryz.zeroValue4
  t9 := Tryz.underlying9
  a9 := Tryz.isAgg9
  z9 := Tryz.sizeOf9
  v9 := Tryz.zeroValue9
  t20 := Tryz.underlying20
  a20 := Tryz.isAgg20
  z20 := Tryz.sizeOf20
  v20 := Tryz.zeroValue20
  t22 := Tryz.underlying41
  a22 := Tryz.isAgg41
  z22 := Tryz.sizeOf41
  v22 := Tryz.zeroValue41 }
end Go.Proofs

set_option maxRecDepth 1000000
set_option maxHeartbeats 12800000
namespace Go.Proofs.YtkkpahmoljiepaaGreatDoor
open Go.RowKit
open Pu (Str aH aU)
namespace Li
open Ka Kd Rf Rg Ia Iow Ie Zb Zc Za La Lb Re Lc Le Lf Lg Lh
theorem grow_nil (n:Nat) (w:World) (hn:n≤10000) :
  Calls Tryz.prog 249 #[.slice none 0 0,.int .i64 n] w fun e w'=>∃ v,e=.returned v∧OwnR w' w.heap.size v []∧Below w.heap.size w w':=by
 obtain ⟨i0,hi,hz0,hz1,hz2⟩:=info_parts infoR
 by_cases h0:n=0
 ·subst h0
  refine (Any8.slices_Grow_room Tryz.lGrow none 0 0 0 w (Nat.le_refl _) (by omega) (by omega) (by omega)).mono ?_
  rintro e w' ⟨rfl,rfl⟩
  exact ⟨_,rfl,World.ownsRow_nil _ _ _ _,Below.refl _ _⟩
 ·refine (Any8.slices_Grow_grow Tryz.lGrow i0 _ hi hz0 (by rw [hz1]; omega) none 0 0 n [] w (Nat.le_refl _) (by omega) (by rw [hz2]; omega) (by omega) (by simp) (fun _=>rfl) (fun a h=>by cases h)).mono ?_
  rintro e w' ⟨rfl,rfl⟩
  have hge:=grownCap_ge w (0+n) 0 (Tryz.lGrow_ren.t 25)
  have hle:=grownCap_le_maxLen w (0+n) 0 (Tryz.lGrow_ren.t 25) (by simp [maxLen]; omega)
  refine ⟨_,rfl,⟨rfl,.inr ⟨w.heap.size,_,_,rfl,Nat.le_refl _,heap_alloc_new w.drew _,Nat.zero_le _,hle,?_,rfl⟩⟩,((Below.refl _ _).drew).alloc (Nat.le_refl _) _⟩
  have e1:(Value.cells (.agg #[.string ⟨#[]⟩,.int .i64 0,.int .i64 0,.string ⟨#[]⟩])).size=4:=rfl
  rw [Array.size_append,Array.size_append,size_zeroCells,size_zeroCells,e1]
  have e2:(List.toArray ([]:List Value)).size=0:=rfl
  rw [e2]
  generalize grownCap w (0+n) 0 (Tryz.lGrow_ren.t 25)=G at *
  omega
theorem append_rv (base:Nat) (va xv:Value) (ans xs:List Rec) (w:World) (ho:OwnR w base va ans) (hx:RV w xv xs) (hb:base≤w.heap.size) (hl:ans.length+xs.length≤100000) :
  ∃ v' w',(Builtin.append_ #[41,41] 41 #[va,xv]).run Tryz.prog w=.ok v' w'∧OwnR w' base v' (ans++xs)∧Below base w w':=by
 rcases hx with ⟨rfl,rfl⟩ | ⟨b,off,cap,rfl,hc,hr⟩
 ·obtain ⟨i0,hi,hz0,hz1,hz2⟩:=info_parts infoR
  exact ⟨va,w,run_append_owned_none (P:=Tryz.prog) (w:=w) base 41 41 47 i0 4 underR hi va _ _ ho,by rw [List.append_nil]; exact ho,Below.refl _ _⟩
 ·obtain ⟨v',w',h1,h2,h3,_⟩:=append_run base va ans xs b off cap w ho hr hb hl
  exact ⟨v',w',h1,h2,(Below.refl _ w).grown h3 hb (fun k hk=>(ho.own_lt0 k hk).1)⟩
theorem wpL_append {P:Program} {ops:Array Oper} {rest:List Oper} {o:Oper} {a:Act} {w:World} {Q:Exit→Act→World→Prop} (hgd:o.guard=none) (s x:Operand) (t:TypeId) (ho:o.op=.call { callee:=.builtin .append,args:=#[s,x],argTypes:=#[t,t] }) (v xv v':Value) (w':World) (hs:a.eval s=v) (hx:a.eval x=xv)
  (hr:(Builtin.append_ #[t,t] o.type #[v,xv]).run P w=.ok v' w') (h:wpList P ops Q rest (a.put o.dst v') w'):wpList P ops Q (o :: rest) a w:=by
 refine wpList_plain hgd fun K hK=>?_
 unfold Oper.wp execOp
 simp only [ho,resolve,invoke,builtin,Sem.run_bind,Sem.run_pure,Result.andThen_ok,List.map_toArray,List.map_cons,List.map_nil,hs,hx,hr]
 exact hK _ _ h
theorem concat_any (q:Nat) (va vb:Value) (ans auth:List Rec) (w:World) (hq:q<w.heap.size) (h0:w.cell? ⟨q,0,none⟩=some va) (h1:w.cell? ⟨q,1,none⟩=some vb) (ha:RV w va ans) (hb:RV w vb auth) (hla:ans.length≤4000) (hlb:auth.length≤4000) :
  Calls Tryz.prog 195 #[.slice (some ⟨q,0,none⟩) 2 2] w fun e w'=>∃ v,e=.returned v∧OwnR w' w.heap.size v (ans++auth)∧Below w.heap.size w w':=by
 have HA:=aH ha
 have HB:=aH hb
 obtain ⟨aa,ca,rfl⟩:=rv_slice ha
 obtain ⟨ab,cb,rfl⟩:=rv_slice hb
 clear ha hb
 have HGR:=aH (grow_nil (ans.length+auth.length) w (by omega))
 go_enter Tryz.func195,Tryz.ntmps195
 go_wp2_with fail
 go_loop [3,11] (fun sz i=>(sz=.int .i64 0∧i=.int .i64 0)∨(sz=.int .i64 ans.length∧i=.int .i64 1)∨(sz=.int .i64 ((ans.length+auth.length:Nat):Int)∧i=.int .i64 2)) (fun _ i=>2 - (intOf i).toNat)
 case atStart=>exact .inl ⟨rfl,rfl⟩
 case round =>
  rcases hrel with ⟨rfl,rfl⟩ | ⟨rfl,rfl⟩ | ⟨rfl,rfl⟩
  ·go_wp2_with fail
   go_round
   case rel=>exact .inr (.inl ⟨by go_num,by go_num⟩)
   case measure=>simp [intOf]
  ·go_wp2_with fail
   go_round
   case rel=>exact .inr (.inr ⟨by go_num,by go_num⟩)
   case measure=>simp [intOf]
  ·go_wp2_with fail
   refine (aU HGR).mono ?_
   rintro e w1 ⟨v1,rfl,ho1,hb1⟩
   have HO1:=aH ho1
   clear ho1
   go_wp2_with fail
   go_loopw [6,27] (fun v i wr=>(i=.int .i64 0∧OwnR wr w.heap.size v []∧Below w.heap.size w wr)∨(i=.int .i64 1∧OwnR wr w.heap.size v ans∧Below w.heap.size w wr)∨(i=.int .i64 2∧OwnR wr w.heap.size v (ans++auth)∧Below w.heap.size w wr)) (fun _ i _=>2 - (intOf i).toNat)
   case atStart=>exact .inl ⟨rfl,aU HO1,hb1⟩
   case round =>
    clear HO1 hb1 HGR
    rcases hrel with ⟨rfl,hov,hbr⟩ | ⟨rfl,hov,hbr⟩ | ⟨rfl,hov,hbr⟩
    ·obtain ⟨v',w',hrun,ho',hb'⟩:=append_rv w.heap.size _ _ [] ans wr hov ((aU HA).below hbr) hbr.size (by simp; omega)
     obtain ⟨av,cv,rfl⟩:=hov.slice
     have q0:=(hbr.cell (p:=⟨q,0,none⟩) hq).trans h0
     have HE:Hid (OwnR w' w.heap.size v' ans∧Below w.heap.size w w'):=⟨ho',hbr.trans hb'⟩
     clear hov ho' hb'
     go_wp2_with (at_builtin; refine wpL_append rfl _ _ 41 rfl _ _ v' w' rfl rfl hrun ?_)
     go_roundw
     case rel=>exact .inr (.inl ⟨by go_num,aU HE⟩)
     case measure=>simp [intOf]
    ·obtain ⟨v',w',hrun,ho',hb'⟩:=append_rv w.heap.size _ _ ans auth wr hov ((aU HB).below hbr) hbr.size (by omega)
     obtain ⟨av,cv,rfl⟩:=hov.slice
     have q1:=(hbr.cell (p:=⟨q,1,none⟩) hq).trans h1
     have HE:Hid (OwnR w' w.heap.size v' (ans++auth)∧Below w.heap.size w w'):=⟨ho',hbr.trans hb'⟩
     clear hov ho' hb'
     go_wp2_with (at_builtin; refine wpL_append rfl _ _ 41 rfl _ _ v' w' rfl rfl hrun ?_)
     go_roundw
     case rel=>exact .inr (.inr ⟨by go_num,aU HE⟩)
     case measure=>simp [intOf]
    ·have HE:=aH hov
     clear hov
     go_wp2_with fail
     go_ret
     exact ⟨_,rfl,aU HE,hbr⟩
theorem additional_plain (zb:Nat) (rc:Int) (au:Bool) (va vb vc:Value) (ans auth:List Rec) (w:World) (ha:RV w va ans) (hb:RV w vb auth) (hla:ans.length≤4000) (hlb:auth.length≤4000)
  (hno : ∀ r∈ans++auth,(r.type != 2)=true∧(r.type != 15)=true∧r.data.length≤3000) :
  Calls Tryz.prog 128 #[.pointer (some ⟨zb,0,none⟩),.agg #[.int .i64 rc,.bool au,va,vb,vc]] w fun e w'=>e=.returned (.slice none 0 0)∧Below w.heap.size w w':=by
 obtain ⟨aa,ca,rfl⟩:=rv_slice ha
 obtain ⟨ab,cb,rfl⟩:=rv_slice hb
 have HA:=aH ha
 have HB:=aH hb
 have HNO:=aH hno
 clear ha hb hno
 go_enter Tryz.func128,Tryz.ntmps128
 go_wp2_with fail
 have hbx:Below w.heap.size w ((w.alloc (.cells #[.int .i64 rc,.bool au,.slice aa ans.length ca,.slice ab auth.length cb,vc] 43)).alloc (.cells #[.slice aa ans.length ca,.slice ab auth.length cb] 41)):=((Below.refl _ _).alloc (Nat.le_refl _) _).alloc (by simp) _
 refine (concat_any (w.heap.size+1) _ _ ans auth _ (by simp) (by go_simp) (by go_simp) ((aU HA).below hbx) ((aU HB).below hbx) hla hlb).mono ?_
 rintro e w1 ⟨v1,rfl,ho1,hb1⟩
 have hB1:Below w.heap.size w w1:=hbx.trans (hb1.mono (by simp <;> omega))
 obtain ⟨a1,c1,rfl⟩:=ho1.slice
 have HO1:=aH ho1.rv
 have hll:(ans++auth).length≤8000:=by rw [List.length_append]; omega
 clear ho1 hbx hb1 HA HB
 generalize ans++auth=L at *
 go_wp2_with fail
 go_loopw [5,19] (fun ls i wr=>∃ k:Nat,ls=.slice none 0 0∧i=.int .i64 k∧k≤L.length∧Below w1.heap.size w1 wr) (fun _ i _=>L.length - (intOf i).toNat)
 case atStart=>exact ⟨0,rfl,rfl,Nat.zero_le _,Below.refl _ _⟩
 case round =>
  obtain ⟨k,rfl,rfl,hk,hbr⟩:=hrel
  by_cases hlt:k<L.length
  ·have hrv:=(aU HO1).below hbr
   rcases hrv with ⟨e1,e2⟩ | ⟨b',off',cap',e1,hc',hr'⟩
   ·rw [e2] at hlt; simp at hlt
   ·cases e1
    obtain ⟨q0,q1,q2,q3⟩:=hr'.four k hlt
    obtain ⟨t2,t15,hdl⟩:=aU HNO L[k] (List.getElem_mem hlt)
    have HLW:=aH (fun W=>lastWord_any L[k].data W hdl)
    clear hr'
    generalize L[k]=r at *
    go_wp2_with fail
    refine (aU HLW _).mono ?_
    rintro e w4 ⟨rfl,hw4⟩
    have hb4:Below wr.heap.size wr w4:=by rw [hw4]; exact (Below.refl _ _).alloc (Nat.le_refl _) _
    have d2:w4.cell? ⟨wr.heap.size,2,none⟩=some (.int .i64 r.type):=by rw [hw4]; go_simp
    clear hw4 HLW
    go_wp2_with fail
    go_roundw
    case rel=>exact ⟨k+1,rfl,by go_num,by omega,hbr.trans (hb4.mono hbr.size)⟩
    case measure=>simp [intOf]; omega
  ·go_wp2_with fail
   go_ret
   exact ⟨rfl,hB1.trans (hbr.mono hB1.size)⟩
end Li
end Go.Proofs.YtkkpahmoljiepaaGreatDoor

set_option maxRecDepth 1000000
set_option maxHeartbeats 12800000
namespace Go.Proofs.YtkkpahmoljiepaaGreatDoor
open Go.RowKit Go.Conc
open Pu (Str aH aU)
def CancelAt (w:World) (cb c:Nat) (shut:Bool):Prop :=
 cb<w.heap.size∧w.cell? ⟨cb,0,none⟩=some (.chan (some c))∧∃ s r tm,w.heap[c]? = some (.chan 0 #[] shut s r tm)
theorem CancelAt.below {w w':World} {cb c n:Nat} {shut:Bool} (h:CancelAt w cb c shut) (hb:Below n w w') (h1:cb<n) (h2:c<n):CancelAt w' cb c shut:=by
 obtain ⟨a,b,s,r,tm,d⟩:=h
 exact ⟨Nat.lt_of_lt_of_le a hb.size,(hb.cell (p:=⟨cb,0,none⟩) h1).trans b,s,r,tm,(hb.block c h2).trans d⟩
theorem CancelAt.lt {w:World} {cb c:Nat} {shut:Bool} (h:CancelAt w cb c shut):c<w.heap.size:=by
 obtain ⟨_,_,_,_,_,h⟩:=h
 exact (Array.getElem?_eq_some_iff.1 h).1
namespace Ld
open Ka
theorem bytesE : ∃ i,Tryz.prog.info? 332=some i∧i.bytes=0:=by
 have h:(Tryz.prog.info? 332).map (·.bytes)=some 0:=by kernel_rfl
 obtain ⟨i,hi,hb⟩:=Option.map_eq_some_iff.1 h
 exact ⟨i,hi,hb⟩
theorem mk0 (w:World):(Instr.makeChan 270 (.int .i64 0)).run Tryz.prog w=.ok (.chan (some w.heap.size)) (w.alloc (.chan 0 #[] false 0 0 false)):=by
 obtain ⟨i,hi,hb⟩:=bytesE
 simpa using run_makeChan (P:=Tryz.prog) (w:=w) Tryz.underlying270 hi .i64 0 (by omega) (by rw [hb]; omega)
theorem newCancel_any (w:World) :
  Calls Tryz.prog 125 #[] w fun e w'=>∃ cb c,e=.returned (.pointer (some ⟨cb,0,none⟩))∧CancelAt w' cb c false∧w.heap.size≤cb∧w.heap.size≤c∧cb≠c∧Below w.heap.size w w':=by
 have hmc:=mk0
 go_enter Tryz.func125,Tryz.ntmps125
 go_wp2
 go_ret
 refine ⟨_,w.heap.size,rfl,⟨by simp,by go_simp,0,0,false,?_⟩,by omega,Nat.le_refl _,by omega,((Below.refl _ _).alloc (Nat.le_refl _) _).alloc (by simp) _⟩
 exact (Below.heap_alloc _ _ _ (by simp)).trans (World.alloc_heap_new w _)
theorem asked_open (cb c:Nat) (w:World) (h:CancelAt w cb c false) :
  Calls Tryz.prog 193 #[.pointer (some ⟨cb,0,none⟩)] w fun e w'=>e=.returned (.bool false)∧w'=w:=by
 obtain ⟨hlt,hc,s,r,tm,hch⟩:=h
 refine calls_of_loneTo fun cs=>?_
 have e:Frame.enter Tryz.prog 193 #[.pointer (some ⟨cb,0,none⟩)] .normal=(base 193).at ⟨#[.pointer (some ⟨cb,0,none⟩),undef,undef,undef,undef,undef,undef,undef,undef,undef],[]⟩ [.code (Tryz.f193.body.getD .skip)]:=by
  simp [Frame.enter,Frame.at,Tryz.func193,base,Tryz.f193]
 rw [e]
 refine LoneTo.goes (n:=13) ?_
 simp only [Tryz.f193,Option.getD_some]
 s_c stepG_seq
 s_reg
 s_op
 s_c stepG_region_end
 s_c stepG_seq
 s_reg
 s_op
 s_op
 s_op
 s_op
 s_c stepG_region_end
 s_c stepG_seq
 s_reg
 s_stop
 refine LoneTo.step (step_lone_select_default (c:=c) (z:=.agg #[]) (stepG_comm (cases:=#[rcase c (.agg #[])]) (blocking:=false) (shape:=.select) (w':=w) rfl rfl (by decide) (by simp [go_sem,execOp,rcase,Act.eval])) hch) ?_
 rw [Frame.finish_at]
 walk_nrm
 refine LoneTo.goes (n:=10) ?_
 s_op
 s_op
 s_c stepG_region_end
 s_c stepG_block
 s_cond false
 s_c stepG_seq
 s_reg
 s_op
 s_c stepG_region_end
 s_c stepG_ret'
 s_stop
 refine LoneTo.done ⟨.returned (.bool false),_,rfl,⟨rfl,rfl⟩,rfl,rfl,rfl,rfl,_,Tryz.func193,by simp [results,Tryz.f193,Frame.at]⟩
theorem asked_shut (cb c:Nat) (w:World) (h:CancelAt w cb c true) :
  Calls Tryz.prog 193 #[.pointer (some ⟨cb,0,none⟩)] w fun e w'=>e=.returned (.bool true)∧w'=w:=by
 obtain ⟨hlt,hc,s,r,tm,hch⟩:=h
 refine calls_of_loneTo fun cs=>?_
 have e:Frame.enter Tryz.prog 193 #[.pointer (some ⟨cb,0,none⟩)] .normal=(base 193).at ⟨#[.pointer (some ⟨cb,0,none⟩),undef,undef,undef,undef,undef,undef,undef,undef,undef],[]⟩ [.code (Tryz.f193.body.getD .skip)]:=by
  simp [Frame.enter,Frame.at,Tryz.func193,base,Tryz.f193]
 rw [e]
 refine LoneTo.goes (n:=13) ?_
 simp only [Tryz.f193,Option.getD_some]
 s_c stepG_seq
 s_reg
 s_op
 s_c stepG_region_end
 s_c stepG_seq
 s_reg
 s_op
 s_op
 s_op
 s_op
 s_c stepG_region_end
 s_c stepG_seq
 s_reg
 s_stop
 refine LoneTo.step (step_lone_select_recv_shut (c:=c) (z:=.agg #[]) (stepG_comm (cases:=#[rcase c (.agg #[])]) (blocking:=false) (shape:=.select) (w':=w) rfl rfl (by decide) (by simp [go_sem,execOp,rcase,Act.eval])) hch) ?_
 rw [Frame.finish_at]
 walk_nrm
 refine LoneTo.goes (n:=10) ?_
 s_op
 s_op
 s_c stepG_region_end
 s_c stepG_block
 s_cond true
 s_c stepG_seq
 s_reg
 s_op
 s_c stepG_region_end
 s_c stepG_ret'
 s_stop
 refine LoneTo.done ⟨.returned (.bool true),_,rfl,⟨rfl,rfl⟩,rfl,rfl,rfl,rfl,_,Tryz.func193,by simp [results,Tryz.f193,Frame.at]⟩
theorem asked_any (cb c:Nat) (shut:Bool) (w:World) (h:CancelAt w cb c shut) :
  Calls Tryz.prog 193 #[.pointer (some ⟨cb,0,none⟩)] w fun e w'=>e=.returned (.bool shut)∧w'=w:=by
 cases shut
 ·exact asked_open cb c w h
 ·exact asked_shut cb c w h
end Ld
end Go.Proofs.YtkkpahmoljiepaaGreatDoor

set_option maxRecDepth 1000000
set_option maxHeartbeats 12800000
namespace Go.Proofs.YtkkpahmoljiepaaGreatDoor
open Go.RowKit
open Pu (Str aH aU)
attribute [local go_sem] Oper.semAt_some
def notP (k:Int) (r:Rec):Bool:=r.type != k
def cutOk (n:Str) (x:Nat×List Rec):Bool:=!Sp.starred (aI x) && !x.2.any (notP (if aI x == n then 2 else 1))
def rightCut (rs:List Rec) (n:Str):Bool:=(underRuns n rs).all (cutOk n)
namespace Ze
open Ka Kd Rf Rg Ia Iow Ie Zb Zc Za
theorem all_step {p:Nat×List Rec→Bool} {l:List (Nat×List Rec)} {i:Nat} {x:Nat×List Rec} (h:l[i]? = some x):(l.drop i).all p=(p x && (l.drop (i+1)).all p):=by
 obtain ⟨hi,rfl⟩:=List.getElem?_eq_some_iff.1 h
 rw [List.drop_eq_getElem_cons hi,List.all_cons]
theorem other_any (r:Rec) (k:Int) (bk:Nat) (W:World) (hc:W.cell? ⟨bk,0,none⟩=some (.int .i64 k)) (hb:bk<W.heap.size) :
  Calls Tryz.prog 183 #[.agg #[.string (B r.owner),.int .i64 r.ttl,.int .i64 r.type,.string (B r.data)],.pointer (some ⟨bk,0,none⟩)] W fun e w'=>e=.returned (.bool (notP k r))∧Below W.heap.size W w':=by
 go_enter Tryz.func183,Tryz.ntmps183
 go_wp2
 go_ret
 exact ⟨rfl,(Below.refl _ _).alloc (Nat.le_refl _) _⟩
theorem otherPred (k:Int) (bk:Nat) (w:World) (hc:w.cell? ⟨bk,0,none⟩=some (.int .i64 k)) (hb:bk<w.heap.size) :
  PredBelow Tryz.prog 183 #[.pointer (some ⟨bk,0,none⟩)] (fun x=>.agg (Rec.enc x).toArray) (notP k) w:=by
 intro W r hB
 refine (other_any r k bk W ((hB.cell (p:=⟨bk,0,none⟩) hb).trans hc) (Nat.lt_of_lt_of_le hb hB.size)).mono ?_
 rintro e w' ⟨rfl,hb'⟩
 exact ⟨rfl,hB.trans (hb'.mono hB.size)⟩
theorem containsOther (k:Int) (bk b off cap:Nat) (rs:List Rec) (w:World) (hc:w.cell? ⟨bk,0,none⟩=some (.int .i64 k)) (hb:bk<w.heap.size) (hr:bE w b off rs) (hl:rs.length≤3001) :
  Calls Tryz.prog 171 #[.slice (some ⟨b,off,none⟩) rs.length cap,.func (.func 183) #[] #[.pointer (some ⟨bk,0,none⟩)]] w fun e w' =>
   e=.returned (.bool (rs.any (notP k)))∧Below w.heap.size w w':=by
 have:=AnyQ.slices_ContainsFunc Tryz.lContainsFunc 4 Tryz.isAgg47 Tryz.sizeOf47 Rec.enc (fun _=>rfl) (notP k) 183 #[.pointer (some ⟨bk,0,none⟩)] (enters_of Tryz.func183 (by kernel_rfl) rfl) b off rs.length cap rs w (otherPred k bk w hc hb) (Nat.le_refl _) (by omega) hr.1 hr.2
 rw [List.take_length] at this
 exact this
theorem cut_step {n:Str} {rs:List Rec} {i:Nat} {x:Nat×List Rec} (kk:Int) (h:Hid (rightCut rs n=(cutOk n x && ((underRuns n rs).drop (i+1)).all (cutOk n)))) (hs:Sp.starred (aI x)=false) (ho:(if aI x == n then (2:Int) else 1)=kk) :
  (x.2.any (notP kk)=false→((underRuns n rs).drop (i+1)).all (cutOk n)=rightCut rs n)∧(x.2.any (notP kk)=true→rightCut rs n=false):=by
 have h':=aU h
 have hc:cutOk n x = !x.2.any (notP kk):=by
  unfold cutOk
  rw [hs,ho]; rfl
 rw [hc] at h'
 refine ⟨fun e=>?_,fun e=>?_⟩
 ·rw [h',e]; rfl
 ·rw [h',e]; rfl
theorem isRightCut_any (b off cap:Nat) (n:Str) (rs:List Rec) (w:World) (hr:bE w b off rs) (hcap:rs.length≤cap) (hlen:rs.length≤3001) (hn:n.length≤3000) (ho : ∀ r∈rs,r.owner.length≤3000) :
  Calls Tryz.prog 111 #[.string (B n),.slice (some ⟨b,off,none⟩) rs.length cap] w fun e w'=>e=.returned (.bool (rightCut rs n))∧Below w.heap.size w w':=by
 refine (callsIn_wide (n:=0)).1 ?_
 refine callsIn_of_wp_marks Tryz.func111 rfl trivial ?_
 simp only [Tryz.ntmps111,List.size_toArray,List.length_cons,List.length_nil,Nat.reduceAdd,Nat.reduceSub,Array.replicate_succ,Array.replicate_zero,List.push_toArray,List.append_toArray,List.nil_append,List.cons_append]
 have HR:=aH hr
 have HO:=aH ho
 have hb:=hr.1
 clear hr ho
 gi_wp2_with fail
 refine ⟨trivial,rfl,?_⟩
 refine (callsIn_wide.2 (under_o _ _ _ _ _)).mono ?_
 rintro e W2 ⟨rfl,e4,hb2,e2,e3⟩
 have e0:It.Box W2 w.heap.size (.string (B n)) 9:=((It.Box.new _ _ _).alloc _).below hb2 (by simp <;> omega)
 have e1:It.Box W2 (w.heap.size+1) (.bool false) 4:=by
  have:=(It.Box.new (w.alloc (.cells #[.string (B n)] 9)) (.bool false) 4).below hb2 (by simp <;> omega)
  rwa [World.size_alloc] at this
 have e5:Below w.heap.size w W2:=(((Below.refl _ _).alloc (Nat.le_refl _) _).alloc (by simp) _).trans (hb2.mono (by simp <;> omega))
 simp only [World.size_alloc] at e4 e2 e3
 gi_wp2_with fail
 have hr2:=aH ((aU HR).below e5)
 have hgrow : ∀ r,Below W2.heap.size W2 ((W2.alloc (.deferred (some []))).alloc (.loop r)):=fun r=>((Below.refl _ _).alloc (Nat.le_refl _) _).alloc (by simp) _
 have hgsz : ∀ r,((W2.alloc (.deferred (some []))).alloc (.loop r)).heap.size=W2.heap.size+2:=fun r=>by simp
 refine It.rangeB (xs:=underRuns n rs) (encs:=fun x:Nat×List Rec=>#[.string (B (aI x)),.slice (some ⟨b,off+x.1*4,none⟩) x.2.length x.2.length]) (St:=fun A B=>Below (W2.heap.size+2) A B) (Kp:=fun A B=>(B.heap[b]? = A.heap[b]?∧B.heap[w.heap.size+1+1+1]? = A.heap[w.heap.size+1+1+1]?)∧It.Above (W2.heap.size+2) A B) (Kx:=fun A B=>It.Above (W2.heap.size+2) A B)
  (gf:=235) (lb:=#[.pointer (some ⟨w.heap.size+1+1,0,none⟩),.pointer (some ⟨w.heap.size+1+1+1,0,none⟩)]) rfl (enters_of Tryz.func235 (by kernel_rfl) rfl) (fun _=>rfl) ?seq
  [b,w.heap.size+1+1+1] (by simp; omega) (fun _ _ _ h=>h) (fun A B h h'=>⟨⟨h _ (by simp),h _ (by simp)⟩,h'⟩) (fun _ _ h=>h)
  (fun i W=>((underRuns n rs).drop i).all (cutOk n)=rightCut rs n∧Below w.heap.size w W∧It.Box W w.heap.size (.string (B n)) 9∧It.Box W (w.heap.size+1) (.bool false) 4)
  (fun c W=>c=.ret∧rightCut rs n=false∧Below w.heap.size w W∧It.Box W (w.heap.size+1) (.bool false) 4)
  (fun i A B h hb=>⟨h.1,h.2.1.trans (hb.mono (by omega)),h.2.2.1.below hb (by omega),h.2.2.2.below hb (by omega)⟩)
  (fun c A B h hb=>⟨h.1,h.2.1,h.2.2.1.trans (hb.mono (by omega)),h.2.2.2.below hb (by omega)⟩)
  ⟨rfl,e5,e0,e1⟩
  ?round ?done ?stop
 case seq =>
  intro r
  have hg:=hgrow r
  have:=under_seq b off cap (w.heap.size+1+1) (w.heap.size+1+1+1) n rs ((W2.alloc (.deferred (some []))).alloc (.loop r)) ((aU hr2).below hg) hcap ((hg.cell (p:=⟨w.heap.size+1+1,0,none⟩) (by show w.heap.size+1+1<W2.heap.size; omega)).trans e2) ((hg.cell (p:=⟨w.heap.size+1+1+1,0,none⟩) (by show w.heap.size+1+1+1<W2.heap.size; omega)).trans e3) (by have:=hg.size; omega) (by have:=hg.size; omega) hlen hn (aU HO)
  rw [hgsz r] at this
  exact this
 case round =>
  intro l' i x V W hx hI hsz
  gi_wp2_with fail
  refine ⟨trivial,?_⟩
  obtain ⟨hf,hB,hn',hc⟩:=hI
  have cn:=hn'.cell
  have hmem:x∈runs aG rs:=(List.mem_filter.1 (List.mem_of_getElem? hx)).1
  have hP:=bE.piece ((aU HR).below hB) hmem
  have hrl:=runs_len hmem
  have hst:=all_step (p:=cutOk n) hx
  rw [hf] at hst
  have HS:=aH hst
  have HNB:=aH hn'
  have HCB:=aH hc
  have HP:=aH hP
  have hBB:((B (aI x)).toList == (B n).toList)=(aI x == n):=B_inj
  have hnlt:=hn'.lt
  have hclt:=hc.lt
  clear hf hst hn' hc hmem hP
  have hcs:=fun W'=>starred_any (B (aI x)) W'
  have HCS:Hid (∀ W',Calls Tryz.prog 124 #[.string (B (aI x))] W' fun e w'=>e=.returned (.bool (Sp.starred (aI x)))∧w'=W'):=hcs
  clear hcs
  -- what follows a tested owner,at a world that only has more
  have HFIN : ∀ (kk:Int) (W3 W4:World),Below W.heap.size W W3→Below W3.heap.size W3 W4→Sp.starred (aI x)=false→(if aI x == n then (2:Int) else 1)=kk →
    Hid ((x.2.any (notP kk)=false→It.Above W2.heap.size W W4∧(∀ k∈[b,w.heap.size+1+1+1],W4.heap[k]? = W.heap[k]?)∧(((underRuns n rs).drop (i+1)).all (cutOk n)=rightCut rs n∧Below w.heap.size w W4∧It.Box W4 w.heap.size (.string (B n)) 9∧It.Box W4 (w.heap.size+1) (.bool false) 4)) ∧
     (x.2.any (notP kk)=true→It.Above W2.heap.size W (W4.setCell ⟨w.heap.size+1,0,none⟩ (.bool false))∧rightCut rs n=false∧Below w.heap.size w (W4.setCell ⟨w.heap.size+1,0,none⟩ (.bool false))∧It.Box (W4.setCell ⟨w.heap.size+1,0,none⟩ (.bool false)) (w.heap.size+1) (.bool false) 4)):=by
   intro kk W3 W4 h3 h4 hsd ho
   have hs:=cut_step kk HS hsd ho
   have h34:=h3.trans (h4.mono h3.size)
   have s34:=h34.size
   refine ⟨fun e=>⟨It.Above.of_grown h34,fun k hk=>h34.block k (by simp at hk; omega),hs.1 e,hB.trans (h34.mono hB.size),(aU HNB).below h34 hnlt,(aU HCB).below h34 hclt⟩,fun e=>⟨(It.Above.of_grown h34).trans (It.Above.setCell W4 _ _ (by omega)),hs.2 e,(hB.trans (h34.mono hB.size)).setCell (by show w.heap.size≤w.heap.size+1; omega) _,((aU HCB).below h34 hclt).set _⟩⟩
  cases hsd:Sp.starred (aI x)
  ·cases ho:aI x == n
   ·rw [ho] at hBB
    gi_wp2_with fail
    refine ⟨trivial,rfl,?_⟩
    refine (CallsIn.inRound l' (callsIn_wide.2 (aU HCS _))).mono ?_
    rintro e W3 ⟨rfl,hW3⟩
    have h3:Below W.heap.size W W3:=by rw [hW3]; exact (Below.refl _ _).alloc (Nat.le_refl _) _
    have c3:W3.cell? ⟨W.heap.size,0,none⟩=some (.int .i64 1):=by rw [hW3]; go_simp
    have l3:W.heap.size<W3.heap.size:=by rw [hW3]; simp
    clear hW3
    have HC4:=aH (containsOther 1 W.heap.size b (off+x.1*4) x.2.length x.2 W3 c3 l3 ((aU HP).below h3) (by omega))
    gi_wp2_with fail
    refine ⟨trivial,rfl,?_⟩
    refine (CallsIn.inRound l' (callsIn_wide.2 (aU HC4))).mono ?_
    rintro e W4 ⟨rfl,hb4⟩
    have HE:=HFIN 1 W3 W4 h3 hb4 hsd (by rw [ho]; rfl)
    have b4:=(((aU HCB).below h3 hclt).below hb4 (Nat.lt_of_lt_of_le hclt h3.size))
    have cb4:=b4.cell
    have cf4:=b4.frozen
    clear HFIN b4
    cases hm:x.2.any (notP 1)
    ·gi_wp2_with fail
     exact (aU HE).1 hm
    ·gi_wp2_with fail
     obtain ⟨r1,r2⟩:=(aU HE).2 hm
     exact ⟨r1,rfl,r2⟩
   ·rw [ho] at hBB
    gi_wp2_with fail
    refine ⟨trivial,rfl,?_⟩
    refine (CallsIn.inRound l' (callsIn_wide.2 (aU HCS _))).mono ?_
    rintro e W3 ⟨rfl,hW3⟩
    have h3:Below W.heap.size W W3:=by rw [hW3]; exact (Below.refl _ _).alloc (Nat.le_refl _) _
    have c3:W3.cell? ⟨W.heap.size,0,none⟩=some (.int .i64 2):=by rw [hW3]; go_simp
    have l3:W.heap.size<W3.heap.size:=by rw [hW3]; simp
    clear hW3
    have HC4:=aH (containsOther 2 W.heap.size b (off+x.1*4) x.2.length x.2 W3 c3 l3 ((aU HP).below h3) (by omega))
    gi_wp2_with fail
    refine ⟨trivial,rfl,?_⟩
    refine (CallsIn.inRound l' (callsIn_wide.2 (aU HC4))).mono ?_
    rintro e W4 ⟨rfl,hb4⟩
    have HE:=HFIN 2 W3 W4 h3 hb4 hsd (by rw [ho]; rfl)
    have b4:=(((aU HCB).below h3 hclt).below hb4 (Nat.lt_of_lt_of_le hclt h3.size))
    have cb4:=b4.cell
    have cf4:=b4.frozen
    clear HFIN b4
    cases hm:x.2.any (notP 2)
    ·gi_wp2_with fail
     exact (aU HE).1 hm
    ·gi_wp2_with fail
     obtain ⟨r1,r2⟩:=(aU HE).2 hm
     exact ⟨r1,rfl,r2⟩
  ·have HF:Hid (rightCut rs n=false):=by
    rw [Hid,aU HS,cutOk,hsd]; rfl
   clear HFIN
   cases ho:aI x == n
   all_goals
    rw [ho] at hBB
    gi_wp2_with fail
    refine ⟨trivial,rfl,?_⟩
    refine (CallsIn.inRound l' (callsIn_wide.2 (aU HCS _))).mono ?_
    rintro e W3 ⟨rfl,hW3⟩
    have h3:Below W.heap.size W W3:=by
     rw [hW3]
     first
     | exact (Below.refl _ _).alloc (Nat.le_refl _) _
     | exact ((Below.refl _ _).alloc (Nat.le_refl _) _).setCell (p:=⟨W.heap.size,0,none⟩) (Nat.le_refl W.heap.size) _
    clear hW3
    have b4:=(aU HCB).below h3 hclt
    have cb4:=b4.cell
    have cf4:=b4.frozen
    have B4:=aH b4
    clear b4
    have s3:=h3.size
    gi_wp2_with fail
    refine ⟨trivial,?_⟩
    gi_wp2_with fail
    exact ⟨(It.Above.of_grown h3).trans (It.Above.setCell W3 _ _ (by omega)),rfl,aU HF,(hB.trans (h3.mono hB.size)).setCell (by show w.heap.size≤w.heap.size+1; omega) _,(aU B4).set _⟩
 case done =>
  intro W hI hdef hsz
  obtain ⟨hf,hB,hn',hc⟩:=hI
  have cb:=hc.cell
  have cf:=hc.frozen
  have HF:Hid (rightCut rs n=true):=by
   rw [Hid,← hf,List.drop_of_length_le (Nat.le_refl _)]; rfl
  clear hf
  gi_wp2_with fail
  have hd':=(Below.heap_setCell W ⟨w.heap.size+1,0,none⟩ (.bool true) W2.heap.size (by show W2.heap.size≠w.heap.size+1; omega)).trans hdef
  refine ⟨by simp,.inl ⟨_,_,rfl,run_takeDeferred hd',?_⟩⟩
  have cr:=((hc.set (.bool true)).put (d:=W2.heap.size) (o:=.deferred none) (by omega)).cell
  refine ⟨.bool true,by simp [results,Tryz.results111,go_sem,cr],by rw [aU HF],?_⟩
  exact (hB.setCell (by show w.heap.size≤w.heap.size+1; omega) _).trans (belowK_b (w:=W2) (by omega) _ _ _ _ (Nat.le_refl _) hd' rfl rfl)
 case stop =>
  intro c W hI hdef hsz
  obtain ⟨rfl,hof,hB,hc⟩:=hI
  have HF:=aH hof
  clear hof
  have cb:=hc.cell
  gi_wp2_with fail
  refine ⟨by simp,.inl ⟨_,_,rfl,run_takeDeferred hdef,?_⟩⟩
  have cr:=(hc.put (d:=W2.heap.size) (o:=.deferred none) (by omega)).cell
  have hB':=hB.trans (belowK_b (w:=W2) (show w.heap.size≤W2.heap.size by omega) W _ _ (.deferred none) (Nat.le_refl _) hdef rfl rfl)
  exact ⟨.bool false,by simp [results,Tryz.results111,go_sem,cr],by rw [aU HF],hB'⟩
end Ze
end Go.Proofs.YtkkpahmoljiepaaGreatDoor
