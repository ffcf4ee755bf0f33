/- Contracts: (*search).link; (*search).step of a name whose records are a CNAME. -/
import Derived.Test.YtkkpahmoljiepaaGreatDoorJ11
import Derived.Deep.RegionLaw
import Derived.Deep.AppendLies
import Derived.Deep.LoopGhost
set_option linter.unusedSimpArgs false
set_option linter.unusedVariables false
set_option maxRecDepth 1000000
set_option maxHeartbeats 12800000
namespace Go.Proofs.YtkkpahmoljiepaaGreatDoor
open Go.RowKit
open Pu (Str aH aU)
namespace Lm
open Ka Kd Rf Rg Ia Iow Ie Zb Zc Za La Lb Re Lc Le Lf Lg Lh Li Ld Lj
theorem new4 (W:World) (b:Nat) (hb:b=W.heap.size) (r:Rec) (t:TypeId) : ∀ (j:Nat) (u:Value),(encs [r])[j]? = some u→(W.alloc (.cells #[.string (B r.owner),.int .i64 r.ttl,.int .i64 r.type,.string (B r.data)] t)).cell? ((⟨b,0,none⟩:Addr).add j)=some u:=fun j u hj=>by
 subst hb
 simp only [encs,Rec.enc,List.flatMap_cons,List.flatMap_nil,List.append_nil] at hj
 have hn:=World.alloc_heap_new W (.cells #[.string (B r.owner),.int .i64 r.ttl,.int .i64 r.type,.string (B r.data)] t)
 generalize W.alloc (.cells #[.string (B r.owner),.int .i64 r.ttl,.int .i64 r.type,.string (B r.data)] t)=W' at hn ⊢
 generalize W.heap.size=b at hn ⊢
 match j,hj with
 | 0,hj=>simp at hj; subst hj; simp [Addr.add,World.cell?,hn]
 | 1,hj=>simp at hj; subst hj; simp [Addr.add,World.cell?,hn]
 | 2,hj=>simp at hj; subst hj; simp [Addr.add,World.cell?,hn]
 | 3,hj=>simp at hj; subst hj; simp [Addr.add,World.cell?,hn]
 | n+4,hj=>simp at hj
theorem link_add (sb zb cb b off cap:Nat) (k:Int) (au:Bool) (va vb vc:Value) (o:Str) (rs ans:List Rec) (r:Rec) (w:World) (hs:aM w sb zb k 0 au va vb vc cb) (ho:OwnR w (sb+1) va ans)
  (hz:aN w zb o b off cap rs) (hzs:zb<sb) (hd:r.data.length≤3000) (hol:o.length≤3000) (h8:ans.length<8) :
  Calls Tryz.prog 247 #[.pointer (some ⟨sb,0,none⟩),r.val] w fun e w'=>e=.returned (.tuple #[.string (B r.data),.bool (Sp.under r.data o)])∧(∃ va',aM w' sb zb k 0 au va' vb vc cb∧OwnR w' (sb+1) va' (ans++[r]))∧Below sb w w':=by
 obtain ⟨i0,hi,hz0,hz1,hz2⟩:=info_parts infoR
 obtain ⟨aa,ac,rfl⟩:=ho.slice
 have hslt:=hs.lt
 have hown:=ho.own_lt
 have hne:some sb≠(Value.slice aa ans.length ac).ownBlock:=fun e=>by have:=hown sb e.symm; omega
 have hnz:some zb≠(Value.slice aa ans.length ac).ownBlock:=fun e=>by have:=hown zb e.symm; omega
 have hnw:some w.heap.size≠(Value.slice aa ans.length ac).ownBlock:=fun e=>by have:=hown _ e.symm; omega
 obtain ⟨s0,s1,s2,s3,s4,s5,s6,s7⟩:=hs.cells
 have h8I:((ans.length:Int) == 8)=false:=by rw [beq_eq_false_iff_ne]; omega
 have HU:Hid (∀ W,Calls Tryz.prog 110 #[.string (B r.data),.string (B o)] W fun e w'=>e=.returned (.bool (Sp.under r.data o))∧w'=W):=fun W=>by
  have:=under_any (B r.data) (B o) W (by rw [size_B]; omega) (by rw [size_B]; omega)
  rw [data_B,data_B] at this
  exact this
 generalize Sp.under r.data o=ud at HU ⊢
 have HS:=aH hs
 have HO:=aH ho
 have HOL:=aH hown
 have hz0':=hz.2.1
 have hzlt:=hz.1
 clear hs ho hown hz s0 s1 s2 s3 s5 s6 s7
 unfold Rec.val
 go_enter Tryz.func247,Tryz.ntmps247
 go_upto_region 4 with fail
 go_region_law (first | (refine step_append_lies _ rfl (.tmp 25) (.tmp 27) 41 rfl (sb+1) 47 i0 _ 4 48 underR hi hz0 hz1 hz2 rfl (by decide) _ ans.length (encs ans) rfl (((aU HO).alloc _).alloc _) _ 1 1 (encs [r]) rfl rfl (new4 _ _ (by simp) r _) encs_one (by decide) (by unfold maxLen; omega) (by omega) (by simp; omega) (w.heap.size+2) (by simp) ?_; intro g cap' w3 hown hgrow hat hlt3; have hblk : ∀ i,i<w.heap.size+1→some i≠(Value.slice aa ans.length ac).ownBlock→w3.heap[i]? = (w.alloc (.cells #[.string (B r.owner),.int .i64 r.ttl,.int .i64 r.type,.string (B r.data)] 47)).heap[i]?:=(fun i hi hn=>(hgrow.block i (by simp; omega) hn).trans (Below.heap_alloc _ _ _ (by simp; omega))); have hs3:aM w3 sb zb k 0 au (.slice aa ans.length ac) vb vc cb:=(aU HS).kept ((hblk sb (by omega) hne).trans (Below.heap_alloc _ _ _ hslt)); have hf3:=hs3.frozen; have t4:=hs3.cells.2.2.2.2.1))
 all_goals
  have hown':OwnR w3 (sb+1) (.slice (some ⟨g,0,none⟩) (ans.length+1) cap') (ans++[r]):=by
   unfold OwnR
   rw [List.length_append,encs_app]
   exact hown
  have hgr:(Value.slice (some ⟨g,0,none⟩) (ans.length+1) cap').ownBlock=some g:=rfl
  have hbox:w3.heap[w.heap.size]? = some (.cells #[.string (B r.owner),.int .i64 r.ttl,.int .i64 r.type,.string (B r.data)] 47):=(hblk w.heap.size (by omega) hnw).trans (World.alloc_heap_new w _)
  have hzz:w3.cell? ⟨zb,0,none⟩=some (.string (B o)):=(World.cell?_of_block ((hblk zb (by omega) hnz).trans (Below.heap_alloc _ _ _ hzlt))).trans hz0'
  have hge:sb+1≤g:=(hown'.own_lt g hgr).1
  have HB:Hid (Below sb w w3):=⟨hgrow.os,hgrow.tape,hgrow.output,Nat.le_trans (by simp; omega) hgrow.size,fun i hi=>(hblk i (by omega) (fun e=>by have:=aU HOL i e.symm; omega)).trans (Below.heap_alloc _ _ _ (by omega))⟩
  have HS4:=aH (hs3.set4 (.slice (some ⟨g,0,none⟩) (ans.length+1) cap'))
  have HO4:=aH (hown'.set_low (k:=sb) (i:=4) (by omega) (.slice (some ⟨g,0,none⟩) (ans.length+1) cap'))
  have q3:(w3.setCell ⟨sb,4,none⟩ (.slice (some ⟨g,0,none⟩) (ans.length+1) cap')).cell? ⟨w.heap.size,3,none⟩=some (.string (B r.data)):=by
   rw [World.cell?_setCell_other _ _ _ _ (fun x=>by have:=congrArg Addr.block x; simp at this; omega)]
   simp [World.cell?,hbox]
  have qz:(w3.setCell ⟨sb,4,none⟩ (.slice (some ⟨g,0,none⟩) (ans.length+1) cap')).cell? ⟨zb,0,none⟩=some (.string (B o)):=by
   rw [World.cell?_setCell_other _ _ _ _ (fun x=>by have:=congrArg Addr.block x; simp at this; omega)]
   exact hzz
  have q0:=(aU HS4).cells.1
  clear hown hgrow hat hblk hs3 hown' hbox hzz hf3 t4
  go_wp2_with fail
  go_region_held (fun w'=>w'.cell? ⟨w.heap.size,3,none⟩=some (.string (B r.data))∧w'.cell? ⟨sb,0,none⟩=some (.pointer (some ⟨zb,0,none⟩))∧w'.cell? ⟨zb,0,none⟩=some (.string (B o))) (first | assumption | exact ⟨q3,q0,qz⟩ | go_keep)
   (first | (go_at_call 110; refine (aU HU _).mono ?_; rintro e w' ⟨rfl,rfl⟩))
  all_goals
   go_wp2_with fail
   go_ret2
   have hb9:=(aU HB).setCell (p:=⟨sb,4,none⟩) (Nat.le_refl sb) (.slice (some ⟨g,0,none⟩) (ans.length+1) cap')
   exact ⟨rfl,⟨_,aU HS4,aU HO4⟩,⟨hb9.os,hb9.tape,hb9.output,hb9.size,hb9.block⟩⟩
theorem link_full (sb zb cb c:Nat) (k:Int) (au:Bool) (va vb vc:Value) (ans:List Rec) (r:Rec) (w:World) (hs:aM w sb zb k 0 au va vb vc cb) (ho:OwnR w (sb+1) va ans) (hc:CancelAt w cb c false) (hne:cb≠c) (hcs:c<sb) (h8:ans.length=8) :
  Calls Tryz.prog 247 #[.pointer (some ⟨sb,0,none⟩),r.val] w fun e w'=>e=.returned (.tuple #[.string (B r.data),.bool true])∧aM w' sb zb k 0 au va vb vc cb∧CancelAt w' cb c true∧∀ n,n≤c→Below n w w':=by
 obtain ⟨aa,ac,rfl⟩:=ho.slice
 have hslt:=hs.lt
 have hclt:=hc.lt
 obtain ⟨s0,s1,s2,s3,s4,s5,s6,s7⟩:=hs.cells
 have h8I:((ans.length:Int) == 8)=true:=by rw [beq_iff_eq]; omega
 have hbx:Below w.heap.size w (w.alloc (.cells #[.string (B r.owner),.int .i64 r.ttl,.int .i64 r.type,.string (B r.data)] 47)):=(Below.refl _ _).alloc (Nat.le_refl _) _
 have HC:=aH (call_any cb c _ (hc.below hbx hc.1 hclt) hne)
 have hbox:(w.alloc (.cells #[.string (B r.owner),.int .i64 r.ttl,.int .i64 r.type,.string (B r.data)] 47)).heap[w.heap.size]? = some (.cells #[.string (B r.owner),.int .i64 r.ttl,.int .i64 r.type,.string (B r.data)] 47):=World.alloc_heap_new w _
 have HS:=aH hs
 clear hs ho hc s0 s1 s2 s3 s5 s6
 unfold Rec.val
 go_enter Tryz.func247,Tryz.ntmps247
 go_wp2_with fail
 refine (aU HC).mono ?_
 rintro e w1 ⟨⟨v,rfl⟩,hc1,hblk,hsz,hB⟩
 have q3:w1.cell? ⟨w.heap.size,3,none⟩=some (.string (B r.data)):=by
  have:=(hblk w.heap.size (by omega)).trans hbox
  simp [World.cell?,this]
 have HS1:=aH ((aU HS).kept ((hblk sb (by omega)).trans (Below.heap_alloc _ _ _ hslt)))
 have HC1:=aH hc1
 have HB:=aH hB
 clear hc1 hblk hB hbox
 go_wp2_with fail
 go_ret2
 exact ⟨rfl,aU HS1,aU HC1,fun n hn=>(hbx.mono (by omega)).trans (aU HB n hn)⟩
end Lm
def linkP (o:Str) (rs:List Rec) (n:Str):Option Rec:=if (cutP o rs n).length=0∧(matchP rs n).2=true∧aliasP (matchP rs n).1=true then some ((matchP rs n).1.headD Rec.zero) else none
def chase (o:Str) (rs:List Rec):Nat→Str→Option (List Rec×Option Str)
 | 0,n=>match linkP o rs n with
  | none=>some ([],some n)
  | some _=>none
 | m+1,n=>match linkP o rs n with
  | none=>some ([],some n)
  | some r=>if Sp.under r.data o=true then (chase o rs m r.data).map (fun x=>(r :: x.1,x.2)) else some ([r],none)
def finRc (o:Str) (rs:List Rec):Option Str→Int
 | some x=>stepRc o rs x
 | none=>0
def finAns (o:Str) (rs:List Rec) (k:Int):Option Str→List Rec
 | some x=>aQ o rs k x
 | none=>[]
def finAuth (o:Str) (rs:List Rec) (k:Int):Option Str→List Rec
 | some x=>aP o rs k x
 | none=>[]
namespace Ln
open Ka Kd Rf Rg Ia Iow Ie Zb Zc Za La Lb Re Lc Le Lf Lg Lh Li Ld Lj Lm
theorem step_alias (sb zb cb b off cap:Nat) (k:Int) (au:Bool) (va vb vc:Value) (o n:Str) (rs:List Rec) (r:Rec) (t:Bool) (R:World→Prop) (w:World) (hs:aM w sb zb k 0 au va vb vc cb)
  (hz:aN w zb o b off cap rs) (hg:G w) (hfit:Fit o rs) (hn:n.length≤2900) (h5:(k == 5)=false) (h255:(k == 255)=false)
  (hc:(cutP o rs n).length=0) (hm:(matchP rs n).2=true) (hr:(matchP rs n).1 = [r]) (hal:aliasP [r]=true)
  (HL : ∀ W,Below w.heap.size w W→Calls Tryz.prog 247 #[.pointer (some ⟨sb,0,none⟩),r.val] W fun e w'=>e=.returned (.tuple #[.string (B r.data),.bool t])∧R w') :
  Calls Tryz.prog 194 #[.pointer (some ⟨sb,0,none⟩),.string (B n)] w fun e w'=>e=.returned (.tuple #[.string (B r.data),.bool t])∧R w':=by
 obtain ⟨hlen,hol,hrl⟩:=hfit
 have h5b:(k != 5)=true:=by unfold bne; rw [h5]; rfl
 have h255b:(k != 255)=true:=by unfold bne; rw [h255]; rfl
 clear h5 h255
 have hslt:=hs.lt
 obtain ⟨s0,s1,_⟩:=hs.cells
 have HZ:=aH hz
 have HG:=aH hg
 have HC:=aH (cutOver_any zb b off cap o n rs w hz hg hlen (by omega) hol)
 have HKS:Hid (∀ W,Below w.heap.size w W→aM W sb zb k 0 au va vb vc cb):=fun W hb=>hs.kept (hb.block sb hslt)
 have HLL:=aH HL
 clear hs hz hg HL
 have hcI : ¬ (0:Int)<((cutP o rs n).length:Int):=by omega
 clear hc
 have HM:=aH (fun W (hb:Below w.heap.size w W)=>match_any zb b off cap o n rs W ((aU HZ).below hb) ((aU HG).below hb) hlen hn (fun r hr=>(hrl r hr).1))
 go_enter Tryz.func194,Tryz.ntmps194
 go_wp2_with fail
 refine (aU HC).mono ?_
 rintro e w1 ⟨⟨v1,rfl,hv1⟩,hb1⟩
 obtain ⟨a1,c1,rfl⟩:=hv1.slice
 clear hv1
 obtain ⟨t0,t1,_⟩:=(aU HKS w1 hb1).cells
 go_wp2_with fail
 refine (aU HM w1 hb1).mono ?_
 rintro e w2 ⟨⟨v2,rfl,hv2⟩,hb2⟩
 rw [hm]
 rw [hr] at hv2
 have hb12:=hb1.trans (hb2.mono hb1.size)
 have hs2:=aU HKS w2 hb12
 obtain ⟨u0,u1,u2,u3,u4,u5,u6,u7⟩:=hs2.cells
 have HAL:=aH (isAlias_any v2 _ w2 hv2.rv (by simp))
 rw [hal] at HAL
 have hrv:=hv2.rv
 clear hv2 hs2 u0 u2 u3 u4 u5 u6 u7
 rcases hrv with ⟨_,h⟩ | ⟨b',off',cap',rfl,hcp,hr2⟩
 ·cases h
 obtain ⟨c0,c1',c2,c3⟩:=hr2.four 0 (by simp)
 simp only [Nat.zero_mul,Nat.add_zero,List.getElem_cons_zero] at c0 c1' c2 c3
 have HLW:=aH (aU HLL w2 hb12)
 unfold Rec.val at HLW
 clear hr2 HLL
 simp only [List.length_cons,List.length_nil] at hcp HAL ⊢
 go_wp2_with fail
 refine (aU HAL).mono ?_
 rintro e w2 ⟨rfl,rfl⟩
 go_wp2_with fail
 refine (aU HLW).mono ?_
 rintro e w3 ⟨rfl,hR⟩
 have HR:=aH hR
 clear hR
 go_wp2_with fail
 go_ret2
 exact ⟨rfl,aU HR⟩
theorem G_low {w w':World} {n:Nat} (h:G w) (hb:Below n w w') (h0:0<n):G w':=by
 obtain ⟨h1,m,h2⟩:=h
 exact ⟨Nat.lt_of_lt_of_le h1 hb.size,m,(hb.cell (p:=⟨0,0,none⟩) h0).trans h2⟩
theorem linkP_some {o:Str} {rs:List Rec} {n:Str} {r:Rec} (h:linkP o rs n=some r):(cutP o rs n).length=0∧(matchP rs n).2=true∧(matchP rs n).1 = [r]∧aliasP [r]=true:=by
 unfold linkP at h
 split at h
 ·rename_i hh
  obtain ⟨h1,h2,h3⟩:=hh
  have h4:=h3
  unfold aliasP at h4
  simp only [Bool.and_eq_true,beq_iff_eq] at h4
  obtain ⟨x,hx⟩:=List.length_eq_one_iff.1 h4.1
  rw [hx] at h h3
  simp only [List.headD_cons,Option.some.injEq] at h
  subst h
  exact ⟨h1,h2,hx,h3⟩
 ·cases h
theorem linkP_alias {o:Str} {rs:List Rec} {n:Str} (h:linkP o rs n=none):(cutP o rs n).length=0→(matchP rs n).2=true→aliasP (matchP rs n).1=false:=fun h1 h2=>by
 unfold linkP at h
 split at h
 ·cases h
 ·rename_i hh
  cases e:aliasP (matchP rs n).1
  ·rfl
  ·exact absurd ⟨h1,h2,e⟩ hh
end Ln
namespace Lo
open Ka Kd Rf Rg Ia Iow Ie Zb Zc Za La Lb Re Lc Le Lf Lg Lh Li Ld Lj Lm Ln
end Lo
def Apart (v u:Value):Prop:=∀ g,v.ownBlock=some g→u.ownBlock≠some g
namespace Lp
open Ka Kd Rf Rg Ia Iow Ie Zb Zc Za La Lb Re Lc Le Lf Lg Lh
theorem step_plain2 (sb zb cb b off cap:Nat) (k:Int) (au:Bool) (va vb vc:Value) (o n:Str) (rs ans:List Rec) (w:World) (hs:aM w sb zb k 0 au va vb vc cb) (ho:OwnR w (sb+1) va ans) (hvb:vb=.slice none 0 0)
  (hz:aN w zb o b off cap rs) (hg:G w) (hzs:zb<sb) (hbs:b<sb) (h0:0<sb) (hfit:Fit o rs) (hn:n.length≤2900) (ha:ans.length≤90000)
  (hok : ∀ r∈setP (ofP rs o) 6,soaOk r∧r.data.length≤3000∧r.ttl≤1000000000) (h5:(k == 5)=false) (h255:(k == 255)=false) (hal:(cutP o rs n).length=0→(matchP rs n).2=true→aliasP (matchP rs n).1=false) (hml:(matchP rs n).1.length≤3001) :
  Calls Tryz.prog 194 #[.pointer (some ⟨sb,0,none⟩),.string (B n)] w fun e w'=>e=.returned (.tuple #[.string ⟨#[]⟩,.bool false])∧(∃ va' vb',aM w' sb zb k (stepRc o rs n) au va' vb' vc cb∧OwnR w' (sb+1) va' (ans++aQ o rs k n)∧OwnR w' (sb+1) vb' (aP o rs k n)∧Apart va' vb')∧Below sb w w':=by
 subst hvb
 obtain ⟨hlen,hol,hrl⟩:=hfit
 have h5b:(k != 5)=true:=by unfold bne; rw [h5]; rfl
 have h255b:(k != 255)=true:=by unfold bne; rw [h255]; rfl
 clear h5 h255
 have hslt:=hs.lt
 have hown:=ho.own_lt
 obtain ⟨s0,s1,_⟩:=hs.cells
 have HS:=aH hs
 have HO:=aH ho
 have HZ:=aH hz
 have HG:=aH hg
 have HOK:=aH hok
 have HC:=aH (cutOver_any zb b off cap o n rs w hz hg hlen (by omega) hol)
 have HKS:Hid (∀ W,Below w.heap.size w W→aM W sb zb k 0 au va (.slice none 0 0) vc cb):=fun W hb=>hs.kept (hb.block sb hslt)
 have HOL:=aH hown
 clear hs ho hz hg hok hown
 have hcl:(cutP o rs n).length≤3001:=Nat.le_trans (cutP_len o rs n) hlen
 by_cases hc:(cutP o rs n).length=0
 ·have hcI : ¬ (0:Int)<((cutP o rs n).length:Int):=by omega
  have HAL0:=aH (hal hc)
  clear hal
  have e1:Hid (stepRc o rs n=if (matchP rs n).2 then 0 else 3):=by unfold stepRc; rw [Hid,if_pos hc]
  have e2:Hid (aQ o rs k n=if (matchP rs n).2 then takeP k (matchP rs n).1 else []):=by unfold aQ; rw [Hid,if_pos hc]
  have e3:Hid (aP o rs k n=if (matchP rs n).2 then (if takenP k (matchP rs n).1 then [] else denyP o rs) else denyP o rs):=by unfold aP; rw [Hid,if_pos hc]
  clear hc
  have HM:=aH (fun W (hb:Below w.heap.size w W)=>match_any zb b off cap o n rs W ((aU HZ).below hb) ((aU HG).below hb) hlen hn (fun r hr=>(hrl r hr).1))
  cases hm:(matchP rs n).2
  ·rw [hm] at e1 e2 e3
   go_enter Tryz.func194,Tryz.ntmps194
   go_wp2_with fail
   refine (aU HC).mono ?_
   rintro e w1 ⟨⟨v1,rfl,hv1⟩,hb1⟩
   obtain ⟨a1,c1,rfl⟩:=hv1.slice
   clear hv1
   obtain ⟨t0,t1,_⟩:=(aU HKS w1 hb1).cells
   go_wp2_with fail
   refine (aU HM w1 hb1).mono ?_
   rintro e w2 ⟨⟨v2,rfl,hv2⟩,hb2⟩
   rw [hm]
   clear hv2
   have hb12:=hb1.trans (hb2.mono hb1.size)
   have hs2:=aU HKS w2 hb12
   obtain ⟨u0,u1,u2,u3,u4,u5,u6,u7⟩:=hs2.cells
   have f2:=hs2.frozen 2
   have S3:=aH (hs2.set2 3)
   have hs3:=hs2.set2 3
   obtain ⟨y0,_⟩:=hs3.cells
   have hb3:Below sb w (w2.setCell ⟨sb,2,none⟩ (.int .i64 3)):=(hb12.mono (show sb≤w.heap.size by omega)).setCell (p:=⟨sb,2,none⟩) (Nat.le_refl sb) _
   have hz3:aN (w2.setCell ⟨sb,2,none⟩ (.int .i64 3)) zb o b off cap rs:=(aU HZ).low hb3 hzs hbs
   have HD:=aH (denial_any zb b off cap o rs _ hz3 hlen (aU HOK))
   have HO3:=aH (((aU HO).below hb12).set_low (k:=sb) (i:=2) (by omega) (.int .i64 3))
   have hsz3:(w2.setCell ⟨sb,2,none⟩ (.int .i64 3)).heap.size=w2.heap.size:=by simp [World.setCell]
   clear hs2 hs3 u0 u1 u3 u4 u6 u7
   go_wp2_with fail
   refine (aU HD).mono ?_
   rintro e w4 ⟨v4,rfl,ho4,hb4⟩
   obtain ⟨a4,c4,rfl⟩:=ho4.slice
   have hs4:=(aU S3).kept (hb4.block sb (by rw [hsz3]; exact Nat.lt_of_lt_of_le hslt hb12.size))
   obtain ⟨z0,z1,z2,z3,z4,z5,z6,z7⟩:=hs4.cells
   have g5:=hs4.frozen 5
   have S5:=aH (hs4.set5 (.slice a4 (denyP o rs).length c4))
   have HO5:=aH (((aU HO3).below hb4).set_low (k:=sb) (i:=5) (by omega) (.slice a4 (denyP o rs).length c4))
   have HA5:=aH (ho4.set_low (k:=sb) (i:=5) (by rw [hsz3]; exact Nat.lt_of_lt_of_le hslt hb12.size) (.slice a4 (denyP o rs).length c4))
   have hb5:Below sb w (w4.setCell ⟨sb,5,none⟩ (.slice a4 (denyP o rs).length c4)):=(hb3.trans (hb4.mono (show sb≤_ by rw [hsz3]; have:=hb12.size; omega))).setCell (p:=⟨sb,5,none⟩) (Nat.le_refl sb) _
   clear hs4 ho4 z0 z1 z2 z3 z4 z6 z7
   go_wp2_with fail
   go_ret2
   refine ⟨rfl,⟨va,.slice a4 (denyP o rs).length c4,?_,?_,?_,?_⟩,hb5⟩
   ·rw [aU e1]; exact aU S5
   ·rw [aU e2]; simpa using aU HO5
   ·rw [aU e3]; exact (aU HA5).base (by rw [hsz3]; have:=hb12.size; omega)
   ·exact fun g h1 h2=>by have k1:=(aU HOL g h1).2; have k2:=((aU HA5).own_lt g h2).1; rw [hsz3] at k2; have:=hb12.size; omega
  ·rw [hm] at e1 e2 e3
   go_enter Tryz.func194,Tryz.ntmps194
   go_wp2_with fail
   refine (aU HC).mono ?_
   rintro e w1 ⟨⟨v1,rfl,hv1⟩,hb1⟩
   obtain ⟨a1,c1,rfl⟩:=hv1.slice
   clear hv1
   obtain ⟨t0,t1,_⟩:=(aU HKS w1 hb1).cells
   go_wp2_with fail
   refine (aU HM w1 hb1).mono ?_
   rintro e w2 ⟨⟨v2,rfl,hv2⟩,hb2⟩
   rw [hm]
   have hb12:=hb1.trans (hb2.mono hb1.size)
   have hs2:=aU HKS w2 hb12
   obtain ⟨u0,u1,u2,u3,u4,u5,u6,u7⟩:=hs2.cells
   have HAL:=aH (isAlias_any v2 _ w2 hv2.rv hml)
   obtain ⟨b',off',hL2,hr2,hn2⟩:=hv2
   have hs1:=hb1.size
   have hb'1:b'≠sb:=by rcases hn2 with h | h <;> omega
   have hb'2:va.ownBlock≠some b':=by
    intro h
    have:=aU HOL b' h
    rcases hn2 with h | h <;> omega
   have HT:=aH (take_any sb zb cb b' off' k 0 au va (.slice none 0 0) vc v2 ans _ w2 hs2 ((aU HO).below hb12) hL2 hr2 hb'1 hb'2 hml ha)
   clear hs2 hL2 hr2 hn2 u0 u2 u3 u4 u5 u6 u7
   rw [aU HAL0 hm] at HAL
   go_wp2_with fail
   refine (aU HAL).mono ?_
   rintro e w2 ⟨rfl,rfl⟩
   go_wp2_with fail
   refine (aU HT).mono ?_
   rintro e w3 ⟨rfl,⟨va',hs3,ho3⟩,hf3⟩
   have hb3:Below sb w w3:=(hb12.mono (show sb≤w.heap.size by omega)).trans (hf3.below (fun j hj=>⟨by omega,fun h=>by have:=aU HOL j h.symm; omega⟩) (by have:=hb12.size; omega))
   have HS3:=aH hs3
   have HO3:=aH ho3
   obtain ⟨y0,_,_,_,_,y5,_,_⟩:=hs3.cells
   have hslt3:=hs3.lt
   have hz3:aN w3 zb o b off cap rs:=(aU HZ).low hb3 hzs hbs
   have HD:=aH (denial_any zb b off cap o rs w3 hz3 hlen (aU HOK))
   clear hs3 ho3 hz3 hf3
   cases ht:takenP k (matchP rs n).1
   ·rw [ht] at e3
    go_wp2_with fail
    refine (aU HD).mono ?_
    rintro e w4 ⟨v4,rfl,ho4,hb4⟩
    obtain ⟨a4,c4,rfl⟩:=ho4.slice
    have hs4:=(aU HS3).kept (hb4.block sb hslt3)
    obtain ⟨z0,z1,z2,z3,z4,z5,z6,z7⟩:=hs4.cells
    have g5:=hs4.frozen 5
    have S5:=aH (hs4.set5 (.slice a4 (denyP o rs).length c4))
    have HO5:=aH (((aU HO3).below hb4).set_low (k:=sb) (i:=5) (by omega) (.slice a4 (denyP o rs).length c4))
    have HA5:=aH (ho4.set_low (k:=sb) (i:=5) hslt3 (.slice a4 (denyP o rs).length c4))
    have hb5:Below sb w (w4.setCell ⟨sb,5,none⟩ (.slice a4 (denyP o rs).length c4)):=(hb3.trans (hb4.mono (show sb≤_ by omega))).setCell (p:=⟨sb,5,none⟩) (Nat.le_refl sb) _
    clear hs4 ho4 z0 z1 z2 z3 z4 z6 z7
    go_wp2_with fail
    go_ret2
    refine ⟨rfl,⟨va',.slice a4 (denyP o rs).length c4,?_,?_,?_,?_⟩,hb5⟩
    ·rw [aU e1]; exact aU S5
    ·rw [aU e2]; exact aU HO5
    ·rw [aU e3]; exact (aU HA5).base (by omega)
    ·exact fun g h1 h2=>by have k1:=((aU HO3).own_lt g h1).2; have k2:=((aU HA5).own_lt g h2).1; omega
   ·rw [ht] at e3
    go_wp2_with fail
    go_ret2
    refine ⟨rfl,⟨va',.slice none 0 0,?_,?_,?_,?_⟩,hb3⟩
    ·rw [aU e1]; exact aU HS3
    ·rw [aU e2]; exact aU HO3
    ·rw [aU e3]; exact World.ownsRow_nil _ _ _ _
    ·exact fun g _ h2=>by cases h2
 ·have hcI:(0:Int)<((cutP o rs n).length:Int):=by omega
  clear hal
  have e1:Hid (stepRc o rs n=0):=by unfold stepRc; rw [Hid,if_neg hc]
  have e2:Hid (aQ o rs k n = []):=by unfold aQ; rw [Hid,if_neg hc]
  have e3:Hid (aP o rs k n=cutP o rs n):=by unfold aP; rw [Hid,if_neg hc]
  clear hc
  go_enter Tryz.func194,Tryz.ntmps194
  go_wp2_with fail
  refine (aU HC).mono ?_
  rintro e w1 ⟨⟨v1,rfl,hv1⟩,hb1⟩
  have HCL:=aH (clone_any v1 _ w1 (hv1.rv ((aU HZ).below hb1).2.2.2.2) hcl)
  obtain ⟨a1,c1,rfl⟩:=hv1.slice
  clear hv1
  go_wp2_with fail
  refine (aU HCL).mono ?_
  rintro e w4 ⟨v4,rfl,ho4,hb4⟩
  obtain ⟨a4,c4,rfl⟩:=ho4.slice
  have hb14:=hb1.trans (hb4.mono hb1.size)
  have hs4:=aU HKS w4 hb14
  obtain ⟨z0,z1,z2,z3,z4,z5,z6,z7⟩:=hs4.cells
  have g5:=hs4.frozen 5
  have S5:=aH (hs4.set5 (.slice a4 (cutP o rs n).length c4))
  have HO5:=aH (((aU HO).below hb14).set_low (k:=sb) (i:=5) (by omega) (.slice a4 (cutP o rs n).length c4))
  have HA5:=aH (ho4.set_low (k:=sb) (i:=5) (by have:=hb1.size; omega) (.slice a4 (cutP o rs n).length c4))
  have hb5:Below sb w (w4.setCell ⟨sb,5,none⟩ (.slice a4 (cutP o rs n).length c4)):=(hb14.mono (show sb≤_ by omega)).setCell (p:=⟨sb,5,none⟩) (Nat.le_refl sb) _
  clear hs4 ho4 z0 z1 z2 z3 z4 z6 z7
  go_wp2_with fail
  go_ret2
  refine ⟨rfl,⟨va,.slice a4 (cutP o rs n).length c4,?_,?_,?_,?_⟩,hb5⟩
  ·rw [aU e1]; exact aU S5
  ·rw [aU e2]; simpa using aU HO5
  ·rw [aU e3]; exact (aU HA5).base (by have:=hb1.size; omega)
  ·exact fun g h1 h2=>by have k1:=(aU HOL g h1).2; have k2:=((aU HA5).own_lt g h2).1; have:=hb1.size; omega
theorem step_kind (sb zb cb b off cap:Nat) (k:Int) (au:Bool) (va vb vc:Value) (o n:Str) (rs ans:List Rec) (w:World) (hs:aM w sb zb k 0 au va vb vc cb) (ho:OwnR w (sb+1) va ans) (hvb:vb=.slice none 0 0)
  (hz:aN w zb o b off cap rs) (hg:G w) (hzs:zb<sb) (hbs:b<sb) (h0:0<sb) (hfit:Fit o rs) (hn:n.length≤2900) (ha:ans.length≤90000)
  (hok : ∀ r∈setP (ofP rs o) 6,soaOk r∧r.data.length≤3000∧r.ttl≤1000000000) (hk:k=5∨k=255) (hml:(matchP rs n).1.length≤3001) :
  Calls Tryz.prog 194 #[.pointer (some ⟨sb,0,none⟩),.string (B n)] w fun e w'=>e=.returned (.tuple #[.string ⟨#[]⟩,.bool false])∧(∃ va' vb',aM w' sb zb k (stepRc o rs n) au va' vb' vc cb∧OwnR w' (sb+1) va' (ans++aQ o rs k n)∧OwnR w' (sb+1) vb' (aP o rs k n)∧Apart va' vb')∧Below sb w w':=by
 subst hvb
 obtain ⟨hlen,hol,hrl⟩:=hfit
 have hkk:(k != 5)=false∨((k != 5)=true∧(k != 255)=false):=by
  rcases hk with h | h
  ·left; rw [h]; rfl
  ·right; rw [h]; exact ⟨rfl,rfl⟩
 clear hk
 have hslt:=hs.lt
 have hown:=ho.own_lt
 obtain ⟨s0,s1,_⟩:=hs.cells
 have HS:=aH hs
 have HO:=aH ho
 have HZ:=aH hz
 have HG:=aH hg
 have HOK:=aH hok
 have HC:=aH (cutOver_any zb b off cap o n rs w hz hg hlen (by omega) hol)
 have HKS:Hid (∀ W,Below w.heap.size w W→aM W sb zb k 0 au va (.slice none 0 0) vc cb):=fun W hb=>hs.kept (hb.block sb hslt)
 have HOL:=aH hown
 clear hs ho hz hg hok hown
 have hcl:(cutP o rs n).length≤3001:=Nat.le_trans (cutP_len o rs n) hlen
 by_cases hc:(cutP o rs n).length=0
 ·have hcI : ¬ (0:Int)<((cutP o rs n).length:Int):=by omega
  have e1:Hid (stepRc o rs n=if (matchP rs n).2 then 0 else 3):=by unfold stepRc; rw [Hid,if_pos hc]
  have e2:Hid (aQ o rs k n=if (matchP rs n).2 then takeP k (matchP rs n).1 else []):=by unfold aQ; rw [Hid,if_pos hc]
  have e3:Hid (aP o rs k n=if (matchP rs n).2 then (if takenP k (matchP rs n).1 then [] else denyP o rs) else denyP o rs):=by unfold aP; rw [Hid,if_pos hc]
  clear hc
  have HM:=aH (fun W (hb:Below w.heap.size w W)=>match_any zb b off cap o n rs W ((aU HZ).below hb) ((aU HG).below hb) hlen hn (fun r hr=>(hrl r hr).1))
  cases hm:(matchP rs n).2
  ·rw [hm] at e1 e2 e3
   go_enter Tryz.func194,Tryz.ntmps194
   go_wp2_with fail
   refine (aU HC).mono ?_
   rintro e w1 ⟨⟨v1,rfl,hv1⟩,hb1⟩
   obtain ⟨a1,c1,rfl⟩:=hv1.slice
   clear hv1
   obtain ⟨t0,t1,_⟩:=(aU HKS w1 hb1).cells
   go_wp2_with fail
   refine (aU HM w1 hb1).mono ?_
   rintro e w2 ⟨⟨v2,rfl,hv2⟩,hb2⟩
   rw [hm]
   clear hv2
   have hb12:=hb1.trans (hb2.mono hb1.size)
   have hs2:=aU HKS w2 hb12
   obtain ⟨u0,u1,u2,u3,u4,u5,u6,u7⟩:=hs2.cells
   have f2:=hs2.frozen 2
   have S3:=aH (hs2.set2 3)
   have hs3:=hs2.set2 3
   obtain ⟨y0,_⟩:=hs3.cells
   have hb3:Below sb w (w2.setCell ⟨sb,2,none⟩ (.int .i64 3)):=(hb12.mono (show sb≤w.heap.size by omega)).setCell (p:=⟨sb,2,none⟩) (Nat.le_refl sb) _
   have hz3:aN (w2.setCell ⟨sb,2,none⟩ (.int .i64 3)) zb o b off cap rs:=(aU HZ).low hb3 hzs hbs
   have HD:=aH (denial_any zb b off cap o rs _ hz3 hlen (aU HOK))
   have HO3:=aH (((aU HO).below hb12).set_low (k:=sb) (i:=2) (by omega) (.int .i64 3))
   have hsz3:(w2.setCell ⟨sb,2,none⟩ (.int .i64 3)).heap.size=w2.heap.size:=by simp [World.setCell]
   clear hs2 hs3 u0 u1 u3 u4 u6 u7
   go_wp2_with fail
   refine (aU HD).mono ?_
   rintro e w4 ⟨v4,rfl,ho4,hb4⟩
   obtain ⟨a4,c4,rfl⟩:=ho4.slice
   have hs4:=(aU S3).kept (hb4.block sb (by rw [hsz3]; exact Nat.lt_of_lt_of_le hslt hb12.size))
   obtain ⟨z0,z1,z2,z3,z4,z5,z6,z7⟩:=hs4.cells
   have g5:=hs4.frozen 5
   have S5:=aH (hs4.set5 (.slice a4 (denyP o rs).length c4))
   have HO5:=aH (((aU HO3).below hb4).set_low (k:=sb) (i:=5) (by omega) (.slice a4 (denyP o rs).length c4))
   have HA5:=aH (ho4.set_low (k:=sb) (i:=5) (by rw [hsz3]; exact Nat.lt_of_lt_of_le hslt hb12.size) (.slice a4 (denyP o rs).length c4))
   have hb5:Below sb w (w4.setCell ⟨sb,5,none⟩ (.slice a4 (denyP o rs).length c4)):=(hb3.trans (hb4.mono (show sb≤_ by rw [hsz3]; have:=hb12.size; omega))).setCell (p:=⟨sb,5,none⟩) (Nat.le_refl sb) _
   clear hs4 ho4 z0 z1 z2 z3 z4 z6 z7
   go_wp2_with fail
   go_ret2
   refine ⟨rfl,⟨va,.slice a4 (denyP o rs).length c4,?_,?_,?_,?_⟩,hb5⟩
   ·rw [aU e1]; exact aU S5
   ·rw [aU e2]; simpa using aU HO5
   ·rw [aU e3]; exact (aU HA5).base (by rw [hsz3]; have:=hb12.size; omega)
   ·exact fun g h1 h2=>by have k1:=(aU HOL g h1).2; have k2:=((aU HA5).own_lt g h2).1; rw [hsz3] at k2; have:=hb12.size; omega
  ·rw [hm] at e1 e2 e3
   go_enter Tryz.func194,Tryz.ntmps194
   go_wp2_with fail
   refine (aU HC).mono ?_
   rintro e w1 ⟨⟨v1,rfl,hv1⟩,hb1⟩
   obtain ⟨a1,c1,rfl⟩:=hv1.slice
   clear hv1
   obtain ⟨t0,t1,_⟩:=(aU HKS w1 hb1).cells
   go_wp2_with fail
   refine (aU HM w1 hb1).mono ?_
   rintro e w2 ⟨⟨v2,rfl,hv2⟩,hb2⟩
   rw [hm]
   have hb12:=hb1.trans (hb2.mono hb1.size)
   have hs2:=aU HKS w2 hb12
   obtain ⟨u0,u1,u2,u3,u4,u5,u6,u7⟩:=hs2.cells
   obtain ⟨b',off',hL2,hr2,hn2⟩:=hv2
   have hs1:=hb1.size
   have hb'1:b'≠sb:=by rcases hn2 with h | h <;> omega
   have hb'2:va.ownBlock≠some b':=by
    intro h
    have:=aU HOL b' h
    rcases hn2 with h | h <;> omega
   have HT:=aH (take_any sb zb cb b' off' k 0 au va (.slice none 0 0) vc v2 ans _ w2 hs2 ((aU HO).below hb12) hL2 hr2 hb'1 hb'2 hml ha)
   clear hs2 hL2 hr2 hn2 u0 u2 u3 u4 u5 u6 u7
   rcases hkk with h5b | ⟨h5b,h255b⟩
   all_goals
    go_wp2_with fail
    refine (aU HT).mono ?_
    rintro e w3 ⟨rfl,⟨va',hs3,ho3⟩,hf3⟩
    have hb3:Below sb w w3:=(hb12.mono (show sb≤w.heap.size by omega)).trans (hf3.below (fun j hj=>⟨by omega,fun h=>by have:=aU HOL j h.symm; omega⟩) (by have:=hb12.size; omega))
    have HS3:=aH hs3
    have HO3:=aH ho3
    obtain ⟨y0,_,_,_,_,y5,_,_⟩:=hs3.cells
    have hslt3:=hs3.lt
    have hz3:aN w3 zb o b off cap rs:=(aU HZ).low hb3 hzs hbs
    have HD:=aH (denial_any zb b off cap o rs w3 hz3 hlen (aU HOK))
    clear hs3 ho3 hz3 hf3
    cases ht:takenP k (matchP rs n).1
    ·rw [ht] at e3
     go_wp2_with fail
     refine (aU HD).mono ?_
     rintro e w4 ⟨v4,rfl,ho4,hb4⟩
     obtain ⟨a4,c4,rfl⟩:=ho4.slice
     have hs4:=(aU HS3).kept (hb4.block sb hslt3)
     obtain ⟨z0,z1,z2,z3,z4,z5,z6,z7⟩:=hs4.cells
     have g5:=hs4.frozen 5
     have S5:=aH (hs4.set5 (.slice a4 (denyP o rs).length c4))
     have HO5:=aH (((aU HO3).below hb4).set_low (k:=sb) (i:=5) (by omega) (.slice a4 (denyP o rs).length c4))
     have HA5:=aH (ho4.set_low (k:=sb) (i:=5) hslt3 (.slice a4 (denyP o rs).length c4))
     have hb5:Below sb w (w4.setCell ⟨sb,5,none⟩ (.slice a4 (denyP o rs).length c4)):=(hb3.trans (hb4.mono (show sb≤_ by omega))).setCell (p:=⟨sb,5,none⟩) (Nat.le_refl sb) _
     clear hs4 ho4 z0 z1 z2 z3 z4 z6 z7
     go_wp2_with fail
     go_ret2
     refine ⟨rfl,⟨va',.slice a4 (denyP o rs).length c4,?_,?_,?_,?_⟩,hb5⟩
     ·rw [aU e1]; exact aU S5
     ·rw [aU e2]; exact aU HO5
     ·rw [aU e3]; exact (aU HA5).base (by omega)
     ·exact fun g h1 h2=>by have k1:=((aU HO3).own_lt g h1).2; have k2:=((aU HA5).own_lt g h2).1; omega
    ·rw [ht] at e3
     go_wp2_with fail
     go_ret2
     refine ⟨rfl,⟨va',.slice none 0 0,?_,?_,?_,?_⟩,hb3⟩
     ·rw [aU e1]; exact aU HS3
     ·rw [aU e2]; exact aU HO3
     ·rw [aU e3]; exact World.ownsRow_nil _ _ _ _
     ·exact fun g _ h2=>by cases h2
 ·have hcI:(0:Int)<((cutP o rs n).length:Int):=by omega
  have e1:Hid (stepRc o rs n=0):=by unfold stepRc; rw [Hid,if_neg hc]
  have e2:Hid (aQ o rs k n = []):=by unfold aQ; rw [Hid,if_neg hc]
  have e3:Hid (aP o rs k n=cutP o rs n):=by unfold aP; rw [Hid,if_neg hc]
  clear hc
  go_enter Tryz.func194,Tryz.ntmps194
  go_wp2_with fail
  refine (aU HC).mono ?_
  rintro e w1 ⟨⟨v1,rfl,hv1⟩,hb1⟩
  have HCL:=aH (clone_any v1 _ w1 (hv1.rv ((aU HZ).below hb1).2.2.2.2) hcl)
  obtain ⟨a1,c1,rfl⟩:=hv1.slice
  clear hv1
  go_wp2_with fail
  refine (aU HCL).mono ?_
  rintro e w4 ⟨v4,rfl,ho4,hb4⟩
  obtain ⟨a4,c4,rfl⟩:=ho4.slice
  have hb14:=hb1.trans (hb4.mono hb1.size)
  have hs4:=aU HKS w4 hb14
  obtain ⟨z0,z1,z2,z3,z4,z5,z6,z7⟩:=hs4.cells
  have g5:=hs4.frozen 5
  have S5:=aH (hs4.set5 (.slice a4 (cutP o rs n).length c4))
  have HO5:=aH (((aU HO).below hb14).set_low (k:=sb) (i:=5) (by omega) (.slice a4 (cutP o rs n).length c4))
  have HA5:=aH (ho4.set_low (k:=sb) (i:=5) (by have:=hb1.size; omega) (.slice a4 (cutP o rs n).length c4))
  have hb5:Below sb w (w4.setCell ⟨sb,5,none⟩ (.slice a4 (cutP o rs n).length c4)):=(hb14.mono (show sb≤_ by omega)).setCell (p:=⟨sb,5,none⟩) (Nat.le_refl sb) _
  clear hs4 ho4 z0 z1 z2 z3 z4 z6 z7
  go_wp2_with fail
  go_ret2
  refine ⟨rfl,⟨va,.slice a4 (cutP o rs n).length c4,?_,?_,?_,?_⟩,hb5⟩
  ·rw [aU e1]; exact aU S5
  ·rw [aU e2]; simpa using aU HO5
  ·rw [aU e3]; exact (aU HA5).base (by have:=hb1.size; omega)
  ·exact fun g h1 h2=>by have k1:=(aU HOL g h1).2; have k2:=((aU HA5).own_lt g h2).1; have:=hb1.size; omega
end Lp
end Go.Proofs.YtkkpahmoljiepaaGreatDoor
