/- Contracts: cmp.Compare at string, cmp.Or at int, the comparison of records.Sort. -/
import Derived.Test.YtkkpahmoljiepaaGreatDoorJ04
import Derived.Deep.RegionHeld
import Derived.Test.YtkkpahmoljiepaaGreatDoorJ08
import Derived.Test.YtkkpahmoljiepaaGreatDoorJ07
import Derived.Shelf.Spec.SlicesGrow
import Derived.Ground.Names8Prog
import Derived.Test.YtkkpahmoljiepaaGreatDoorProg
import Derived.Test.YtkkpahmoljiepaaGreatDoorJ06
import Derived.Conc.LoneSelect
import Derived.Conc.EventLaws
import Derived.KernelRfl
import Derived.Laws.Rows
import Derived.Test.YtkkpahmoljiepaaGreatDoorJ01
import Derived.LoopN
set_option linter.unusedSimpArgs false
set_option linter.unusedVariables false
set_option maxRecDepth 1000000
set_option maxHeartbeats 12800000
namespace Go.Proofs.YtkkpahmoljiepaaGreatDoor
open Go.RowKit
open Pu (Str aH aU)
namespace Sa
open Ka Kd
theorem isNaN_str (s:ByteArray) (w:World):Calls Tryz.prog 174 #[.string s] w fun e w'=>e=.returned (.bool false)∧w'=w:=by
 go_enter Tryz.func174,Tryz.ntmps174
 go_wp2
 go_ret
 exact ⟨by simp,rfl⟩
def cmpS (a b:Str):Int:=if Op.bytesLess a b then -1 else if a == b then 0 else 1
theorem compare_str (s t:ByteArray) (w:World):Calls Tryz.prog 105 #[.string s,.string t] w fun e w'=>e=.returned (.int .i64 (cmpS s.data.toList t.data.toList))∧w'=w:=by
 go_enter Tryz.func105,Tryz.ntmps105
 go_wp2_with (go_at_call 174; refine (isNaN_str _ _).mono ?_; rintro e w ⟨rfl,rfl⟩)
 all_goals
  go_ret
  refine ⟨ret_int ?_,rfl⟩
  unfold cmpS
  simp only [ByteArray.toList_eq] at *
  simp_all
def orV (x y:Int):Int:=if x=0 then y else x
theorem or2 (x y:Int) (b c:Nat) (w:World) (h0:w.cell? ⟨b,0,none⟩=some (.int .i64 x)) (h1:w.cell? ⟨b,1,none⟩=some (.int .i64 y)) :
  Calls Tryz.prog 104 #[.slice (some ⟨b,0,none⟩) 2 c] w fun e w'=>e=.returned (.int .i64 (orV x y))∧w'=w:=by
 by_cases hx:x=0
 ·have hfin:Hid (orV x y=y):=if_pos hx
  subst hx
  by_cases hy:y=0
  ·subst hy
   go_enter Tryz.func104,Tryz.ntmps104
   go_wp2
   go_loop [8] (fun i=>∃ k:Nat,k≤2∧i=.int .i64 k) (fun i=>2 - (intOf i).toNat)
   case atStart=>exact ⟨0,by omega,rfl⟩
   case round =>
    obtain ⟨k,hk,rfl⟩:=hrel
    match k,hk with
    | 0,_ =>
     go_wp2
     go_round
     case rel=>exact ⟨1,by omega,by go_num⟩
     case measure=>simp [intOf]
    | 1,_ =>
     go_wp2
     go_round
     case rel=>exact ⟨2,by omega,by go_num⟩
     case measure=>simp [intOf]
    | 2,_ =>
     go_wp2
     go_ret
     exact ⟨ret_int (aU hfin).symm,rfl⟩
  ·have hyb:(y != 0)=true:=by rw [bne_iff_ne]; exact hy
   go_enter Tryz.func104,Tryz.ntmps104
   go_wp2
   go_loop [8] (fun i=>∃ k:Nat,k≤1∧i=.int .i64 k) (fun i=>2 - (intOf i).toNat)
   case atStart=>exact ⟨0,by omega,rfl⟩
   case round =>
    obtain ⟨k,hk,rfl⟩:=hrel
    match k,hk with
    | 0,_ =>
     go_wp2
     go_round
     case rel=>exact ⟨1,by omega,by go_num⟩
     case measure=>simp [intOf]
    | 1,_ =>
     go_wp2
     go_ret
     exact ⟨ret_int (aU hfin).symm,rfl⟩
 ·have hxb:(x != 0)=true:=by rw [bne_iff_ne]; exact hx
  have hfin:Hid (orV x y=x):=if_neg hx
  go_enter Tryz.func104,Tryz.ntmps104
  go_wp2
  go_loop [8] (fun i=>i=.int .i64 0) (fun i=>2 - (intOf i).toNat)
  case atStart=>rfl
  case round =>
   obtain rfl:=hrel
   go_wp2
   go_ret
   exact ⟨ret_int (aU hfin).symm,rfl⟩
def cmpR (r s:Rec):Int:=orV (cmpS r.owner s.owner) (Lib.compareInt r.type s.type)
theorem sorted1 (r s:Rec) (w:World) :
  Calls Tryz.prog 103 #[.agg #[.string (B r.owner),.int .i64 r.ttl,.int .i64 r.type,.string (B r.data)],.agg #[.string (B s.owner),.int .i64 s.ttl,.int .i64 s.type,.string (B s.data)]] w fun e w' =>
   e=.returned (.int .i64 (cmpR r s))∧∃ q os',w'=Sort.grow (w.drewN q) os':=by
 have hc1 : ∀ W,Calls Tryz.prog 105 #[.string (B r.owner),.string (B s.owner)] W fun e w'=>e=.returned (.int .i64 (cmpS r.owner s.owner))∧w'=W:=fun W=>compare_str _ _ W
 have hc2 : ∀ W,Calls Tryz.prog 106 #[.int .i64 r.type,.int .i64 s.type] W fun e w'=>e=.returned (.int .i64 (Lib.compareInt r.type s.type))∧w'=W:=fun W=>Tryz.cmp_Compare_int _ _ W
 have HC1:=aH hc1
 have HC2:=aH hc2
 have hfin:Hid (cmpR r s=orV (cmpS r.owner s.owner) (Lib.compareInt r.type s.type)):=rfl
 generalize cmpS r.owner s.owner=x at *
 generalize Lib.compareInt r.type s.type=y at *
 clear hc1 hc2
 go_enter Tryz.func103,Tryz.ntmps103
 go_wp2_with fail
 go_region_held (fun w'=>w'.cell? ⟨w.heap.size,0,none⟩=some (.string (B r.owner))∧w'.cell? ⟨w.heap.size,2,none⟩=some (.int .i64 r.type)∧w'.cell? ⟨w.heap.size+1,0,none⟩=some (.string (B s.owner))∧w'.cell? ⟨w.heap.size+1,2,none⟩=some (.int .i64 s.type)) (go_keep)
  (first
   | (go_at_call 105; refine (aU HC1 _).mono ?_; rintro e w' ⟨rfl,rfl⟩)
   | (go_at_call 106; refine (aU HC2 _).mono ?_; rintro e w' ⟨rfl,rfl⟩)
   | (go_at_call 104; refine (or2 x y _ _ _ (by go_simp) (by go_simp)).mono ?_; rintro e w' ⟨rfl,rfl⟩))
 all_goals
  go_wp2_with fail
  go_ret
  refine ⟨ret_int (aU hfin).symm,1,#[.cells #[.string (B r.owner),.int .i64 r.ttl,.int .i64 r.type,.string (B r.data)] 47,.cells #[.string (B s.owner),.int .i64 s.ttl,.int .i64 s.type,.string (B s.data)] 47,.cells #[.int .i64 x,.int .i64 y] 3],?_⟩
  rw [Sort.alloc_eq_grow,Sort.alloc_eq_grow,Sort.alloc_eq_grow,Sort.grow_grow,Sort.grow_grow]
  rfl
end Sa
end Go.Proofs.YtkkpahmoljiepaaGreatDoor

namespace Go.Proofs.YtkkpahmoljiepaaGreatDoor
open Go.RowKit Go.Sort
open Pu (Str aH aU)
def sortL (rs:List Rec):List Rec:=(Sort.insertionSort (ltOf Sa.cmpR) rs.toArray 0 rs.length).toList
namespace Sb
open Ka Kd Sa
theorem holdsK_of {w:World} {g:Nat} {cur:Array Value} {e:TypeId} {rs:List Rec} (hg:w.heap[g]? = some (.cells cur e)) (hr:bE w g 0 rs):HoldsK Rec.enc 4 w g 0 rs.toArray:=by
 intro j hj
 rw [size_flatK] at hj
 simp only [List.size_toArray] at hj
 rw [get_flatK _ _ _ _ (by simpa using hj)]
 refine ⟨?_,by simp [World.frozen?,hg]⟩
 have hj4:j/4<rs.length:=by omega
 have hlen:(Rec.enc rs[j/4]!).length=4:=rfl
 have h1:(Rec.enc rs[j/4]!)[j%4]? = some (Rec.enc rs[j/4]!)[j%4]!:=by
  have hk:j%4<(Rec.enc rs[j/4]!).length:=by rw [hlen]; omega
  rw [List.getElem?_eq_getElem hk,getElem!_pos (Rec.enc rs[j/4]!) (j%4) hk]
 have:=hr.2 (j/4) hj4 (j%4) _ h1
 rw [show 0+j/4*4+j%4=0+j from by omega] at this
 rw [this]
 simp
theorem recsAt_of_holds {w:World} {g:Nat} {rs:List Rec} (hg:g<w.heap.size) (h:HoldsK Rec.enc 4 w g 0 rs.toArray):bE w g 0 rs:=by
 refine ⟨hg,fun j hj i u hu=>?_⟩
 have hi:i<4:=by have:=(List.getElem?_eq_some_iff.1 hu).1; exact this
 have hc:=(h.cell (i:=j) (c:=i) (by simpa using hj) hi).1
 rw [hc]
 have e:rs.toArray[j]! = rs[j]!:=by simp
 rw [e]
 rw [List.getElem?_eq_some_iff] at hu
 obtain ⟨h1,h2⟩:=hu
 rw [getElem!_pos (Rec.enc rs[j]!) i h1,h2]
theorem cmpLays (blk off size:Nat) (w:World):CmpLays Tryz.prog 103 #[] Rec.enc 4 cmpR blk off size w :=
 fun _ _ _ _ x y=>sorted1 x y _
theorem size_ins (lt:Rec→Rec→Bool) (a:Nat) : ∀ (j:Nat) (d:Array Rec),(insInner lt a j d).size=d.size
 | 0,d=>rfl
 | j+1,d=>by
  rw [insInner]
  split
  ·rw [size_ins lt a j,size_swp]
  ·rfl
theorem size_out (lt:Rec→Rec→Bool) (a b:Nat) : ∀ (f i:Nat) (d:Array Rec),b - i≤f→(insOuter lt a b i d).size=d.size
 | 0,i,d,h=>by rw [insOuter,if_neg (by omega)]
 | f+1,i,d,h=>by
  rw [insOuter]
  split
  ·rw [size_out lt a b f _ _ (by omega),size_ins]
  ·rfl
theorem size_sort (lt:Rec→Rec→Bool) (d:Array Rec) (a b:Nat):(Sort.insertionSort lt d a b).size=d.size:=size_out lt a b _ _ d (Nat.le_refl _)
theorem sortL_len (rs:List Rec):(sortL rs).length=rs.length:=by
 unfold sortL; rw [Array.length_toList,size_sort]; simp
theorem all_swp {p:Rec→Prop} {d:Array Rec} (h : ∀ k,k<d.size→p d[k]!) {i j:Nat} (hi:i<d.size) (hj:j<d.size) : ∀ k,k<(swp d i j).size→p (swp d i j)[k]!:=by
 intro k hk
 rw [size_swp] at hk
 unfold swp
 have hk1:k<(d.setIfInBounds i d[j]!).size:=by simpa using hk
 have hk2:k<((d.setIfInBounds i d[j]!).setIfInBounds j d[i]!).size:=by simpa using hk
 rw [getElem!_pos _ k hk2,Array.getElem_setIfInBounds hk1]
 split
 ·exact h i hi
 ·rw [Array.getElem_setIfInBounds hk]
  split
  ·exact h j hj
  ·rw [← getElem!_pos d k hk]; exact h k hk
theorem all_ins {p:Rec→Prop} (lt:Rec→Rec→Bool) (a:Nat) : ∀ (j:Nat) (d:Array Rec),j<d.size→(∀ k,k<d.size→p d[k]!)→∀ k,k<(insInner lt a j d).size→p (insInner lt a j d)[k]!
 | 0,d,_,h=>h
 | j+1,d,hj,h=>by
  rw [insInner]
  split
  ·exact all_ins lt a j _ (by rw [size_swp]; omega) (all_swp h hj (by omega))
  ·exact h
theorem all_out {p:Rec→Prop} (lt:Rec→Rec→Bool) (a b:Nat) : ∀ (f i:Nat) (d:Array Rec),b - i≤f→b≤d.size→(∀ k,k<d.size→p d[k]!)→∀ k,k<(insOuter lt a b i d).size→p (insOuter lt a b i d)[k]!
 | 0,i,d,hf,hb,h=>by rw [insOuter,if_neg (by omega)]; exact h
 | f+1,i,d,hf,hb,h=>by
  rw [insOuter]
  split
  ·exact all_out lt a b f _ _ (by omega) (by rw [size_ins]; exact hb) (all_ins lt a i d (by omega) h)
  ·exact h
theorem sortL_all {p:Rec→Prop} {rs:List Rec} (h : ∀ r∈rs,p r) : ∀ r∈sortL rs,p r:=by
 intro r hr
 obtain ⟨k,hk,rfl⟩:=List.getElem_of_mem hr
 have hk':k<(Sort.insertionSort (ltOf cmpR) rs.toArray 0 rs.length).size:=by unfold sortL at hk; simpa using hk
 have:=all_out (p:=p) (ltOf cmpR) 0 rs.length _ 1 rs.toArray (Nat.le_refl _) (by simp) (fun k hk=>by
  have hk2:k<rs.length:=by simpa using hk
  have e:rs.toArray[k]! = rs[k]:=by simp [hk2]
  rw [e]; exact h _ (List.getElem_mem _)) k hk'
 have e:(sortL rs)[k]=(Sort.insertionSort (ltOf cmpR) rs.toArray 0 rs.length)[k]!:=by
  unfold sortL
  rw [getElem!_pos _ k hk']; simp
 exact e ▸ this
theorem below_sort {B g n:Nat} {a w:World} {dk:Array Rec} {os:Array Obj} (h:Below B a w) (hg:B≤g) (hB:B≤w.heap.size):Below B a (sortWorldK Rec.enc 4 w g 0 n dk os):=by
 refine h.trans ⟨rfl,rfl,rfl,?_,fun k hk=>?_⟩
 ·exact size_sortWorldK_c Rec.enc 4 w g 0 n dk os
 ·unfold sortWorldK putRowK putRow mapBlock Sort.grow Sort.ahead
  show ((w.heap.modify g _)++os)[k]? = w.heap[k]?
  rw [Array.getElem?_append_left (by rw [Array.size_modify]; omega),Array.getElem?_modify,if_neg (by omega)]
end Sb
end Go.Proofs.YtkkpahmoljiepaaGreatDoor

set_option maxRecDepth 1000000
set_option maxHeartbeats 12800000
namespace Go.Proofs.YtkkpahmoljiepaaGreatDoor
open Go.RowKit
open Pu (Str aH aU)
def parseP (t:Str):Option (Str×List Rec) :=
 (readZ t).bind fun x=>if Rf.startsR x.1 x.2 && rightP x.1 (sortL x.2) then some (x.1,sortL x.2) else none
def parseR (o:Option (Str×List Rec)) (base:Nat) (e:Ending) (w':World):Prop :=
 match o with
 | none=>e=.returned (.tuple #[.pointer none,.int .i64 1])
 | some (o,rs)=>∃ zb g cap,e=.returned (.tuple #[.pointer (some ⟨zb,0,none⟩),.int .i64 0])∧base≤zb∧base≤g∧aN w' zb o g 0 cap rs
namespace Pa
open Ka Kd Rf Rg Ia Iow Ie Zb Zc Za Ze Zg Re Sb
theorem clone_any (s:ByteArray) (w:World) (hs:s.size≤281474976710656) :
  Calls Tryz.prog 57 #[.string s] w fun e w'=>e=.returned (.string s)∧Below w.heap.size w w':=by
 go_enter Tryz.func57,Tryz.ntmps57
 go_wp2_with fail
 refine (Tryz.stringslite_Clone s w hs).mono ?_
 rintro e w1 ⟨rfl,hb⟩
 go_wp2_with fail
 go_ret
 exact ⟨rfl,hb⟩
theorem new_any (o:Str) (b off n cap:Nat) (w:World) :
  Calls Tryz.prog 61 #[.string (B o),.slice (some ⟨b,off,none⟩) n cap] w fun e w'=>e=.returned (.pointer (some ⟨w.heap.size,0,none⟩))∧Below w.heap.size w w'∧w.heap.size<w'.heap.size ∧
   w'.cell? ⟨w.heap.size,0,none⟩=some (.string (B o))∧w'.cell? ⟨w.heap.size,1,none⟩=some (.slice (some ⟨b,off,none⟩) n cap):=by
 go_enter Tryz.func61,Tryz.ntmps61
 go_wp2_with fail
 go_ret
 exact ⟨rfl,(Below.refl _ _).alloc (Nat.le_refl _) _,by simp,by go_simp,by go_simp⟩
theorem own_some {w:World} {base:Nat} {v:Value} {rs:List Rec} (h:RecsOwn w base v rs) (hne:rs≠[]) :
  ∃ g cap cur,v=.slice (some ⟨g,0,none⟩) rs.length cap∧base≤g∧w.heap[g]? = some (.cells cur 47)∧rs.length≤cap∧bE w g 0 rs:=by
 have hrv:=h.rv
 obtain ⟨⟨hlen,hv⟩,hnil⟩:=h
 rcases hv with ⟨rfl,h0⟩ | ⟨g,cap,cur,rfl,hb,hcur,hc,hm,hsz,htk⟩
 ·exact absurd (hnil.1 rfl) hne
 ·refine ⟨g,cap,cur,rfl,hb,hcur,hc,?_⟩
  rcases hrv with ⟨e,_⟩ | ⟨b',off',cap',e,_,hr⟩
  ·cases e
  ·cases e; exact hr
end Pa
namespace Ta
open Go.Sort
end Ta
namespace Lh
open Ka Kd Rf Rg Ia Iow Ie Zb Zc Za La Lb Re Lc Le Lf Lg
end Lh
end Go.Proofs.YtkkpahmoljiepaaGreatDoor

namespace Go.Proofs
open Go.Shelf
def Tryz.lGrow_ren : Go.Shelf.Ren := ⟨fun | 4 => 249 | n => n, fun | 22 => 41 | 25 => 47 | 3 => 3 | 4 => 4 | 9 => 9 | 20 => 20 | 0 => 0 | n => n, fun | n => n⟩
theorem Tryz.lGrow : Go.Proofs.Lays8.n4 Tryz.prog Tryz.lGrow_ren := {
  mixed := by kernel_rfl
  f4 := ⟨Tryz.f249.name, by decide, Tryz.func249.trans (congrArg some (by kernel_rfl))⟩
  t0 := Tryz.underlying0
  a0 := Tryz.isAgg0
  z0 := Tryz.sizeOf0
  v0 := Tryz.zeroValue0
  t3 := Tryz.underlying3
  a3 := Tryz.isAgg3
  z3 := Tryz.sizeOf3
  v3 := Tryz.zeroValue3
  t4 := Tryz.underlying4
  a4 := Tryz.isAgg4
  z4 := Tryz.sizeOf4
  v4 := Tryz.zeroValue4
  t9 := Tryz.underlying9
  a9 := Tryz.isAgg9
  z9 := Tryz.sizeOf9
  v9 := Tryz.zeroValue9
  t20 := Tryz.underlying20
  a20 := Tryz.isAgg20
  z20 := Tryz.sizeOf20
  v20 := Tryz.zeroValue20
  t22 := Tryz.underlying41
  a22 := Tryz.isAgg41
  z22 := Tryz.sizeOf41
  v22 := Tryz.zeroValue41 }
end Go.Proofs

namespace Go.Proofs.YtkkpahmoljiepaaGreatDoor
open Go.RowKit
open Pu (Str aH aU)
namespace Li
open Ka Kd Rf Rg Ia Iow Ie Zb Zc Za La Lb Re Lc Le Lf Lg Lh
end Li
end Go.Proofs.YtkkpahmoljiepaaGreatDoor

namespace Go.Proofs.YtkkpahmoljiepaaGreatDoor
open Go.RowKit Go.Conc
open Pu (Str aH aU)
namespace Ld
open Ka
end Ld
end Go.Proofs.YtkkpahmoljiepaaGreatDoor

namespace Go.Proofs.YtkkpahmoljiepaaGreatDoor
open Go.RowKit
open Pu (Str aH aU)
namespace Lj
open Ka Kd Rf Rg Ia Iow Ie Zb Zc Za La Lb Re Lc Le Lf Lg Lh Li Ld
end Lj
namespace Lk
open Ka Kd Rf Rg Ia Iow Ie Zb Zc Za La Lb Re Lc Le Lf Lg Lh Li Ld Lj
end Lk
end Go.Proofs.YtkkpahmoljiepaaGreatDoor

namespace Go.Proofs.YtkkpahmoljiepaaGreatDoor
open Go.RowKit
open Pu (aH aU)
namespace Kc
open Ka
end Kc
end Go.Proofs.YtkkpahmoljiepaaGreatDoor

namespace Go.Proofs.YtkkpahmoljiepaaGreatDoor
open Go.RowKit
open Pu (Str aH aU)
namespace Tb
open Ta Kc
end Tb
namespace Va
open Go.Sort
end Va
namespace Vb
open Ka Kc Wa Wb Wd Wi Wl Wm Va
end Vb
namespace Hb
open Ka Kc Wa Wb Wc Wd We Wf Wg Wh Wi Wj Wk Wl Wm Ha Re
end Hb
def aB (w:World) (b:Nat) (cs:List Value) (t:TypeId):Prop:=w.heap[b]? = some (.cells cs.toArray t)
section
variable {w w':World} {b d:Nat} {cs:List Value} {t:TypeId}
theorem aB.lt (h:aB w b cs t):b<w.heap.size:=(Array.getElem?_eq_some_iff.1 h).1
theorem aB.cell (h:aB w b cs t) (i:Nat) (hi:i<cs.length):w.cell? ⟨b,i,none⟩=some cs[i]:=by
 unfold aB at h; simp [World.cell?,h,hi]
theorem aB.frozen (h:aB w b cs t) (i:Nat):w.frozen? ⟨b,i,none⟩=false:=by
 unfold aB at h; simp [World.frozen?,h]
theorem aB.set (h:aB w b cs t) (i:Nat) (v:Value):aB (w.setCell ⟨b,i,none⟩ v) b (cs.set i v) t:=by
 unfold aB at *; simp only [World.setCell]; rw [Array.getElem?_modify,if_pos rfl,h]; simp
theorem aB.kept (h:aB w b cs t) (hk:It.Keeps d w w') (hd:b≠d):aB w' b cs t:=(hk.block b h.lt hd).trans h
theorem aB.below (h:aB w b cs t) (hb:Below d w w') (hd:b<d):aB w' b cs t:=(hb.block b hd).trans h
theorem aB.alloc (h:aB w b cs t) (o:Obj):aB (w.alloc o) b cs t:=(Below.heap_alloc _ _ _ h.lt).trans h
theorem aB.new (w:World) (cs:List Value) (t:TypeId):aB (w.alloc (.cells cs.toArray t)) w.heap.size cs t:=World.alloc_heap_new _ _
end
namespace Hc
open Ka Kc Wa Wb Wc Wd We Wf Wg Wh Wi Wj Wk Wl Wm Ha Hb Re
def ifs (fs:List Fd):List Value:=fs.map fun f=>Value.iface f.t f.x
theorem ifs_cell (fs:List Fd) (W:World) (j:Nat) (h:j<fs.length):(W.alloc (.cells (ifs fs).toArray 297)).cell? ⟨W.heap.size,j,none⟩=some (.iface fs[j].t fs[j].x):=by
 have:=(aB.new W (ifs fs) 297).cell j (by simpa [ifs] using h)
 rw [this]; simp [ifs]
theorem written_new (fs:List Fd) (W:World) (hok : ∀ f∈fs,f.Ok) (hc:fs.length≤1000000) (hl:(outs fs).length≤1000000) :
  Calls Tryz.prog 199 #[.slice (some ⟨W.heap.size,0,none⟩) fs.length fs.length] (W.alloc (.cells (ifs fs).toArray 297)) fun e w'=>e=.returned (.string (B (outs fs)))∧Below W.heap.size W w':=by
 refine (written_any W.heap.size fs.length fs _ hok (by simp) (ifs_cell fs W) (Nat.le_refl _) hc hl).mono ?_
 rintro e w' ⟨rfl,hb⟩
 exact ⟨rfl,((Below.refl _ _).alloc (Nat.le_refl _) _).trans (hb.mono (by simp))⟩
theorem readFrame_any (s:Str) (w:World) (hl:s.length≤1000000000) {a s1 c s2 s3:Str} {k:Nat} {b1 b2 b3:Bool} (e1:takP s false 6=(a,s1,b1)) (e2:takP s1 b1 6=(c,s2,b2)) (e3:shortP s2 b2=(k,s3,b3)) :
  Calls Tryz.prog 79 #[.string (B s)] w fun e w'=>e=.returned (.tuple #[.agg #[.string (B a),.string (B c),.int .i64 k,.string (B s3)],.bool (!b3)])∧Below w.heap.size w w':=by
 have l1:=takP_len s false 6
 have l2:=takP_len s1 b1 6
 rw [e1] at l1
 rw [e2] at l2
 simp only at l1 l2
 have hz0:aB ((w.alloc (.cells #[.string ⟨#[]⟩,.string ⟨#[]⟩,.int .i64 0,.string ⟨#[]⟩] 150)).alloc (.cells #[.string (B s),.bool false] 215)) w.heap.size [.string ⟨#[]⟩,.string ⟨#[]⟩,.int .i64 0,.string ⟨#[]⟩] 150:=(aB.new w _ _).alloc _
 have hr0:RdAt ((w.alloc (.cells #[.string ⟨#[]⟩,.string ⟨#[]⟩,.int .i64 0,.string ⟨#[]⟩] 150)).alloc (.cells #[.string (B s),.bool false] 215)) (w.heap.size+1) s false:=by
  have:=World.alloc_heap_new (w.alloc (.cells #[.string ⟨#[]⟩,.string ⟨#[]⟩,.int .i64 0,.string ⟨#[]⟩] 150)) (.cells #[.string (B s),.bool false] 215)
  simpa [RdAt] using this
 have HB0:=aH (((Below.refl w.heap.size w).alloc (Nat.le_refl _) (.cells #[.string ⟨#[]⟩,.string ⟨#[]⟩,.int .i64 0,.string ⟨#[]⟩] 150)).alloc (by simp) (.cells #[.string (B s),.bool false] 215))
 have HC0:=aH (Wb.take_any _ 6 s false _ hr0 (by omega) hl)
 rw [e1] at HC0
 have HZ0:=aH hz0
 have HE2:=aH e2
 have HE3:=aH e3
 clear hz0 hr0 e1 e2 e3
 go_enter Tryz.func79,Tryz.ntmps79
 go_wp2_with fail
 refine (aU HC0).mono ?_
 rintro e w1 ⟨rfl,hr1,hk1,hs1⟩
 have HC1:=aH (Wb.take_any _ 6 s1 b1 w1 hr1 (by omega) (by omega))
 rw [aU HE2] at HC1
 have HZ1:=aH ((aU HZ0).kept hk1 (by omega))
 have HB1:=aH ((aU HB0).trans (hk1.below (by omega) (by simp; omega)))
 have HS1:Hid (w1.heap.size=w.heap.size+2):=by rw [Hid,hs1]; simp
 clear hr1 hk1 hs1 HC0 HZ0 HB0 HE2
 go_wp2_with fail
 refine (aU HC1).mono ?_
 rintro e w2 ⟨rfl,hr2,hk2,hs2⟩
 have HC2:=aH (short_any _ s2 b2 w2 hr2 (by omega))
 rw [aU HE3] at HC2
 have HZ2:=aH ((aU HZ1).kept hk2 (by omega))
 have HB2:=aH ((aU HB1).trans (hk2.below (by omega) (by have:=aU HS1; omega)))
 have HS2:Hid (w2.heap.size=w.heap.size+2):=by rw [Hid,hs2]; exact aU HS1
 clear hr2 hk2 hs2 HC1 HZ1 HB1 HS1 HE3
 go_wp2_with fail
 refine (aU HC2).mono ?_
 rintro e w3 ⟨rfl,hr3,hk3,hs3⟩
 have HZ3:=aH ((aU HZ2).kept hk3 (by omega))
 have HB3:=aH ((aU HB2).trans (hk3.below (by omega) (by have:=aU HS2; omega)))
 have hs:w3.heap.size=w.heap.size+2:=by rw [hs3]; exact aU HS2
 have hrx : ∀ x,RdAt (w3.alloc (.cells #[.string (B a),.string (B c),.int .i64 k,x] 150)) (w.heap.size+1) s3 b3:=fun x=>(Below.heap_alloc _ _ _ hr3.lt).trans hr3
 have hzx:=fun x=>(aU HZ3).alloc (.cells #[.string (B a),.string (B c),.int .i64 k,x] 150)
 have HB4:=aH (fun x=>(aU HB3).alloc (by omega) (.cells #[.string (B a),.string (B c),.int .i64 k,x] 150))
 have q0:=fun x=>(hrx x).cells.1
 have q1:=fun x=>(hrx x).cells.2
 have z0 : ∀ x,(w3.alloc (.cells #[.string (B a),.string (B c),.int .i64 k,x] 150)).cell? ⟨w.heap.size,0,none⟩=_:=fun x=>(hzx x).cell 0 (by simp)
 have z1 : ∀ x,(w3.alloc (.cells #[.string (B a),.string (B c),.int .i64 k,x] 150)).cell? ⟨w.heap.size,1,none⟩=_:=fun x=>(hzx x).cell 1 (by simp)
 have z2 : ∀ x,(w3.alloc (.cells #[.string (B a),.string (B c),.int .i64 k,x] 150)).cell? ⟨w.heap.size,2,none⟩=_:=fun x=>(hzx x).cell 2 (by simp)
 have z3 : ∀ x,(w3.alloc (.cells #[.string (B a),.string (B c),.int .i64 k,x] 150)).cell? ⟨w.heap.size,3,none⟩=_:=fun x=>(hzx x).cell 3 (by simp)
 simp only [List.getElem_cons_zero,List.getElem_cons_succ] at z0 z1 z2 z3
 have hfz : ∀ x i,(w3.alloc (.cells #[.string (B a),.string (B c),.int .i64 k,x] 150)).frozen? ⟨w.heap.size,i,none⟩=false:=fun x i=>(hzx x).frozen i
 have n1:w.heap.size≠w3.heap.size:=by omega
 have n2:w.heap.size+1≠w3.heap.size:=by omega
 have nz:w.heap.size≤w3.heap.size:=by omega
 clear hr3 hk3 hs3 HC2 HZ2 HB2 HS2 HZ3 hs HB3 hrx hzx
 go_wp2_with fail
 go_region
 all_goals
  go_wp2
  refine bodyPost_ret (v:=.tuple #[.agg #[.string (B a),.string (B c),.int .i64 k,.string (B s3)],.bool (!b3)]) (by simp [results,Tryz.results79,go_sem,z0,z1,z2,z3]) rfl ⟨rfl,?_⟩
  exact (((((aU HB4 _).drew).setCell (Nat.le_refl _) _).setCell (Nat.le_refl _) _).setCell (Nat.le_refl _) _).setCell (Nat.le_refl _) _
end Hc
def aF (w:World) (mb bb:Nat) (vl vm:Value) (wild:Bool) (cnt:Nat) (early d0 d1:Bool) (st:Nat):Prop :=
 aB w mb [.slice (some ⟨bb,0,none⟩) 25600 25600,vl,.bool wild,.slice none 0 0,.int .i64 cnt,vm,.bool early,.bool d0,.bool d1,.int .i64 st] 84
def RowB (w:World) (bb:Nat) (bs:Str):Prop:=bs.length=25600∧aB w bb (bs.map fun c=>Value.int .u8 c.toNat) 5
def OwnI (w:World) (base:Nat) (v:Value) (ns:List Int):Prop:=w.ownsRow base 3 1 v ns.length (ns.map (Value.int .i64))
def OwnM (w:World) (base:Nat) (v:Value) (ms:List (Int×Int)):Prop:=w.ownsRow base 177 2 v ms.length (ms.flatMap fun x=>[.int .i64 x.1,.int .i64 x.2])
namespace Qa
open Ka Wa Wb Wc Wd We Wf Wg Wh Wi Wj Wk Wl Wm Ha Hb Hc Re
section
variable {w w':World} {mb bb:Nat} {vl vm:Value} {wild early d0 d1:Bool} {cnt st:Nat}
theorem aF.at0 (h:aF w mb bb vl vm wild cnt early d0 d1 st):w.cell? ⟨mb,0,none⟩=some (.slice (some ⟨bb,0,none⟩) 25600 25600):=aB.cell h 0 (by simp)
theorem aF.at1 (h:aF w mb bb vl vm wild cnt early d0 d1 st):w.cell? ⟨mb,1,none⟩=some vl:=aB.cell h 1 (by simp)
theorem aF.at2 (h:aF w mb bb vl vm wild cnt early d0 d1 st):w.cell? ⟨mb,2,none⟩=some (.bool wild):=aB.cell h 2 (by simp)
theorem aF.at3 (h:aF w mb bb vl vm wild cnt early d0 d1 st):w.cell? ⟨mb,3,none⟩=some (.slice none 0 0):=aB.cell h 3 (by simp)
theorem aF.at4 (h:aF w mb bb vl vm wild cnt early d0 d1 st):w.cell? ⟨mb,4,none⟩=some (.int .i64 cnt):=aB.cell h 4 (by simp)
theorem aF.at5 (h:aF w mb bb vl vm wild cnt early d0 d1 st):w.cell? ⟨mb,5,none⟩=some vm:=aB.cell h 5 (by simp)
theorem aF.at6 (h:aF w mb bb vl vm wild cnt early d0 d1 st):w.cell? ⟨mb,6,none⟩=some (.bool early):=aB.cell h 6 (by simp)
theorem aF.at7 (h:aF w mb bb vl vm wild cnt early d0 d1 st):w.cell? ⟨mb,7,none⟩=some (.bool d0):=aB.cell h 7 (by simp)
theorem aF.at8 (h:aF w mb bb vl vm wild cnt early d0 d1 st):w.cell? ⟨mb,8,none⟩=some (.bool d1):=aB.cell h 8 (by simp)
theorem aF.at9 (h:aF w mb bb vl vm wild cnt early d0 d1 st):w.cell? ⟨mb,9,none⟩=some (.int .i64 st):=aB.cell h 9 (by simp)
theorem aF.set1 (h:aF w mb bb vl vm wild cnt early d0 d1 st) (v:Value):aF (w.setCell ⟨mb,1,none⟩ v) mb bb v vm wild cnt early d0 d1 st:=aB.set h 1 v
theorem aF.set4 (h:aF w mb bb vl vm wild cnt early d0 d1 st) (n:Nat):aF (w.setCell ⟨mb,4,none⟩ (.int .i64 n)) mb bb vl vm wild n early d0 d1 st:=aB.set h 4 (.int .i64 n)
theorem aF.set5 (h:aF w mb bb vl vm wild cnt early d0 d1 st) (v:Value):aF (w.setCell ⟨mb,5,none⟩ v) mb bb vl v wild cnt early d0 d1 st:=aB.set h 5 v
theorem aF.set6 (h:aF w mb bb vl vm wild cnt early d0 d1 st) (v:Bool):aF (w.setCell ⟨mb,6,none⟩ (.bool v)) mb bb vl vm wild cnt v d0 d1 st:=aB.set h 6 (.bool v)
theorem aF.set7 (h:aF w mb bb vl vm wild cnt early d0 d1 st) (v:Bool):aF (w.setCell ⟨mb,7,none⟩ (.bool v)) mb bb vl vm wild cnt early v d1 st:=aB.set h 7 (.bool v)
theorem aF.set8 (h:aF w mb bb vl vm wild cnt early d0 d1 st) (v:Bool):aF (w.setCell ⟨mb,8,none⟩ (.bool v)) mb bb vl vm wild cnt early d0 v st:=aB.set h 8 (.bool v)
theorem aF.set9 (h:aF w mb bb vl vm wild cnt early d0 d1 st) (n:Nat):aF (w.setCell ⟨mb,9,none⟩ (.int .i64 n)) mb bb vl vm wild cnt early d0 d1 n:=aB.set h 9 (.int .i64 n)
theorem aF.fz (h:aF w mb bb vl vm wild cnt early d0 d1 st) (i:Nat):w.frozen? ⟨mb,i,none⟩=false:=aB.frozen h i
theorem aF.lt (h:aF w mb bb vl vm wild cnt early d0 d1 st):mb<w.heap.size:=aB.lt h
theorem aF.of (h:aF w mb bb vl vm wild cnt early d0 d1 st) (hb:w'.heap[mb]? = w.heap[mb]?):aF w' mb bb vl vm wild cnt early d0 d1 st:=hb.trans h
end
theorem infoI:(Tryz.prog.info? 3).map (fun i=>(i.zero,i.size,i.bytes))=some (some (.int .i64 0),1,8):=by kernel_rfl
theorem underI:Tryz.prog.underlying 56=some (.slice 3):=by kernel_rfl
theorem own_ne {w:World} {base b:Nat} {t t':TypeId} {sz n:Nat} {v:Value} {xs:List Value} {cs:List Value} (hb:aB w b cs t') (ho:w.ownsRow base t sz v n xs) (ht:t'≠t):some b≠v.ownBlock:=fun e=>by
 obtain ⟨_,⟨rfl,_⟩ | ⟨g,cap,cur,rfl,_,hcur,_⟩⟩:=ho
 ·simp [Value.ownBlock] at e
 ·simp only [Value.ownBlock,Option.some.injEq] at e
  subst e
  unfold aB at hb
  rw [hb] at hcur
  simp at hcur
  exact ht hcur.2
theorem blk_ne {w:World} {b b':Nat} {cs cs':List Value} {t t':TypeId} (h:aB w b cs t) (h':aB w b' cs' t') (ht:t≠t'):b≠b':=fun e=>by
 subst e
 unfold aB at h h'
 rw [h] at h'
 simp at h'
 exact ht h'.2
theorem rest_any (mb bb:Nat) (vl vm:Value) (wild early d0 d1:Bool) (cnt st:Nat) (w:World) (h:aF w mb bb vl vm wild cnt early d0 d1 st) :
  Calls Tryz.prog 47 #[.pointer (some ⟨mb,0,none⟩)] w fun e w'=>e=.returned (.tuple #[])∧aF w' mb bb vl vm wild cnt early false false st∧It.Keeps mb w w'∧w'.heap.size=w.heap.size:=by
 have c7:=aF.at7 h
 have c8:=aF.at8 h
 have hf:=aF.fz h
 have HM:=aH h
 clear h
 go_enter Tryz.func47,Tryz.ntmps47
 go_wp2
 refine bodyPost_end (v:=.tuple #[]) (by simp [results,Tryz.results47]) rfl ?_
 exact ⟨rfl,aF.set8 (aF.set7 (aU HM) false) false,Keeps_set (Keeps_set (Keeps_refl _ _) _ _) _ _,by simp [World.setCell]⟩
theorem load_any (mb bb base n:Nat) (vl vm:Value) (wild early d0 d1:Bool) (cnt st:Nat) (bs:Str) (ns:List Int) (w:World) (h:aF w mb bb vl vm wild cnt early d0 d1 st) (hr:RowB w bb bs) (ho:OwnI w base vl ns) (hbs:base≤w.heap.size) (bv:UInt8) (hbv:bs[n]? = some bv) (hns:ns.length≤1000000) (hcnt:cnt≤1000000) :
  Calls Tryz.prog 159 #[.pointer (some ⟨mb,0,none⟩),.int .i64 n] w fun e w' =>
   e=.returned (.int .u8 bv.toNat)∧∃ vl',aF w' mb bb vl' vm wild (cnt+1) early false false st∧OwnI w' base vl' (ns++[(n:Int)])∧(vl'.ownBlock=vl.ownBlock∨∃ g,vl'.ownBlock=some g∧w.heap.size≤g)∧Fr (fun i=>i≠mb∧some i≠vl.ownBlock) w w':=by
 obtain ⟨i0,hi,hz0,hz1,hz2⟩:=info_parts infoI
 obtain ⟨hn,hbn⟩:=List.getElem?_eq_some_iff.1 hbv
 have hl:=hr.1
 have hne:some mb≠vl.ownBlock:=own_ne h ho (by decide)
 have hneb:some bb≠vl.ownBlock:=own_ne hr.2 ho (by decide)
 have hmb:mb≠bb:=blk_ne h hr.2 (by decide)
 have c3:=aF.at3 h
 have c4:=aF.at4 h
 have hf:=aF.fz h
 have HM:=aH h
 have HR:=aH hr
 have HO:=aH ho
 have hlt:=aF.lt h
 clear h hr ho
 obtain ⟨c1,hc1⟩ : ∃ c1,c1=cnt+1:=⟨_,rfl⟩
 have kc:(cnt:Int)+1=(c1:Int):=by omega
 have HRS:=aH (rest_any mb bb vl vm wild early d0 d1 c1 st (w.setCell ⟨mb,4,none⟩ (.int .i64 c1)).drew (aF.set4 (aU HM) c1))
 rw [← hc1]
 clear hc1
 go_enter Tryz.func159,Tryz.ntmps159
 go_wp2_with fail
 refine wp_loop_rounds 1 ?_
 rw [rounds_succ]
 go_wp2_with fail
 go_region
 go_wp2_with fail
 refine (aU HRS).mono ?_
 rintro e w1 ⟨rfl,hm1,hk1,hs1⟩
 have hblk1 : ∀ i,i<w.heap.size→i≠mb→w1.heap[i]? = w.heap[i]?:=fun i hi hne=>(hk1.block i (by simpa [World.setCell] using hi) hne).trans (Below.heap_setCell _ _ _ _ hne)
 have hsz1:w1.heap.size=w.heap.size:=by rw [hs1]; simp [World.setCell]
 have HO1:Hid (OwnI w1 base vl ns):=by
  obtain ⟨x1,x2⟩:=aU HO
  refine ⟨x1,?_⟩
  rcases x2 with x2 | ⟨g,cap,cur,rfl,hb,hcur,hrr⟩
  ·exact .inl x2
  ·exact .inr ⟨g,cap,cur,rfl,hb,(hblk1 g (Array.getElem?_eq_some_iff.1 hcur).1 (fun e=>hne (by rw [e]; rfl))).trans hcur,hrr⟩
 have HF1:Hid (Fr (fun i=>i≠mb∧some i≠vl.ownBlock) w w1):=⟨hk1.os,hk1.tape,hk1.output,by omega,fun i hi hp=>hblk1 i hi hp.1⟩
 have HR1:Hid (RowB w1 bb bs):=⟨hl,(hblk1 bb (aU HR).2.lt (fun e=>hmb e.symm)).trans (aU HR).2⟩
 have HM1:=aH hm1
 have a1:=aF.at1 hm1
 have hf1:=aF.fz hm1
 have hlt1:=aF.lt hm1
 have HS1:=aH hsz1
 have hbs1:base≤w1.heap.size:=by omega
 clear hm1 hk1 hs1 hblk1 HRS HM HR HO c3 c4 hf hsz1
 go_wp2_with (at_builtin; go_loud (refine wpList_append_own_at _ rfl (.tmp 75) (.tmp 77) 56 rfl base 3 i0 (.int .i64 0) 1 8 underI hi hz0 hz1 hz2 rfl (by decide) _ ns.length _ rfl ((aU HO1).alloc _) ⟨w1.heap.size,0,none⟩ 1 1 [.int .i64 n] rfl rfl ?c1 ?c2 ?c3 ?c4 ?c5 ?_))
 case c1 =>
  intro j u hj
  match j,hj with
  | 0,hj=>simp at hj; subst hj; simp [Addr.add]
  | n+1,hj=>simp at hj
 case c2=>intro u hu; simp at hu; subst hu; rfl
 case c3=>unfold maxLen; omega
 case c4=>omega
 case c5=>simp; omega
 intro v' w3 hown' hgrow _ hat
 obtain ⟨va,vn,vc,rfl⟩:=own_slice hown'
 have HO3:Hid (OwnI w3 base (.slice va vn vc) (ns++[(n:Int)])):=by
  unfold Hid OwnI
  rw [List.length_append,List.map_append]
  exact hown'
 have hblk : ∀ i,i<w1.heap.size→some i≠vl.ownBlock→w3.heap[i]? = w1.heap[i]?:=fun i hi hne =>
  (hgrow.block i (by simp; omega) hne).trans (Below.heap_alloc _ _ _ hi)
 have HM3:=aH (aF.of (aU HM1) (hblk mb hlt1 hne))
 have HR3:Hid (RowB w3 bb bs):=⟨hl,(hblk bb (aU HR1).2.lt hneb).trans (aU HR1).2⟩
 have HF3:Hid (Fr (fun i=>i≠mb∧some i≠vl.ownBlock) w w3) :=
  (aU HF1).trans ⟨hgrow.os,hgrow.tape,hgrow.output,Nat.le_trans (by simp) hgrow.size,fun i hi hp=>hblk i hi hp.2⟩
 have HA:Hid ((Value.slice va vn vc).ownBlock=vl.ownBlock∨∃ g,(Value.slice va vn vc).ownBlock=some g∧w.heap.size≤g):=by
  rcases hat with h | h
  ·exact .inl h
  ·exact .inr ⟨_,h,by have:=aU HS1; simp; omega⟩
 have hne3:some mb≠(Value.slice va vn vc).ownBlock:=own_ne (aU HM3) (aU HO3) (by decide)
 have hfz:=aF.fz (aU HM3)
 have b1:=aF.at1 (aU HM3)
 have b0:=aF.at0 (aU HM3)
 have hM4:=aF.set1 (aU HM3) (.slice va vn vc)
 have q0:=aF.at0 hM4
 have HM4:=aH hM4
 have hcell:(w3.setCell ⟨mb,1,none⟩ (.slice va vn vc)).cell? ⟨bb,n,none⟩=some (.int .u8 bv.toNat):=by
  have:=(aU HR3).2.cell n (by simpa using hn)
  rw [World.cell?_setCell_other _ _ _ _ (fun x=>hmb (by have:=congrArg Addr.block x; exact this)),this]
  simp [hbn]
 have hcell3:w3.cell? ⟨bb,n,none⟩=some (.int .u8 bv.toNat):=by
  have:=(aU HR3).2.cell n (by simpa using hn)
  rw [this]; simp [hbn]
 have hn':n<25600:=by omega
 clear hown' hgrow hat hblk hne hM4 HM1 HO1 HR1 HF1 a1 hf1 hlt1 hbs1 hl hn hbn hbv
 go_wp2
 go_ret
 refine ⟨rfl,_,aU HM4,?_,aU HA,(aU HF3).trans (Fr.of_set _ fun i h=>h.1)⟩
 exact aS (aU HO3) hne3 _ _
end Qa
end Go.Proofs.YtkkpahmoljiepaaGreatDoor
