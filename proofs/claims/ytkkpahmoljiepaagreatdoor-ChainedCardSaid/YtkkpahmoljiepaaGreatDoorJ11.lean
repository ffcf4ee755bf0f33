/- Contracts: cmp.Compare at string, cmp.Or at int, the comparison of records.Sort. -/
import Derived.Test.YtkkpahmoljiepaaGreatDoorJ03
import Derived.Deep.RegionHeld
import Derived.Test.YtkkpahmoljiepaaGreatDoorJ10
import Derived.Test.YtkkpahmoljiepaaGreatDoorJ09
import Derived.Deep.RegionLaw
import Derived.Deep.AppendLies
import Derived.Deep.LoopGhost
set_option linter.unusedSimpArgs false
set_option linter.unusedVariables false
set_option maxRecDepth 1000000
set_option maxHeartbeats 12800000
namespace Go.Proofs.YtkkpahmoljiepaaGreatDoor
open Go.RowKit
open Pu (Str aH aU)
namespace Sa
open Ka Kd
theorem isNaN_str (s:ByteArray) (w:World):Calls Tryz.prog 174 #[.string s] w fun e w'=>e=.returned (.bool false)∧w'=w:=by
 go_enter Tryz.func174,Tryz.ntmps174
 go_wp2
 go_ret
 exact ⟨by simp,rfl⟩
def cmpS (a b:Str):Int:=if Op.bytesLess a b then -1 else if a == b then 0 else 1
theorem compare_str (s t:ByteArray) (w:World):Calls Tryz.prog 105 #[.string s,.string t] w fun e w'=>e=.returned (.int .i64 (cmpS s.data.toList t.data.toList))∧w'=w:=by
 go_enter Tryz.func105,Tryz.ntmps105
 go_wp2_with (go_at_call 174; refine (isNaN_str _ _).mono ?_; rintro e w ⟨rfl,rfl⟩)
 all_goals
  go_ret
  refine ⟨ret_int ?_,rfl⟩
  unfold cmpS
  simp only [ByteArray.toList_eq] at *
  simp_all
def orV (x y:Int):Int:=if x=0 then y else x
theorem or2 (x y:Int) (b c:Nat) (w:World) (h0:w.cell? ⟨b,0,none⟩=some (.int .i64 x)) (h1:w.cell? ⟨b,1,none⟩=some (.int .i64 y)) :
  Calls Tryz.prog 104 #[.slice (some ⟨b,0,none⟩) 2 c] w fun e w'=>e=.returned (.int .i64 (orV x y))∧w'=w:=by
 by_cases hx:x=0
 ·have hfin:Hid (orV x y=y):=if_pos hx
  subst hx
  by_cases hy:y=0
  ·subst hy
   go_enter Tryz.func104,Tryz.ntmps104
   go_wp2
   go_loop [8] (fun i=>∃ k:Nat,k≤2∧i=.int .i64 k) (fun i=>2 - (intOf i).toNat)
   case atStart=>exact ⟨0,by omega,rfl⟩
   case round =>
    obtain ⟨k,hk,rfl⟩:=hrel
    match k,hk with
    | 0,_ =>
     go_wp2
     go_round
     case rel=>exact ⟨1,by omega,by go_num⟩
     case measure=>simp [intOf]
    | 1,_ =>
     go_wp2
     go_round
     case rel=>exact ⟨2,by omega,by go_num⟩
     case measure=>simp [intOf]
    | 2,_ =>
     go_wp2
     go_ret
     exact ⟨ret_int (aU hfin).symm,rfl⟩
  ·have hyb:(y != 0)=true:=by rw [bne_iff_ne]; exact hy
   go_enter Tryz.func104,Tryz.ntmps104
   go_wp2
   go_loop [8] (fun i=>∃ k:Nat,k≤1∧i=.int .i64 k) (fun i=>2 - (intOf i).toNat)
   case atStart=>exact ⟨0,by omega,rfl⟩
   case round =>
    obtain ⟨k,hk,rfl⟩:=hrel
    match k,hk with
    | 0,_ =>
     go_wp2
     go_round
     case rel=>exact ⟨1,by omega,by go_num⟩
     case measure=>simp [intOf]
    | 1,_ =>
     go_wp2
     go_ret
     exact ⟨ret_int (aU hfin).symm,rfl⟩
 ·have hxb:(x != 0)=true:=by rw [bne_iff_ne]; exact hx
  have hfin:Hid (orV x y=x):=if_neg hx
  go_enter Tryz.func104,Tryz.ntmps104
  go_wp2
  go_loop [8] (fun i=>i=.int .i64 0) (fun i=>2 - (intOf i).toNat)
  case atStart=>rfl
  case round =>
   obtain rfl:=hrel
   go_wp2
   go_ret
   exact ⟨ret_int (aU hfin).symm,rfl⟩
def cmpR (r s:Rec):Int:=orV (cmpS r.owner s.owner) (Lib.compareInt r.type s.type)
theorem sorted1 (r s:Rec) (w:World) :
  Calls Tryz.prog 103 #[.agg #[.string (B r.owner),.int .i64 r.ttl,.int .i64 r.type,.string (B r.data)],.agg #[.string (B s.owner),.int .i64 s.ttl,.int .i64 s.type,.string (B s.data)]] w fun e w' =>
   e=.returned (.int .i64 (cmpR r s))∧∃ q os',w'=Sort.grow (w.drewN q) os':=by
 have hc1 : ∀ W,Calls Tryz.prog 105 #[.string (B r.owner),.string (B s.owner)] W fun e w'=>e=.returned (.int .i64 (cmpS r.owner s.owner))∧w'=W:=fun W=>compare_str _ _ W
 have hc2 : ∀ W,Calls Tryz.prog 106 #[.int .i64 r.type,.int .i64 s.type] W fun e w'=>e=.returned (.int .i64 (Lib.compareInt r.type s.type))∧w'=W:=fun W=>Tryz.cmp_Compare_int _ _ W
 have HC1:=aH hc1
 have HC2:=aH hc2
 have hfin:Hid (cmpR r s=orV (cmpS r.owner s.owner) (Lib.compareInt r.type s.type)):=rfl
 generalize cmpS r.owner s.owner=x at *
 generalize Lib.compareInt r.type s.type=y at *
 clear hc1 hc2
 go_enter Tryz.func103,Tryz.ntmps103
 go_wp2_with fail
 go_region_held (fun w'=>w'.cell? ⟨w.heap.size,0,none⟩=some (.string (B r.owner))∧w'.cell? ⟨w.heap.size,2,none⟩=some (.int .i64 r.type)∧w'.cell? ⟨w.heap.size+1,0,none⟩=some (.string (B s.owner))∧w'.cell? ⟨w.heap.size+1,2,none⟩=some (.int .i64 s.type)) (go_keep)
  (first
   | (go_at_call 105; refine (aU HC1 _).mono ?_; rintro e w' ⟨rfl,rfl⟩)
   | (go_at_call 106; refine (aU HC2 _).mono ?_; rintro e w' ⟨rfl,rfl⟩)
   | (go_at_call 104; refine (or2 x y _ _ _ (by go_simp) (by go_simp)).mono ?_; rintro e w' ⟨rfl,rfl⟩))
 all_goals
  go_wp2_with fail
  go_ret
  refine ⟨ret_int (aU hfin).symm,1,#[.cells #[.string (B r.owner),.int .i64 r.ttl,.int .i64 r.type,.string (B r.data)] 47,.cells #[.string (B s.owner),.int .i64 s.ttl,.int .i64 s.type,.string (B s.data)] 47,.cells #[.int .i64 x,.int .i64 y] 3],?_⟩
  rw [Sort.alloc_eq_grow,Sort.alloc_eq_grow,Sort.alloc_eq_grow,Sort.grow_grow,Sort.grow_grow]
  rfl
end Sa
end Go.Proofs.YtkkpahmoljiepaaGreatDoor

namespace Go.Proofs.YtkkpahmoljiepaaGreatDoor
open Go.RowKit Go.Sort
open Pu (Str aH aU)
def sortL (rs:List Rec):List Rec:=(Sort.insertionSort (ltOf Sa.cmpR) rs.toArray 0 rs.length).toList
namespace Sb
open Ka Kd Sa
theorem holdsK_of {w:World} {g:Nat} {cur:Array Value} {e:TypeId} {rs:List Rec} (hg:w.heap[g]? = some (.cells cur e)) (hr:bE w g 0 rs):HoldsK Rec.enc 4 w g 0 rs.toArray:=by
 intro j hj
 rw [size_flatK] at hj
 simp only [List.size_toArray] at hj
 rw [get_flatK _ _ _ _ (by simpa using hj)]
 refine ⟨?_,by simp [World.frozen?,hg]⟩
 have hj4:j/4<rs.length:=by omega
 have hlen:(Rec.enc rs[j/4]!).length=4:=rfl
 have h1:(Rec.enc rs[j/4]!)[j%4]? = some (Rec.enc rs[j/4]!)[j%4]!:=by
  have hk:j%4<(Rec.enc rs[j/4]!).length:=by rw [hlen]; omega
  rw [List.getElem?_eq_getElem hk,getElem!_pos (Rec.enc rs[j/4]!) (j%4) hk]
 have:=hr.2 (j/4) hj4 (j%4) _ h1
 rw [show 0+j/4*4+j%4=0+j from by omega] at this
 rw [this]
 simp
theorem recsAt_of_holds {w:World} {g:Nat} {rs:List Rec} (hg:g<w.heap.size) (h:HoldsK Rec.enc 4 w g 0 rs.toArray):bE w g 0 rs:=by
 refine ⟨hg,fun j hj i u hu=>?_⟩
 have hi:i<4:=by have:=(List.getElem?_eq_some_iff.1 hu).1; exact this
 have hc:=(h.cell (i:=j) (c:=i) (by simpa using hj) hi).1
 rw [hc]
 have e:rs.toArray[j]! = rs[j]!:=by simp
 rw [e]
 rw [List.getElem?_eq_some_iff] at hu
 obtain ⟨h1,h2⟩:=hu
 rw [getElem!_pos (Rec.enc rs[j]!) i h1,h2]
theorem cmpLays (blk off size:Nat) (w:World):CmpLays Tryz.prog 103 #[] Rec.enc 4 cmpR blk off size w :=
 fun _ _ _ _ x y=>sorted1 x y _
theorem size_ins (lt:Rec→Rec→Bool) (a:Nat) : ∀ (j:Nat) (d:Array Rec),(insInner lt a j d).size=d.size
 | 0,d=>rfl
 | j+1,d=>by
  rw [insInner]
  split
  ·rw [size_ins lt a j,size_swp]
  ·rfl
theorem size_out (lt:Rec→Rec→Bool) (a b:Nat) : ∀ (f i:Nat) (d:Array Rec),b - i≤f→(insOuter lt a b i d).size=d.size
 | 0,i,d,h=>by rw [insOuter,if_neg (by omega)]
 | f+1,i,d,h=>by
  rw [insOuter]
  split
  ·rw [size_out lt a b f _ _ (by omega),size_ins]
  ·rfl
theorem size_sort (lt:Rec→Rec→Bool) (d:Array Rec) (a b:Nat):(Sort.insertionSort lt d a b).size=d.size:=size_out lt a b _ _ d (Nat.le_refl _)
theorem sortL_len (rs:List Rec):(sortL rs).length=rs.length:=by
 unfold sortL; rw [Array.length_toList,size_sort]; simp
theorem all_swp {p:Rec→Prop} {d:Array Rec} (h : ∀ k,k<d.size→p d[k]!) {i j:Nat} (hi:i<d.size) (hj:j<d.size) : ∀ k,k<(swp d i j).size→p (swp d i j)[k]!:=by
 intro k hk
 rw [size_swp] at hk
 unfold swp
 have hk1:k<(d.setIfInBounds i d[j]!).size:=by simpa using hk
 have hk2:k<((d.setIfInBounds i d[j]!).setIfInBounds j d[i]!).size:=by simpa using hk
 rw [getElem!_pos _ k hk2,Array.getElem_setIfInBounds hk1]
 split
 ·exact h i hi
 ·rw [Array.getElem_setIfInBounds hk]
  split
  ·exact h j hj
  ·rw [← getElem!_pos d k hk]; exact h k hk
theorem all_ins {p:Rec→Prop} (lt:Rec→Rec→Bool) (a:Nat) : ∀ (j:Nat) (d:Array Rec),j<d.size→(∀ k,k<d.size→p d[k]!)→∀ k,k<(insInner lt a j d).size→p (insInner lt a j d)[k]!
 | 0,d,_,h=>h
 | j+1,d,hj,h=>by
  rw [insInner]
  split
  ·exact all_ins lt a j _ (by rw [size_swp]; omega) (all_swp h hj (by omega))
  ·exact h
theorem all_out {p:Rec→Prop} (lt:Rec→Rec→Bool) (a b:Nat) : ∀ (f i:Nat) (d:Array Rec),b - i≤f→b≤d.size→(∀ k,k<d.size→p d[k]!)→∀ k,k<(insOuter lt a b i d).size→p (insOuter lt a b i d)[k]!
 | 0,i,d,hf,hb,h=>by rw [insOuter,if_neg (by omega)]; exact h
 | f+1,i,d,hf,hb,h=>by
  rw [insOuter]
  split
  ·exact all_out lt a b f _ _ (by omega) (by rw [size_ins]; exact hb) (all_ins lt a i d (by omega) h)
  ·exact h
theorem sortL_all {p:Rec→Prop} {rs:List Rec} (h : ∀ r∈rs,p r) : ∀ r∈sortL rs,p r:=by
 intro r hr
 obtain ⟨k,hk,rfl⟩:=List.getElem_of_mem hr
 have hk':k<(Sort.insertionSort (ltOf cmpR) rs.toArray 0 rs.length).size:=by unfold sortL at hk; simpa using hk
 have:=all_out (p:=p) (ltOf cmpR) 0 rs.length _ 1 rs.toArray (Nat.le_refl _) (by simp) (fun k hk=>by
  have hk2:k<rs.length:=by simpa using hk
  have e:rs.toArray[k]! = rs[k]:=by simp [hk2]
  rw [e]; exact h _ (List.getElem_mem _)) k hk'
 have e:(sortL rs)[k]=(Sort.insertionSort (ltOf cmpR) rs.toArray 0 rs.length)[k]!:=by
  unfold sortL
  rw [getElem!_pos _ k hk']; simp
 exact e ▸ this
theorem below_sort {B g n:Nat} {a w:World} {dk:Array Rec} {os:Array Obj} (h:Below B a w) (hg:B≤g) (hB:B≤w.heap.size):Below B a (sortWorldK Rec.enc 4 w g 0 n dk os):=by
 refine h.trans ⟨rfl,rfl,rfl,?_,fun k hk=>?_⟩
 ·exact size_sortWorldK_c Rec.enc 4 w g 0 n dk os
 ·unfold sortWorldK putRowK putRow mapBlock Sort.grow Sort.ahead
  show ((w.heap.modify g _)++os)[k]? = w.heap[k]?
  rw [Array.getElem?_append_left (by rw [Array.size_modify]; omega),Array.getElem?_modify,if_neg (by omega)]
end Sb
end Go.Proofs.YtkkpahmoljiepaaGreatDoor

set_option maxRecDepth 1000000
set_option maxHeartbeats 12800000
namespace Go.Proofs.YtkkpahmoljiepaaGreatDoor
open Go.RowKit
open Pu (Str aH aU)
def parseP (t:Str):Option (Str×List Rec) :=
 (readZ t).bind fun x=>if Rf.startsR x.1 x.2 && rightP x.1 (sortL x.2) then some (x.1,sortL x.2) else none
def parseR (o:Option (Str×List Rec)) (base:Nat) (e:Ending) (w':World):Prop :=
 match o with
 | none=>e=.returned (.tuple #[.pointer none,.int .i64 1])
 | some (o,rs)=>∃ zb g cap,e=.returned (.tuple #[.pointer (some ⟨zb,0,none⟩),.int .i64 0])∧base≤zb∧base≤g∧aN w' zb o g 0 cap rs
namespace Pa
open Ka Kd Rf Rg Ia Iow Ie Zb Zc Za Ze Zg Re Sb
theorem clone_any (s:ByteArray) (w:World) (hs:s.size≤281474976710656) :
  Calls Tryz.prog 57 #[.string s] w fun e w'=>e=.returned (.string s)∧Below w.heap.size w w':=by
 go_enter Tryz.func57,Tryz.ntmps57
 go_wp2_with fail
 refine (Tryz.stringslite_Clone s w hs).mono ?_
 rintro e w1 ⟨rfl,hb⟩
 go_wp2_with fail
 go_ret
 exact ⟨rfl,hb⟩
theorem new_any (o:Str) (b off n cap:Nat) (w:World) :
  Calls Tryz.prog 61 #[.string (B o),.slice (some ⟨b,off,none⟩) n cap] w fun e w'=>e=.returned (.pointer (some ⟨w.heap.size,0,none⟩))∧Below w.heap.size w w'∧w.heap.size<w'.heap.size ∧
   w'.cell? ⟨w.heap.size,0,none⟩=some (.string (B o))∧w'.cell? ⟨w.heap.size,1,none⟩=some (.slice (some ⟨b,off,none⟩) n cap):=by
 go_enter Tryz.func61,Tryz.ntmps61
 go_wp2_with fail
 go_ret
 exact ⟨rfl,(Below.refl _ _).alloc (Nat.le_refl _) _,by simp,by go_simp,by go_simp⟩
theorem own_some {w:World} {base:Nat} {v:Value} {rs:List Rec} (h:RecsOwn w base v rs) (hne:rs≠[]) :
  ∃ g cap cur,v=.slice (some ⟨g,0,none⟩) rs.length cap∧base≤g∧w.heap[g]? = some (.cells cur 47)∧rs.length≤cap∧bE w g 0 rs:=by
 have hrv:=h.rv
 obtain ⟨⟨hlen,hv⟩,hnil⟩:=h
 rcases hv with ⟨rfl,h0⟩ | ⟨g,cap,cur,rfl,hb,hcur,hc,hm,hsz,htk⟩
 ·exact absurd (hnil.1 rfl) hne
 ·refine ⟨g,cap,cur,rfl,hb,hcur,hc,?_⟩
  rcases hrv with ⟨e,_⟩ | ⟨b',off',cap',e,_,hr⟩
  ·cases e
  ·cases e; exact hr
end Pa
def aL (w:World) (rb:Nat) (c0 c1 c2 c3 c4:Value):Prop:=w.heap[rb]? = some (.cells #[c0,c1,c2,c3,c4] 43)
theorem aL.cells {w:World} {rb:Nat} {c0 c1 c2 c3 c4:Value} (h:aL w rb c0 c1 c2 c3 c4):w.cell? ⟨rb,0,none⟩=some c0∧w.cell? ⟨rb,1,none⟩=some c1∧w.cell? ⟨rb,2,none⟩=some c2∧w.cell? ⟨rb,3,none⟩=some c3∧w.cell? ⟨rb,4,none⟩=some c4:=by
 unfold aL at h
 refine ⟨?_,?_,?_,?_,?_⟩ <;> simp [World.cell?,h]
theorem aL.frozen {w:World} {rb:Nat} {c0 c1 c2 c3 c4:Value} (h:aL w rb c0 c1 c2 c3 c4) (i:Nat):w.frozen? ⟨rb,i,none⟩=false:=by
 unfold aL at h; simp [World.frozen?,h]
theorem aL.set0 {w:World} {rb:Nat} {c0 c1 c2 c3 c4:Value} (h:aL w rb c0 c1 c2 c3 c4) (x:Value):aL (w.setCell ⟨rb,0,none⟩ x) rb x c1 c2 c3 c4:=by
 unfold aL at *; simp only [World.setCell]; rw [Array.getElem?_modify,if_pos rfl,h]; rfl
theorem aL.set1 {w:World} {rb:Nat} {c0 c1 c2 c3 c4:Value} (h:aL w rb c0 c1 c2 c3 c4) (x:Value):aL (w.setCell ⟨rb,1,none⟩ x) rb c0 x c2 c3 c4:=by
 unfold aL at *; simp only [World.setCell]; rw [Array.getElem?_modify,if_pos rfl,h]; rfl
theorem aL.set2 {w:World} {rb:Nat} {c0 c1 c2 c3 c4:Value} (h:aL w rb c0 c1 c2 c3 c4) (x:Value):aL (w.setCell ⟨rb,2,none⟩ x) rb c0 c1 x c3 c4:=by
 unfold aL at *; simp only [World.setCell]; rw [Array.getElem?_modify,if_pos rfl,h]; rfl
theorem aL.set3 {w:World} {rb:Nat} {c0 c1 c2 c3 c4:Value} (h:aL w rb c0 c1 c2 c3 c4) (x:Value):aL (w.setCell ⟨rb,3,none⟩ x) rb c0 c1 c2 x c4:=by
 unfold aL at *; simp only [World.setCell]; rw [Array.getElem?_modify,if_pos rfl,h]; rfl
theorem aL.set4 {w:World} {rb:Nat} {c0 c1 c2 c3 c4:Value} (h:aL w rb c0 c1 c2 c3 c4) (x:Value):aL (w.setCell ⟨rb,4,none⟩ x) rb c0 c1 c2 c3 x:=by
 unfold aL at *; simp only [World.setCell]; rw [Array.getElem?_modify,if_pos rfl,h]; rfl
namespace Lj
open Ka Kd Rf Rg Ia Iow Ie Zb Zc Za La Lb Re Lc Le Lf Lg Lh Li Ld
end Lj
namespace Lm
open Ka Kd Rf Rg Ia Iow Ie Zb Zc Za La Lb Re Lc Le Lf Lg Lh Li Ld Lj
theorem new4 (W:World) (b:Nat) (hb:b=W.heap.size) (r:Rec) (t:TypeId) : ∀ (j:Nat) (u:Value),(encs [r])[j]? = some u→(W.alloc (.cells #[.string (B r.owner),.int .i64 r.ttl,.int .i64 r.type,.string (B r.data)] t)).cell? ((⟨b,0,none⟩:Addr).add j)=some u:=fun j u hj=>by
 subst hb
 simp only [encs,Rec.enc,List.flatMap_cons,List.flatMap_nil,List.append_nil] at hj
 have hn:=World.alloc_heap_new W (.cells #[.string (B r.owner),.int .i64 r.ttl,.int .i64 r.type,.string (B r.data)] t)
 generalize W.alloc (.cells #[.string (B r.owner),.int .i64 r.ttl,.int .i64 r.type,.string (B r.data)] t)=W' at hn ⊢
 generalize W.heap.size=b at hn ⊢
 match j,hj with
 | 0,hj=>simp at hj; subst hj; simp [Addr.add,World.cell?,hn]
 | 1,hj=>simp at hj; subst hj; simp [Addr.add,World.cell?,hn]
 | 2,hj=>simp at hj; subst hj; simp [Addr.add,World.cell?,hn]
 | 3,hj=>simp at hj; subst hj; simp [Addr.add,World.cell?,hn]
 | n+4,hj=>simp at hj
theorem link_add (sb zb cb b off cap:Nat) (k:Int) (au:Bool) (va vb vc:Value) (o:Str) (rs ans:List Rec) (r:Rec) (w:World) (hs:aM w sb zb k 0 au va vb vc cb) (ho:OwnR w (sb+1) va ans)
  (hz:aN w zb o b off cap rs) (hzs:zb<sb) (hd:r.data.length≤3000) (hol:o.length≤3000) (h8:ans.length<8) :
  Calls Tryz.prog 247 #[.pointer (some ⟨sb,0,none⟩),r.val] w fun e w'=>e=.returned (.tuple #[.string (B r.data),.bool (Sp.under r.data o)])∧(∃ va',aM w' sb zb k 0 au va' vb vc cb∧OwnR w' (sb+1) va' (ans++[r]))∧Below sb w w':=by
 obtain ⟨i0,hi,hz0,hz1,hz2⟩:=info_parts infoR
 obtain ⟨aa,ac,rfl⟩:=ho.slice
 have hslt:=hs.lt
 have hown:=ho.own_lt
 have hne:some sb≠(Value.slice aa ans.length ac).ownBlock:=fun e=>by have:=hown sb e.symm; omega
 have hnz:some zb≠(Value.slice aa ans.length ac).ownBlock:=fun e=>by have:=hown zb e.symm; omega
 have hnw:some w.heap.size≠(Value.slice aa ans.length ac).ownBlock:=fun e=>by have:=hown _ e.symm; omega
 obtain ⟨s0,s1,s2,s3,s4,s5,s6,s7⟩:=hs.cells
 have h8I:((ans.length:Int) == 8)=false:=by rw [beq_eq_false_iff_ne]; omega
 have HU:Hid (∀ W,Calls Tryz.prog 110 #[.string (B r.data),.string (B o)] W fun e w'=>e=.returned (.bool (Sp.under r.data o))∧w'=W):=fun W=>by
  have:=under_any (B r.data) (B o) W (by rw [size_B]; omega) (by rw [size_B]; omega)
  rw [data_B,data_B] at this
  exact this
 generalize Sp.under r.data o=ud at HU ⊢
 have HS:=aH hs
 have HO:=aH ho
 have HOL:=aH hown
 have hz0':=hz.2.1
 have hzlt:=hz.1
 clear hs ho hown hz s0 s1 s2 s3 s5 s6 s7
 unfold Rec.val
 go_enter Tryz.func247,Tryz.ntmps247
 go_upto_region 4 with fail
 go_region_law (first | (refine step_append_lies _ rfl (.tmp 25) (.tmp 27) 41 rfl (sb+1) 47 i0 _ 4 48 underR hi hz0 hz1 hz2 rfl (by decide) _ ans.length (encs ans) rfl (((aU HO).alloc _).alloc _) _ 1 1 (encs [r]) rfl rfl (new4 _ _ (by simp) r _) encs_one (by decide) (by unfold maxLen; omega) (by omega) (by simp; omega) (w.heap.size+2) (by simp) ?_; intro g cap' w3 hown hgrow hat hlt3; have hblk : ∀ i,i<w.heap.size+1→some i≠(Value.slice aa ans.length ac).ownBlock→w3.heap[i]? = (w.alloc (.cells #[.string (B r.owner),.int .i64 r.ttl,.int .i64 r.type,.string (B r.data)] 47)).heap[i]?:=(fun i hi hn=>(hgrow.block i (by simp; omega) hn).trans (Below.heap_alloc _ _ _ (by simp; omega))); have hs3:aM w3 sb zb k 0 au (.slice aa ans.length ac) vb vc cb:=(aU HS).kept ((hblk sb (by omega) hne).trans (Below.heap_alloc _ _ _ hslt)); have hf3:=hs3.frozen; have t4:=hs3.cells.2.2.2.2.1))
 all_goals
  have hown':OwnR w3 (sb+1) (.slice (some ⟨g,0,none⟩) (ans.length+1) cap') (ans++[r]):=by
   unfold OwnR
   rw [List.length_append,encs_app]
   exact hown
  have hgr:(Value.slice (some ⟨g,0,none⟩) (ans.length+1) cap').ownBlock=some g:=rfl
  have hbox:w3.heap[w.heap.size]? = some (.cells #[.string (B r.owner),.int .i64 r.ttl,.int .i64 r.type,.string (B r.data)] 47):=(hblk w.heap.size (by omega) hnw).trans (World.alloc_heap_new w _)
  have hzz:w3.cell? ⟨zb,0,none⟩=some (.string (B o)):=(World.cell?_of_block ((hblk zb (by omega) hnz).trans (Below.heap_alloc _ _ _ hzlt))).trans hz0'
  have hge:sb+1≤g:=(hown'.own_lt g hgr).1
  have HB:Hid (Below sb w w3):=⟨hgrow.os,hgrow.tape,hgrow.output,Nat.le_trans (by simp; omega) hgrow.size,fun i hi=>(hblk i (by omega) (fun e=>by have:=aU HOL i e.symm; omega)).trans (Below.heap_alloc _ _ _ (by omega))⟩
  have HS4:=aH (hs3.set4 (.slice (some ⟨g,0,none⟩) (ans.length+1) cap'))
  have HO4:=aH (hown'.set_low (k:=sb) (i:=4) (by omega) (.slice (some ⟨g,0,none⟩) (ans.length+1) cap'))
  have q3:(w3.setCell ⟨sb,4,none⟩ (.slice (some ⟨g,0,none⟩) (ans.length+1) cap')).cell? ⟨w.heap.size,3,none⟩=some (.string (B r.data)):=by
   rw [World.cell?_setCell_other _ _ _ _ (fun x=>by have:=congrArg Addr.block x; simp at this; omega)]
   simp [World.cell?,hbox]
  have qz:(w3.setCell ⟨sb,4,none⟩ (.slice (some ⟨g,0,none⟩) (ans.length+1) cap')).cell? ⟨zb,0,none⟩=some (.string (B o)):=by
   rw [World.cell?_setCell_other _ _ _ _ (fun x=>by have:=congrArg Addr.block x; simp at this; omega)]
   exact hzz
  have q0:=(aU HS4).cells.1
  clear hown hgrow hat hblk hs3 hown' hbox hzz hf3 t4
  go_wp2_with fail
  go_region_held (fun w'=>w'.cell? ⟨w.heap.size,3,none⟩=some (.string (B r.data))∧w'.cell? ⟨sb,0,none⟩=some (.pointer (some ⟨zb,0,none⟩))∧w'.cell? ⟨zb,0,none⟩=some (.string (B o))) (first | assumption | exact ⟨q3,q0,qz⟩ | go_keep)
   (first | (go_at_call 110; refine (aU HU _).mono ?_; rintro e w' ⟨rfl,rfl⟩))
  all_goals
   go_wp2_with fail
   go_ret2
   have hb9:=(aU HB).setCell (p:=⟨sb,4,none⟩) (Nat.le_refl sb) (.slice (some ⟨g,0,none⟩) (ans.length+1) cap')
   exact ⟨rfl,⟨_,aU HS4,aU HO4⟩,⟨hb9.os,hb9.tape,hb9.output,hb9.size,hb9.block⟩⟩
theorem link_full (sb zb cb c:Nat) (k:Int) (au:Bool) (va vb vc:Value) (ans:List Rec) (r:Rec) (w:World) (hs:aM w sb zb k 0 au va vb vc cb) (ho:OwnR w (sb+1) va ans) (hc:CancelAt w cb c false) (hne:cb≠c) (hcs:c<sb) (h8:ans.length=8) :
  Calls Tryz.prog 247 #[.pointer (some ⟨sb,0,none⟩),r.val] w fun e w'=>e=.returned (.tuple #[.string (B r.data),.bool true])∧aM w' sb zb k 0 au va vb vc cb∧CancelAt w' cb c true∧∀ n,n≤c→Below n w w':=by
 obtain ⟨aa,ac,rfl⟩:=ho.slice
 have hslt:=hs.lt
 have hclt:=hc.lt
 obtain ⟨s0,s1,s2,s3,s4,s5,s6,s7⟩:=hs.cells
 have h8I:((ans.length:Int) == 8)=true:=by rw [beq_iff_eq]; omega
 have hbx:Below w.heap.size w (w.alloc (.cells #[.string (B r.owner),.int .i64 r.ttl,.int .i64 r.type,.string (B r.data)] 47)):=(Below.refl _ _).alloc (Nat.le_refl _) _
 have HC:=aH (call_any cb c _ (hc.below hbx hc.1 hclt) hne)
 have hbox:(w.alloc (.cells #[.string (B r.owner),.int .i64 r.ttl,.int .i64 r.type,.string (B r.data)] 47)).heap[w.heap.size]? = some (.cells #[.string (B r.owner),.int .i64 r.ttl,.int .i64 r.type,.string (B r.data)] 47):=World.alloc_heap_new w _
 have HS:=aH hs
 clear hs ho hc s0 s1 s2 s3 s5 s6
 unfold Rec.val
 go_enter Tryz.func247,Tryz.ntmps247
 go_wp2_with fail
 refine (aU HC).mono ?_
 rintro e w1 ⟨⟨v,rfl⟩,hc1,hblk,hsz,hB⟩
 have q3:w1.cell? ⟨w.heap.size,3,none⟩=some (.string (B r.data)):=by
  have:=(hblk w.heap.size (by omega)).trans hbox
  simp [World.cell?,this]
 have HS1:=aH ((aU HS).kept ((hblk sb (by omega)).trans (Below.heap_alloc _ _ _ hslt)))
 have HC1:=aH hc1
 have HB:=aH hB
 clear hc1 hblk hB hbox
 go_wp2_with fail
 go_ret2
 exact ⟨rfl,aU HS1,aU HC1,fun n hn=>(hbx.mono (by omega)).trans (aU HB n hn)⟩
end Lm
def linkP (o:Str) (rs:List Rec) (n:Str):Option Rec:=if (cutP o rs n).length=0∧(matchP rs n).2=true∧aliasP (matchP rs n).1=true then some ((matchP rs n).1.headD Rec.zero) else none
def chase (o:Str) (rs:List Rec):Nat→Str→Option (List Rec×Option Str)
 | 0,n=>match linkP o rs n with
  | none=>some ([],some n)
  | some _=>none
 | m+1,n=>match linkP o rs n with
  | none=>some ([],some n)
  | some r=>if Sp.under r.data o=true then (chase o rs m r.data).map (fun x=>(r :: x.1,x.2)) else some ([r],none)
def finRc (o:Str) (rs:List Rec):Option Str→Int
 | some x=>stepRc o rs x
 | none=>0
def finAns (o:Str) (rs:List Rec) (k:Int):Option Str→List Rec
 | some x=>aQ o rs k x
 | none=>[]
def finAuth (o:Str) (rs:List Rec) (k:Int):Option Str→List Rec
 | some x=>aP o rs k x
 | none=>[]
namespace Ln
open Ka Kd Rf Rg Ia Iow Ie Zb Zc Za La Lb Re Lc Le Lf Lg Lh Li Ld Lj Lm
theorem step_alias (sb zb cb b off cap:Nat) (k:Int) (au:Bool) (va vb vc:Value) (o n:Str) (rs:List Rec) (r:Rec) (t:Bool) (R:World→Prop) (w:World) (hs:aM w sb zb k 0 au va vb vc cb)
  (hz:aN w zb o b off cap rs) (hg:G w) (hfit:Fit o rs) (hn:n.length≤2900) (h5:(k == 5)=false) (h255:(k == 255)=false)
  (hc:(cutP o rs n).length=0) (hm:(matchP rs n).2=true) (hr:(matchP rs n).1 = [r]) (hal:aliasP [r]=true)
  (HL : ∀ W,Below w.heap.size w W→Calls Tryz.prog 247 #[.pointer (some ⟨sb,0,none⟩),r.val] W fun e w'=>e=.returned (.tuple #[.string (B r.data),.bool t])∧R w') :
  Calls Tryz.prog 194 #[.pointer (some ⟨sb,0,none⟩),.string (B n)] w fun e w'=>e=.returned (.tuple #[.string (B r.data),.bool t])∧R w':=by
 obtain ⟨hlen,hol,hrl⟩:=hfit
 have h5b:(k != 5)=true:=by unfold bne; rw [h5]; rfl
 have h255b:(k != 255)=true:=by unfold bne; rw [h255]; rfl
 clear h5 h255
 have hslt:=hs.lt
 obtain ⟨s0,s1,_⟩:=hs.cells
 have HZ:=aH hz
 have HG:=aH hg
 have HC:=aH (cutOver_any zb b off cap o n rs w hz hg hlen (by omega) hol)
 have HKS:Hid (∀ W,Below w.heap.size w W→aM W sb zb k 0 au va vb vc cb):=fun W hb=>hs.kept (hb.block sb hslt)
 have HLL:=aH HL
 clear hs hz hg HL
 have hcI : ¬ (0:Int)<((cutP o rs n).length:Int):=by omega
 clear hc
 have HM:=aH (fun W (hb:Below w.heap.size w W)=>match_any zb b off cap o n rs W ((aU HZ).below hb) ((aU HG).below hb) hlen hn (fun r hr=>(hrl r hr).1))
 go_enter Tryz.func194,Tryz.ntmps194
 go_wp2_with fail
 refine (aU HC).mono ?_
 rintro e w1 ⟨⟨v1,rfl,hv1⟩,hb1⟩
 obtain ⟨a1,c1,rfl⟩:=hv1.slice
 clear hv1
 obtain ⟨t0,t1,_⟩:=(aU HKS w1 hb1).cells
 go_wp2_with fail
 refine (aU HM w1 hb1).mono ?_
 rintro e w2 ⟨⟨v2,rfl,hv2⟩,hb2⟩
 rw [hm]
 rw [hr] at hv2
 have hb12:=hb1.trans (hb2.mono hb1.size)
 have hs2:=aU HKS w2 hb12
 obtain ⟨u0,u1,u2,u3,u4,u5,u6,u7⟩:=hs2.cells
 have HAL:=aH (isAlias_any v2 _ w2 hv2.rv (by simp))
 rw [hal] at HAL
 have hrv:=hv2.rv
 clear hv2 hs2 u0 u2 u3 u4 u5 u6 u7
 rcases hrv with ⟨_,h⟩ | ⟨b',off',cap',rfl,hcp,hr2⟩
 ·cases h
 obtain ⟨c0,c1',c2,c3⟩:=hr2.four 0 (by simp)
 simp only [Nat.zero_mul,Nat.add_zero,List.getElem_cons_zero] at c0 c1' c2 c3
 have HLW:=aH (aU HLL w2 hb12)
 unfold Rec.val at HLW
 clear hr2 HLL
 simp only [List.length_cons,List.length_nil] at hcp HAL ⊢
 go_wp2_with fail
 refine (aU HAL).mono ?_
 rintro e w2 ⟨rfl,rfl⟩
 go_wp2_with fail
 refine (aU HLW).mono ?_
 rintro e w3 ⟨rfl,hR⟩
 have HR:=aH hR
 clear hR
 go_wp2_with fail
 go_ret2
 exact ⟨rfl,aU HR⟩
theorem G_low {w w':World} {n:Nat} (h:G w) (hb:Below n w w') (h0:0<n):G w':=by
 obtain ⟨h1,m,h2⟩:=h
 exact ⟨Nat.lt_of_lt_of_le h1 hb.size,m,(hb.cell (p:=⟨0,0,none⟩) h0).trans h2⟩
theorem linkP_some {o:Str} {rs:List Rec} {n:Str} {r:Rec} (h:linkP o rs n=some r):(cutP o rs n).length=0∧(matchP rs n).2=true∧(matchP rs n).1 = [r]∧aliasP [r]=true:=by
 unfold linkP at h
 split at h
 ·rename_i hh
  obtain ⟨h1,h2,h3⟩:=hh
  have h4:=h3
  unfold aliasP at h4
  simp only [Bool.and_eq_true,beq_iff_eq] at h4
  obtain ⟨x,hx⟩:=List.length_eq_one_iff.1 h4.1
  rw [hx] at h h3
  simp only [List.headD_cons,Option.some.injEq] at h
  subst h
  exact ⟨h1,h2,hx,h3⟩
 ·cases h
structure Chase (V:Str→Prop) (o:Str) (rs:List Rec) (k:Int):Prop where
 fit:Fit o rs
 soa : ∀ r∈setP (ofP rs o) 6,soaOk r∧r.data.length≤3000∧r.ttl≤1000000000
 ne5:(k == 5)=false
 ne255:(k == 255)=false
 mlen : ∀ n,V n→(matchP rs n).1.length≤3001
 lnk : ∀ n r,V n→linkP o rs n=some r→r.data.length≤2900∧V r.data
 nal : ∀ n,V n→linkP o rs n=none→aliasP (matchP rs n).1=false
def FinAt (sb zb cb:Nat) (k:Int) (au:Bool) (vc:Value) (o:Str) (rs ls:List Rec) (fin:Option Str) (w':World):Prop :=
 ∃ va' vb',aM w' sb zb k (finRc o rs fin) au va' vb' vc cb∧OwnR w' (sb+1) va' (ls++finAns o rs k fin)∧OwnR w' (sb+1) vb' (finAuth o rs k fin)
theorem follow_any (V:Str→Prop) (sb zb cb c b off cap base:Nat) (k:Int) (au:Bool) (vc:Value) (o n:Str) (rs:List Rec) (w:World) (hs:aM w sb zb k 0 au (.slice none 0 0) (.slice none 0 0) vc cb)
  (hz:aN w zb o b off cap rs) (hg:G w) (hzs:zb<sb) (hbs:b<sb) (h0:0<sb) (hc:CancelAt w cb c false) (hne:cb≠c) (hcb:cb<sb) (hcs:c<sb) (hba:base≤c) (hn:n.length≤2900) (hv:V n) (hp:Chase V o rs k) :
  Calls Tryz.prog 127 #[.pointer (some ⟨sb,0,none⟩),.string (B n)] w fun e w' =>
   (chase o rs 8 n=none∧e=.returned (.bool false)∧Below base w w')∨(∃ ls fin,chase o rs 8 n=some (ls,fin)∧ls.length≤8∧e=.returned (.bool true)∧FinAt sb zb cb k au vc o rs ls fin w'∧Below sb w w'):=by
 obtain ⟨_,_,_,_,_,_,_,s7⟩:=hs.cells
 have hslt:=hs.lt
 have HS:=aH hs
 have HZ:=aH hz
 have HG:=aH hg
 have HC:=aH hc
 have HP:=aH hp
 clear hs hz hg hc hp
 go_enter Tryz.func127,Tryz.ntmps127
 go_wp2_with fail
 go_loopg [1,5] 10 (fun g1 nm mr wr =>
  (∃ (ls:List Rec) (n':Str) (va:Value),nm=.string (B n')∧mr=.bool true∧ls.length≤8∧g1+ls.length=10∧Hid (chase o rs 8 n=(chase o rs (8 - ls.length) n').map (fun x=>(ls++x.1,x.2)))∧n'.length≤2900∧Hid (V n')∧Hid (aM wr sb zb k 0 au va (.slice none 0 0) vc cb)∧Hid (OwnR wr (sb+1) va ls)∧Hid (Below sb w wr)) ∨
  (g1=1∧mr=.bool true∧Hid (chase o rs 8 n=none)∧Hid (∃ va,aM wr sb zb k 0 au va (.slice none 0 0) vc cb)∧Hid (CancelAt wr cb c true)∧Hid (Below base w wr)) ∨
  (mr=.bool false∧Hid (∃ ls fin,chase o rs 8 n=some (ls,fin)∧ls.length≤8∧FinAt sb zb cb k au vc o rs ls fin wr∧Below sb w wr)))
 case atStart =>
  refine .inl ⟨[],n,.slice none 0 0,rfl,rfl,by simp,by simp,?_,hn,hv,HS,World.ownsRow_nil _ _ _ _,Below.refl _ _⟩
  rw [Hid]; simp
 case round =>
  rcases hrel with ⟨ls,n',va,rfl,rfl,hl8,hgl,hch,hn',hv',hs1,ho1,hb1⟩ | ⟨rfl,rfl,hch,hs1,hc1,hb1⟩ | ⟨rfl,hfin⟩
  ·have hsr:=aU hs1
   obtain ⟨_,_,_,_,_,_,_,r7⟩:=hsr.cells
   have hcr:=(aU HC).below (aU hb1) hcb hcs
   have hzr:=(aU HZ).low (aU hb1) hzs hbs
   have hgr:=G_low (aU HG) (aU hb1) h0
   have HAS:=aH (asked_any cb c false wr hcr)
   have HCR:=aH hcr
   cases hlk:linkP o rs n' with
   | none =>
    have HST:=aH (step_plain sb zb cb b off cap k au va (.slice none 0 0) vc o n' rs ls wr hsr (aU ho1) rfl hzr hgr hzs hbs h0 (aU HP).fit hn' (by omega) (aU HP).soa (aU HP).ne5 (aU HP).ne255 ((aU HP).nal n' (aU hv') hlk) ((aU HP).mlen n' (aU hv')))
    have hend:Hid (chase o rs 8 n=some (ls,some n')):=by
     rw [Hid,aU hch]
     have:chase o rs (8 - ls.length) n'=some ([],some n'):=by
      cases e:8 - ls.length with
      | zero=>rw [chase,hlk]
      | succ m=>rw [chase,hlk]
     rw [this]; simp
    clear hsr hcr hzr hgr hs1 ho1 hch
    go_wp2_with fail
    refine (aU HAS).mono ?_
    rintro e wr ⟨rfl,rfl⟩
    go_wp2_with fail
    refine (aU HST).mono ?_
    rintro e w2 ⟨rfl,⟨va',vb',hs2,ha2,hb2⟩,hbl⟩
    have HF:Hid (∃ ls fin,chase o rs 8 n=some (ls,fin)∧ls.length≤8∧FinAt sb zb cb k au vc o rs ls fin w2∧Below sb w w2):=⟨ls,some n',aU hend,hl8,⟨va',vb',hs2,ha2,hb2⟩,(aU hb1).trans hbl⟩
    clear hs2 ha2 hb2 hbl
    go_wp2_with fail
    go_roundg 0
    case rel=>exact .inr (.inr ⟨rfl,HF⟩)
    case measure=>omega
   | some r =>
    obtain ⟨hk1,hk2,hk3,hk4⟩:=linkP_some hlk
    have hrd:=((aU HP).lnk n' r (aU hv') hlk).1
    have HVR:=aH ((aU HP).lnk n' r (aU hv') hlk).2
    have hol:o.length≤3000:=(aU HP).fit.2.1
    by_cases hl:ls.length=8
    ·have HLK : ∀ W,Below wr.heap.size wr W→Calls Tryz.prog 247 #[.pointer (some ⟨sb,0,none⟩),r.val] W fun e w'=>e=.returned (.tuple #[.string (B r.data),.bool true])∧(aM w' sb zb k 0 au va (.slice none 0 0) vc cb∧CancelAt w' cb c true∧Below base wr w'):=fun W hW=>by
      have hsW:=hsr.kept (hW.block sb hsr.lt)
      refine (link_full sb zb cb c k au va _ vc ls r W hsW ((aU ho1).below hW) (hcr.below hW hcr.1 hcr.lt) hne hcs hl).mono ?_
      rintro e w' ⟨rfl,h1,h2,h3⟩
      exact ⟨rfl,h1,h2,(hW.mono (by have:=hcr.lt; omega)).trans (h3 base hba)⟩
     have HST:=aH (step_alias sb zb cb b off cap k au va _ vc o n' rs r true _ wr hsr hzr hgr (aU HP).fit hn' (aU HP).ne5 (aU HP).ne255 hk1 hk2 hk3 hk4 HLK)
     have hend:Hid (chase o rs 8 n=none):=by
      rw [Hid,aU hch,hl,Nat.sub_self,chase,hlk]; rfl
     clear hsr hcr hzr hgr hs1 ho1 hch HLK
     go_wp2_with fail
     refine (aU HAS).mono ?_
     rintro e wr ⟨rfl,rfl⟩
     go_wp2_with fail
     refine (aU HST).mono ?_
     rintro e w2 ⟨rfl,h1,h2,h3⟩
     have H1:=aH h1
     have H2:=aH h2
     have H3:=aH (((aU hb1).mono (show base≤sb by omega)).trans h3)
     clear h1 h2 h3
     go_wp2_with fail
     go_roundg 1
     case rel=>exact .inr (.inl ⟨rfl,rfl,hend,⟨_,aU H1⟩,H2,H3⟩)
     case measure=>omega
    ·have HLK : ∀ W,Below wr.heap.size wr W→Calls Tryz.prog 247 #[.pointer (some ⟨sb,0,none⟩),r.val] W fun e w'=>e=.returned (.tuple #[.string (B r.data),.bool (Sp.under r.data o)])∧((∃ va',aM w' sb zb k 0 au va' (.slice none 0 0) vc cb∧OwnR w' (sb+1) va' (ls++[r]))∧Below sb wr w'):=fun W hW=>by
      have hsW:=hsr.kept (hW.block sb hsr.lt)
      refine (link_add sb zb cb b off cap k au va _ vc o rs ls r W hsW ((aU ho1).below hW) (hzr.below hW) hzs (by omega) hol (by omega)).mono ?_
      rintro e w' ⟨rfl,h1,h2⟩
      exact ⟨rfl,h1,(hW.mono (by have:=hsr.lt; omega)).trans h2⟩
     have HST:=aH (step_alias sb zb cb b off cap k au va _ vc o n' rs r _ _ wr hsr hzr hgr (aU HP).fit hn' (aU HP).ne5 (aU HP).ne255 hk1 hk2 hk3 hk4 HLK)
     obtain ⟨m,hm⟩ : ∃ m,8 - ls.length=m+1:=⟨7 - ls.length,by omega⟩
     have hstep:Hid (chase o rs 8 n=if Sp.under r.data o=true then (chase o rs (8 - (ls++[r]).length) r.data).map (fun x=>((ls++[r])++x.1,x.2)) else some (ls++[r],none)):=by
      rw [Hid,aU hch,hm,chase,hlk]
      have e:8 - (ls++[r]).length=m:=by simp; omega
      rw [e]
      dsimp only
      split
      ·cases chase o rs m r.data <;> simp
      ·simp
     clear hsr hcr hzr hgr hs1 ho1 hch HLK
     go_wp2_with fail
     refine (aU HAS).mono ?_
     rintro e wr ⟨rfl,rfl⟩
     go_wp2_with fail
     refine (aU HST).mono ?_
     rintro e w2 ⟨rfl,⟨va',h1,h2⟩,h3⟩
     have H1:=aH h1
     have H2:=aH h2
     have H3:=aH ((aU hb1).trans h3)
     clear h1 h2 h3
     cases hu:Sp.under r.data o
     ·have HF:Hid (∃ ls fin,chase o rs 8 n=some (ls,fin)∧ls.length≤8∧FinAt sb zb cb k au vc o rs ls fin w2∧Below sb w w2):=by
       refine ⟨ls++[r],none,?_,by simp; omega,⟨va',.slice none 0 0,aU H1,?_,World.ownsRow_nil _ _ _ _⟩,aU H3⟩
       ·rw [aU hstep,hu]; rfl
       ·unfold finAns; rw [List.append_nil]; exact aU H2
      go_wp2_with fail
      go_roundg 0
      case rel=>exact .inr (.inr ⟨rfl,HF⟩)
      case measure=>omega
     ·have HF:Hid (chase o rs 8 n=(chase o rs (8 - (ls++[r]).length) r.data).map (fun x=>((ls++[r])++x.1,x.2))):=by
       rw [Hid,aU hstep,hu]; rfl
      go_wp2_with fail
      go_roundg (9 - ls.length)
      case rel=>exact .inl ⟨ls++[r],r.data,va',rfl,rfl,by simp; omega,by simp; omega,HF,hrd,HVR,H1,H2,H3⟩
      case measure=>omega
  ·obtain ⟨va,hsr⟩:=aU hs1
   obtain ⟨_,_,_,_,_,_,_,r7⟩:=hsr.cells
   have HAS:=aH (asked_any cb c true wr (aU hc1))
   clear hsr
   go_wp2_with fail
   refine (aU HAS).mono ?_
   rintro e wr ⟨rfl,rfl⟩
   go_wp2_with fail
   go_ret
   exact .inl ⟨aU hch,rfl,aU hb1⟩
  ·go_wp2_with fail
   go_ret
   obtain ⟨ls,fin,h1,h2,h3,h4⟩:=aU hfin
   exact .inr ⟨ls,fin,h1,h2,rfl,h3,h4⟩
end Ln
end Go.Proofs.YtkkpahmoljiepaaGreatDoor
