/- Contract: slices.rotateCmpFunc, at records. -/
import Derived.Test.YtkkpahmoljiepaaGreatDoorJ15
import Derived.Laws.Shifts
set_option linter.unusedSimpArgs false
set_option linter.unusedVariables false
set_option maxRecDepth 1000000
set_option maxHeartbeats 12800000
namespace Go.Proofs.YtkkpahmoljiepaaGreatDoor
open Go.RowKit Go.Sort Go.Shelf
open Pu (Str aH aU)
namespace Se
open Ka Kd Sa Sb Sc Sd
theorem start_world {w:World} {g:Nat} {d:Array Rec} (hH:HoldsK Rec.enc 4 w g 0 d):w=sortWorldK Rec.enc 4 w g 0 0 d #[]:=by
 unfold sortWorldK; rw [grow_empty]; exact (putRowK_self Rec.enc 4 w g 0 d hH).symm
theorem world_on (w:World) (g n m:Nat) (dk dk':Array Rec) (os os':Array Obj) (hg:g<w.heap.size) (h:dk'.size=dk.size) :
  sortWorldK Rec.enc 4 (sortWorldK Rec.enc 4 w g 0 n dk os) g 0 m dk' os'=sortWorldK Rec.enc 4 w g 0 (n+m) dk' (os++os'):=grow_step_growK Rec.enc 4 w os os' n m g 0 dk dk' hg h
theorem swap_on (g cap a b n q:Nat) (d dk:Array Rec) (os:Array Obj) (w:World) (hH:HoldsK Rec.enc 4 w g 0 d) (hg:g<w.heap.size) (hs:dk.size=d.size) (ha:a+n≤b) (hb:b+n≤d.size) (hd:d.size≤3001) :
  Calls Tryz.prog 288 #[.slice (some ⟨g,0,none⟩) d.size cap,.int .i64 a,.int .i64 b,.int .i64 n,.func (.func 103) #[] #[]] (sortWorldK Rec.enc 4 w g 0 q dk os) fun e w' =>
   e=.returned (.tuple #[])∧∃ q',w'=sortWorldK Rec.enc 4 w g 0 q' (swR a b n dk) os:=by
 have hH':=holdsK_sortWorldK_c Rec.enc 4 w g 0 d dk q os hH hg hs
 have h:=swapRange_any g cap a b n dk _ hH' (Nat.lt_of_lt_of_le hg (size_sortWorldK_c Rec.enc 4 w g 0 q dk os)) ha (by omega) (by omega)
 rw [hs] at h
 refine h.mono ?_
 rintro e w' ⟨rfl,q',rfl⟩
 refine ⟨rfl,q+q',?_⟩
 rw [world_on w g q q' dk (swR a b n dk) os #[] hg (swR_size _ _ _ _)]
 simp
theorem rotate_any (g cap a m b q:Nat) (d dk:Array Rec) (os:Array Obj) (X A' B' Z:List Rec) (w:World) (hH:HoldsK Rec.enc 4 w g 0 d) (hg:g<w.heap.size) (hs:dk.size=d.size) (hd:d.size≤3001)
  (hl:dk.toList=X++(A'++(B'++Z))) (ea:X.length=a) (em:a+A'.length=m) (eb:m+B'.length=b) (hA:0<A'.length) (hB:0<B'.length) :
  Calls Tryz.prog 267 #[.slice (some ⟨g,0,none⟩) d.size cap,.int .i64 a,.int .i64 m,.int .i64 b,.func (.func 103) #[] #[]] (sortWorldK Rec.enc 4 w g 0 q dk os) fun e w' =>
   e=.returned (.tuple #[])∧∃ q' d',w'=sortWorldK Rec.enc 4 w g 0 q' d' os∧d'.toList=X++(B'++(A'++Z)):=by
 have hsz:d.size=X.length+(A'.length+(B'.length+Z.length)):=by rw [← hs,← Array.length_toList,hl]; simp
 have HSW:=aH (fun q dk hs a b n (h1:a+n≤b) (h2:b+n≤d.size)=>swap_on g cap a b n q d dk os w hH hg hs h1 h2 hd)
 have hbd:b≤3001:=by omega
 have haI:(m:Int) - a=(A'.length:Int):=by omega
 have hbI:(b:Int) - m=(B'.length:Int):=by omega
 obtain ⟨i0,hi0⟩ : ∃ i,i=A'.length:=⟨_,rfl⟩
 obtain ⟨j0,hj0⟩ : ∃ i,i=B'.length:=⟨_,rfl⟩
 rw [← hi0] at haI
 rw [← hj0] at hbI
 have HS:=aH (And.intro hsz (And.intro hs (And.intro hl (And.intro ea (And.intro em (And.intro eb (And.intro hA (And.intro hB (And.intro hi0 hj0)))))))))
 have hmb:m≤3001:=by omega
 have ham:a≤m:=by omega
 have hi3:i0≤3001:=by omega
 have hj3:j0≤3001:=by omega
 clear hH hsz hs hl ea em eb hA hB hd hi0 hj0
 obtain ⟨w0,hw0⟩ : ∃ w0,w0=sortWorldK Rec.enc 4 w g 0 q dk os:=⟨_,rfl⟩
 rw [← hw0]
 have HW0:=aH hw0
 clear hw0
 go_enter Tryz.func267,Tryz.ntmps267
 go_wp2_with fail
 go_loopg [10,11] (i0+j0) (fun g1 vi vj wr=>∃ (i j:Nat),vi=.int .i64 i∧vj=.int .i64 j∧0<i∧0<j∧i+j≤g1∧i≤m∧i≤3001∧j≤3001∧Hid (∃ (q:Nat) (dk:Array Rec) (X1 A1 B1 Z1:List Rec),X1.length+i=m∧A1.length=i∧B1.length=j∧dk.size=d.size∧dk.toList=X1++(A1++(B1++Z1))∧X1++(B1++(A1++Z1))=X++(B'++(A'++Z))∧wr=sortWorldK Rec.enc 4 w g 0 q dk os))
 case atStart =>
  obtain ⟨hsz,hs,hl,ea,em,eb,hA,hB,hi0,hj0⟩:=aU HS
  exact ⟨i0,j0,by first | rfl | go_num,by first | rfl | go_num,by omega,by omega,Nat.le_refl _,by omega,by omega,by omega,q,dk,X,A',B',Z,by omega,by omega,by omega,hs,hl,rfl,aU HW0⟩
 case round =>
  obtain ⟨i,j,rfl,rfl,hi,hj,hij,him,hi2,hj2,HX⟩:=hrel
  obtain ⟨q1,dk1,X1,A1,B1,Z1,e1,e2,e3,e4,e5,e6,hwr⟩:=aU HX
  have hsz1:d.size=X1.length+(A1.length+(B1.length+Z1.length)):=by rw [← e4,← Array.length_toList,e5]; simp
  obtain ⟨p,hp⟩ : ∃ p:Nat,p+i=m:=⟨X1.length,e1⟩
  have hpI:(m:Int) - i=(p:Int):=by omega
  by_cases hne:i=j
  ·subst hne
   have hneI:((i:Int) != (i:Int))=false:=by simp
   have HC:=aH (aU HSW q1 dk1 e4 p m i (by omega) (by omega))
   have HR:Hid (∀ q',∃ q'' d',sortWorldK Rec.enc 4 w g 0 q' (swR p m i dk1) os=sortWorldK Rec.enc 4 w g 0 q'' d' os∧d'.toList=X++(B'++(A'++Z))):=fun q'=>by
    refine ⟨q',_,rfl,?_⟩
    have:=swR_list A1 B1 dk1 X1 [] Z1 (by omega) (by simpa using e5)
    rw [e2,show X1.length=p from by omega,show p+i+([]:List Rec).length=m from by simp; omega] at this
    rw [this,← e6]; rfl
   rw [← hwr] at HC
   clear HX e1 e2 e3 e4 e5 e6 hwr hsz1 HSW HW0
   go_wp2_with fail
   refine (aU HC).mono ?_
   rintro e w2 ⟨rfl,q2,hw2⟩
   have HW2:=aH hw2
   clear hw2
   go_wp2_with fail
   go_end0
   refine ⟨rfl,?_⟩
   rw [aU HW2]
   exact aU HR q2
  ·have hneI:((i:Int) != (j:Int))=true:=by rw [bne_iff_ne]; omega
   by_cases hgt:j<i
   ·have hgtI:(j:Int)<(i:Int):=by omega
    obtain ⟨t,ht⟩ : ∃ t:Nat,t+j=i:=⟨i - j,by omega⟩
    have htI:(i:Int) - j=(t:Int):=by omega
    have HC:=aH (aU HSW q1 dk1 e4 p m j (by omega) (by omega))
    have HR:Hid (∀ q',∃ (q:Nat) (dk:Array Rec) (X1 A1 B1 Z1:List Rec),X1.length+t=m∧A1.length=t∧B1.length=j∧dk.size=d.size∧dk.toList=X1++(A1++(B1++Z1))∧X1++(B1++(A1++Z1))=X++(B'++(A'++Z))∧sortWorldK Rec.enc 4 w g 0 q' (swR p m j dk1) os=sortWorldK Rec.enc 4 w g 0 q dk os):=fun q'=>by
     have hA1:A1=A1.take j++A1.drop j:=(List.take_append_drop _ _).symm
     have l1:(A1.take j).length=j:=by simp; omega
     have l2:(A1.drop j).length=t:=by simp; omega
     generalize A1.take j=A2 at hA1 l1
     generalize A1.drop j=A3 at hA1 l2
     subst hA1
     have:=swR_list A2 B1 dk1 X1 A3 Z1 (by omega) (by rw [e5]; simp)
     rw [l1,show X1.length=p from by omega,show p+j+A3.length=m from by omega] at this
     refine ⟨q',_,X1++B1,A3,A2,Z1,by simp; omega,l2,l1,by rw [swR_size]; exact e4,by rw [this]; simp,?_,rfl⟩
     rw [← e6]; simp
    rw [← hwr] at HC
    clear HX e1 e2 e3 e4 e5 e6 hwr hsz1 HSW HW0
    go_wp2_with fail
    refine (aU HC).mono ?_
    rintro e w2 ⟨rfl,q2,hw2⟩
    have HW2:=aH hw2
    clear hw2
    go_wp2_with fail
    go_roundg (t+j)
    case measure=>omega
    case rel =>
     refine ⟨t,j,by first | rfl | go_num,by first | rfl | go_num,by omega,hj,Nat.le_refl _,by omega,by omega,hj2,?_⟩
     rw [aU HW2]
     exact aU HR q2
   ·have hgtI : ¬ (j:Int)<(i:Int):=by omega
    obtain ⟨t,ht⟩ : ∃ t:Nat,t+i=j:=⟨j - i,by omega⟩
    have htI:(j:Int) - i=(t:Int):=by omega
    obtain ⟨r,hr⟩ : ∃ r:Nat,r+i=m+j:=⟨m+j - i,by omega⟩
    have hrI:(m:Int)+j - i=(r:Int):=by omega
    have HC:=aH (aU HSW q1 dk1 e4 p r i (by omega) (by omega))
    have HR:Hid (∀ q',∃ (q:Nat) (dk:Array Rec) (X1 A1 B1 Z1:List Rec),X1.length+i=m∧A1.length=i∧B1.length=t∧dk.size=d.size∧dk.toList=X1++(A1++(B1++Z1))∧X1++(B1++(A1++Z1))=X++(B'++(A'++Z))∧sortWorldK Rec.enc 4 w g 0 q' (swR p r i dk1) os=sortWorldK Rec.enc 4 w g 0 q dk os):=fun q'=>by
     have hB1:B1=B1.take t++B1.drop t:=(List.take_append_drop _ _).symm
     have l1:(B1.take t).length=t:=by simp; omega
     have l2:(B1.drop t).length=i:=by simp; omega
     generalize B1.take t=B2 at hB1 l1
     generalize B1.drop t=B3 at hB1 l2
     subst hB1
     have:=swR_list A1 B3 dk1 X1 B2 Z1 (by omega) (by rw [e5]; simp)
     rw [e2,show X1.length=p from by omega,show p+i+B2.length=r from by omega] at this
     refine ⟨q',_,X1,B3,B2,A1++Z1,by omega,l2,l1,by rw [swR_size]; exact e4,by rw [this],?_,rfl⟩
     rw [← e6]; simp
    rw [← hwr] at HC
    clear HX e1 e2 e3 e4 e5 e6 hwr hsz1 HSW HW0
    go_wp2_with fail
    refine (aU HC).mono ?_
    rintro e w2 ⟨rfl,q2,hw2⟩
    have HW2:=aH hw2
    clear hw2
    go_wp2_with fail
    go_roundg (i+t)
    case measure=>omega
    case rel =>
     refine ⟨i,t,by first | rfl | go_num,by first | rfl | go_num,hi,by omega,Nat.le_refl _,by omega,hi2,by omega,?_⟩
     rw [aU HW2]
     exact aU HR q2
end Se
end Go.Proofs.YtkkpahmoljiepaaGreatDoor

namespace Go.Proofs.YtkkpahmoljiepaaGreatDoor
open Go.RowKit Go.Sort
open Pu (Str aH aU)
namespace Sc
section
variable {α:Type} (lt:α→α→Bool)
theorem srt_last (hw:Wk lt) {B1:List α} {x z:α} (hs:Srt lt (B1++[z])) (h:lt z x=true) : ∀ y∈B1++[z],lt y x=true:=fun y hy=>by
 rcases List.mem_append.1 hy with hy | hy
 ·cases e:lt y x
  ·have:=hw.nt _ _ _ ((List.pairwise_append.1 hs).2.2 y hy z (by simp)) e
   rw [h] at this; cases this
  ·rfl
 ·obtain rfl:y=z:=by simpa using hy
  exact h
theorem mg_one_left (hw:Wk lt) {B1 B2:List α} {x:α} (hs:Srt lt (B1++B2)) (h1 : ∀ y,B1.getLast? = some y→lt y x=true) (h2 : ∀ y,B2.head? = some y→lt y x=false):mg lt [x] (B1++B2)=B1++x :: B2:=by
 have hall : ∀ y∈B1,lt y x=true:=by
  rcases List.eq_nil_or_concat B1 with rfl | ⟨B',z,rfl⟩
  ·simp
  ·rw [List.concat_eq_append] at *
   exact srt_last lt hw (List.pairwise_append.1 hs).1 (h1 z (by simp))
 have:=mg_split lt [x] B2 [] B1 (fun b hb a ha=>by obtain rfl:a=x:=(by simpa using ha); exact hall b hb) (by simp)
 rw [List.nil_append,mg_nil] at this
 rw [this]
 congr 1
 cases B2 with
 | nil=>simp
 | cons y B2=>rw [mg_ge lt _ _ (h2 y rfl),mg_nil]
theorem mg_one_right (hw:Wk lt) {A1 A2:List α} {y:α} (hs:Srt lt (A1++A2)) (h1 : ∀ x,A1.getLast? = some x→lt y x=false) (h2 : ∀ x,A2.head? = some x→lt y x=true):mg lt (A1++A2) [y]=A1++y :: A2:=by
 have hall : ∀ x∈A1,lt y x=false:=by
  rcases List.eq_nil_or_concat A1 with rfl | ⟨B',z,rfl⟩
  ·simp
  ·rw [List.concat_eq_append] at *
   intro x hx
   have hz:=h1 z (by simp)
   rcases List.mem_append.1 hx with hx | hx
   ·exact hw.nt _ _ _ hz ((List.pairwise_append.1 (List.pairwise_append.1 hs).1).2.2 x hx z (by simp))
   ·obtain rfl:x=z:=by simpa using hx
    exact hz
 have:=mg_split lt A2 [y] A1 [] (by simp) (fun a ha b hb=>by obtain rfl:b=y:=(by simpa using hb); exact hall a ha)
 rw [List.nil_append,mg_nil'] at this
 rw [this]
 congr 1
 cases A2 with
 | nil=>simp
 | cons x A2=>rw [mg_lt lt _ _ (h2 x rfl),mg_nil']
theorem mg_cut (hw:Wk lt) {A1 A2 B1 B2:List α} (hA:Srt lt (A1++A2)) (hB:Srt lt (B1++B2)) (h1 : ∀ x y,A1.getLast? = some x→B2.head? = some y→lt y x=false) (h2 : ∀ x y,A2.head? = some x→B1.getLast? = some y→lt y x=true) :
  mg lt (A1++A2) (B1++B2)=mg lt A1 B1++mg lt A2 B2:=by
 refine mg_split lt A2 B2 A1 B1 (fun b hb a ha=>?_) (fun a ha b hb=>?_)
 ·rcases List.eq_nil_or_concat B1 with rfl | ⟨B',z,rfl⟩
  ·simp at hb
  rw [List.concat_eq_append] at *
  cases A2 with
  | nil=>simp at ha
  | cons x A2 =>
   have hzx:=h2 x z rfl (by simp)
   have hbx:=srt_last lt hw (List.pairwise_append.1 hB).1 hzx b hb
   rcases List.mem_cons.1 ha with rfl | ha
   ·exact hbx
   ·have hax:=(List.pairwise_cons.1 (List.pairwise_append.1 hA).2.1).1 a ha
    cases e:lt b a
    ·have:=hw.nt _ _ _ e hax; rw [hbx] at this; cases this
    ·rfl
 ·rcases List.eq_nil_or_concat A1 with rfl | ⟨A',z,rfl⟩
  ·simp at ha
  rw [List.concat_eq_append] at *
  cases B2 with
  | nil=>simp at hb
  | cons y B2 =>
   have hyz:=h1 z y (by simp) rfl
   have hya:lt y a=false:=by
    rcases List.mem_append.1 ha with ha | ha
    ·exact hw.nt _ _ _ hyz ((List.pairwise_append.1 (List.pairwise_append.1 hA).1).2.2 a ha z (by simp))
    ·obtain rfl:a=z:=by simpa using ha
     exact hyz
   rcases List.mem_cons.1 hb with rfl | hb
   ·exact hya
   ·exact hw.nt _ _ _ ((List.pairwise_cons.1 (List.pairwise_append.1 hB).2.1).1 b hb) hya
end
section
variable {α:Type} [Inhabited α]
theorem at_app {d:Array α} {X B Z:List α} (h:d.toList=X++(B++Z)) {t:Nat} (ht:t<B.length):d[X.length+t]! = B[t]:=by
 obtain rfl:d=(X++(B++Z)).toArray:=by rw [← h]
 simp [List.getElem?_append_right,List.getElem?_append_left,ht]
omit [Inhabited α] in
theorem last_take {B:List α} {t:Nat} {y:α} (ht:t≤B.length) (h:(B.take t).getLast? = some y) : ∃ (h0:t - 1<B.length),0<t∧B[t - 1]=y:=by
 cases t with
 | zero=>simp at h
 | succ n =>
  refine ⟨by omega,by omega,?_⟩
  rw [List.getLast?_eq_getElem?] at h
  simp only [List.length_take,Nat.min_eq_left ht] at h
  rw [List.getElem?_take_of_lt (by omega)] at h
  obtain ⟨_,h⟩:=List.getElem?_eq_some_iff.1 h
  exact h
omit [Inhabited α] in
theorem head_drop {B:List α} {t:Nat} {y:α} (h:(B.drop t).head? = some y) : ∃ (h0:t<B.length),B[t]=y:=by
 rw [List.head?_drop] at h
 exact List.getElem?_eq_some_iff.1 h
end
end Sc
end Go.Proofs.YtkkpahmoljiepaaGreatDoor

set_option maxRecDepth 1000000
set_option maxHeartbeats 12800000
namespace Go.Proofs.YtkkpahmoljiepaaGreatDoor
open Go.RowKit Go.Sort Go.Shelf
open Pu (Str aH aU)
namespace Sf
open Ka Kd Sa Sb Sc Sd Se
abbrev ltR:Rec→Rec→Bool:=ltOf cmpR
section
variable {off k g:Nat} {dk:Array Rec} {W:World}
theorem load_of (hk : ∀ x,(Rec.enc x).length=k) (h:HoldsK Rec.enc k W g off dk) (p:Nat) (hp:p<dk.size):Sem.run Tryz.prog (loadCellsFrom ⟨g,off+p*k,none⟩ 0 k #[]) W=.ok (Rec.enc dk[p]!).toArray W :=
 run_loadCellsFrom_list _ _ _ _ k (hk _) (HoldsK.cells h hk hp)
theorem bnd_of (p:Nat) (hp:p<dk.size):p*k+k≤dk.size*k:=by
 have:=Nat.mul_le_mul_right k (show p+1≤dk.size from hp); rwa [Nat.add_mul,Nat.one_mul] at this
theorem store_of (hk : ∀ x,(Rec.enc x).length=k) (h:HoldsK Rec.enc k W g off dk) (p r:Nat) (hp:p<dk.size) (hr:r<dk.size) :
  Sem.run Tryz.prog (storeCells ⟨g,off+p*k,none⟩ (Rec.enc dk[r]!) 0) W=.ok () (W.setCells g (off+p*k) (Rec.enc dk[r]!)) ∧
  Sem.run Tryz.prog (storeCells ⟨g,off+r*k,none⟩ (Rec.enc dk[p]!) 0) (W.setCells g (off+p*k) (Rec.enc dk[r]!))=.ok () ((W.setCells g (off+p*k) (Rec.enc dk[r]!)).setCells g (off+r*k) (Rec.enc dk[p]!)) :=
 ⟨stores_of_holds _ h (p*k) _ (by rw [hk,size_flatK]; exact bnd_of p hp) (one_enc _),
  stores_of_holds _ (holds_setCells_c h (p*k) _ (by rw [hk,size_flatK]; exact bnd_of p hp)) (r*k) _ (by rw [hk,size_setMany,size_flatK]; exact bnd_of r hr) (one_enc _)⟩
end
theorem left_k (off k g cap a m b q:Nat) (hk : ∀ x,(Rec.enc x).length=k) (zE : ∀ w,Sem.run Tryz.prog (Go.sizeOf 47) w=.ok k w) (d dk:Array Rec) (os:Array Obj) (X:List Rec) (x:Rec) (B' Z:List Rec) (w:World) (hH:HoldsK Rec.enc k w g off d) (hg:g<w.heap.size) (hs:dk.size=d.size) (hd:d.size≤3001)
  (hl:dk.toList=X++x :: (B'++Z)) (ea:X.length=a) (em:a+1=m) (eb:m+B'.length=b) (hB:0<B'.length) (hw:Wk ltR) (hsr:Srt ltR B') :
  Calls Tryz.prog 232 #[.slice (some ⟨g,off,none⟩) d.size cap,.int .i64 a,.int .i64 m,.int .i64 b,.func (.func 103) #[] #[]] (sortWorldK Rec.enc k w g off q dk os) fun e w' =>
   e=.returned (.tuple #[])∧∃ q' os' d',w'=sortWorldK Rec.enc k w g off q' d' os'∧d'.toList=X++(mg ltR [x] B'++Z):=by
 have mixed:Tryz.prog.follows Departure.mixedOrders=true:=by kernel_rfl
 have aE:=Tryz.isAgg47
 have hsz:d.size=X.length+(1+(B'.length+Z.length)):=by rw [← hs,← Array.length_toList,hl]; simp; omega
 have hx:dk[a]! = x:=by rw [← ea]; exact at_list hl
 have HK:=aH hk
 have HH:=aH hH
 have HG:=aH hg
 have HS:=aH (And.intro hsz (And.intro hs (And.intro hl (And.intro ea (And.intro hw hsr)))))
 have hbd:b≤3001:=by omega
 have hbs:b≤d.size:=by omega
 have hmb:m≤b:=by omega
 have haI:((m:Int) - a == 1)=true:=by rw [beq_iff_eq]; omega
 clear hk hH hg hsz hl ea hw hsr
 obtain ⟨w0,hw0⟩ : ∃ w0,w0=sortWorldK Rec.enc k w g off q dk os:=⟨_,rfl⟩
 rw [← hw0]
 have HW0:=aH hw0
 clear hw0
 go_enter Tryz.func232,Tryz.ntmps232
 go_wp2_with fail
 go_loopg [10,11] (b - m) (fun g1 vi vj wr=>∃ (i j:Nat),vi=.int .i64 i∧vj=.int .i64 j∧m≤i∧i≤j∧j≤b∧j - i≤g1∧Hid (∃ q os,wr=sortWorldK Rec.enc k w g off q dk os)∧Hid ((i=m∨ltR dk[i - 1]! x=true)∧(j=b∨ltR dk[j]! x=false)))
 case atStart=>exact ⟨m,b,rfl,rfl,Nat.le_refl _,hmb,Nat.le_refl _,Nat.le_refl _,⟨q,os,aU HW0⟩,.inl rfl,.inl rfl⟩
 case round =>
  obtain ⟨i,j,rfl,rfl,hmi,hij,hjb,hgi,HWR,HX⟩:=hrel
  by_cases hlt:i<j
  ·have hltz:(i:Int)<(j:Int):=by omega
   obtain ⟨h,hh⟩ : ∃ h,(i+j)/2=h:=⟨_,rfl⟩
   have hhI:((i:Int)+j)/2=(h:Int):=by omega
   have hih:i≤h:=by omega
   have hhj:h<j:=by omega
   obtain ⟨q1,os1,hwr⟩:=aU HWR
   have hcls : ∀ n' os',grow (wr.drewN n') os'=sortWorldK Rec.enc k w g off (q1+n') dk (os1++os'):=fun n' os'=>by rw [hwr]; exact sortWorldK_grown_c Rec.enc k w g off q1 n' dk os1 os'
   have hHc : ∀ n' os',HoldsK Rec.enc k (grow (wr.drewN n') os') g off dk:=fun n' os'=>by rw [hcls]; exact holdsK_sortWorldK_c Rec.enc k w g off d dk _ _ (aU HH) (aU HG) hs
   obtain ⟨y,hy⟩ : ∃ y,dk[h]! = y:=⟨_,rfl⟩
   have lh : ∀ n' os',Sem.run Tryz.prog (loadCellsFrom ⟨g,off+h*k,none⟩ 0 k #[]) (grow (wr.drewN n') os')=.ok (Rec.enc y).toArray (grow (wr.drewN n') os'):=fun n' os'=>by rw [← hy]; exact load_of (aU HK) (hHc n' os') h (by omega)
   have la : ∀ n' os',Sem.run Tryz.prog (loadCellsFrom ⟨g,off+a*k,none⟩ 0 k #[]) (grow (wr.drewN n') os')=.ok (Rec.enc x).toArray (grow (wr.drewN n') os'):=fun n' os'=>by rw [← hx]; exact load_of (aU HK) (hHc n' os') a (by omega)
   have hcg : ∀ W,Calls Tryz.prog 103 #[.agg (Rec.enc y).toArray,.agg (Rec.enc x).toArray] W fun e w'=>e=.returned (.int .i64 (cmpR y x))∧∃ q os',w'=grow (W.drewN q) os':=fun W=>sorted1 y x W
   have HCG:=aH hcg
   have CLS:=aH hcls
   have hhz:(h:Int)<(d.size:Int):=by omega
   have haz:(a:Int)<(d.size:Int):=by omega
   have HY:=aH hy
   have HHH:=aH hh
   have HXX:=aH hx
   clear hcls hHc hwr hh hy hcg hx
   generalize hcv:cmpR y x=cv at HCG
   have HCV:=aH hcv
   clear hcv
   by_cases hlv:cv<0
   ·go_wp2_with fail
    go_quiet_grown (first | (go_at_call 103; refine Calls.grown_of (aU HCG _)))
    go_wp2_with fail
    go_roundg (j - (h+1))
    case measure=>omega
    case rel =>
     refine ⟨h+1,j,by first | rfl | go_num,rfl,by omega,by omega,hjb,Nat.le_refl _,⟨_,_,aU CLS _ _⟩,.inr ?_,(aU HX).2⟩
     show ltOf cmpR dk[h]! x=true
     rw [aU HY]; unfold ltOf; rw [aU HCV]; exact decide_eq_true hlv
   ·go_wp2_with fail
    go_quiet_grown (first | (go_at_call 103; refine Calls.grown_of (aU HCG _)))
    go_wp2_with fail
    go_roundg (h - i)
    case measure=>omega
    case rel =>
     refine ⟨i,h,rfl,by first | rfl | go_num,hmi,by omega,by omega,Nat.le_refl _,⟨_,_,aU CLS _ _⟩,(aU HX).1,.inr ?_⟩
     show ltOf cmpR dk[h]! x=false
     rw [aU HY]; unfold ltOf; rw [aU HCV]; exact decide_eq_false (by omega)
  ·have hltz : ¬ (i:Int)<(j:Int):=by omega
   obtain rfl:i=j:=by omega
   obtain ⟨T,hT⟩ : ∃ T,i=m+T:=⟨i - m,by omega⟩
   have HFIN:Hid (mg ltR [x] B'=B'.take T++x :: B'.drop T):=by
    obtain ⟨hsz,hs',hl,ea,hw,hsr⟩:=aU HS
    obtain ⟨h1,h2⟩:=aU HX
    have hl':dk.toList=(X++[x])++(B'++Z):=by rw [hl]; simp
    have hm':(X++[x]).length=m:=by simp; omega
    have hat : ∀ t (h:t<B'.length),dk[m+t]! = B'[t]:=fun t h=>by rw [← hm']; exact at_app hl' h
    rw [Hid]
    conv=>lhs; rw [← List.take_append_drop T B']
    refine mg_one_left ltR hw (by rw [List.take_append_drop]; exact hsr) (fun y hy=>?_) (fun y hy=>?_)
    ·obtain ⟨h0,h3,h4⟩:=last_take (by omega) hy
     rcases h1 with h1 | h1
     ·omega
     ·rw [show i - 1=m+(T - 1) from by omega,hat _ h0,h4] at h1; exact h1
    ·obtain ⟨h0,h4⟩:=head_drop hy
     rcases h2 with h2 | h2
     ·omega
     ·rw [hT,hat _ h0,h4] at h2; exact h2
   have hTB:T≤B'.length:=by omega
   have hiI:(i:Int) - 1=(a:Int)+T:=by omega
   have HT:=aH hT
   have HEM:=aH (And.intro em eb)
   have hab:a+T+1≤b:=by omega
   have hi3:(i:Int)≤3001:=by omega
   have hi1:(1:Int)≤(i:Int):=by omega
   clear hT em eb HX
   go_wp2_with fail
   go_loopg [13] T (fun g1 vk wr=>∃ (t:Nat),vk=.int .i64 (a+t:Nat)∧t+g1=T∧Hid (∃ q os dk1,wr=sortWorldK Rec.enc k w g off q dk1 os∧dk1.size=d.size∧dk1.toList=X++(B'.take t++x :: (B'.drop t++Z))))
   case atStart =>
    obtain ⟨q1,os1,hwr⟩:=aU HWR
    obtain ⟨hsz,hs',hl,ea,hw,hsr⟩:=aU HS
    exact ⟨0,rfl,by omega,q1,os1,dk,hwr,hs,by simpa using hl⟩
   case round =>
    obtain ⟨t,rfl,htg,HW⟩:=hrel
    by_cases htT:t<T
    ·obtain ⟨p,hp⟩ : ∃ p,a+t=p:=⟨_,rfl⟩
     rw [hp]
     have hpz:(p:Int)<(a:Int)+T:=by omega
     have hp3:p≤3001:=by omega
     obtain ⟨q1,os1,dk1,hwr,hs1,hl1⟩:=aU HW
     have hHd:HoldsK Rec.enc k wr.drew g off dk1:=by rw [hwr]; exact holdsK_sortWorldK_c Rec.enc k w g off d dk1 _ _ (aU HH) (aU HG) hs1
     have lp:=load_of (aU HK) hHd p (by omega)
     obtain ⟨r,hr⟩ : ∃ r,p+1=r:=⟨_,rfl⟩
     have lr:=load_of (aU HK) hHd r (by omega)
     obtain ⟨s1,s2⟩:=store_of (aU HK) hHd p r (by omega) (by omega)
     have HR:Hid (∃ q os dk2,((wr.drew.setCells g (off+p*k) (Rec.enc dk1[r]!)).setCells g (off+r*k) (Rec.enc dk1[p]!))=sortWorldK Rec.enc k w g off q dk2 os∧dk2.size=d.size∧dk2.toList=X++(B'.take (t+1)++x :: (B'.drop (t+1)++Z))):=by
      refine ⟨q1+1,os1,swp dk1 p r,?_,by rw [size_swp]; exact hs1,?_⟩
      ·rw [hwr]
       exact sortWorldK_swp_c Rec.enc k w g off (aU HK) q1 dk1 os1 (aU HG) p r (by omega) (by omega)
      ·obtain ⟨hsz,hs',hl,ea,hw,hsr⟩:=aU HS
       have htB:t<B'.length:=by omega
       have hsw:=swp_list (d:=dk1) (X:=X++B'.take t) (Y:=[]) (Z:=B'.drop (t+1)++Z) (u:=x) (v:=B'[t]) (by rw [hl1,List.drop_eq_getElem_cons htB]; simp only [List.append_assoc,List.cons_append,List.nil_append])
       rw [show (X++B'.take t).length=p from by simp; omega,show p+1+([]:List Rec).length=r from hr] at hsw
       rw [hsw,List.take_succ_eq_append_getElem htB]; simp only [List.append_assoc,List.cons_append,List.nil_append]
     obtain ⟨xr,hxr⟩ : ∃ y,dk1[r]! = y:=⟨_,rfl⟩
     obtain ⟨xp,hxp⟩ : ∃ y,dk1[p]! = y:=⟨_,rfl⟩
     rw [hxr] at lr s1
     rw [hxp] at lp
     rw [hxp,hxr] at s2 HR
     obtain ⟨cP,hcP⟩ : ∃ c,Rec.enc xp=c:=⟨_,rfl⟩
     obtain ⟨cR,hcR⟩ : ∃ c,Rec.enc xr=c:=⟨_,rfl⟩
     have hsP:cP.length=k:=by rw [← hcP]; exact aU HK _
     have hsR:cR.length=k:=by rw [← hcR]; exact aU HK _
     rw [hcP,hcR] at HR s2
     rw [hcR] at lr s1
     rw [hcP] at lp
     have hpz1:(p:Int)<(d.size:Int):=by omega
     have hpz2:(r:Int)<(d.size:Int):=by omega
     have er:(p:Int)+1=(r:Int):=by omega
     have wP:IntKind.i64.wrap (p:Int)=(p:Int):=by rw [IntKind.wrap_i64]; omega
     have wR:IntKind.i64.wrap (r:Int)=(r:Int):=by rw [IntKind.wrap_i64]; omega
     have p0:(0:Int)≤(p:Int):=by omega
     have r0:(0:Int)≤(r:Int):=by omega
     have HE:Hid (t+gk=T∧t<T∧a+t=p∧T≤B'.length∧a+T+1≤b∧b≤d.size):=⟨htg,htT,hp,hTB,hab,hbs⟩
     clear hHd hwr hs1 hl1 HW hcP hcR hxr hxp hr htg htT hp hTB hab hs hij hmi hgi hjb hlt hB hmb hbs
     go_wp2_with fail
     clear hp3 hpz
     go_big_region_o
     all_goals
      clear lp lr s1 s2 aE zE mixed wP wR p0 r0 er hpz1 hpz2
      have hp3:p≤3001:=by have:=aU HE; omega
      go_wp2
      go_roundg (T - (t+1))
      case measure=>have:=aU HE; omega
      case rel =>
       obtain ⟨htg,htT,hp,hTB,hab,hbs⟩:=aU HE
       exact ⟨t+1,by rw [← hp]; first | rfl | go_num,by omega,HR⟩
    ·have htTI : ¬ ((a+t:Nat):Int)<(a:Int)+T:=by omega
     obtain rfl:t=T:=by omega
     obtain ⟨p,hp⟩ : ∃ p,a+t=p:=⟨_,rfl⟩
     have htT2 : ¬ (p:Int)<(a:Int)+t:=by omega
     rw [hp]
     clear hp htTI
     go_wp2_with fail
     refine bodyPost_ret (v:=.tuple #[]) (by simp [results,Tryz.results232]) rfl ?_
     obtain ⟨q1,os1,dk1,hwr,hs1,hl1⟩:=aU HW
     exact ⟨rfl,q1,os1,dk1,hwr,by rw [hl1,aU HFIN]; simp⟩
end Sf
end Go.Proofs.YtkkpahmoljiepaaGreatDoor

set_option maxRecDepth 1000000
set_option maxHeartbeats 12800000
namespace Go.Proofs.YtkkpahmoljiepaaGreatDoor
open Go.RowKit Go.Sort Go.Shelf
open Pu (Str aH aU)
namespace Sg
open Ka Kd Sa Sb Sc Sd Se Sf
theorem right_k (off k g cap a m b q:Nat) (hk : ∀ x,(Rec.enc x).length=k) (zE : ∀ w,Sem.run Tryz.prog (Go.sizeOf 47) w=.ok k w) (d dk:Array Rec) (os:Array Obj) (X A':List Rec) (y:Rec) (Z:List Rec) (w:World) (hH:HoldsK Rec.enc k w g off d) (hg:g<w.heap.size) (hs:dk.size=d.size) (hd:d.size≤3001)
  (hl:dk.toList=X++(A'++y :: Z)) (ea:X.length=a) (em:a+A'.length=m) (eb:m+1=b) (hA:2≤A'.length) (hw:Wk ltR) (hsr:Srt ltR A') :
  Calls Tryz.prog 232 #[.slice (some ⟨g,off,none⟩) d.size cap,.int .i64 a,.int .i64 m,.int .i64 b,.func (.func 103) #[] #[]] (sortWorldK Rec.enc k w g off q dk os) fun e w' =>
   e=.returned (.tuple #[])∧∃ q' os' d',w'=sortWorldK Rec.enc k w g off q' d' os'∧d'.toList=X++(mg ltR A' [y]++Z):=by
 have mixed:Tryz.prog.follows Departure.mixedOrders=true:=by kernel_rfl
 have aE:=Tryz.isAgg47
 have hsz:d.size=X.length+(A'.length+(1+Z.length)):=by rw [← hs,← Array.length_toList,hl]; simp; omega
 have hx:dk[m]! = y:=by
  have:=at_list (d:=dk) (X:=X++A') (u:=y) (Z:=Z) (by rw [hl]; simp)
  rw [show (X++A').length=m from by simp; omega] at this; exact this
 have HK:=aH hk
 have HH:=aH hH
 have HG:=aH hg
 have HS:=aH (And.intro hsz (And.intro hs (And.intro hl (And.intro ea (And.intro hw hsr)))))
 have hbd:b≤3001:=by omega
 have hbs:b≤d.size:=by omega
 have ham:a≤m:=by omega
 have hmb:m<b:=by omega
 have haI:((m:Int) - a == 1)=false:=by rw [beq_eq_false_iff_ne]; omega
 have hbI:((b:Int) - m == 1)=true:=by rw [beq_iff_eq]; omega
 clear hk hH hg hsz hl ea hw hsr
 obtain ⟨w0,hw0⟩ : ∃ w0,w0=sortWorldK Rec.enc k w g off q dk os:=⟨_,rfl⟩
 rw [← hw0]
 have HW0:=aH hw0
 clear hw0
 go_enter Tryz.func232,Tryz.ntmps232
 go_wp2_with fail
 go_loopg [14,15] (m - a) (fun g1 vi vj wr=>∃ (i j:Nat),vi=.int .i64 i∧vj=.int .i64 j∧a≤i∧i≤j∧j≤m∧j - i≤g1∧Hid (∃ q os,wr=sortWorldK Rec.enc k w g off q dk os)∧Hid ((i=a∨ltR y dk[i - 1]! = false)∧(j=m∨ltR y dk[j]! = true)))
 case atStart=>exact ⟨a,m,rfl,rfl,Nat.le_refl _,ham,Nat.le_refl _,Nat.le_refl _,⟨q,os,aU HW0⟩,.inl rfl,.inl rfl⟩
 case round =>
  obtain ⟨i,j,rfl,rfl,hmi,hij,hjb,hgi,HWR,HX⟩:=hrel
  by_cases hlt:i<j
  ·have hltz:(i:Int)<(j:Int):=by omega
   obtain ⟨h,hh⟩ : ∃ h,(i+j)/2=h:=⟨_,rfl⟩
   have hhI:((i:Int)+j)/2=(h:Int):=by omega
   have hih:i≤h:=by omega
   have hhj:h<j:=by omega
   obtain ⟨q1,os1,hwr⟩:=aU HWR
   have hcls : ∀ n' os',grow (wr.drewN n') os'=sortWorldK Rec.enc k w g off (q1+n') dk (os1++os'):=fun n' os'=>by rw [hwr]; exact sortWorldK_grown_c Rec.enc k w g off q1 n' dk os1 os'
   have hHc : ∀ n' os',HoldsK Rec.enc k (grow (wr.drewN n') os') g off dk:=fun n' os'=>by rw [hcls]; exact holdsK_sortWorldK_c Rec.enc k w g off d dk _ _ (aU HH) (aU HG) hs
   obtain ⟨x,hy⟩ : ∃ x,dk[h]! = x:=⟨_,rfl⟩
   have lh : ∀ n' os',Sem.run Tryz.prog (loadCellsFrom ⟨g,off+h*k,none⟩ 0 k #[]) (grow (wr.drewN n') os')=.ok (Rec.enc x).toArray (grow (wr.drewN n') os'):=fun n' os'=>by rw [← hy]; exact load_of (aU HK) (hHc n' os') h (by omega)
   have la : ∀ n' os',Sem.run Tryz.prog (loadCellsFrom ⟨g,off+m*k,none⟩ 0 k #[]) (grow (wr.drewN n') os')=.ok (Rec.enc y).toArray (grow (wr.drewN n') os'):=fun n' os'=>by rw [← hx]; exact load_of (aU HK) (hHc n' os') m (by omega)
   have hcg : ∀ W,Calls Tryz.prog 103 #[.agg (Rec.enc y).toArray,.agg (Rec.enc x).toArray] W fun e w'=>e=.returned (.int .i64 (cmpR y x))∧∃ q os',w'=grow (W.drewN q) os':=fun W=>sorted1 y x W
   have HCG:=aH hcg
   have CLS:=aH hcls
   have hhz:(h:Int)<(d.size:Int):=by omega
   have haz:(m:Int)<(d.size:Int):=by omega
   have HY:=aH hy
   have HHH:=aH hh
   have HXX:=aH hx
   clear hcls hHc hwr hh hy hcg hx
   generalize hcv:cmpR y x=cv at HCG
   have HCV:=aH hcv
   clear hcv
   by_cases hlv:cv<0
   ·go_wp2_with fail
    go_quiet_grown (first | (go_at_call 103; refine Calls.grown_of (aU HCG _)))
    go_wp2_with fail
    go_roundg (h - i)
    case measure=>omega
    case rel =>
     refine ⟨i,h,rfl,by first | rfl | go_num,hmi,by omega,by omega,Nat.le_refl _,⟨_,_,aU CLS _ _⟩,(aU HX).1,.inr ?_⟩
     show ltOf cmpR y dk[h]! = true
     rw [aU HY]; unfold ltOf; rw [aU HCV]; exact decide_eq_true hlv
   ·have hlv2:decide (cv<0)=false:=decide_eq_false hlv
    have HLV:=aH hlv
    clear hlv
    go_wp2_with fail
    go_quiet_grown (first | (go_at_call 103; refine Calls.grown_of (aU HCG _)))
    go_wp2_with fail
    go_roundg (j - (h+1))
    case measure=>omega
    case rel =>
     refine ⟨h+1,j,by first | rfl | go_num,rfl,by omega,by omega,hjb,Nat.le_refl _,⟨_,_,aU CLS _ _⟩,.inr ?_,(aU HX).2⟩
     show ltOf cmpR y dk[h]! = false
     rw [aU HY]; unfold ltOf; rw [aU HCV]; exact decide_eq_false (by have:=aU HLV; omega)
  ·have hltz : ¬ (i:Int)<(j:Int):=by omega
   obtain rfl:i=j:=by omega
   obtain ⟨T,hT⟩ : ∃ T,i=a+T:=⟨i - a,by omega⟩
   have HFIN:Hid (mg ltR A' [y]=A'.take T++y :: A'.drop T):=by
    obtain ⟨hsz,hs',hl,ea,hw,hsr⟩:=aU HS
    obtain ⟨h1,h2⟩:=aU HX
    have hat : ∀ t (h:t<A'.length),dk[a+t]! = A'[t]:=fun t h=>by rw [← ea]; exact at_app hl h
    rw [Hid]
    conv=>lhs; rw [← List.take_append_drop T A']
    refine mg_one_right ltR hw (by rw [List.take_append_drop]; exact hsr) (fun x hx=>?_) (fun x hx=>?_)
    ·obtain ⟨h0,h3,h4⟩:=last_take (by omega) hx
     rcases h1 with h1 | h1
     ·omega
     ·rw [show i - 1=a+(T - 1) from by omega,hat _ h0,h4] at h1; exact h1
    ·obtain ⟨h0,h4⟩:=head_drop hx
     rcases h2 with h2 | h2
     ·omega
     ·rw [hT,hat _ h0,h4] at h2; exact h2
   have hTB:T≤A'.length:=by omega
   have hiI:(i:Int)=(a:Int)+T:=by omega
   have HT:=aH (And.intro hT hiI)
   have HEM:=aH (And.intro em eb)
   have hi3:(i:Int)≤3001:=by omega
   obtain ⟨L,hL⟩ : ∃ L,A'.length=L:=⟨_,rfl⟩
   have hLm:a+L=m:=by omega
   clear hT hiI eb HX em
   go_wp2_with fail
   go_loopg [17] (L - T) (fun g1 vk wr=>∃ (t:Nat),vk=.int .i64 (a+t:Nat)∧T+g1=t∧t≤L∧Hid (∃ q os dk1,wr=sortWorldK Rec.enc k w g off q dk1 os∧dk1.size=d.size∧dk1.toList=X++(A'.take t++y :: (A'.drop t++Z))))
   case atStart =>
    obtain ⟨q1,os1,hwr⟩:=aU HWR
    obtain ⟨hsz,hs',hl,ea,hw,hsr⟩:=aU HS
    refine ⟨L,by first | (rw [hLm]) | go_num,by omega,Nat.le_refl _,q1,os1,dk,hwr,hs,?_⟩
    rw [← hL,List.take_length,List.drop_length,List.nil_append]; exact hl
   case round =>
    obtain ⟨t,rfl,htg,htL,HW⟩:=hrel
    by_cases htT:T<t
    ·obtain ⟨p,hp⟩ : ∃ p,a+t=p:=⟨_,rfl⟩
     rw [hp]
     have hpz:(i:Int)<(p:Int):=by have:=(aU HT).2; omega
     have hp3:p≤3001:=by omega
     obtain ⟨q1,os1,dk1,hwr,hs1,hl1⟩:=aU HW
     have hHd:HoldsK Rec.enc k wr.drew g off dk1:=by rw [hwr]; exact holdsK_sortWorldK_c Rec.enc k w g off d dk1 _ _ (aU HH) (aU HG) hs1
     obtain ⟨r,hr⟩ : ∃ r,r+1=p:=⟨p - 1,by omega⟩
     have lp:=load_of (aU HK) hHd p (by omega)
     have lr:=load_of (aU HK) hHd r (by omega)
     obtain ⟨s1,s2⟩:=store_of (aU HK) hHd p r (by omega) (by omega)
     have HR:Hid (∃ q os dk2,((wr.drew.setCells g (off+p*k) (Rec.enc dk1[r]!)).setCells g (off+r*k) (Rec.enc dk1[p]!))=sortWorldK Rec.enc k w g off q dk2 os∧dk2.size=d.size∧dk2.toList=X++(A'.take (t - 1)++y :: (A'.drop (t - 1)++Z))):=by
      refine ⟨q1+1,os1,swp dk1 p r,?_,by rw [size_swp]; exact hs1,?_⟩
      ·rw [hwr]
       exact sortWorldK_swp_c Rec.enc k w g off (aU HK) q1 dk1 os1 (aU HG) p r (by omega) (by omega)
      ·obtain ⟨hsz,hs',hl,ea,hw,hsr⟩:=aU HS
       obtain ⟨t',rfl⟩ : ∃ t',t=t'+1:=⟨t - 1,by omega⟩
       have htB:t'<A'.length:=by omega
       rw [List.take_succ_eq_append_getElem htB] at hl1
       have hsw:=swp_list (d:=dk1) (X:=X++A'.take t') (Y:=[]) (Z:=A'.drop (t'+1)++Z) (u:=A'[t']) (v:=y) (by rw [hl1]; simp only [List.append_assoc,List.cons_append,List.nil_append])
       rw [show (X++A'.take t').length=r from by simp; omega,show r+1+([]:List Rec).length=p from hr] at hsw
       rw [swp_comm _ _ _ (by omega),hsw,Nat.add_sub_cancel,List.drop_eq_getElem_cons htB]; simp only [List.append_assoc,List.cons_append,List.nil_append]
     obtain ⟨xr,hxr⟩ : ∃ y,dk1[r]! = y:=⟨_,rfl⟩
     obtain ⟨xp,hxp⟩ : ∃ y,dk1[p]! = y:=⟨_,rfl⟩
     rw [hxr] at lr s1
     rw [hxp] at lp
     rw [hxp,hxr] at s2 HR
     obtain ⟨cP,hcP⟩ : ∃ c,Rec.enc xp=c:=⟨_,rfl⟩
     obtain ⟨cR,hcR⟩ : ∃ c,Rec.enc xr=c:=⟨_,rfl⟩
     have hsP:cP.length=k:=by rw [← hcP]; exact aU HK _
     have hsR:cR.length=k:=by rw [← hcR]; exact aU HK _
     rw [hcP,hcR] at HR s2
     rw [hcR] at lr s1
     rw [hcP] at lp
     have hpz1:(p:Int)<(d.size:Int):=by omega
     have hpz2:(r:Int)<(d.size:Int):=by omega
     have er:(p:Int) - 1=(r:Int):=by omega
     have wP:IntKind.i64.wrap (p:Int)=(p:Int):=by rw [IntKind.wrap_i64]; omega
     have wR:IntKind.i64.wrap (r:Int)=(r:Int):=by rw [IntKind.wrap_i64]; omega
     have p0:(0:Int)≤(p:Int):=by omega
     have r0:(0:Int)≤(r:Int):=by omega
     have HE:Hid (T+gk=t∧T<t∧a+t=p∧r+1=p∧t≤L∧a+L=m∧m<b∧b≤3001):=⟨htg,htT,hp,hr,htL,hLm,hmb,hbd⟩
     clear hHd hwr hs1 hl1 HW hcP hcR hxr hxp hr htg htT hp hTB hs hij hmi hgi hjb hlt hA hmb hbs hL hLm htL
     go_wp2_with fail
     clear hp3 hpz
     go_big_region_o
     all_goals
      clear lp lr s1 s2 aE zE mixed wP wR p0 r0 er hpz1 hpz2
      have hp3:p≤3001:=by have:=aU HE; omega
      have hp1:1≤p:=by have:=aU HE; omega
      go_wp2
      go_roundg (t - 1 - T)
      case measure=>have:=aU HE; omega
      case rel =>
       obtain ⟨htg,htT,hp,hr,htL,hLm,hmb,hbd⟩:=aU HE
       exact ⟨t - 1,by rw [show a+(t - 1)=p - 1 from by omega]; first | rfl | go_num,by omega,by omega,HR⟩
    ·obtain rfl:t=T:=by omega
     obtain ⟨p,hp⟩ : ∃ p,a+t=p:=⟨_,rfl⟩
     have htT2 : ¬ (i:Int)<(p:Int):=by have:=(aU HT).2; omega
     rw [hp]
     clear hp
     go_wp2_with fail
     refine bodyPost_ret (v:=.tuple #[]) (by simp [results,Tryz.results232]) rfl ?_
     obtain ⟨q1,os1,dk1,hwr,hs1,hl1⟩:=aU HW
     exact ⟨rfl,q1,os1,dk1,hwr,by rw [hl1,aU HFIN]; simp⟩
end Sg
end Go.Proofs.YtkkpahmoljiepaaGreatDoor
