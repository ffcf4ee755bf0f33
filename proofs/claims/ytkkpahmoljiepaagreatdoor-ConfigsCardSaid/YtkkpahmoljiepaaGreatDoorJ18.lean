/- Contracts: slices.stableCmpFunc, slices.SortStableFunc, records.Sort, of any number of records. -/
import Derived.Test.YtkkpahmoljiepaaGreatDoorJ17
import Derived.Test.YtkkpahmoljiepaaGreatDoorJ15
import Derived.Test.YtkkpahmoljiepaaGreatDoorJ02
import Derived.Deep.RegionHeld
import Derived.Deep.RegionWith
set_option linter.unusedSimpArgs false
set_option linter.unusedVariables false
set_option maxRecDepth 1000000
set_option maxHeartbeats 12800000
namespace Go.Proofs.YtkkpahmoljiepaaGreatDoor
open Go.RowKit Go.Sort Go.Shelf
open Pu (Str aH aU)
namespace Sj
open Ka Kd Sa Sb Sc Sd Se Sf Sg Sh Si
theorem csortL (s:Nat) (l:List Rec):(csort ltR s l).length=l.length:=csort_len ltR s _ l (Nat.le_refl _)
theorem one_more {rs:List Rec} {dk:Array Rec} {t c:Nat} (hl:dk.toList=csort ltR 20 (rs.take (20*t))++rs.drop (20*t)) (h:20*t≤rs.length) (hc:c≤20) (hc2:20*t+c≤rs.length) (hc3:c=20∨20*t+c=rs.length) :
  (Sort.insertionSort ltR dk (20*t) (20*t+c)).toList=csort ltR 20 (rs.take (20*t+c))++rs.drop (20*t+c):=by
 have hP:(csort ltR 20 (rs.take (20*t))).length=20*t:=by rw [csortL,List.length_take]; omega
 have hC:((rs.drop (20*t)).take c).length=c:=by rw [List.length_take,List.length_drop]; omega
 have:=sort_list ltR wkR irR (csort ltR 20 (rs.take (20*t))) ((rs.drop (20*t)).take c) ((rs.drop (20*t)).drop c) dk (by rw [hl,List.take_append_drop])
 rw [hP,hC] at this
 rw [this,List.drop_drop,← List.append_assoc]
 congr 1
 rw [List.take_add,csort_snoc ltR (by omega) _ t _ (by rw [List.length_take]; omega),csort_small ltR (l:=(rs.drop (20*t)).take c) (by rw [hC]; exact hc)]
theorem two_more {rs:List Rec} {dk:Array Rec} {s t a c:Nat} (hs:0<s) (ha:a=2*s*t) (hl:dk.toList=csort ltR (2*s) (rs.take a)++csort ltR s (rs.drop a)) (hc:c≤s) (h0:0<c) (hn:a+s+c≤rs.length) (hc3:c=s∨a+s+c=rs.length) :
  ∃ X A' B' Z,dk.toList=X++(A'++(B'++Z))∧X.length=a∧A'.length=s∧B'.length=c∧Srt ltR A'∧Srt ltR B'∧X++(mg ltR A' B'++Z)=csort ltR (2*s) (rs.take (a+s+c))++csort ltR s (rs.drop (a+s+c)):=by
 have e1:rs.drop a=(rs.drop a).take s++((rs.drop (a+s)).take c++rs.drop (a+s+c)):=by
  rw [← List.drop_drop (i:=c),List.take_append_drop,← List.drop_drop (i:=s),List.take_append_drop]
 have l1:((rs.drop a).take s).length=s:=by rw [List.length_take,List.length_drop]; omega
 have l2:((rs.drop (a+s)).take c).length=c:=by rw [List.length_take,List.length_drop]; omega
 have e3:rs.take (a+s+c)=rs.take a++((rs.drop a).take s++(rs.drop (a+s)).take c):=by
  rw [List.take_add,List.take_add,List.append_assoc]
 generalize (rs.drop a).take s=C1 at *
 generalize (rs.drop (a+s)).take c=C2 at *
 have lx:(csort ltR (2*s) (rs.take a)).length=a:=by rw [csortL,List.length_take]; omega
 refine ⟨csort ltR (2*s) (rs.take a),iso ltR C1,iso ltR C2,csort ltR s (rs.drop (a+s+c)),?_,lx,by rw [iso_len,l1],by rw [iso_len,l2],iso_srt ltR wkR irR _,iso_srt ltR wkR irR _,?_⟩
 ·rw [hl,e1,csort_two ltR hs l1]
  congr 2
  rcases hc3 with hc3 | hc3
  ·rw [csort_snoc ltR hs _ 1 C2 (by omega),csort_small ltR (l:=C2) (by omega)]
  ·rw [show rs.drop (a+s+c) = [] from List.drop_of_length_le (by omega),csort_nil,List.append_nil,List.append_nil,csort_small ltR (by omega)]
 ·rw [e3,csort_snoc ltR (by omega) _ t (rs.take a) (by rw [List.length_take]; omega),csort_small ltR (l:=C1++C2) (by rw [List.length_append]; omega),iso_app ltR wkR,List.append_assoc]
theorem stable_all (g cap:Nat) (rs:List Rec) (w:World) (hH:HoldsK Rec.enc 4 w g 0 rs.toArray) (hg:g<w.heap.size) (hl:rs.length≤3001) :
  Calls Tryz.prog 173 #[.slice (some ⟨g,0,none⟩) rs.length cap,.int .i64 rs.length,.func (.func 103) #[] #[]] w fun e w' =>
   e=.returned (.tuple #[])∧∃ q os d',w'=sortWorldK Rec.enc 4 w g 0 q d' os∧d'.toList=iso ltR rs:=by
 obtain ⟨n,hn⟩ : ∃ n,n=rs.length:=⟨_,rfl⟩
 have hsz:rs.toArray.size=n:=by rw [hn]; simp
 have HINS:=aH (fun q dk os a b (hs:dk.size=rs.toArray.size) (hab:a≤b) (hb:b≤rs.toArray.size)=>insertion_on g cap a b q rs.toArray dk os w hH hg hs (by omega) hab hb)
 have HSYM:=aH (fun f=>symOk g cap rs.toArray w hH hg (by omega) f)
 have HW0:=aH (start_world hH)
 rw [hsz] at HINS
 unfold SymOk at HSYM
 rw [hsz] at HSYM
 rw [← hn]
 have hn3:n≤3001:=by omega
 have HN:=aH (And.intro hn (And.intro hsz hl))
 clear hH hg hl hn hsz
 go_enter Tryz.func173,Tryz.ntmps173
 go_wp2_with fail
 go_loopg [7,8] (n+20) (fun g1 va vb wr=>∃ (a t:Nat),va=.int .i64 a∧vb=.int .i64 (a+20:Nat)∧Hid (a=20*t)∧a≤n∧n+20≤g1+a∧Hid (∃ q os dk,wr=sortWorldK Rec.enc 4 w g 0 q dk os∧dk.size=n∧dk.toList=csort ltR 20 (rs.take a)++rs.drop a))
 case atStart =>
  refine ⟨0,0,rfl,rfl,rfl,by omega,by omega,0,#[],rs.toArray,aU HW0,(aU HN).2.1,?_⟩
  rw [List.take_zero,csort_nil]; simp
 case round =>
  obtain ⟨a,t,rfl,rfl,hat,han,hgk,HW⟩:=hrel
  obtain ⟨b,hb⟩ : ∃ b,a+20=b:=⟨_,rfl⟩
  rw [hb]
  by_cases hbn:b≤n
  ·have hbI:(b:Int)≤(n:Int):=by omega
   obtain ⟨q1,os1,d1,hwr,hs1,hl1⟩:=aU HW
   have HC:=aH (aU HINS q1 d1 os1 a b hs1 (by omega) (by omega))
   rw [← hwr] at HC
   have HNX:Hid ((Sort.insertionSort ltR d1 a b).toList=csort ltR 20 (rs.take b)++rs.drop b):=by
    have e:=aU hat
    have hnn:=(aU HN).1
    have:=one_more (rs:=rs) (dk:=d1) (t:=t) (c:=20) (by rw [← e]; exact hl1) (by omega) (by omega) (by omega) (.inl rfl)
    rw [← e,hb] at this
    exact this
   have HSZ:Hid ((Sort.insertionSort ltR d1 a b).size=n):=by rw [Hid,size_sort]; exact hs1
   have HB:=aH hb
   have hb3:b≤3001:=by omega
   clear hwr hs1 hl1 hb
   go_wp2_with fail
   refine (aU HC).mono ?_
   rintro e w2 ⟨rfl,q2,os2,hw2⟩
   have HW2:=aH hw2
   clear hw2
   go_wp2_with fail
   go_roundg (gk - 20)
   case measure=>have:=aU HB; omega
   case rel =>
    have hb:=aU HB
    have e:=aU hat
    refine ⟨b,t+1,by first | rfl | go_num,by first | rfl | go_num,by rw [Hid]; omega,hbn,by omega,q2,os2,_,aU HW2,aU HSZ,aU HNX⟩
  ·have hbI : ¬ (b:Int)≤(n:Int):=by omega
   obtain ⟨q1,os1,d1,hwr,hs1,hl1⟩:=aU HW
   have HC:=aH (aU HINS q1 d1 os1 a n hs1 han (Nat.le_refl _))
   rw [← hwr] at HC
   have HNX:Hid ((Sort.insertionSort ltR d1 a n).toList=csort ltR 20 rs):=by
    have e:=aU hat
    have hnn:=(aU HN).1
    have:=one_more (rs:=rs) (dk:=d1) (t:=t) (c:=n - a) (by rw [← e]; exact hl1) (by omega) (by omega) (by omega) (.inr (by omega))
    rw [← e,show a+(n - a)=n from by omega] at this
    rw [Hid,this,hnn,List.take_length,List.drop_length,List.append_nil]
   have HSZ:Hid ((Sort.insertionSort ltR d1 a n).size=n):=by rw [Hid,size_sort]; exact hs1
   clear hwr hs1 hl1 hb
   go_wp2_with fail
   refine (aU HC).mono ?_
   rintro e w2 ⟨rfl,q2,os2,hw2⟩
   have HW2:Hid (∃ q os dk,w2=sortWorldK Rec.enc 4 w g 0 q dk os∧dk.size=n∧dk.toList=csort ltR 20 rs):=⟨q2,os2,_,hw2,aU HSZ,aU HNX⟩
   clear hw2 HC HNX HSZ HINS
   go_wp2_with fail
   go_loopg [6] n (fun g1 vs wr=>∃ (s:Nat),vs=.int .i64 s∧20≤s∧s≤6002∧n≤s+g1∧Hid (∃ q os dk,wr=sortWorldK Rec.enc 4 w g 0 q dk os∧dk.size=n∧dk.toList=csort ltR s rs))
   case atStart=>exact ⟨20,rfl,by omega,by omega,by omega,HW2⟩
   case round =>
    obtain ⟨s,rfl,hs20,hs6,hsg,HWS⟩:=hrel
    by_cases hsn:s<n
    ·have hsI:(s:Int)<(n:Int):=by omega
     obtain ⟨s2,hs2⟩ : ∃ s2,s2=2*s:=⟨_,rfl⟩
     have hs2I:(2:Int)*s=(s2:Int):=by omega
     have hs2J:(s:Int)*2=(s2:Int):=by omega
     have hs23:s2≤6002:=by omega
     have HS2:=aH hs2
     have hs2s:s<s2:=by omega
     clear hs2
     go_wp2_with fail
     go_loopg [7,8] n (fun g2 va vb wr=>∃ (a t:Nat),va=.int .i64 a∧vb=.int .i64 (a+s2:Nat)∧Hid (a=2*s*t)∧a≤n∧n≤g2+a∧Hid (∃ q os dk,wr=sortWorldK Rec.enc 4 w g 0 q dk os∧dk.size=n∧dk.toList=csort ltR (2*s) (rs.take a)++csort ltR s (rs.drop a)))
     case atStart =>
      obtain ⟨q1,os1,d1,hwr,hs1,hl1⟩:=aU HWS
      refine ⟨0,0,rfl,by first | rfl | (rw [Nat.zero_add]) | go_num,rfl,by omega,by omega,q1,os1,d1,hwr,hs1,?_⟩
      rw [List.take_zero,csort_nil,List.drop_zero]; exact hl1
     case round =>
      obtain ⟨a,t,rfl,rfl,hat,han,hgk2,HW⟩:=hrel
      obtain ⟨b,hb⟩ : ∃ b,a+s2=b:=⟨_,rfl⟩
      rw [hb]
      obtain ⟨m,hm⟩ : ∃ m,a+s=m:=⟨_,rfl⟩
      have hmI:(a:Int)+s=(m:Int):=by omega
      have hm3:m≤6002:=by omega
      by_cases hbn:b≤n
      ·have hbI:(b:Int)≤(n:Int):=by omega
       obtain ⟨q1,os1,d1,hwr,hs1,hl1⟩:=aU HW
       have hnn:=(aU HN).1
       have e2:=aU HS2
       obtain ⟨X,A',B',Z,k1,k2,k3,k4,k5,k6,k7⟩:=two_more (rs:=rs) (dk:=d1) (s:=s) (t:=t) (a:=a) (c:=s) (by omega) (aU hat) hl1 (Nat.le_refl _) (by omega) (by omega) (.inl rfl)
       have HC:=aH (aU HSYM (b - a) a m b q1 d1 os1 X A' B' Z hs1 k1 k2 (by omega) (by omega) (by omega) (by omega) k5 k6 (Nat.le_refl _))
       rw [← hwr] at HC
       have HNX:Hid (∀ d':Array Rec,d'.toList=X++(mg ltR A' B'++Z)→d'.size=n∧d'.toList=csort ltR (2*s) (rs.take b)++csort ltR s (rs.drop b)):=fun d' h'=>by
        rw [k7,show a+s+s=b from by omega] at h'
        refine ⟨?_,h'⟩
        rw [← Array.length_toList,h',List.length_append,csortL,csortL,List.length_take,List.length_drop]; omega
       have HB:Hid (a+s2=b∧a+s=m):=⟨hb,hm⟩
       have hb3:b≤3001:=by omega
       clear hwr hs1 hl1 hb hm k1 k2 k3 k4 k5 k6 k7 hnn e2
       go_wp2_with fail
       refine (aU HC).mono ?_
       rintro e w3 ⟨rfl,q2,os2,d2,hw3,hl3⟩
       have HW3:Hid (∃ q os dk,w3=sortWorldK Rec.enc 4 w g 0 q dk os∧dk.size=n∧dk.toList=csort ltR (2*s) (rs.take b)++csort ltR s (rs.drop b)):=⟨q2,os2,d2,hw3,(aU HNX d2 hl3).1,(aU HNX d2 hl3).2⟩
       clear hw3 hl3
       go_wp2_with fail
       go_roundg (gk - s2)
       case measure=>have:=aU HB; have:=aU HS2; omega
       case rel =>
        obtain ⟨hb,hm⟩:=aU HB
        have e2:=aU HS2
        have e:=aU hat
        refine ⟨b,t+1,by first | rfl | go_num,by first | rfl | go_num,by rw [Hid,← hb,e,e2,Nat.mul_succ],hbn,by omega,HW3⟩
      ·have hbI : ¬ (b:Int)≤(n:Int):=by omega
       by_cases hmn:m<n
       ·have hmnI:(m:Int)<(n:Int):=by omega
        obtain ⟨q1,os1,d1,hwr,hs1,hl1⟩:=aU HW
        have hnn:=(aU HN).1
        have e2:=aU HS2
        obtain ⟨X,A',B',Z,k1,k2,k3,k4,k5,k6,k7⟩:=two_more (rs:=rs) (dk:=d1) (s:=s) (t:=t) (a:=a) (c:=n - m) (by omega) (aU hat) hl1 (by omega) (by omega) (by omega) (.inr (by omega))
        have HC:=aH (aU HSYM (n - a) a m n q1 d1 os1 X A' B' Z hs1 k1 k2 (by omega) (by omega) (by omega) (by omega) k5 k6 (Nat.le_refl _))
        rw [← hwr] at HC
        have HNX:Hid (∀ d':Array Rec,d'.toList=X++(mg ltR A' B'++Z)→d'.size=n∧d'.toList=csort ltR s2 rs):=fun d' h'=>by
         rw [k7,show a+s+(n - m)=n from by omega,hnn,List.take_length,List.drop_length,csort_nil,List.append_nil,← e2] at h'
         refine ⟨?_,h'⟩
         rw [← Array.length_toList,h',csortL]; omega
        clear hwr hs1 hl1 hb hm k1 k2 k3 k4 k5 k6 k7 hnn e2
        go_wp2_with fail
        refine (aU HC).mono ?_
        rintro e w3 ⟨rfl,q2,os2,d2,hw3,hl3⟩
        have HW3:Hid (∃ q os dk,w3=sortWorldK Rec.enc 4 w g 0 q dk os∧dk.size=n∧dk.toList=csort ltR s2 rs):=⟨q2,os2,d2,hw3,(aU HNX d2 hl3).1,(aU HNX d2 hl3).2⟩
        clear hw3 hl3
        go_wp2_with fail
        go_roundg (n - s2)
        case measure=>omega
        case rel=>exact ⟨s2,by first | rfl | go_num,by omega,hs23,by omega,HW3⟩
       ·have hmnI : ¬ (m:Int)<(n:Int):=by omega
        have HW3:Hid (∃ q os dk,wr=sortWorldK Rec.enc 4 w g 0 q dk os∧dk.size=n∧dk.toList=csort ltR s2 rs):=by
         obtain ⟨q1,os1,d1,hwr,hs1,hl1⟩:=aU HW
         have hnn:=(aU HN).1
         have e2:=aU HS2
         refine ⟨q1,os1,d1,hwr,hs1,?_⟩
         have hld:(rs.drop a).length≤s:=by rw [List.length_drop]; omega
         rw [hl1,csort_small ltR hld,← csort_small ltR (s:=2*s) (l:=rs.drop a) (by omega),← csort_snoc ltR (by omega) _ t (rs.take a) (by rw [List.length_take]; have:=aU hat; omega),List.take_append_drop,← e2]
        clear hb hm HW
        go_wp2_with fail
        go_roundg (n - s2)
        case measure=>omega
        case rel=>exact ⟨s2,by first | rfl | go_num,by omega,hs23,by omega,HW3⟩
    ·have hsI : ¬ (s:Int)<(n:Int):=by omega
     go_wp2_with fail
     go_end0
     obtain ⟨q1,os1,d1,hwr,hs1,hl1⟩:=aU HWS
     have hnn:=(aU HN).1
     exact ⟨rfl,q1,os1,d1,hwr,by rw [hl1,csort_small ltR (by omega)]⟩
end Sj
end Go.Proofs.YtkkpahmoljiepaaGreatDoor

set_option maxRecDepth 1000000
set_option maxHeartbeats 12800000
namespace Go.Proofs.YtkkpahmoljiepaaGreatDoor
open Go.RowKit Go.Sort Go.Shelf
open Pu (Str aH aU)
namespace Sk
open Ka Kd Sa Sb Sc Sd Se Sf Sg Sh Si Sj
theorem sortL_iso (rs:List Rec):sortL rs=iso ltR rs:=by
 have:=sort_list ltR wkR irR [] rs [] rs.toArray (by simp)
 simp only [List.length_nil,Nat.zero_add,List.nil_append,List.append_nil] at this
 exact this
theorem sortStable_all (g cap:Nat) (rs:List Rec) (w:World) (hH:HoldsK Rec.enc 4 w g 0 rs.toArray) (hg:g<w.heap.size) (hl:rs.length≤3001) :
  Calls Tryz.prog 102 #[.slice (some ⟨g,0,none⟩) rs.length cap,.func (.func 103) #[] #[]] w fun e w' =>
   e=.returned (.tuple #[])∧∃ q os d',w'=sortWorldK Rec.enc 4 w g 0 q d' os∧d'.toList=iso ltR rs:=by
 have HI:=aH (stable_all g cap rs w hH hg hl)
 clear hH
 go_enter Tryz.func102,Tryz.ntmps102
 go_wp2_with fail
 refine (aU HI).mono ?_
 rintro e w1 ⟨rfl,hw⟩
 have HW:=aH hw
 clear hw
 go_wp2_with fail
 go_end0
 exact ⟨rfl,aU HW⟩
theorem sort0_all (g cap:Nat) (rs:List Rec) (w:World) (hH:HoldsK Rec.enc 4 w g 0 rs.toArray) (hg:g<w.heap.size) (hl:rs.length≤3001) :
  Calls Tryz.prog 59 #[.slice (some ⟨g,0,none⟩) rs.length cap] w fun e w' =>
   e=.returned (.tuple #[])∧∃ q os d',w'=sortWorldK Rec.enc 4 w g 0 q d' os∧d'.toList=iso ltR rs:=by
 have HI:=aH (sortStable_all g cap rs w hH hg hl)
 clear hH
 go_enter Tryz.func59,Tryz.ntmps59
 go_wp2_with fail
 refine (aU HI).mono ?_
 rintro e w1 ⟨rfl,hw⟩
 have HW:=aH hw
 clear hw
 go_wp2_with fail
 go_end0
 exact ⟨rfl,aU HW⟩
theorem sort_all (g cap:Nat) (rs:List Rec) (w:World) (cur:Array Value) (e:TypeId) (hc:w.heap[g]? = some (.cells cur e)) (hr:bE w g 0 rs) (hl:rs.length≤3001) :
  Calls Tryz.prog 59 #[.slice (some ⟨g,0,none⟩) rs.length cap] w fun e w' =>
   e=.returned (.tuple #[])∧bE w' g 0 (sortL rs)∧∀ B a,B≤g→B≤w.heap.size→Below B a w→Below B a w':=by
 refine (sort0_all g cap rs w (holdsK_of hc hr) hr.1 hl).mono ?_
 rintro e w' ⟨rfl,n,os,d',rfl,hd⟩
 obtain rfl:d'=(sortL rs).toArray:=by rw [sortL_iso,← hd]
 have hs:(sortL rs).toArray.size=rs.toArray.size:=by simp [sortL_len]
 refine ⟨rfl,recsAt_of_holds (Nat.lt_of_lt_of_le hr.1 (size_sortWorldK_c Rec.enc 4 w g 0 n _ os)) ?_,fun B a h1 h2 h3=>below_sort h3 h1 h2⟩
 exact holdsK_sortWorldK_c Rec.enc 4 w g 0 rs.toArray _ n os (holdsK_of hc hr) hr.1 hs
end Sk
end Go.Proofs.YtkkpahmoljiepaaGreatDoor

namespace Go.Proofs.YtkkpahmoljiepaaGreatDoor
open Go.RowKit
open Pu (Str aH aU)
namespace En
open Ka Ed Ek Em Ia Sc Sf Si
theorem mg_perm {α:Type} (lt:α→α→Bool) : ∀ (A B:List α),(mg lt A B).Perm (A++B)
 | [],B=>by cases B <;> simp [mg]
 | a :: A,[]=>by simp [mg]
 | a :: A,b :: B=>by
  rw [mg_cons]
  split
  ·exact ((mg_perm lt (a :: A) B).cons b).trans (List.perm_middle.symm)
  ·exact (mg_perm lt A (b :: B)).cons a
termination_by A B=>A.length+B.length
theorem iso_perm {α:Type} (lt:α→α→Bool) (l:List α):(iso lt l).Perm l:=by
 have key : ∀ (n:Nat) (l:List α),l.length=n→(iso lt l).Perm l:=by
  intro n
  induction n with
  | zero=>intro l h; obtain rfl:l = []:=List.eq_nil_of_length_eq_zero h; exact List.Perm.refl _
  | succ n ih =>
   intro l h
   have hne:l≠[]:=by rintro rfl; simp at h
   have e:=List.dropLast_concat_getLast hne
   have hl:l.dropLast.length=n:=by simp; omega
   conv=>lhs; rw [← e]
   rw [iso_snoc]
   have:=(mg_perm lt (iso lt l.dropLast) [l.getLast hne]).trans ((ih _ hl).append_right _)
   rwa [e] at this
 exact key l.length l rfl
theorem sort_perm (rs:List Rec):(sortL rs).Perm rs:=by rw [Sk.sortL_iso]; exact iso_perm _ rs
theorem sort_srt (rs:List Rec):Srt ltR (sortL rs):=by rw [Sk.sortL_iso]; exact iso_srt ltR wkR irR rs
theorem not_lt {r s:Rec} (h:ltR r s=false):Op.bytesLess r.owner s.owner=false∧(r.owner=s.owner→¬ r.type<s.type):=by
 have hn : ¬ (Op.bytesLess r.owner s.owner=true∨(r.owner=s.owner∧r.type<s.type)):=fun hc=>by rw [(ltR_iff r s).2 hc] at h; cases h
 refine ⟨?_,fun e hl=>hn (.inr ⟨e,hl⟩)⟩
 rw [← Bool.not_eq_true]
 exact fun hc=>hn (.inl hc)
theorem between {r x y:Rec} (h1:ltR x r=false) (h2:ltR y x=false) (he:y.owner=r.owner):x.owner=r.owner∧(y.type=r.type→x.type=r.type):=by
 obtain ⟨a1,a2⟩:=not_lt h1
 obtain ⟨b1,b2⟩:=not_lt h2
 have ho:x.owner=r.owner:=by
  rw [he] at b1
  exact bl_eq _ _ a1 b1
 refine ⟨ho,fun ht=>?_⟩
 have c1:=a2 ho
 have c2:=b2 (he.trans ho.symm)
 omega
theorem grp_of {κ:Type} (k:Rec→κ) (hk : ∀ r x y:Rec,ltR x r=false→ltR y x=false→k y=k r→k x=k r) : ∀ (l:List Rec),Srt ltR l→Grp k l
 | [],_=>trivial
 | r :: t,h=>by
  have hp:=List.pairwise_cons.1 h
  refine ⟨fun a b e hx y hy=>?_,grp_of k hk t hp.2⟩
  obtain ⟨x,hxa,hxk⟩:=hx
  subst e
  intro hyk
  have hxy:=(List.pairwise_append.1 hp.2).2.2 x hxa y hy
  exact hxk (hk r x y (hp.1 x (List.mem_append_left _ hxa)) hxy hyk)
theorem grp_owner {l:List Rec} (h:Srt ltR l):Grp (fun r:Rec=>r.owner) l:=grp_of _ (fun r x y h1 h2 he=>(between h1 h2 he).1) l h
theorem grp_set {l:List Rec} (h:Srt ltR l):Grp (fun r:Rec=>(r.owner,r.type)) l:=grp_of _ (fun r x y h1 h2 he=>by
 obtain ⟨e1,e2⟩:=Prod.mk.inj he
 obtain ⟨a,b⟩:=between h1 h2 e1
 exact Prod.ext a (b e2)) l h
theorem own_iff (a b:Rec):aG a b=true ↔ a.owner=b.owner:=by unfold aG; simp
theorem set_iff (a b:Rec):aD a b=true ↔ (a.owner,a.type)=(b.owner,b.type):=by unfold aD; simp
theorem own_head {L:List Rec} {r:Rec} (hr:r∈L) {x:Nat×List Rec} (hx:x.2=L.filter (aG r)):aI x=r.owner:=by
 unfold aI
 rw [hx]
 have hm:r∈L.filter (aG r):=List.mem_filter.2 ⟨hr,(own_iff r r).2 rfl⟩
 cases hf:L.filter (aG r) with
 | nil=>rw [hf] at hm; cases hm
 | cons y t =>
  have:y∈L.filter (aG r):=by rw [hf]; simp
  exact ((own_iff r y).1 (List.mem_filter.1 this).2).symm
section
variable {L:List Rec} (hL:Srt ltR L)
include hL
theorem runs_own:(∀ x∈runs aG L,∃ r∈L,x.2.head? = some r∧x.2=L.filter (aG r))∧(∀ r∈L,∃ x∈runs aG L,x.2=L.filter (aG r)) :=
 runs_grp aG own_iff L.length 0 L (Nat.le_refl _) (grp_owner hL)
theorem runs_set:(∀ x∈runs aD L,∃ r∈L,x.2.head? = some r∧x.2=L.filter (aD r))∧(∀ r∈L,∃ x∈runs aD L,x.2=L.filter (aD r)) :=
 runs_grp aD set_iff L.length 0 L (Nat.le_refl _) (grp_set hL)
theorem sets_all (p:List Rec→Bool):(runs aD L).all (fun x=>p x.2)=true ↔ ∀ r∈L,p (L.filter (aD r))=true:=by
 rw [List.all_eq_true]
 constructor
 ·intro h r hr
  obtain ⟨x,hx,e⟩:=(runs_set hL).2 r hr
  rw [← e]; exact h x hx
 ·intro h x hx
  obtain ⟨r,hr,_,e⟩:=(runs_set hL).1 x hx
  rw [e]; exact h r hr
theorem owners_all (p:Str→List Rec→Bool):(runs aG L).all (fun x=>p (aI x) x.2)=true ↔ ∀ r∈L,p r.owner (L.filter (aG r))=true:=by
 rw [List.all_eq_true]
 constructor
 ·intro h r hr
  obtain ⟨x,hx,e⟩:=(runs_own hL).2 r hr
  rw [← e,← own_head hr e]; exact h x hx
 ·intro h x hx
  obtain ⟨r,hr,_,e⟩:=(runs_own hL).1 x hx
  rw [own_head hr e,e]; exact h r hr
theorem of_filter (n:Str):ofP L n=L.filter (fun r=>r.owner == n):=by
 unfold ofP
 cases hf:(runs aG L).find? (fun x=>aI x == n) with
 | some x =>
  have hp:=List.find?_some hf
  obtain ⟨r,hr,_,e⟩:=(runs_own hL).1 x (List.mem_of_find?_eq_some hf)
  have ho:r.owner=n:=by rw [← own_head hr e]; simpa using hp
  show x.2=_
  rw [e]
  congr 1
  funext y
  rw [Bool.eq_iff_iff,own_iff,ho,beq_iff_eq]
  exact eq_comm
 | none =>
  show []=_
  symm
  rw [List.filter_eq_nil_iff]
  intro r hr hc
  obtain ⟨x,hx,e⟩:=(runs_own hL).2 r hr
  have:=List.find?_eq_none.1 hf x hx
  rw [own_head hr e] at this
  exact this hc
theorem cut_all (n:Str):rightCut L n=true ↔ ∀ r∈L,Sp.under r.owner n=true→Sp.starred r.owner=false∧∀ s∈L,s.owner=r.owner→s.type=(if r.owner=n then 2 else 1):=by
 unfold rightCut underRuns
 rw [List.all_eq_true]
 constructor
 ·intro h r hr hu
  obtain ⟨x,hx,e⟩:=(runs_own hL).2 r hr
  have ho:=own_head hr e
  have:=h x (List.mem_filter.2 ⟨hx,by rw [ho]; exact hu⟩)
  unfold cutOk at this
  rw [Bool.and_eq_true,ho] at this
  refine ⟨by simpa using this.1,fun s hs hso=>?_⟩
  have h2:=this.2
  rw [Bool.not_eq_true',← Bool.not_eq_true,List.any_eq_true] at h2
  have hm:s∈x.2:=by rw [e]; exact List.mem_filter.2 ⟨hs,(own_iff r s).2 hso.symm⟩
  have h3:notP (if r.owner == n then 2 else 1) s=false:=by
   rw [← Bool.not_eq_true]
   exact fun hc=>h2 ⟨s,hm,hc⟩
  unfold notP at h3
  have h4:s.type=(if r.owner == n then 2 else 1):=by simpa using h3
  rw [h4]
  by_cases hn:r.owner=n <;> simp [hn]
 ·intro h x hx
  obtain ⟨hx1,hx2⟩:=List.mem_filter.1 hx
  obtain ⟨r,hr,_,e⟩:=(runs_own hL).1 x hx1
  have ho:=own_head hr e
  rw [ho] at hx2
  obtain ⟨h1,h2⟩:=h r hr hx2
  unfold cutOk
  rw [Bool.and_eq_true,ho]
  refine ⟨by rw [h1]; rfl,?_⟩
  rw [Bool.not_eq_true',← Bool.not_eq_true,List.any_eq_true]
  rintro ⟨s,hs,hc⟩
  rw [e] at hs
  obtain ⟨hs1,hs2⟩:=List.mem_filter.1 hs
  have h3:=h2 s hs1 ((own_iff r s).1 hs2).symm
  unfold notP at hc
  rw [h3] at hc
  by_cases hn:r.owner=n <;> simp [hn] at hc
end
end En
namespace Eh
open Ka Kb Re Wa Wb Ea Eb Ec Ed Ee Ef
def RecV (w:World) (b o:Nat) (r:Rec):Prop:=∃ vo vw,w.cell? ⟨b,o,none⟩=some vo∧w.cell? ⟨b,o+1,none⟩=some (.int .i64 r.ttl)∧w.cell? ⟨b,o+2,none⟩=some (.int .i64 r.type)∧w.cell? ⟨b,o+3,none⟩=some (.string (B r.data))∧w.cell? ⟨b,o+4,none⟩=some vw∧NmV w vo (Sp.spl 46 r.owner)∧NmV w vw (Sp.spl 32 r.data)
theorem RecV.below {w w':World} {b o:Nat} {r:Rec} (h:RecV w b o r) (hb:Below w.heap.size w w'):RecV w' b o r:=by
 obtain ⟨vo,vw,h0,h1,h2,h3,h4,h5,h6⟩:=h
 have k : ∀ (a:Addr) (v:Value),w.cell? a=some v→w'.cell? a=some v:=fun a v h=>(hb.cell (World.block_lt_of_cell? w a h)).trans h
 exact ⟨vo,vw,k _ _ h0,k _ _ h1,k _ _ h2,k _ _ h3,k _ _ h4,h5.below hb,h6.below hb⟩
def RRecs (w:World) (b off:Nat) (rs:List Rec):Prop:=∀ j (h:j<rs.length),RecV w b (off+j*5) rs[j]
theorem RRecs.below {w w':World} {b off:Nat} {rs:List Rec} (h:RRecs w b off rs) (hb:Below w.heap.size w w'):RRecs w' b off rs:=fun j hj=>(h j hj).below hb
def RZone (w:World) (zb:Nat) (o:Str) (rs:List Rec):Prop:=∃ vo b off cap,w.heap[zb]? = some (.cells #[vo,.slice (some ⟨b,off,none⟩) rs.length cap] 117)∧NmV w vo (Sp.spl 46 o)∧rs.length≤cap∧RRecs w b off rs
theorem RZone.below {w w':World} {zb:Nat} {o:Str} {rs:List Rec} (h:RZone w zb o rs) (hb:Below w.heap.size w w'):RZone w' zb o rs:=by
 obtain ⟨vo,b,off,cap,h0,h1,h2,h3⟩:=h
 exact ⟨vo,b,off,cap,(hb.block zb (Array.getElem?_eq_some_iff.1 h0).1).trans h0,h1.below hb,h2,h3.below hb⟩
def RFit (o:Str) (rs:List Rec):Prop:=o.length≤900∧rs.length≤3001∧∀ r∈rs,r.owner.length≤900
theorem spl_small {s:Str} (h:s.length≤900):(Sp.spl 46 s).length≤1000:=by have:=Sp.spl_len_le 46 s; omega
theorem spl_pos (s:Str):0<(Sp.spl 46 s).length:=by
 have:=Sp.spl_ne 46 s
 cases h:Sp.spl 46 s with
 | nil=>exact absurd h this
 | cons a t=>simp
def hasR (rs:List Rec) (ns:List Str) (t:Int):Bool:=rs.any fun r=>decide (Sp.spl 46 r.owner=ns) && (t == 255 || r.type == t)
theorem any_take (p:Rec→Bool) (rs:List Rec) (k:Nat) (h:k<rs.length) (h0:(rs.take k).any p=false) (hk:p rs[k]=false):(rs.take (k+1)).any p=false:=by
 rw [List.take_succ_eq_append_getElem h,List.any_append,h0]; simp [hk]
theorem has_any (zb:Nat) (o:Str) (rs:List Rec) (u:Value) (ns:List Str) (t:Int) (w:World) (hz:RZone w zb o rs) (hf:RFit o rs) (hu:NmV w u ns) (hn:ns.length≤1000) :
  Calls Tryz.prog 118 #[.pointer (some ⟨zb,0,none⟩),u,.int .i64 t] w fun e w'=>e=.returned (.bool (hasR rs ns t))∧Below w.heap.size w w':=by
 have HU:=aH hu
 have HZ:=aH hz
 obtain ⟨vo,b,off,cap,z0,z1,z2,z3⟩:=hz
 have hzl:zb<w.heap.size:=(Array.getElem?_eq_some_iff.1 z0).1
 have HR:=aH z3
 have HZB:=aH z0
 have hfl:=hf.2.1
 have HF:=aH hf
 clear z0 z1 z3 hu hf
 go_enter Tryz.func118,Tryz.ntmps118
 go_wp2_with fail
 go_loopw [7] (fun i wr=>∃ k:Nat,k≤rs.length∧i=.int .i64 k∧(rs.take k).any (fun r=>decide (Sp.spl 46 r.owner=ns) && (t == 255 || r.type == t))=false∧Below w.heap.size w wr) (fun i _=>rs.length - (intOf i).toNat)
 case atStart=>exact ⟨0,Nat.zero_le _,rfl,rfl,Below.refl _ _⟩
 case round =>
  obtain ⟨k,hk,rfl,hno,hb⟩:=hrel
  have HNO:=aH hno
  have HB:=aH hb
  have zc:wr.cell? ⟨zb,1,none⟩=some (.slice (some ⟨b,off,none⟩) rs.length cap):=by
   have:=(hb.block zb hzl).trans (aU HZB)
   unfold World.cell?; rw [this]; rfl
  by_cases hlt:k<rs.length
  ·have hltI:(k:Int)<(rs.length:Int):=by omega
   obtain ⟨ro,rw',c0,c1,c2,c3,c4,c5,c6⟩:=((aU HR) k hlt).below hb
   have hrl:=(aU HF).2.2 rs[k] (List.getElem_mem hlt)
   have HAT:=aH (any_take (fun r=>decide (Sp.spl 46 r.owner=ns) && (t == 255 || r.type == t)) rs k hlt hno)
   have HYES:Hid ((decide (Sp.spl 46 rs[k].owner=ns) && (t == 255 || rs[k].type == t))=true→hasR rs ns t=true):=fun h=>List.any_eq_true.2 ⟨rs[k],List.getElem_mem hlt,h⟩
   have HS:=aH (same_any ro u (Sp.spl 46 rs[k].owner) ns wr c5 ((aU HU).below hb) (spl_small hrl) hn)
   generalize rs[k]=r at *
   clear c1 c3 c4 c5 c6 hno hb hrl
   go_wp2_with fail
   refine (aU HS).mono ?_
   rintro e w1 ⟨rfl,hb1⟩
   have HB1:=aH ((aU HB).trans (hb1.mono (aU HB).size))
   have zc1:=(hb1.cell (p:=⟨zb,1,none⟩) (World.block_lt_of_cell? _ _ zc)).trans zc
   have c21:=(hb1.cell (p:=⟨b,off+k*5+2,none⟩) (World.block_lt_of_cell? _ _ c2)).trans c2
   clear hb1 HS
   cases hs:decide (Sp.spl 46 r.owner=ns)
   ·have HP:Hid ((rs.take (k+1)).any (fun r=>decide (Sp.spl 46 r.owner=ns) && (t == 255 || r.type == t))=false):=aU HAT (by show (decide (Sp.spl 46 r.owner=ns) && _)=false; rw [hs]; rfl)
    clear hs
    go_wp2_with fail
    exact ⟨⟨k+1,by omega,by go_num,aU HP,aU HB1⟩,by simp [intOf]; omega⟩
   ·rw [hs] at HYES
    cases ht:(t == 255)
    ·rw [ht] at HYES
     cases hr:(r.type == t)
     ·have HP:Hid ((rs.take (k+1)).any (fun r=>decide (Sp.spl 46 r.owner=ns) && (t == 255 || r.type == t))=false):=aU HAT (by show (decide (Sp.spl 46 r.owner=ns) && (t == 255 || r.type == t))=false; rw [hs,ht,hr]; rfl)
      clear hs
      go_wp2_with fail
      exact ⟨⟨k+1,by omega,by go_num,aU HP,aU HB1⟩,by simp [intOf]; omega⟩
     ·have HP:=aH (aU HYES (by rw [hr]; rfl))
      clear hs
      go_wp2_with fail
      go_ret
      exact ⟨ret_bool (aU HP).symm,aU HB1⟩
    ·have HP:=aH (aU HYES (by rw [ht]; rfl))
     clear hs
     go_wp2_with fail
     go_ret
     exact ⟨ret_bool (aU HP).symm,aU HB1⟩
  ·have hltI : ¬ (k:Int)<(rs.length:Int):=by omega
   have hks:k=rs.length:=by omega
   have HP:Hid (hasR rs ns t=false):=by
    have:=aU HNO
    rw [hks,List.take_length] at this
    exact this
   clear hno hb
   go_wp2_with fail
   go_ret
   exact ⟨ret_bool (aU HP).symm,aU HB⟩
end Eh
namespace Ei
open Ka Kb Re Wa Wb Ea Eb Ec Ed Ee Ef Eh
def rcV (vo vw:Value) (r:Rec):Value:=.agg #[vo,.int .i64 r.ttl,.int .i64 r.type,.string (B r.data),vw]
def cutR (o:Str) (r:Rec):Bool:=r.type == 2 && !decide (Sp.spl 46 r.owner=Sp.spl 46 o)
theorem cut_any (zb:Nat) (o:Str) (rs:List Rec) (r:Rec) (vo vw:Value) (w:World) (hz:RZone w zb o rs) (ho:o.length≤900) (hv:NmV w vo (Sp.spl 46 r.owner)) (hr:r.owner.length≤900) :
  Calls Tryz.prog 185 #[.pointer (some ⟨zb,0,none⟩),rcV vo vw r] w fun e w'=>e=.returned (.bool (cutR o r))∧Below w.heap.size w w':=by
 obtain ⟨vz,b,off,cap,z0,z1,z2,z3⟩:=hz
 have hzl:zb<w.heap.size:=(Array.getElem?_eq_some_iff.1 z0).1
 obtain ⟨W,hW⟩ : ∃ W,W=w.alloc (.cells #[vo,.int .i64 r.ttl,.int .i64 r.type,.string (B r.data),vw] 119):=⟨_,rfl⟩
 have hbW:Below w.heap.size w W:=by rw [hW]; exact (Below.refl _ _).alloc (Nat.le_refl _) _
 have hnew:W.heap[w.heap.size]? = some (.cells #[vo,.int .i64 r.ttl,.int .i64 r.type,.string (B r.data),vw] 119):=by rw [hW]; exact World.alloc_heap_new w _
 have c0:W.cell? ⟨w.heap.size,0,none⟩=some vo:=by unfold World.cell?; rw [hnew]; rfl
 have c2:W.cell? ⟨w.heap.size,2,none⟩=some (.int .i64 r.type):=by unfold World.cell?; rw [hnew]; rfl
 have zc:W.cell? ⟨zb,0,none⟩=some vz:=by
  have:=(hbW.block zb hzl).trans z0
  unfold World.cell?; rw [this]; rfl
 have hlt:w.heap.size<W.heap.size:=(Array.getElem?_eq_some_iff.1 hnew).1
 have HS:=aH (fun V (hb:Below W.heap.size W V)=>same_any vo vz (Sp.spl 46 r.owner) (Sp.spl 46 o) V ((hv.below hbW).below hb) ((z1.below hbW).below hb) (spl_small hr) (spl_small ho))
 have HB:=aH hbW
 have HW:=aH hW
 have HC:Hid (cutR o r=(r.type == 2 && !decide (Sp.spl 46 r.owner=Sp.spl 46 o))):=rfl
 clear z0 z1 z3 hv hbW hnew
 generalize decide (Sp.spl 46 r.owner=Sp.spl 46 o)=same at *
 unfold rcV
 go_enter Tryz.func185,Tryz.ntmps185
 go_upto_region 1 with fail
 rw [← hW]
 clear hW
 have hS:W.drew.cell? ⟨w.heap.size,0,none⟩=some vo∧W.drew.cell? ⟨zb,0,none⟩=some vz:=⟨c0,zc⟩
 go_region_held (fun w'=>w'.cell? ⟨w.heap.size,0,none⟩=some vo∧w'.cell? ⟨zb,0,none⟩=some vz) (first | assumption | go_keep)
  (first | (go_at_call 117; go_loud (refine (aU HS _ (Below.refl _ _).drew).mono ?_; rintro e w2 ⟨rfl,hb2⟩; have hS2:w2.cell? ⟨w.heap.size,0,none⟩=some vo∧w2.cell? ⟨zb,0,none⟩=some vz:=⟨(hb2.cell (p:=⟨w.heap.size,0,none⟩) hlt).trans c0,(hb2.cell (p:=⟨zb,0,none⟩) (World.block_lt_of_cell? _ _ zc)).trans zc⟩)))
 have c22:=(hb2.cell (p:=⟨w.heap.size,2,none⟩) hlt).trans c2
 have c22':w2.cell? ⟨w.heap.size,2,none⟩=some (.int .i64 r.type):=c22
 have HB2:Hid (Below w.heap.size w w2):=(aU HB).trans ((show Below W.heap.size W w2 from (Below.refl W.heap.size W).drew.trans hb2).mono (aU HB).size)
 clear hb2 c22
 cases ht:(r.type == 2)
 ·have HT:=aH ht
  go_wp2_with fail
  go_ret
  exact ⟨ret_bool (by rw [aU HC,aU HT]; rfl),aU HB2⟩
 ·have HT:=aH ht
  go_wp2_with fail
  go_ret
  exact ⟨ret_bool (by rw [aU HC,aU HT]; simp),aU HB2⟩
def fst (s:Str):Str:=(Sp.spl 46 s).headD []
def besB (cut stx same dup n5 is2 und is1 nst:Bool):Bool:=if cut && stx then false else if same then (if dup then false else n5 && (!cut || is2)) else !cut || !und || (is1 && nst)
def besR (o:Str) (r x:Rec):Bool:=besB (cutR o x) (fst x.owner == [42]) (decide (Sp.spl 46 r.owner=Sp.spl 46 x.owner)) (r.type == x.type && (r.data == x.data || (r.ttl:Int) != (x.ttl:Int))) (x.type != 5) (r.type == 2) (undP (Sp.spl 46 r.owner) (Sp.spl 46 x.owner)) (r.type == 1) (!(fst r.owner == [42]))
theorem first_cell {w:World} {v:Value} {s:Str} (h:NmV w v (Sp.spl 46 s)) : ∃ g off n c,v=.slice (some ⟨g,off,none⟩) (n+1) c∧n+1≤c∧w.cell? ⟨g,off,none⟩=some (.string (B (fst s))):=by
 obtain ⟨g,off,cap,rfl,hc,ht⟩:=h
 have hne:=Sp.spl_ne 46 s
 unfold fst
 cases hs:Sp.spl 46 s with
 | nil=>exact absurd hs hne
 | cons a t =>
  rw [hs] at ht hc
  have:=ht.2 0 (by simp)
  rw [Nat.add_zero] at this
  exact ⟨g,off,t.length,cap,rfl,by simpa using hc,this⟩
theorem data_eq (a b:Str):((B a).toList == (B b).toList)=(a == b):=str_ne a b
theorem beside_any (zb:Nat) (o:Str) (rs:List Rec) (r x:Rec) (vr vrw vx vxw:Value) (w:World) (hz:RZone w zb o rs) (ho:o.length≤900) (hvr:NmV w vr (Sp.spl 46 r.owner)) (hr:r.owner.length≤900) (hvx:NmV w vx (Sp.spl 46 x.owner)) (hx:x.owner.length≤900) :
  Calls Tryz.prog 120 #[.pointer (some ⟨zb,0,none⟩),rcV vr vrw r,rcV vx vxw x] w fun e w'=>e=.returned (.bool (besR o r x))∧Below w.heap.size w w':=by
 obtain ⟨W,hW⟩ : ∃ W,W=(w.alloc (.cells #[vr,.int .i64 r.ttl,.int .i64 r.type,.string (B r.data),vrw] 119)).alloc (.cells #[vx,.int .i64 x.ttl,.int .i64 x.type,.string (B x.data),vxw] 119):=⟨_,rfl⟩
 have hbW:Below w.heap.size w W:=by rw [hW]; exact ((Below.refl _ _).alloc (Nat.le_refl _) _).alloc (by simp) _
 have hn1:W.heap[w.heap.size]? = some (.cells #[vr,.int .i64 r.ttl,.int .i64 r.type,.string (B r.data),vrw] 119):=by
  rw [hW]; exact (Below.heap_alloc _ _ _ (by simp)).trans (World.alloc_heap_new w _)
 have hn2:W.heap[w.heap.size+1]? = some (.cells #[vx,.int .i64 x.ttl,.int .i64 x.type,.string (B x.data),vxw] 119):=by
  rw [hW]
  have:=World.alloc_heap_new (w.alloc (.cells #[vr,.int .i64 r.ttl,.int .i64 r.type,.string (B r.data),vrw] 119)) (.cells #[vx,.int .i64 x.ttl,.int .i64 x.type,.string (B x.data),vxw] 119)
  rwa [World.size_alloc] at this
 obtain ⟨gr,fr,nr,kr,rfl,hkr,er⟩:=first_cell hvr
 obtain ⟨gx,fx,nx,kx,rfl,hkx,ex⟩:=first_cell hvx
 have hlt2:w.heap.size+1<W.heap.size:=(Array.getElem?_eq_some_iff.1 hn2).1
 -- what every later world has
 have CELLS:Hid (∀ V,Below W.heap.size W V→(V.cell? ⟨w.heap.size,0,none⟩=some (.slice (some ⟨gr,fr,none⟩) (nr+1) kr)∧V.cell? ⟨w.heap.size,1,none⟩=some (.int .i64 r.ttl)∧V.cell? ⟨w.heap.size,2,none⟩=some (.int .i64 r.type)∧V.cell? ⟨w.heap.size,3,none⟩=some (.string (B r.data)))∧(V.cell? ⟨w.heap.size+1,0,none⟩=some (.slice (some ⟨gx,fx,none⟩) (nx+1) kx)∧V.cell? ⟨w.heap.size+1,1,none⟩=some (.int .i64 x.ttl)∧V.cell? ⟨w.heap.size+1,2,none⟩=some (.int .i64 x.type)∧V.cell? ⟨w.heap.size+1,3,none⟩=some (.string (B x.data))∧V.cell? ⟨w.heap.size+1,4,none⟩=some vxw)∧V.cell? ⟨gr,fr,none⟩=some (.string (B (fst r.owner)))∧V.cell? ⟨gx,fx,none⟩=some (.string (B (fst x.owner)))):=fun V hb=>by
  have k1:=(hb.block w.heap.size (by omega)).trans hn1
  have k2:=(hb.block (w.heap.size+1) hlt2).trans hn2
  have hB:=hbW.trans (hb.mono hbW.size)
  refine ⟨⟨?_,?_,?_,?_⟩,⟨?_,?_,?_,?_,?_⟩,(hB.cell (World.block_lt_of_cell? _ _ er)).trans er,(hB.cell (World.block_lt_of_cell? _ _ ex)).trans ex⟩
  all_goals first | (unfold World.cell?; rw [k1]; rfl) | (unfold World.cell?; rw [k2]; rfl)
 have HCUT:=aH (cut_any zb o rs x (.slice (some ⟨gx,fx,none⟩) (nx+1) kx) vxw W (hz.below hbW) ho (hvx.below hbW) hx)
 have HSAME:=aH (fun V (hb:Below W.heap.size W V)=>same_any (.slice (some ⟨gr,fr,none⟩) (nr+1) kr) (.slice (some ⟨gx,fx,none⟩) (nx+1) kx) _ _ V ((hvr.below hbW).below hb) ((hvx.below hbW).below hb) (spl_small hr) (spl_small hx))
 have HUND:=aH (fun V (hb:Below W.heap.size W V)=>under_any (.slice (some ⟨gr,fr,none⟩) (nr+1) kr) (.slice (some ⟨gx,fx,none⟩) (nx+1) kx) _ _ V ((hvr.below hbW).below hb) ((hvx.below hbW).below hb) (spl_small hr) (spl_small hx) (spl_pos x.owner))
 have HB:=aH hbW
 have HBES:Hid (besR o r x=besB (cutR o x) (fst x.owner == [42]) (decide (Sp.spl 46 r.owner=Sp.spl 46 x.owner)) (r.type == x.type && (r.data == x.data || (r.ttl:Int) != (x.ttl:Int))) (x.type != 5) (r.type == 2) (undP (Sp.spl 46 r.owner) (Sp.spl 46 x.owner)) (r.type == 1) (!(fst r.owner == [42]))):=rfl
 have sx:=Ec.str_eq (fst x.owner)
 have sr:=Ec.str_eq (fst r.owner)
 have sd:=data_eq r.data x.data
 clear hn1 hn2 er ex hz hvr hvx hbW
 generalize decide (Sp.spl 46 r.owner=Sp.spl 46 x.owner)=same at *
 generalize undP (Sp.spl 46 r.owner) (Sp.spl 46 x.owner)=und at *
 generalize cutR o x=cut at *
 generalize (fst x.owner == [42])=stx at *
 generalize (fst r.owner == [42])=str at *
 generalize fst x.owner=lx at *
 generalize fst r.owner=lr at *
 unfold rcV at *
 go_enter Tryz.func120,Tryz.ntmps120
 go_wp2_with fail
 rw [← hW]
 refine (aU HCUT).mono ?_
 rintro e w2 ⟨rfl,hb2⟩
 have HC2:=aH (aU CELLS w2 hb2)
 have HB2:=aH hb2
 obtain ⟨⟨p0,p1,p2,p3⟩,⟨q0,q1,q2,q3,q4⟩,l0,l1⟩:=aU HC2
 clear hb2 hW HCUT
 cases cut <;> cases stx
 case true.true =>
  go_wp2_with fail
  go_ret
  exact ⟨ret_bool (by rw [aU HBES]; rfl),(aU HB).trans ((aU HB2).mono (aU HB).size)⟩
 all_goals
  go_wp2_with fail
  refine (aU HSAME w2 (aU HB2)).mono ?_
  rintro e w3 ⟨rfl,hb3⟩
  have hb3':=(aU HB2).trans (hb3.mono (aU HB2).size)
  have HB3:=aH hb3'
  have HBF:=aH ((aU HB).trans (hb3'.mono (aU HB).size))
  obtain ⟨⟨p0,p1,p2,p3⟩,⟨q0,q1,q2,q3,q4⟩,l0,l1⟩:=aU CELLS w3 hb3'
  clear hb3 hb3'
  cases same
  ·go_wp2_with fail
   refine (aU HUND w3 (aU HB3)).mono ?_
   rintro e w4 ⟨rfl,hb4⟩
   have hb4':=(aU HB3).trans (hb4.mono (aU HB3).size)
   have HB4:=aH ((aU HB).trans (hb4'.mono (aU HB).size))
   obtain ⟨⟨p0,p1,p2,p3⟩,⟨q0,q1,q2,q3,q4⟩,l0,l1⟩:=aU CELLS w4 hb4'
   clear hb4 hb4'
   cases und <;> cases h1:(r.type == 1) <;> cases str
   all_goals
    have H1:=aH h1
    go_wp2_with fail
    go_ret
    exact ⟨ret_bool (by rw [aU HBES,aU H1]; rfl),aU HB4⟩
  ·cases h1:(r.type == x.type) <;> cases h2:(r.data == x.data) <;> cases h3:((r.ttl:Int) != (x.ttl:Int)) <;> cases h4:(x.type != 5) <;> cases h5:(r.type == 2)
   all_goals
    rw [h2] at sd
    have H1:=aH h1
    have H2:=aH h2
    have H3:=aH h3
    have H4:=aH h4
    have H5:=aH h5
    go_wp2_with fail
    go_ret
    exact ⟨ret_bool (by rw [aU HBES,aU H1,aU H2,aU H3,aU H4,aU H5]; rfl),aU HBF⟩
end Ei
end Go.Proofs.YtkkpahmoljiepaaGreatDoor
