/- Contracts: slices.stableCmpFunc, slices.SortStableFunc, records.Sort, of any number of records. -/
import Derived.Test.YtkkpahmoljiepaaGreatDoorJ14
import Derived.Test.YtkkpahmoljiepaaGreatDoorJ11
import Derived.Test.YtkkpahmoljiepaaGreatDoorJ12
import Derived.Test.YtkkpahmoljiepaaGreatDoorJ02
import Derived.Test.YtkkpahmoljiepaaGreatDoorJ06
import Derived.Laws.BitsAllLaws
import Derived.Test.YtkkpahmoljiepaaGreatDoorJ07
import Derived.Laws.IdiomStrings
import Derived.Test.YtkkpahmoljiepaaGreatDoorShelf
import Derived.Laws.MakeOwn
import Derived.Test.YtkkpahmoljiepaaGreatDoorJ08
import Derived.Test.YtkkpahmoljiepaaGreatDoorJLg
import Derived.Maps.AppendAt
import Derived.Lib.AppendStr
import Derived.Laws.OwnMore
import Derived.Test.YtkkpahmoljiepaaGreatDoorJ01
import Derived.Deep.RegionHeld
set_option linter.unusedSimpArgs false
set_option linter.unusedVariables false
set_option maxRecDepth 1000000
set_option maxHeartbeats 12800000
namespace Go.Proofs.YtkkpahmoljiepaaGreatDoor
open Go.RowKit Go.Sort Go.Shelf
open Pu (Str aH aU)
namespace Sj
open Ka Kd Sa Sb Sc Sd Se Sf Sg Sh Si
theorem csortL (s:Nat) (l:List Rec):(csort ltR s l).length=l.length:=csort_len ltR s _ l (Nat.le_refl _)
theorem one_more {rs:List Rec} {dk:Array Rec} {t c:Nat} (hl:dk.toList=csort ltR 20 (rs.take (20*t))++rs.drop (20*t)) (h:20*t≤rs.length) (hc:c≤20) (hc2:20*t+c≤rs.length) (hc3:c=20∨20*t+c=rs.length) :
  (Sort.insertionSort ltR dk (20*t) (20*t+c)).toList=csort ltR 20 (rs.take (20*t+c))++rs.drop (20*t+c):=by
 have hP:(csort ltR 20 (rs.take (20*t))).length=20*t:=by rw [csortL,List.length_take]; omega
 have hC:((rs.drop (20*t)).take c).length=c:=by rw [List.length_take,List.length_drop]; omega
 have:=sort_list ltR wkR irR (csort ltR 20 (rs.take (20*t))) ((rs.drop (20*t)).take c) ((rs.drop (20*t)).drop c) dk (by rw [hl,List.take_append_drop])
 rw [hP,hC] at this
 rw [this,List.drop_drop,← List.append_assoc]
 congr 1
 rw [List.take_add,csort_snoc ltR (by omega) _ t _ (by rw [List.length_take]; omega),csort_small ltR (l:=(rs.drop (20*t)).take c) (by rw [hC]; exact hc)]
theorem two_more {rs:List Rec} {dk:Array Rec} {s t a c:Nat} (hs:0<s) (ha:a=2*s*t) (hl:dk.toList=csort ltR (2*s) (rs.take a)++csort ltR s (rs.drop a)) (hc:c≤s) (h0:0<c) (hn:a+s+c≤rs.length) (hc3:c=s∨a+s+c=rs.length) :
  ∃ X A' B' Z,dk.toList=X++(A'++(B'++Z))∧X.length=a∧A'.length=s∧B'.length=c∧Srt ltR A'∧Srt ltR B'∧X++(mg ltR A' B'++Z)=csort ltR (2*s) (rs.take (a+s+c))++csort ltR s (rs.drop (a+s+c)):=by
 have e1:rs.drop a=(rs.drop a).take s++((rs.drop (a+s)).take c++rs.drop (a+s+c)):=by
  rw [← List.drop_drop (i:=c),List.take_append_drop,← List.drop_drop (i:=s),List.take_append_drop]
 have l1:((rs.drop a).take s).length=s:=by rw [List.length_take,List.length_drop]; omega
 have l2:((rs.drop (a+s)).take c).length=c:=by rw [List.length_take,List.length_drop]; omega
 have e3:rs.take (a+s+c)=rs.take a++((rs.drop a).take s++(rs.drop (a+s)).take c):=by
  rw [List.take_add,List.take_add,List.append_assoc]
 generalize (rs.drop a).take s=C1 at *
 generalize (rs.drop (a+s)).take c=C2 at *
 have lx:(csort ltR (2*s) (rs.take a)).length=a:=by rw [csortL,List.length_take]; omega
 refine ⟨csort ltR (2*s) (rs.take a),iso ltR C1,iso ltR C2,csort ltR s (rs.drop (a+s+c)),?_,lx,by rw [iso_len,l1],by rw [iso_len,l2],iso_srt ltR wkR irR _,iso_srt ltR wkR irR _,?_⟩
 ·rw [hl,e1,csort_two ltR hs l1]
  congr 2
  rcases hc3 with hc3 | hc3
  ·rw [csort_snoc ltR hs _ 1 C2 (by omega),csort_small ltR (l:=C2) (by omega)]
  ·rw [show rs.drop (a+s+c) = [] from List.drop_of_length_le (by omega),csort_nil,List.append_nil,List.append_nil,csort_small ltR (by omega)]
 ·rw [e3,csort_snoc ltR (by omega) _ t (rs.take a) (by rw [List.length_take]; omega),csort_small ltR (l:=C1++C2) (by rw [List.length_append]; omega),iso_app ltR wkR,List.append_assoc]
theorem stable_all (g cap:Nat) (rs:List Rec) (w:World) (hH:HoldsK Rec.enc 4 w g 0 rs.toArray) (hg:g<w.heap.size) (hl:rs.length≤3001) :
  Calls Tryz.prog 173 #[.slice (some ⟨g,0,none⟩) rs.length cap,.int .i64 rs.length,.func (.func 103) #[] #[]] w fun e w' =>
   e=.returned (.tuple #[])∧∃ q os d',w'=sortWorldK Rec.enc 4 w g 0 q d' os∧d'.toList=iso ltR rs:=by
 obtain ⟨n,hn⟩ : ∃ n,n=rs.length:=⟨_,rfl⟩
 have hsz:rs.toArray.size=n:=by rw [hn]; simp
 have HINS:=aH (fun q dk os a b (hs:dk.size=rs.toArray.size) (hab:a≤b) (hb:b≤rs.toArray.size)=>insertion_on g cap a b q rs.toArray dk os w hH hg hs (by omega) hab hb)
 have HSYM:=aH (fun f=>symOk g cap rs.toArray w hH hg (by omega) f)
 have HW0:=aH (start_world hH)
 rw [hsz] at HINS
 unfold SymOk at HSYM
 rw [hsz] at HSYM
 rw [← hn]
 have hn3:n≤3001:=by omega
 have HN:=aH (And.intro hn (And.intro hsz hl))
 clear hH hg hl hn hsz
 go_enter Tryz.func173,Tryz.ntmps173
 go_wp2_with fail
 go_loopg [7,8] (n+20) (fun g1 va vb wr=>∃ (a t:Nat),va=.int .i64 a∧vb=.int .i64 (a+20:Nat)∧Hid (a=20*t)∧a≤n∧n+20≤g1+a∧Hid (∃ q os dk,wr=sortWorldK Rec.enc 4 w g 0 q dk os∧dk.size=n∧dk.toList=csort ltR 20 (rs.take a)++rs.drop a))
 case atStart =>
  refine ⟨0,0,rfl,rfl,rfl,by omega,by omega,0,#[],rs.toArray,aU HW0,(aU HN).2.1,?_⟩
  rw [List.take_zero,csort_nil]; simp
 case round =>
  obtain ⟨a,t,rfl,rfl,hat,han,hgk,HW⟩:=hrel
  obtain ⟨b,hb⟩ : ∃ b,a+20=b:=⟨_,rfl⟩
  rw [hb]
  by_cases hbn:b≤n
  ·have hbI:(b:Int)≤(n:Int):=by omega
   obtain ⟨q1,os1,d1,hwr,hs1,hl1⟩:=aU HW
   have HC:=aH (aU HINS q1 d1 os1 a b hs1 (by omega) (by omega))
   rw [← hwr] at HC
   have HNX:Hid ((Sort.insertionSort ltR d1 a b).toList=csort ltR 20 (rs.take b)++rs.drop b):=by
    have e:=aU hat
    have hnn:=(aU HN).1
    have:=one_more (rs:=rs) (dk:=d1) (t:=t) (c:=20) (by rw [← e]; exact hl1) (by omega) (by omega) (by omega) (.inl rfl)
    rw [← e,hb] at this
    exact this
   have HSZ:Hid ((Sort.insertionSort ltR d1 a b).size=n):=by rw [Hid,size_sort]; exact hs1
   have HB:=aH hb
   have hb3:b≤3001:=by omega
   clear hwr hs1 hl1 hb
   go_wp2_with fail
   refine (aU HC).mono ?_
   rintro e w2 ⟨rfl,q2,os2,hw2⟩
   have HW2:=aH hw2
   clear hw2
   go_wp2_with fail
   go_roundg (gk - 20)
   case measure=>have:=aU HB; omega
   case rel =>
    have hb:=aU HB
    have e:=aU hat
    refine ⟨b,t+1,by first | rfl | go_num,by first | rfl | go_num,by rw [Hid]; omega,hbn,by omega,q2,os2,_,aU HW2,aU HSZ,aU HNX⟩
  ·have hbI : ¬ (b:Int)≤(n:Int):=by omega
   obtain ⟨q1,os1,d1,hwr,hs1,hl1⟩:=aU HW
   have HC:=aH (aU HINS q1 d1 os1 a n hs1 han (Nat.le_refl _))
   rw [← hwr] at HC
   have HNX:Hid ((Sort.insertionSort ltR d1 a n).toList=csort ltR 20 rs):=by
    have e:=aU hat
    have hnn:=(aU HN).1
    have:=one_more (rs:=rs) (dk:=d1) (t:=t) (c:=n - a) (by rw [← e]; exact hl1) (by omega) (by omega) (by omega) (.inr (by omega))
    rw [← e,show a+(n - a)=n from by omega] at this
    rw [Hid,this,hnn,List.take_length,List.drop_length,List.append_nil]
   have HSZ:Hid ((Sort.insertionSort ltR d1 a n).size=n):=by rw [Hid,size_sort]; exact hs1
   clear hwr hs1 hl1 hb
   go_wp2_with fail
   refine (aU HC).mono ?_
   rintro e w2 ⟨rfl,q2,os2,hw2⟩
   have HW2:Hid (∃ q os dk,w2=sortWorldK Rec.enc 4 w g 0 q dk os∧dk.size=n∧dk.toList=csort ltR 20 rs):=⟨q2,os2,_,hw2,aU HSZ,aU HNX⟩
   clear hw2 HC HNX HSZ HINS
   go_wp2_with fail
   go_loopg [6] n (fun g1 vs wr=>∃ (s:Nat),vs=.int .i64 s∧20≤s∧s≤6002∧n≤s+g1∧Hid (∃ q os dk,wr=sortWorldK Rec.enc 4 w g 0 q dk os∧dk.size=n∧dk.toList=csort ltR s rs))
   case atStart=>exact ⟨20,rfl,by omega,by omega,by omega,HW2⟩
   case round =>
    obtain ⟨s,rfl,hs20,hs6,hsg,HWS⟩:=hrel
    by_cases hsn:s<n
    ·have hsI:(s:Int)<(n:Int):=by omega
     obtain ⟨s2,hs2⟩ : ∃ s2,s2=2*s:=⟨_,rfl⟩
     have hs2I:(2:Int)*s=(s2:Int):=by omega
     have hs2J:(s:Int)*2=(s2:Int):=by omega
     have hs23:s2≤6002:=by omega
     have HS2:=aH hs2
     have hs2s:s<s2:=by omega
     clear hs2
     go_wp2_with fail
     go_loopg [7,8] n (fun g2 va vb wr=>∃ (a t:Nat),va=.int .i64 a∧vb=.int .i64 (a+s2:Nat)∧Hid (a=2*s*t)∧a≤n∧n≤g2+a∧Hid (∃ q os dk,wr=sortWorldK Rec.enc 4 w g 0 q dk os∧dk.size=n∧dk.toList=csort ltR (2*s) (rs.take a)++csort ltR s (rs.drop a)))
     case atStart =>
      obtain ⟨q1,os1,d1,hwr,hs1,hl1⟩:=aU HWS
      refine ⟨0,0,rfl,by first | rfl | (rw [Nat.zero_add]) | go_num,rfl,by omega,by omega,q1,os1,d1,hwr,hs1,?_⟩
      rw [List.take_zero,csort_nil,List.drop_zero]; exact hl1
     case round =>
      obtain ⟨a,t,rfl,rfl,hat,han,hgk2,HW⟩:=hrel
      obtain ⟨b,hb⟩ : ∃ b,a+s2=b:=⟨_,rfl⟩
      rw [hb]
      obtain ⟨m,hm⟩ : ∃ m,a+s=m:=⟨_,rfl⟩
      have hmI:(a:Int)+s=(m:Int):=by omega
      have hm3:m≤6002:=by omega
      by_cases hbn:b≤n
      ·have hbI:(b:Int)≤(n:Int):=by omega
       obtain ⟨q1,os1,d1,hwr,hs1,hl1⟩:=aU HW
       have hnn:=(aU HN).1
       have e2:=aU HS2
       obtain ⟨X,A',B',Z,k1,k2,k3,k4,k5,k6,k7⟩:=two_more (rs:=rs) (dk:=d1) (s:=s) (t:=t) (a:=a) (c:=s) (by omega) (aU hat) hl1 (Nat.le_refl _) (by omega) (by omega) (.inl rfl)
       have HC:=aH (aU HSYM (b - a) a m b q1 d1 os1 X A' B' Z hs1 k1 k2 (by omega) (by omega) (by omega) (by omega) k5 k6 (Nat.le_refl _))
       rw [← hwr] at HC
       have HNX:Hid (∀ d':Array Rec,d'.toList=X++(mg ltR A' B'++Z)→d'.size=n∧d'.toList=csort ltR (2*s) (rs.take b)++csort ltR s (rs.drop b)):=fun d' h'=>by
        rw [k7,show a+s+s=b from by omega] at h'
        refine ⟨?_,h'⟩
        rw [← Array.length_toList,h',List.length_append,csortL,csortL,List.length_take,List.length_drop]; omega
       have HB:Hid (a+s2=b∧a+s=m):=⟨hb,hm⟩
       have hb3:b≤3001:=by omega
       clear hwr hs1 hl1 hb hm k1 k2 k3 k4 k5 k6 k7 hnn e2
       go_wp2_with fail
       refine (aU HC).mono ?_
       rintro e w3 ⟨rfl,q2,os2,d2,hw3,hl3⟩
       have HW3:Hid (∃ q os dk,w3=sortWorldK Rec.enc 4 w g 0 q dk os∧dk.size=n∧dk.toList=csort ltR (2*s) (rs.take b)++csort ltR s (rs.drop b)):=⟨q2,os2,d2,hw3,(aU HNX d2 hl3).1,(aU HNX d2 hl3).2⟩
       clear hw3 hl3
       go_wp2_with fail
       go_roundg (gk - s2)
       case measure=>have:=aU HB; have:=aU HS2; omega
       case rel =>
        obtain ⟨hb,hm⟩:=aU HB
        have e2:=aU HS2
        have e:=aU hat
        refine ⟨b,t+1,by first | rfl | go_num,by first | rfl | go_num,by rw [Hid,← hb,e,e2,Nat.mul_succ],hbn,by omega,HW3⟩
      ·have hbI : ¬ (b:Int)≤(n:Int):=by omega
       by_cases hmn:m<n
       ·have hmnI:(m:Int)<(n:Int):=by omega
        obtain ⟨q1,os1,d1,hwr,hs1,hl1⟩:=aU HW
        have hnn:=(aU HN).1
        have e2:=aU HS2
        obtain ⟨X,A',B',Z,k1,k2,k3,k4,k5,k6,k7⟩:=two_more (rs:=rs) (dk:=d1) (s:=s) (t:=t) (a:=a) (c:=n - m) (by omega) (aU hat) hl1 (by omega) (by omega) (by omega) (.inr (by omega))
        have HC:=aH (aU HSYM (n - a) a m n q1 d1 os1 X A' B' Z hs1 k1 k2 (by omega) (by omega) (by omega) (by omega) k5 k6 (Nat.le_refl _))
        rw [← hwr] at HC
        have HNX:Hid (∀ d':Array Rec,d'.toList=X++(mg ltR A' B'++Z)→d'.size=n∧d'.toList=csort ltR s2 rs):=fun d' h'=>by
         rw [k7,show a+s+(n - m)=n from by omega,hnn,List.take_length,List.drop_length,csort_nil,List.append_nil,← e2] at h'
         refine ⟨?_,h'⟩
         rw [← Array.length_toList,h',csortL]; omega
        clear hwr hs1 hl1 hb hm k1 k2 k3 k4 k5 k6 k7 hnn e2
        go_wp2_with fail
        refine (aU HC).mono ?_
        rintro e w3 ⟨rfl,q2,os2,d2,hw3,hl3⟩
        have HW3:Hid (∃ q os dk,w3=sortWorldK Rec.enc 4 w g 0 q dk os∧dk.size=n∧dk.toList=csort ltR s2 rs):=⟨q2,os2,d2,hw3,(aU HNX d2 hl3).1,(aU HNX d2 hl3).2⟩
        clear hw3 hl3
        go_wp2_with fail
        go_roundg (n - s2)
        case measure=>omega
        case rel=>exact ⟨s2,by first | rfl | go_num,by omega,hs23,by omega,HW3⟩
       ·have hmnI : ¬ (m:Int)<(n:Int):=by omega
        have HW3:Hid (∃ q os dk,wr=sortWorldK Rec.enc 4 w g 0 q dk os∧dk.size=n∧dk.toList=csort ltR s2 rs):=by
         obtain ⟨q1,os1,d1,hwr,hs1,hl1⟩:=aU HW
         have hnn:=(aU HN).1
         have e2:=aU HS2
         refine ⟨q1,os1,d1,hwr,hs1,?_⟩
         have hld:(rs.drop a).length≤s:=by rw [List.length_drop]; omega
         rw [hl1,csort_small ltR hld,← csort_small ltR (s:=2*s) (l:=rs.drop a) (by omega),← csort_snoc ltR (by omega) _ t (rs.take a) (by rw [List.length_take]; have:=aU hat; omega),List.take_append_drop,← e2]
        clear hb hm HW
        go_wp2_with fail
        go_roundg (n - s2)
        case measure=>omega
        case rel=>exact ⟨s2,by first | rfl | go_num,by omega,hs23,by omega,HW3⟩
    ·have hsI : ¬ (s:Int)<(n:Int):=by omega
     go_wp2_with fail
     go_end0
     obtain ⟨q1,os1,d1,hwr,hs1,hl1⟩:=aU HWS
     have hnn:=(aU HN).1
     exact ⟨rfl,q1,os1,d1,hwr,by rw [hl1,csort_small ltR (by omega)]⟩
end Sj
end Go.Proofs.YtkkpahmoljiepaaGreatDoor

set_option maxRecDepth 1000000
set_option maxHeartbeats 12800000
namespace Go.Proofs.YtkkpahmoljiepaaGreatDoor
open Go.RowKit Go.Sort Go.Shelf
open Pu (Str aH aU)
namespace Sk
open Ka Kd Sa Sb Sc Sd Se Sf Sg Sh Si Sj
theorem sortL_iso (rs:List Rec):sortL rs=iso ltR rs:=by
 have:=sort_list ltR wkR irR [] rs [] rs.toArray (by simp)
 simp only [List.length_nil,Nat.zero_add,List.nil_append,List.append_nil] at this
 exact this
theorem sortStable_all (g cap:Nat) (rs:List Rec) (w:World) (hH:HoldsK Rec.enc 4 w g 0 rs.toArray) (hg:g<w.heap.size) (hl:rs.length≤3001) :
  Calls Tryz.prog 102 #[.slice (some ⟨g,0,none⟩) rs.length cap,.func (.func 103) #[] #[]] w fun e w' =>
   e=.returned (.tuple #[])∧∃ q os d',w'=sortWorldK Rec.enc 4 w g 0 q d' os∧d'.toList=iso ltR rs:=by
 have HI:=aH (stable_all g cap rs w hH hg hl)
 clear hH
 go_enter Tryz.func102,Tryz.ntmps102
 go_wp2_with fail
 refine (aU HI).mono ?_
 rintro e w1 ⟨rfl,hw⟩
 have HW:=aH hw
 clear hw
 go_wp2_with fail
 go_end0
 exact ⟨rfl,aU HW⟩
theorem sort0_all (g cap:Nat) (rs:List Rec) (w:World) (hH:HoldsK Rec.enc 4 w g 0 rs.toArray) (hg:g<w.heap.size) (hl:rs.length≤3001) :
  Calls Tryz.prog 59 #[.slice (some ⟨g,0,none⟩) rs.length cap] w fun e w' =>
   e=.returned (.tuple #[])∧∃ q os d',w'=sortWorldK Rec.enc 4 w g 0 q d' os∧d'.toList=iso ltR rs:=by
 have HI:=aH (sortStable_all g cap rs w hH hg hl)
 clear hH
 go_enter Tryz.func59,Tryz.ntmps59
 go_wp2_with fail
 refine (aU HI).mono ?_
 rintro e w1 ⟨rfl,hw⟩
 have HW:=aH hw
 clear hw
 go_wp2_with fail
 go_end0
 exact ⟨rfl,aU HW⟩
theorem sort_all (g cap:Nat) (rs:List Rec) (w:World) (cur:Array Value) (e:TypeId) (hc:w.heap[g]? = some (.cells cur e)) (hr:bE w g 0 rs) (hl:rs.length≤3001) :
  Calls Tryz.prog 59 #[.slice (some ⟨g,0,none⟩) rs.length cap] w fun e w' =>
   e=.returned (.tuple #[])∧bE w' g 0 (sortL rs)∧∀ B a,B≤g→B≤w.heap.size→Below B a w→Below B a w':=by
 refine (sort0_all g cap rs w (holdsK_of hc hr) hr.1 hl).mono ?_
 rintro e w' ⟨rfl,n,os,d',rfl,hd⟩
 obtain rfl:d'=(sortL rs).toArray:=by rw [sortL_iso,← hd]
 have hs:(sortL rs).toArray.size=rs.toArray.size:=by simp [sortL_len]
 refine ⟨rfl,recsAt_of_holds (Nat.lt_of_lt_of_le hr.1 (size_sortWorldK_c Rec.enc 4 w g 0 n _ os)) ?_,fun B a h1 h2 h3=>below_sort h3 h1 h2⟩
 exact holdsK_sortWorldK_c Rec.enc 4 w g 0 rs.toArray _ n os (holdsK_of hc hr) hr.1 hs
end Sk
end Go.Proofs.YtkkpahmoljiepaaGreatDoor

set_option maxRecDepth 1000000
set_option maxHeartbeats 12800000
namespace Go.Proofs.YtkkpahmoljiepaaGreatDoor
open Go.RowKit
open Pu (Str aH aU)
namespace Pb
open Ka Kd Rf Rg Ia Iow Ie Zb Zc Za Ze Zg Re Sb Pa Sk
theorem parse_all (s:ByteArray) (w:World) (hg:G w) (hs:s.size≤3000) (hfit : ∀ o rs,readZ s.data.toList=some (o,rs)→Fit o rs) :
  Calls Tryz.prog 16 #[.string s] w fun e w'=>parseR (parseP s.data.toList) w.heap.size e w'∧Below w.heap.size w w':=by
 have HC:=aH (clone_any s w (by omega))
 have hsI : ¬ (3000:Int)<(s.size:Int):=by omega
 have HRZ:=aH (fun w1 (h:Below w.heap.size w w1)=>readZone_any s w1 (hg.below h) hs)
 clear hg
 cases hz:readZ s.data.toList with
 | none =>
  have hfin:Hid (parseP s.data.toList=none):=by unfold parseP; rw [Hid,hz]; rfl
  go_enter Tryz.func16,Tryz.ntmps16
  go_wp2_with fail
  refine (aU HC).mono ?_
  rintro e w1 ⟨rfl,hb1⟩
  go_wp2_with fail
  refine (aU HRZ w1 hb1).mono ?_
  rintro e w2 ⟨hr2,hb2⟩
  rw [hz] at hr2
  obtain rfl:e=.returned noneV:=hr2
  unfold noneV
  go_wp2_with fail
  go_ret2
  rw [aU hfin]
  exact ⟨rfl,hb1.trans (hb2.mono hb1.size)⟩
 | some x =>
  obtain ⟨o,rs⟩:=x
  obtain ⟨hlen,hol,hrl⟩:=hfit o rs hz
  have HRL:=aH hrl
  clear hfit hrl
  have hP:Hid (parseP s.data.toList=if startsR o rs && rightP o (sortL rs) then some (o,sortL rs) else none):=by unfold parseP; rw [Hid,hz]; rfl
  cases hst:startsR o rs
  ·have hfin:Hid (parseP s.data.toList=none):=by rw [Hid,aU hP,hst]; rfl
   go_enter Tryz.func16,Tryz.ntmps16
   go_wp2_with fail
   refine (aU HC).mono ?_
   rintro e w1 ⟨rfl,hb1⟩
   go_wp2_with fail
   refine (aU HRZ w1 hb1).mono ?_
   rintro e w2 ⟨hr2,hb2⟩
   rw [hz] at hr2
   obtain ⟨v,rfl,hown⟩:=hr2
   have HS:=aH (startsRight_any o v rs w2 hown.rv (by omega))
   clear hown
   go_wp2_with fail
   refine (aU HS).mono ?_
   rintro e w3 ⟨rfl,hb3⟩
   go_wp2_with fail
   go_ret2
   rw [aU hfin]
   exact ⟨rfl,(hb1.trans (hb2.mono hb1.size)).trans (hb3.mono (Nat.le_trans hb1.size hb2.size))⟩
  ·have hne:rs≠[]:=by intro h; rw [h] at hst; cases hst
   have HSL:Hid (∀ r∈sortL rs,r.owner.length≤3000∧r.data.length≤3000):=sortL_all (aU HRL)
   have hsl:=sortL_len rs
   cases hrt:rightP o (sortL rs)
   ·have hfin:Hid (parseP s.data.toList=none):=by rw [Hid,aU hP,hst,hrt]; rfl
    go_enter Tryz.func16,Tryz.ntmps16
    go_wp2_with fail
    refine (aU HC).mono ?_
    rintro e w1 ⟨rfl,hb1⟩
    go_wp2_with fail
    refine (aU HRZ w1 hb1).mono ?_
    rintro e w2 ⟨hr2,hb2⟩
    rw [hz] at hr2
    obtain ⟨v,rfl,hown⟩:=hr2
    have HS:=aH (startsRight_any o v rs w2 hown.rv (by omega))
    obtain ⟨g,cap,cur,rfl,hg,hcur,hcap,hra⟩:=own_some hown hne
    have HCUR:=aH hcur
    have HRA:=aH hra
    clear hown hcur hra
    have hb12:=hb1.trans (hb2.mono hb1.size)
    go_wp2_with fail
    refine (aU HS).mono ?_
    rintro e w3 ⟨rfl,hb3⟩
    have hb13:=hb12.trans (hb3.mono hb12.size)
    have hglt:=(aU HRA).1
    go_wp2_with fail
    refine (sort_all g cap rs w3 cur _ ((hb3.block g hglt).trans (aU HCUR)) ((aU HRA).below hb3) hlen).mono ?_
    rintro e w4 ⟨rfl,hr4,hb4⟩
    have hb14:=hb4 w.heap.size w (Nat.le_trans hb1.size hg) hb13.size hb13
    have HI:=aH (isRight_any g 0 cap o (sortL rs) w4 hr4 (by omega) (by omega) hol (fun r hr=>(aU HSL r hr).1))
    rw [hsl] at HI
    clear hr4 hb4
    go_wp2_with fail
    refine (aU HI).mono ?_
    rintro e w5 ⟨rfl,hb5⟩
    go_wp2_with fail
    go_ret2
    rw [aU hfin]
    exact ⟨rfl,hb14.trans (hb5.mono hb14.size)⟩
   ·have hfin:Hid (parseP s.data.toList=some (o,sortL rs)):=by rw [Hid,aU hP,hst,hrt]; rfl
    go_enter Tryz.func16,Tryz.ntmps16
    go_wp2_with fail
    refine (aU HC).mono ?_
    rintro e w1 ⟨rfl,hb1⟩
    go_wp2_with fail
    refine (aU HRZ w1 hb1).mono ?_
    rintro e w2 ⟨hr2,hb2⟩
    rw [hz] at hr2
    obtain ⟨v,rfl,hown⟩:=hr2
    have HS:=aH (startsRight_any o v rs w2 hown.rv (by omega))
    obtain ⟨g,cap,cur,rfl,hg,hcur,hcap,hra⟩:=own_some hown hne
    have HCUR:=aH hcur
    have HRA:=aH hra
    clear hown hcur hra
    have hb12:=hb1.trans (hb2.mono hb1.size)
    go_wp2_with fail
    refine (aU HS).mono ?_
    rintro e w3 ⟨rfl,hb3⟩
    have hb13:=hb12.trans (hb3.mono hb12.size)
    have hglt:=(aU HRA).1
    go_wp2_with fail
    refine (sort_all g cap rs w3 cur _ ((hb3.block g hglt).trans (aU HCUR)) ((aU HRA).below hb3) hlen).mono ?_
    rintro e w4 ⟨rfl,hr4,hb4⟩
    have hb14:=hb4 w.heap.size w (Nat.le_trans hb1.size hg) hb13.size hb13
    have HI:=aH (isRight_any g 0 cap o (sortL rs) w4 hr4 (by omega) (by omega) hol (fun r hr=>(aU HSL r hr).1))
    rw [hsl] at HI
    have HR4:=aH hr4
    clear hr4 hb4
    go_wp2_with fail
    refine (aU HI).mono ?_
    rintro e w5 ⟨rfl,hb5⟩
    have hb15:=hb14.trans (hb5.mono hb14.size)
    have HR5:=aH ((aU HR4).below hb5)
    go_wp2_with fail
    refine (new_any o g 0 rs.length cap w5).mono ?_
    rintro e w6 ⟨rfl,hb6,hlt6,c60,c61⟩
    have HT:Hid (aN w6 w5.heap.size o g 0 cap (sortL rs)):=⟨hlt6,c60,by rw [hsl]; exact c61,by omega,(aU HR5).below hb6⟩
    clear c60 c61
    go_wp2_with fail
    go_ret2
    rw [aU hfin]
    exact ⟨⟨_,_,_,rfl,hb15.size,Nat.le_trans hb1.size hg,aU HT⟩,hb15.trans (hb6.mono hb15.size)⟩
end Pb
namespace Ta
open Go.Sort
def headS:Str:=[111,114,105,103,105,110,32,122,122,10,122,122,32,53,48,32,83,79,65,32,97,46,122,122,32,98,46,122,122,32,57,32,52,48,10,122,122,32,53,48,32,78,83,32,97,46,122,122,10]
def zz:Str:=[122,122]
end Ta
namespace Ca
open Ta Sc Sf
def dg2 (i:Nat):Str:=if i<10 then [UInt8.ofNat (48+i)] else [UInt8.ofNat (48+i/10),UInt8.ofNat (48+i%10)]
def nmC (i:Nat):Str:=99 :: (dg2 i++[46,122,122])
def toC (n e i:Nat):Nat:=if i+1=n∧e=2 then 0 else i+1
def lnC (n e i:Nat):Str:=99 :: (dg2 i++([46,122,122,32,53,32,67,78,65,77,69,32,99]++(dg2 (toC n e i)++[46,122,122,10])))
def lnsC (n e:Nat):Nat→Str
 | 0=>[]
 | i+1=>lnsC n e i++lnC n e i
def aC (n:Nat):Str:=99 :: (dg2 n++[46,122,122,32,53,32,65,32,49,46,50,46,51,46,52,10])
def l99:Str:=[104,57,57,46,122,122,32,57,57,32,65,32,49,48,46,48,46,57,57,46,55,10]
def txtC (n e:Nat):Str:=lnsC n e n++((if e=0 then aC n else [])++l99)
def adr:Str:=[49,46,50,46,51,46,52]
def soaC:Rec:=([122,122],50,6,[97,46,122,122,32,98,46,122,122,32,57,32,52,48])
def recsC0 (n e:Nat):List Rec:=[soaC,([122,122],50,2,[97,46,122,122])]++((List.range n).map (fun i=>((nmC i,5,5,nmC (toC n e i)):Rec))++((if e=0 then [((nmC n,5,1,adr):Rec)] else [])++[(([104,57,57,46,122,122],99,1,[49,48,46,48,46,57,57,46,55]):Rec)]))
def insF (x:Rec):List Rec→List Rec
 | []=>[x]
 | y :: l=>if ltR x y then x :: y :: l else y :: insF x l
def isoF (l:List Rec):List Rec:=l.foldl (fun s x=>insF x s) []
theorem insF_mg (x:Rec) : ∀ l,insF x l=mg ltR l [x]
 | []=>by simp [insF]
 | y :: l=>by rw [insF,mg_cons,insF_mg x l,mg_nil']
theorem isoF_eq (l:List Rec):isoF l=iso ltR l:=by
 unfold isoF iso
 congr 1
 funext s x
 exact insF_mg x s
def recsC (n e:Nat):List Rec:=isoF (recsC0 n e)
theorem sortC (n e:Nat):sortL (recsC0 n e)=recsC n e:=by rw [Sk.sortL_iso,recsC,isoF_eq]
def isLong (n e:Nat):Bool:=decide (8<n) || (decide (0<n) && decide (e=2))
def linksC (n:Nat):List Rec:=(List.range n).map fun i=>((nmC i,5,5,nmC (i+1)):Rec)
def namesC (n:Nat):List Str:=(List.range (n+1)).map nmC
def soaN:Rec:=([122,122],40,6,[97,46,122,122,32,98,46,122,122,32,57,32,52,48])
def okR (n e:Nat):Bool:=(match readZ (headS++txtC n e) with
 | some (o,rs)=>decide (o=zz) && decide (rs=recsC0 n e)
 | none=>false) && (match readZ (headS++txtC n e++[10]) with
 | some _=>false
 | none=>true)
def okZ (n e:Nat):Bool:=Rf.startsR zz (recsC0 n e) && rightP zz (recsC n e) && decide ((recsC0 n e).length≤30) && (recsC0 n e).all (fun r=>decide (r.owner.length≤30) && decide (r.data.length≤30)) && decide ((recsC n e).length≤30) && (recsC n e).all (fun r=>decide (r.owner.length≤30) && decide (r.data.length≤30)) && decide (setP (ofP (recsC n e) zz) 6 = [soaC])
def okN (n e:Nat):Bool:=(namesC n).all fun x=>decide ((matchP (recsC n e) x).1.length≤30) && (match linkP zz (recsC n e) x with
 | none=>!aliasP (matchP (recsC n e) x).1
 | some r=>decide (r.data.length≤30) && decide (r.data∈namesC n))
def okF (n e:Nat):Bool:=(match chase zz (recsC n e) 8 (nmC 0) with
 | none=>isLong n e
 | some (ls,some x)=>!isLong n e && decide (ls=linksC n) && decide (x=nmC n)
 | some (_,none)=>false) && decide ((cutP zz (recsC n e) (nmC 0)).length=0) && (isLong n e || (decide (finRc zz (recsC n e) (some (nmC n))=if e=0 then 0 else 3) && decide (finAns zz (recsC n e) 1 (some (nmC n))=if e=0 then [(nmC n,5,1,adr)] else []) && decide (finAuth zz (recsC n e) 1 (some (nmC n))=if e=0 then [] else [soaN])))
theorem allR:(List.range 20).all (fun n=>(List.range 3).all (okR n))=true:=by kernel_rfl
theorem allZ:(List.range 20).all (fun n=>(List.range 3).all (okZ n))=true:=by kernel_rfl
theorem allN:(List.range 20).all (fun n=>(List.range 3).all (okN n))=true:=by kernel_rfl
theorem allF:(List.range 20).all (fun n=>(List.range 3).all (okF n))=true:=by kernel_rfl
end Ca
section
variable {w:World} {b:Nat} {s:Str} {br:Bool}
end
namespace Wa
open Ka
end Wa
namespace Wb
open Ka Re Wa
end Wb
namespace Wd
open Ka Wa Wb
end Wd
section
variable {w:World} {g:Nat} {l:List Str}
end
namespace We
open Ka Wa Wb Wd Re
end We
section
variable {w:World} {b:Nat} {xs:List Int} {t:TypeId}
end
namespace Wc
open Ka Re Wa Wb
end Wc
section
variable {w:World} {b:Nat} {h0 h1 h2 h3 h4 h5:Int} {q n:Str} {k c:Int} {opt:Bool} {sz ver:Int}
end
namespace Wf
open Ka Wa Wb Wc Wd We Re
end Wf
namespace Wg
open Ka Wa Wb Wc Wd We Wf Re
end Wg
namespace Wh
open Ka Wa Wb Wc Wd We Wf Wg Re
end Wh
end Go.Proofs.YtkkpahmoljiepaaGreatDoor

namespace Go.Proofs.YtkkpahmoljiepaaGreatDoor
open Go
section
variable {w w' w1:World} {t:TypeId} {sz:Nat} {v v' v1:Value}
end
section
variable {P:Program} (w:World)
end
end Go.Proofs.YtkkpahmoljiepaaGreatDoor

namespace Go.Proofs.YtkkpahmoljiepaaGreatDoor
open Go.RowKit
open Pu (Str aH aU)
section
variable {w:World} {b:Nat} {vb vp:Value}
end
namespace Wi
open Ka Wa Wb Wc Wd We Wf Wg Wh Re
end Wi
namespace Wj
open Ka Wa Wb Wc Wd We Wf Wg Wh Wi Re
end Wj
namespace Wk
open Ka Wa Wb Wc Wd We Wf Wg Wh Wi Wj Re
end Wk
namespace Wl
open Ka Wa Wb Wc Wd We Wf Wg Wh Wi Wj Wk Re
end Wl
namespace Wm
open Ka Wa Wb Wc Wd We Wf Wg Wh Wi Wj Wk Wl Re
end Wm
namespace Lk
open Ka Kd Rf Rg Ia Iow Ie Zb Zc Za La Lb Re Lc Le Lf Lg Lh Li Ld Lj
end Lk
end Go.Proofs.YtkkpahmoljiepaaGreatDoor

set_option maxRecDepth 1000000
set_option maxHeartbeats 12800000
namespace Go.Proofs.YtkkpahmoljiepaaGreatDoor
open Go.RowKit
open Pu (aH aU)
namespace Kc
open Ka
theorem conv1 (w:World) (c:Int):Sem.run Tryz.prog (convert 58 9 (.slice (some ⟨w.heap.size,0,none⟩) 1 1)) (w.alloc (.cells #[.int .u8 c] 5))=.ok (.string (strOfNums [c])) (w.alloc (.cells #[.int .u8 c] 5)) :=
 run_convert_bytes_arg _ 58 5 (by kernel_rfl) (by kernel_rfl) w.heap.size 0 1 1 [c] rfl (fun i hi=>by
  obtain rfl:i=0:=by omega
  simp) 9 (by kernel_rfl)
def digitsI (n:Nat):Pu.Str:=if h:n<10 then [UInt8.ofNat (48+n)] else digitsI (n/10)++[UInt8.ofNat (48+n%10)]
theorem digitsI_small (n:Nat) (h:n<10):digitsI n = [UInt8.ofNat (48+n)]:=by rw [digitsI,dif_pos h]
theorem digitsI_great (n:Nat) (h : ¬ n<10):digitsI n=digitsI (n/10)++[UInt8.ofNat (48+n%10)]:=by rw [digitsI,dif_neg h]
theorem digitsI_len : ∀ (f n:Nat),n<10 ^ f→(digitsI n).length≤f+1
 | 0,n,h=>by rw [digitsI_small n (by omega)]; simp
 | f+1,n,h=>by
  by_cases h1:n<10
  ·rw [digitsI_small n h1]; simp
  ·rw [digitsI_great n h1,List.length_append]
   have:=digitsI_len f (n/10) (by rw [Nat.pow_succ] at h; omega)
   simp; omega
def hd (k:Nat):Pu.Str:=if k<10 then [] else digitsI (k/10)
theorem digitsI_hd (k:Nat):digitsI k=hd k++[UInt8.ofNat (48+k%10)]:=by
 unfold hd
 split
 ·rw [digitsI_small k (by assumption),Nat.mod_eq_of_lt (by assumption)]; rfl
 ·rw [digitsI_great k (by assumption)]
theorem str1 (c:Nat):strOfNums [48+(c:Int)%10]=⟨[UInt8.ofNat (48+c%10)].toArray⟩:=by
 unfold strOfNums
 have:(48+(c:Int)%10).toNat=48+c%10:=by omega
 simp [this]
theorem digits_any (n:Nat) (w:World) (hn:n≤1000000) :
  Calls Tryz.prog 21 #[.int .i64 n] w fun e w'=>e=.returned (.string ⟨(digitsI n).toArray⟩)∧Below w.heap.size w w':=by
 have hcv:=conv1
 have hlen:=digitsI_len 7 n (by omega)
 have hsz : ∀ c:Int,(strOfNums [c]).size=1:=fun _=>rfl
 go_enter Tryz.func21,Tryz.ntmps21
 go_wp2
 go_loopw [0,3] (fun a s wr=>∃ (k:Nat) (t:ByteArray),a=.int .i64 k∧k≤1000000∧s=.string t∧digitsI n=hd k++t.data.toList∧Below w.heap.size w wr) (fun a _ _=>(intOf a).toNat)
 case atStart =>
  exact ⟨n,_,rfl,hn,rfl,by rw [str1,digitsI_hd n],(Below.refl _ _).alloc (Nat.le_refl _) _⟩
 case round =>
  obtain ⟨k,t,rfl,hk,rfl,hd1,hb⟩:=hrel
  have H:=aH hd1
  have hts:t.size≤8:=by
   have:=congrArg List.length hd1
   rw [List.length_append,Pu.len_eq] at this
   omega
  clear hd1
  by_cases h10:k<10
  ·have hfin:Hid (digitsI n=t.data.toList):=by
    rw [aU H,hd,if_pos h10]; rfl
   go_wp2
   go_ret
   refine ⟨?_,hb⟩
   rw [aU hfin]
   rfl
  ·have hgt:(10:Int)≤k:=by omega
   have hstep:digitsI n=hd (k/10)++(UInt8.ofNat (48+k/10%10) :: t.data.toList):=by
    rw [aU H,hd,if_neg h10,digitsI_hd (k/10)]; simp
   have Hs:=aH hstep
   clear hstep
   go_wp2
   go_roundw
   case rel =>
    refine ⟨k/10,_,by go_num,by omega,rfl,?_,hb.trans ((Below.refl _ _).alloc hb.size _)⟩
    rw [aU Hs,show ((k:Int)/10)=((k/10:Nat):Int) from by omega,str1 (k/10)]
    simp
   case measure=>simp [intOf]; omega
theorem host_any (n:Nat) (w:World) (hn:n≤1000000) :
  Calls Tryz.prog 25 #[.int .i64 n] w fun e w'=>e=.returned (.string ⟨(104 :: digitsI n).toArray⟩)∧Below w.heap.size w w':=by
 have hlen:=digitsI_len 7 n (by omega)
 have hsz:(⟨(digitsI n).toArray⟩:ByteArray).size≤8:=by simpa [ByteArray.size] using hlen
 go_enter Tryz.func25,Tryz.ntmps25
 go_wp2_with (go_at_call 21; refine (digits_any n w hn).mono ?_; rintro e w' ⟨rfl,hb⟩)
 go_ret
 exact ⟨ret_str (by simp),hb⟩
end Kc
end Go.Proofs.YtkkpahmoljiepaaGreatDoor

namespace Go.Proofs.YtkkpahmoljiepaaGreatDoor
open Go.RowKit
open Pu (Str aH aU)
namespace Tb
open Ta Kc
end Tb
namespace Va
open Go.Sort
open Ta (headS zz)
end Va
namespace Vb
open Ka Kc Wa Wb Wd Wi Wl Wm Va
theorem ba_ext {a b:ByteArray} (h:a.data.toList=b.data.toList):a=b:=by
 cases a; cases b; simp at h; rw [h]
def AdAt (w:World) (b:Nat) (k:Nat):Prop:=w.heap[b]? = some (.cells #[.int .i64 10,.int .i64 0,.int .i64 k,.int .i64 7] 3)
theorem AdAt.cells {w:World} {b k:Nat} (h:AdAt w b k):w.cell? ⟨b,0,none⟩=some (.int .i64 10)∧w.cell? ⟨b,1,none⟩=some (.int .i64 0)∧w.cell? ⟨b,2,none⟩=some (.int .i64 k)∧w.cell? ⟨b,3,none⟩=some (.int .i64 7):=by
 unfold AdAt at h
 refine ⟨?_,?_,?_,?_⟩ <;> simp [World.cell?,h]
theorem address_any (k:Nat) (w:World) (hk:k<250) :
  Calls Tryz.prog 32 #[.int .i64 k] w fun e w'=>e=.returned (.slice (some ⟨w.heap.size,0,none⟩) 4 4)∧AdAt w' w.heap.size k∧w'.heap.size=w.heap.size+1∧Below w.heap.size w w':=by
 have e1:(k:Int)/250=0:=by omega
 have e2:(k:Int)%250=k:=by omega
 go_enter Tryz.func32,Tryz.ntmps32
 go_wp2
 go_ret
 refine ⟨rfl,?_,by simp,(Below.refl _ _).alloc (Nat.le_refl _) _⟩
 have:=World.alloc_heap_new w (.cells #[.int .i64 10,.int .i64 0,.int .i64 k,.int .i64 7] 3)
 first | exact this | simpa [AdAt,e1,e2] using this
theorem dig10:digitsI 10 = [49,48]:=by rw [digitsI_great 10 (by omega),digitsI_small _ (by omega)]; rfl
theorem dig0:digitsI 0 = [48]:=by rw [digitsI_small _ (by omega)]; rfl
theorem dig7:digitsI 7 = [55]:=by rw [digitsI_small _ (by omega)]; rfl
theorem s_below {w:World} {b k:Nat} {A B:World} (h:(A.cell? ⟨b,0,none⟩=some (.int .i64 10)∧A.cell? ⟨b,1,none⟩=some (.int .i64 0)∧A.cell? ⟨b,2,none⟩=some (.int .i64 k)∧A.cell? ⟨b,3,none⟩=some (.int .i64 7)∧Below w.heap.size w A)) (hlt:b<A.heap.size) (hb:Below A.heap.size A B) (hs:w.heap.size≤A.heap.size):(B.cell? ⟨b,0,none⟩=some (.int .i64 10)∧B.cell? ⟨b,1,none⟩=some (.int .i64 0)∧B.cell? ⟨b,2,none⟩=some (.int .i64 k)∧B.cell? ⟨b,3,none⟩=some (.int .i64 7)∧Below w.heap.size w B) :=
 ⟨(hb.cell (p:=⟨b,0,none⟩) hlt).trans h.1,(hb.cell (p:=⟨b,1,none⟩) hlt).trans h.2.1,(hb.cell (p:=⟨b,2,none⟩) hlt).trans h.2.2.1,(hb.cell (p:=⟨b,3,none⟩) hlt).trans h.2.2.2.1,h.2.2.2.2.trans (hb.mono hs)⟩
end Vb
end Go.Proofs.YtkkpahmoljiepaaGreatDoor
