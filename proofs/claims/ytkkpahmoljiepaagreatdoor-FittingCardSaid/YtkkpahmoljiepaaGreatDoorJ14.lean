/- Contracts: slices.stableCmpFunc, slices.SortStableFunc, records.Sort, of any number of records. -/
import Derived.Test.YtkkpahmoljiepaaGreatDoorJ13
import Derived.Test.YtkkpahmoljiepaaGreatDoorJ10
import Derived.Test.YtkkpahmoljiepaaGreatDoorJ11
set_option linter.unusedSimpArgs false
set_option linter.unusedVariables false
set_option maxRecDepth 1000000
set_option maxHeartbeats 12800000
namespace Go.Proofs.YtkkpahmoljiepaaGreatDoor
open Go.RowKit Go.Sort Go.Shelf
open Pu (Str aH aU)
namespace Sj
open Ka Kd Sa Sb Sc Sd Se Sf Sg Sh Si
theorem csortL (s:Nat) (l:List Rec):(csort ltR s l).length=l.length:=csort_len ltR s _ l (Nat.le_refl _)
theorem one_more {rs:List Rec} {dk:Array Rec} {t c:Nat} (hl:dk.toList=csort ltR 20 (rs.take (20*t))++rs.drop (20*t)) (h:20*t≤rs.length) (hc:c≤20) (hc2:20*t+c≤rs.length) (hc3:c=20∨20*t+c=rs.length) :
  (Sort.insertionSort ltR dk (20*t) (20*t+c)).toList=csort ltR 20 (rs.take (20*t+c))++rs.drop (20*t+c):=by
 have hP:(csort ltR 20 (rs.take (20*t))).length=20*t:=by rw [csortL,List.length_take]; omega
 have hC:((rs.drop (20*t)).take c).length=c:=by rw [List.length_take,List.length_drop]; omega
 have:=sort_list ltR wkR irR (csort ltR 20 (rs.take (20*t))) ((rs.drop (20*t)).take c) ((rs.drop (20*t)).drop c) dk (by rw [hl,List.take_append_drop])
 rw [hP,hC] at this
 rw [this,List.drop_drop,← List.append_assoc]
 congr 1
 rw [List.take_add,csort_snoc ltR (by omega) _ t _ (by rw [List.length_take]; omega),csort_small ltR (l:=(rs.drop (20*t)).take c) (by rw [hC]; exact hc)]
theorem two_more {rs:List Rec} {dk:Array Rec} {s t a c:Nat} (hs:0<s) (ha:a=2*s*t) (hl:dk.toList=csort ltR (2*s) (rs.take a)++csort ltR s (rs.drop a)) (hc:c≤s) (h0:0<c) (hn:a+s+c≤rs.length) (hc3:c=s∨a+s+c=rs.length) :
  ∃ X A' B' Z,dk.toList=X++(A'++(B'++Z))∧X.length=a∧A'.length=s∧B'.length=c∧Srt ltR A'∧Srt ltR B'∧X++(mg ltR A' B'++Z)=csort ltR (2*s) (rs.take (a+s+c))++csort ltR s (rs.drop (a+s+c)):=by
 have e1:rs.drop a=(rs.drop a).take s++((rs.drop (a+s)).take c++rs.drop (a+s+c)):=by
  rw [← List.drop_drop (i:=c),List.take_append_drop,← List.drop_drop (i:=s),List.take_append_drop]
 have l1:((rs.drop a).take s).length=s:=by rw [List.length_take,List.length_drop]; omega
 have l2:((rs.drop (a+s)).take c).length=c:=by rw [List.length_take,List.length_drop]; omega
 have e3:rs.take (a+s+c)=rs.take a++((rs.drop a).take s++(rs.drop (a+s)).take c):=by
  rw [List.take_add,List.take_add,List.append_assoc]
 generalize (rs.drop a).take s=C1 at *
 generalize (rs.drop (a+s)).take c=C2 at *
 have lx:(csort ltR (2*s) (rs.take a)).length=a:=by rw [csortL,List.length_take]; omega
 refine ⟨csort ltR (2*s) (rs.take a),iso ltR C1,iso ltR C2,csort ltR s (rs.drop (a+s+c)),?_,lx,by rw [iso_len,l1],by rw [iso_len,l2],iso_srt ltR wkR irR _,iso_srt ltR wkR irR _,?_⟩
 ·rw [hl,e1,csort_two ltR hs l1]
  congr 2
  rcases hc3 with hc3 | hc3
  ·rw [csort_snoc ltR hs _ 1 C2 (by omega),csort_small ltR (l:=C2) (by omega)]
  ·rw [show rs.drop (a+s+c) = [] from List.drop_of_length_le (by omega),csort_nil,List.append_nil,List.append_nil,csort_small ltR (by omega)]
 ·rw [e3,csort_snoc ltR (by omega) _ t (rs.take a) (by rw [List.length_take]; omega),csort_small ltR (l:=C1++C2) (by rw [List.length_append]; omega),iso_app ltR wkR,List.append_assoc]
theorem stable_all (g cap:Nat) (rs:List Rec) (w:World) (hH:HoldsK Rec.enc 4 w g 0 rs.toArray) (hg:g<w.heap.size) (hl:rs.length≤3001) :
  Calls Tryz.prog 173 #[.slice (some ⟨g,0,none⟩) rs.length cap,.int .i64 rs.length,.func (.func 103) #[] #[]] w fun e w' =>
   e=.returned (.tuple #[])∧∃ q os d',w'=sortWorldK Rec.enc 4 w g 0 q d' os∧d'.toList=iso ltR rs:=by
 obtain ⟨n,hn⟩ : ∃ n,n=rs.length:=⟨_,rfl⟩
 have hsz:rs.toArray.size=n:=by rw [hn]; simp
 have HINS:=aH (fun q dk os a b (hs:dk.size=rs.toArray.size) (hab:a≤b) (hb:b≤rs.toArray.size)=>insertion_on g cap a b q rs.toArray dk os w hH hg hs (by omega) hab hb)
 have HSYM:=aH (fun f=>symOk g cap rs.toArray w hH hg (by omega) f)
 have HW0:=aH (start_world hH)
 rw [hsz] at HINS
 unfold SymOk at HSYM
 rw [hsz] at HSYM
 rw [← hn]
 have hn3:n≤3001:=by omega
 have HN:=aH (And.intro hn (And.intro hsz hl))
 clear hH hg hl hn hsz
 go_enter Tryz.func173,Tryz.ntmps173
 go_wp2_with fail
 go_loopg [7,8] (n+20) (fun g1 va vb wr=>∃ (a t:Nat),va=.int .i64 a∧vb=.int .i64 (a+20:Nat)∧Hid (a=20*t)∧a≤n∧n+20≤g1+a∧Hid (∃ q os dk,wr=sortWorldK Rec.enc 4 w g 0 q dk os∧dk.size=n∧dk.toList=csort ltR 20 (rs.take a)++rs.drop a))
 case atStart =>
  refine ⟨0,0,rfl,rfl,rfl,by omega,by omega,0,#[],rs.toArray,aU HW0,(aU HN).2.1,?_⟩
  rw [List.take_zero,csort_nil]; simp
 case round =>
  obtain ⟨a,t,rfl,rfl,hat,han,hgk,HW⟩:=hrel
  obtain ⟨b,hb⟩ : ∃ b,a+20=b:=⟨_,rfl⟩
  rw [hb]
  by_cases hbn:b≤n
  ·have hbI:(b:Int)≤(n:Int):=by omega
   obtain ⟨q1,os1,d1,hwr,hs1,hl1⟩:=aU HW
   have HC:=aH (aU HINS q1 d1 os1 a b hs1 (by omega) (by omega))
   rw [← hwr] at HC
   have HNX:Hid ((Sort.insertionSort ltR d1 a b).toList=csort ltR 20 (rs.take b)++rs.drop b):=by
    have e:=aU hat
    have hnn:=(aU HN).1
    have:=one_more (rs:=rs) (dk:=d1) (t:=t) (c:=20) (by rw [← e]; exact hl1) (by omega) (by omega) (by omega) (.inl rfl)
    rw [← e,hb] at this
    exact this
   have HSZ:Hid ((Sort.insertionSort ltR d1 a b).size=n):=by rw [Hid,size_sort]; exact hs1
   have HB:=aH hb
   have hb3:b≤3001:=by omega
   clear hwr hs1 hl1 hb
   go_wp2_with fail
   refine (aU HC).mono ?_
   rintro e w2 ⟨rfl,q2,os2,hw2⟩
   have HW2:=aH hw2
   clear hw2
   go_wp2_with fail
   go_roundg (gk - 20)
   case measure=>have:=aU HB; omega
   case rel =>
    have hb:=aU HB
    have e:=aU hat
    refine ⟨b,t+1,by first | rfl | go_num,by first | rfl | go_num,by rw [Hid]; omega,hbn,by omega,q2,os2,_,aU HW2,aU HSZ,aU HNX⟩
  ·have hbI : ¬ (b:Int)≤(n:Int):=by omega
   obtain ⟨q1,os1,d1,hwr,hs1,hl1⟩:=aU HW
   have HC:=aH (aU HINS q1 d1 os1 a n hs1 han (Nat.le_refl _))
   rw [← hwr] at HC
   have HNX:Hid ((Sort.insertionSort ltR d1 a n).toList=csort ltR 20 rs):=by
    have e:=aU hat
    have hnn:=(aU HN).1
    have:=one_more (rs:=rs) (dk:=d1) (t:=t) (c:=n - a) (by rw [← e]; exact hl1) (by omega) (by omega) (by omega) (.inr (by omega))
    rw [← e,show a+(n - a)=n from by omega] at this
    rw [Hid,this,hnn,List.take_length,List.drop_length,List.append_nil]
   have HSZ:Hid ((Sort.insertionSort ltR d1 a n).size=n):=by rw [Hid,size_sort]; exact hs1
   clear hwr hs1 hl1 hb
   go_wp2_with fail
   refine (aU HC).mono ?_
   rintro e w2 ⟨rfl,q2,os2,hw2⟩
   have HW2:Hid (∃ q os dk,w2=sortWorldK Rec.enc 4 w g 0 q dk os∧dk.size=n∧dk.toList=csort ltR 20 rs):=⟨q2,os2,_,hw2,aU HSZ,aU HNX⟩
   clear hw2 HC HNX HSZ HINS
   go_wp2_with fail
   go_loopg [6] n (fun g1 vs wr=>∃ (s:Nat),vs=.int .i64 s∧20≤s∧s≤6002∧n≤s+g1∧Hid (∃ q os dk,wr=sortWorldK Rec.enc 4 w g 0 q dk os∧dk.size=n∧dk.toList=csort ltR s rs))
   case atStart=>exact ⟨20,rfl,by omega,by omega,by omega,HW2⟩
   case round =>
    obtain ⟨s,rfl,hs20,hs6,hsg,HWS⟩:=hrel
    by_cases hsn:s<n
    ·have hsI:(s:Int)<(n:Int):=by omega
     obtain ⟨s2,hs2⟩ : ∃ s2,s2=2*s:=⟨_,rfl⟩
     have hs2I:(2:Int)*s=(s2:Int):=by omega
     have hs2J:(s:Int)*2=(s2:Int):=by omega
     have hs23:s2≤6002:=by omega
     have HS2:=aH hs2
     have hs2s:s<s2:=by omega
     clear hs2
     go_wp2_with fail
     go_loopg [7,8] n (fun g2 va vb wr=>∃ (a t:Nat),va=.int .i64 a∧vb=.int .i64 (a+s2:Nat)∧Hid (a=2*s*t)∧a≤n∧n≤g2+a∧Hid (∃ q os dk,wr=sortWorldK Rec.enc 4 w g 0 q dk os∧dk.size=n∧dk.toList=csort ltR (2*s) (rs.take a)++csort ltR s (rs.drop a)))
     case atStart =>
      obtain ⟨q1,os1,d1,hwr,hs1,hl1⟩:=aU HWS
      refine ⟨0,0,rfl,by first | rfl | (rw [Nat.zero_add]) | go_num,rfl,by omega,by omega,q1,os1,d1,hwr,hs1,?_⟩
      rw [List.take_zero,csort_nil,List.drop_zero]; exact hl1
     case round =>
      obtain ⟨a,t,rfl,rfl,hat,han,hgk2,HW⟩:=hrel
      obtain ⟨b,hb⟩ : ∃ b,a+s2=b:=⟨_,rfl⟩
      rw [hb]
      obtain ⟨m,hm⟩ : ∃ m,a+s=m:=⟨_,rfl⟩
      have hmI:(a:Int)+s=(m:Int):=by omega
      have hm3:m≤6002:=by omega
      by_cases hbn:b≤n
      ·have hbI:(b:Int)≤(n:Int):=by omega
       obtain ⟨q1,os1,d1,hwr,hs1,hl1⟩:=aU HW
       have hnn:=(aU HN).1
       have e2:=aU HS2
       obtain ⟨X,A',B',Z,k1,k2,k3,k4,k5,k6,k7⟩:=two_more (rs:=rs) (dk:=d1) (s:=s) (t:=t) (a:=a) (c:=s) (by omega) (aU hat) hl1 (Nat.le_refl _) (by omega) (by omega) (.inl rfl)
       have HC:=aH (aU HSYM (b - a) a m b q1 d1 os1 X A' B' Z hs1 k1 k2 (by omega) (by omega) (by omega) (by omega) k5 k6 (Nat.le_refl _))
       rw [← hwr] at HC
       have HNX:Hid (∀ d':Array Rec,d'.toList=X++(mg ltR A' B'++Z)→d'.size=n∧d'.toList=csort ltR (2*s) (rs.take b)++csort ltR s (rs.drop b)):=fun d' h'=>by
        rw [k7,show a+s+s=b from by omega] at h'
        refine ⟨?_,h'⟩
        rw [← Array.length_toList,h',List.length_append,csortL,csortL,List.length_take,List.length_drop]; omega
       have HB:Hid (a+s2=b∧a+s=m):=⟨hb,hm⟩
       have hb3:b≤3001:=by omega
       clear hwr hs1 hl1 hb hm k1 k2 k3 k4 k5 k6 k7 hnn e2
       go_wp2_with fail
       refine (aU HC).mono ?_
       rintro e w3 ⟨rfl,q2,os2,d2,hw3,hl3⟩
       have HW3:Hid (∃ q os dk,w3=sortWorldK Rec.enc 4 w g 0 q dk os∧dk.size=n∧dk.toList=csort ltR (2*s) (rs.take b)++csort ltR s (rs.drop b)):=⟨q2,os2,d2,hw3,(aU HNX d2 hl3).1,(aU HNX d2 hl3).2⟩
       clear hw3 hl3
       go_wp2_with fail
       go_roundg (gk - s2)
       case measure=>have:=aU HB; have:=aU HS2; omega
       case rel =>
        obtain ⟨hb,hm⟩:=aU HB
        have e2:=aU HS2
        have e:=aU hat
        refine ⟨b,t+1,by first | rfl | go_num,by first | rfl | go_num,by rw [Hid,← hb,e,e2,Nat.mul_succ],hbn,by omega,HW3⟩
      ·have hbI : ¬ (b:Int)≤(n:Int):=by omega
       by_cases hmn:m<n
       ·have hmnI:(m:Int)<(n:Int):=by omega
        obtain ⟨q1,os1,d1,hwr,hs1,hl1⟩:=aU HW
        have hnn:=(aU HN).1
        have e2:=aU HS2
        obtain ⟨X,A',B',Z,k1,k2,k3,k4,k5,k6,k7⟩:=two_more (rs:=rs) (dk:=d1) (s:=s) (t:=t) (a:=a) (c:=n - m) (by omega) (aU hat) hl1 (by omega) (by omega) (by omega) (.inr (by omega))
        have HC:=aH (aU HSYM (n - a) a m n q1 d1 os1 X A' B' Z hs1 k1 k2 (by omega) (by omega) (by omega) (by omega) k5 k6 (Nat.le_refl _))
        rw [← hwr] at HC
        have HNX:Hid (∀ d':Array Rec,d'.toList=X++(mg ltR A' B'++Z)→d'.size=n∧d'.toList=csort ltR s2 rs):=fun d' h'=>by
         rw [k7,show a+s+(n - m)=n from by omega,hnn,List.take_length,List.drop_length,csort_nil,List.append_nil,← e2] at h'
         refine ⟨?_,h'⟩
         rw [← Array.length_toList,h',csortL]; omega
        clear hwr hs1 hl1 hb hm k1 k2 k3 k4 k5 k6 k7 hnn e2
        go_wp2_with fail
        refine (aU HC).mono ?_
        rintro e w3 ⟨rfl,q2,os2,d2,hw3,hl3⟩
        have HW3:Hid (∃ q os dk,w3=sortWorldK Rec.enc 4 w g 0 q dk os∧dk.size=n∧dk.toList=csort ltR s2 rs):=⟨q2,os2,d2,hw3,(aU HNX d2 hl3).1,(aU HNX d2 hl3).2⟩
        clear hw3 hl3
        go_wp2_with fail
        go_roundg (n - s2)
        case measure=>omega
        case rel=>exact ⟨s2,by first | rfl | go_num,by omega,hs23,by omega,HW3⟩
       ·have hmnI : ¬ (m:Int)<(n:Int):=by omega
        have HW3:Hid (∃ q os dk,wr=sortWorldK Rec.enc 4 w g 0 q dk os∧dk.size=n∧dk.toList=csort ltR s2 rs):=by
         obtain ⟨q1,os1,d1,hwr,hs1,hl1⟩:=aU HW
         have hnn:=(aU HN).1
         have e2:=aU HS2
         refine ⟨q1,os1,d1,hwr,hs1,?_⟩
         have hld:(rs.drop a).length≤s:=by rw [List.length_drop]; omega
         rw [hl1,csort_small ltR hld,← csort_small ltR (s:=2*s) (l:=rs.drop a) (by omega),← csort_snoc ltR (by omega) _ t (rs.take a) (by rw [List.length_take]; have:=aU hat; omega),List.take_append_drop,← e2]
        clear hb hm HW
        go_wp2_with fail
        go_roundg (n - s2)
        case measure=>omega
        case rel=>exact ⟨s2,by first | rfl | go_num,by omega,hs23,by omega,HW3⟩
    ·have hsI : ¬ (s:Int)<(n:Int):=by omega
     go_wp2_with fail
     go_end0
     obtain ⟨q1,os1,d1,hwr,hs1,hl1⟩:=aU HWS
     have hnn:=(aU HN).1
     exact ⟨rfl,q1,os1,d1,hwr,by rw [hl1,csort_small ltR (by omega)]⟩
end Sj
end Go.Proofs.YtkkpahmoljiepaaGreatDoor

set_option maxRecDepth 1000000
set_option maxHeartbeats 12800000
namespace Go.Proofs.YtkkpahmoljiepaaGreatDoor
open Go.RowKit Go.Sort Go.Shelf
open Pu (Str aH aU)
namespace Sk
open Ka Kd Sa Sb Sc Sd Se Sf Sg Sh Si Sj
theorem sortL_iso (rs:List Rec):sortL rs=iso ltR rs:=by
 have:=sort_list ltR wkR irR [] rs [] rs.toArray (by simp)
 simp only [List.length_nil,Nat.zero_add,List.nil_append,List.append_nil] at this
 exact this
theorem sortStable_all (g cap:Nat) (rs:List Rec) (w:World) (hH:HoldsK Rec.enc 4 w g 0 rs.toArray) (hg:g<w.heap.size) (hl:rs.length≤3001) :
  Calls Tryz.prog 102 #[.slice (some ⟨g,0,none⟩) rs.length cap,.func (.func 103) #[] #[]] w fun e w' =>
   e=.returned (.tuple #[])∧∃ q os d',w'=sortWorldK Rec.enc 4 w g 0 q d' os∧d'.toList=iso ltR rs:=by
 have HI:=aH (stable_all g cap rs w hH hg hl)
 clear hH
 go_enter Tryz.func102,Tryz.ntmps102
 go_wp2_with fail
 refine (aU HI).mono ?_
 rintro e w1 ⟨rfl,hw⟩
 have HW:=aH hw
 clear hw
 go_wp2_with fail
 go_end0
 exact ⟨rfl,aU HW⟩
theorem sort0_all (g cap:Nat) (rs:List Rec) (w:World) (hH:HoldsK Rec.enc 4 w g 0 rs.toArray) (hg:g<w.heap.size) (hl:rs.length≤3001) :
  Calls Tryz.prog 59 #[.slice (some ⟨g,0,none⟩) rs.length cap] w fun e w' =>
   e=.returned (.tuple #[])∧∃ q os d',w'=sortWorldK Rec.enc 4 w g 0 q d' os∧d'.toList=iso ltR rs:=by
 have HI:=aH (sortStable_all g cap rs w hH hg hl)
 clear hH
 go_enter Tryz.func59,Tryz.ntmps59
 go_wp2_with fail
 refine (aU HI).mono ?_
 rintro e w1 ⟨rfl,hw⟩
 have HW:=aH hw
 clear hw
 go_wp2_with fail
 go_end0
 exact ⟨rfl,aU HW⟩
theorem sort_all (g cap:Nat) (rs:List Rec) (w:World) (cur:Array Value) (e:TypeId) (hc:w.heap[g]? = some (.cells cur e)) (hr:bE w g 0 rs) (hl:rs.length≤3001) :
  Calls Tryz.prog 59 #[.slice (some ⟨g,0,none⟩) rs.length cap] w fun e w' =>
   e=.returned (.tuple #[])∧bE w' g 0 (sortL rs)∧∀ B a,B≤g→B≤w.heap.size→Below B a w→Below B a w':=by
 refine (sort0_all g cap rs w (holdsK_of hc hr) hr.1 hl).mono ?_
 rintro e w' ⟨rfl,n,os,d',rfl,hd⟩
 obtain rfl:d'=(sortL rs).toArray:=by rw [sortL_iso,← hd]
 have hs:(sortL rs).toArray.size=rs.toArray.size:=by simp [sortL_len]
 refine ⟨rfl,recsAt_of_holds (Nat.lt_of_lt_of_le hr.1 (size_sortWorldK_c Rec.enc 4 w g 0 n _ os)) ?_,fun B a h1 h2 h3=>below_sort h3 h1 h2⟩
 exact holdsK_sortWorldK_c Rec.enc 4 w g 0 rs.toArray _ n os (holdsK_of hc hr) hr.1 hs
end Sk
end Go.Proofs.YtkkpahmoljiepaaGreatDoor

set_option maxRecDepth 1000000
set_option maxHeartbeats 12800000
namespace Go.Proofs.YtkkpahmoljiepaaGreatDoor
open Go.RowKit
open Pu (Str aH aU)
namespace Pb
open Ka Kd Rf Rg Ia Iow Ie Zb Zc Za Ze Zg Re Sb Pa Sk
theorem parse_all (s:ByteArray) (w:World) (hg:G w) (hs:s.size≤3000) (hfit : ∀ o rs,readZ s.data.toList=some (o,rs)→Fit o rs) :
  Calls Tryz.prog 16 #[.string s] w fun e w'=>parseR (parseP s.data.toList) w.heap.size e w'∧Below w.heap.size w w':=by
 have HC:=aH (clone_any s w (by omega))
 have hsI : ¬ (3000:Int)<(s.size:Int):=by omega
 have HRZ:=aH (fun w1 (h:Below w.heap.size w w1)=>readZone_any s w1 (hg.below h) hs)
 clear hg
 cases hz:readZ s.data.toList with
 | none =>
  have hfin:Hid (parseP s.data.toList=none):=by unfold parseP; rw [Hid,hz]; rfl
  go_enter Tryz.func16,Tryz.ntmps16
  go_wp2_with fail
  refine (aU HC).mono ?_
  rintro e w1 ⟨rfl,hb1⟩
  go_wp2_with fail
  refine (aU HRZ w1 hb1).mono ?_
  rintro e w2 ⟨hr2,hb2⟩
  rw [hz] at hr2
  obtain rfl:e=.returned noneV:=hr2
  unfold noneV
  go_wp2_with fail
  go_ret2
  rw [aU hfin]
  exact ⟨rfl,hb1.trans (hb2.mono hb1.size)⟩
 | some x =>
  obtain ⟨o,rs⟩:=x
  obtain ⟨hlen,hol,hrl⟩:=hfit o rs hz
  have HRL:=aH hrl
  clear hfit hrl
  have hP:Hid (parseP s.data.toList=if startsR o rs && rightP o (sortL rs) then some (o,sortL rs) else none):=by unfold parseP; rw [Hid,hz]; rfl
  cases hst:startsR o rs
  ·have hfin:Hid (parseP s.data.toList=none):=by rw [Hid,aU hP,hst]; rfl
   go_enter Tryz.func16,Tryz.ntmps16
   go_wp2_with fail
   refine (aU HC).mono ?_
   rintro e w1 ⟨rfl,hb1⟩
   go_wp2_with fail
   refine (aU HRZ w1 hb1).mono ?_
   rintro e w2 ⟨hr2,hb2⟩
   rw [hz] at hr2
   obtain ⟨v,rfl,hown⟩:=hr2
   have HS:=aH (startsRight_any o v rs w2 hown.rv (by omega))
   clear hown
   go_wp2_with fail
   refine (aU HS).mono ?_
   rintro e w3 ⟨rfl,hb3⟩
   go_wp2_with fail
   go_ret2
   rw [aU hfin]
   exact ⟨rfl,(hb1.trans (hb2.mono hb1.size)).trans (hb3.mono (Nat.le_trans hb1.size hb2.size))⟩
  ·have hne:rs≠[]:=by intro h; rw [h] at hst; cases hst
   have HSL:Hid (∀ r∈sortL rs,r.owner.length≤3000∧r.data.length≤3000):=sortL_all (aU HRL)
   have hsl:=sortL_len rs
   cases hrt:rightP o (sortL rs)
   ·have hfin:Hid (parseP s.data.toList=none):=by rw [Hid,aU hP,hst,hrt]; rfl
    go_enter Tryz.func16,Tryz.ntmps16
    go_wp2_with fail
    refine (aU HC).mono ?_
    rintro e w1 ⟨rfl,hb1⟩
    go_wp2_with fail
    refine (aU HRZ w1 hb1).mono ?_
    rintro e w2 ⟨hr2,hb2⟩
    rw [hz] at hr2
    obtain ⟨v,rfl,hown⟩:=hr2
    have HS:=aH (startsRight_any o v rs w2 hown.rv (by omega))
    obtain ⟨g,cap,cur,rfl,hg,hcur,hcap,hra⟩:=own_some hown hne
    have HCUR:=aH hcur
    have HRA:=aH hra
    clear hown hcur hra
    have hb12:=hb1.trans (hb2.mono hb1.size)
    go_wp2_with fail
    refine (aU HS).mono ?_
    rintro e w3 ⟨rfl,hb3⟩
    have hb13:=hb12.trans (hb3.mono hb12.size)
    have hglt:=(aU HRA).1
    go_wp2_with fail
    refine (sort_all g cap rs w3 cur _ ((hb3.block g hglt).trans (aU HCUR)) ((aU HRA).below hb3) hlen).mono ?_
    rintro e w4 ⟨rfl,hr4,hb4⟩
    have hb14:=hb4 w.heap.size w (Nat.le_trans hb1.size hg) hb13.size hb13
    have HI:=aH (isRight_any g 0 cap o (sortL rs) w4 hr4 (by omega) (by omega) hol (fun r hr=>(aU HSL r hr).1))
    rw [hsl] at HI
    clear hr4 hb4
    go_wp2_with fail
    refine (aU HI).mono ?_
    rintro e w5 ⟨rfl,hb5⟩
    go_wp2_with fail
    go_ret2
    rw [aU hfin]
    exact ⟨rfl,hb14.trans (hb5.mono hb14.size)⟩
   ·have hfin:Hid (parseP s.data.toList=some (o,sortL rs)):=by rw [Hid,aU hP,hst,hrt]; rfl
    go_enter Tryz.func16,Tryz.ntmps16
    go_wp2_with fail
    refine (aU HC).mono ?_
    rintro e w1 ⟨rfl,hb1⟩
    go_wp2_with fail
    refine (aU HRZ w1 hb1).mono ?_
    rintro e w2 ⟨hr2,hb2⟩
    rw [hz] at hr2
    obtain ⟨v,rfl,hown⟩:=hr2
    have HS:=aH (startsRight_any o v rs w2 hown.rv (by omega))
    obtain ⟨g,cap,cur,rfl,hg,hcur,hcap,hra⟩:=own_some hown hne
    have HCUR:=aH hcur
    have HRA:=aH hra
    clear hown hcur hra
    have hb12:=hb1.trans (hb2.mono hb1.size)
    go_wp2_with fail
    refine (aU HS).mono ?_
    rintro e w3 ⟨rfl,hb3⟩
    have hb13:=hb12.trans (hb3.mono hb12.size)
    have hglt:=(aU HRA).1
    go_wp2_with fail
    refine (sort_all g cap rs w3 cur _ ((hb3.block g hglt).trans (aU HCUR)) ((aU HRA).below hb3) hlen).mono ?_
    rintro e w4 ⟨rfl,hr4,hb4⟩
    have hb14:=hb4 w.heap.size w (Nat.le_trans hb1.size hg) hb13.size hb13
    have HI:=aH (isRight_any g 0 cap o (sortL rs) w4 hr4 (by omega) (by omega) hol (fun r hr=>(aU HSL r hr).1))
    rw [hsl] at HI
    have HR4:=aH hr4
    clear hr4 hb4
    go_wp2_with fail
    refine (aU HI).mono ?_
    rintro e w5 ⟨rfl,hb5⟩
    have hb15:=hb14.trans (hb5.mono hb14.size)
    have HR5:=aH ((aU HR4).below hb5)
    go_wp2_with fail
    refine (new_any o g 0 rs.length cap w5).mono ?_
    rintro e w6 ⟨rfl,hb6,hlt6,c60,c61⟩
    have HT:Hid (aN w6 w5.heap.size o g 0 cap (sortL rs)):=⟨hlt6,c60,by rw [hsl]; exact c61,by omega,(aU HR5).below hb6⟩
    clear c60 c61
    go_wp2_with fail
    go_ret2
    rw [aU hfin]
    exact ⟨⟨_,_,_,rfl,hb15.size,Nat.le_trans hb1.size hg,aU HT⟩,hb15.trans (hb6.mono hb15.size)⟩
end Pb
namespace Ta
open Go.Sort
def headS:Str:=[111,114,105,103,105,110,32,122,122,10,122,122,32,53,48,32,83,79,65,32,97,46,122,122,32,98,46,122,122,32,57,32,52,48,10,122,122,32,53,48,32,78,83,32,97,46,122,122,10]
def zz:Str:=[122,122]
end Ta
namespace Ca
open Ta Sc Sf
def dg2 (i:Nat):Str:=if i<10 then [UInt8.ofNat (48+i)] else [UInt8.ofNat (48+i/10),UInt8.ofNat (48+i%10)]
def soaC:Rec:=([122,122],50,6,[97,46,122,122,32,98,46,122,122,32,57,32,52,48])
def insF (x:Rec):List Rec→List Rec
 | []=>[x]
 | y :: l=>if ltR x y then x :: y :: l else y :: insF x l
def isoF (l:List Rec):List Rec:=l.foldl (fun s x=>insF x s) []
theorem insF_mg (x:Rec) : ∀ l,insF x l=mg ltR l [x]
 | []=>by simp [insF]
 | y :: l=>by rw [insF,mg_cons,insF_mg x l,mg_nil']
theorem isoF_eq (l:List Rec):isoF l=iso ltR l:=by
 unfold isoF iso
 congr 1
 funext s x
 exact insF_mg x s
end Ca
namespace Ba
open Ta Sc Sf Ca
def joinL (ls:List Str):Str:=ls.flatMap (·++[10])
theorem joinL_cons (l:Str) (t:List Str):joinL (l :: t)=l++10 :: joinL t:=by simp [joinL]
theorem joinL_app (a b:List Str):joinL (a++b)=joinL a++joinL b:=by simp [joinL]
theorem joinL_ne {ls:List Str} (h:ls≠[]):joinL ls≠[]:=by
 cases ls with
 | nil=>exact absurd rfl h
 | cons l t=>rw [joinL_cons]; simp
theorem join_last : ∀ {ls:List Str},ls≠[]→∃ p,joinL ls=p++[10]
 | [],h=>absurd rfl h
 | [l],_=>⟨l,by simp [joinL]⟩
 | l :: m :: t,_=>by
  obtain ⟨p,hp⟩:=join_last (ls:=m :: t) (by simp)
  exact ⟨l++10 :: p,by rw [joinL_cons,hp]; simp⟩
theorem spl_join : ∀ {ls:List Str},ls≠[]→(∀ l∈ls,(10:UInt8) ∉ l)→Sp.spl 10 (joinL ls).dropLast=ls
 | [],h,_=>absurd rfl h
 | [l],_,h=>by
  have:joinL [l]=l++[10]:=by simp [joinL]
  rw [this,List.dropLast_concat]
  exact Sp.spl_none 10 l (h l (by simp))
 | l :: m :: t,_,h=>by
  have ih:=spl_join (ls:=m :: t) (by simp) (fun x hx=>h x (by simp [List.mem_cons.1 hx]))
  have hne:=joinL_ne (ls:=m :: t) (by simp)
  rw [joinL_cons,List.dropLast_append_of_ne_nil (by simp),List.dropLast_cons_of_ne_nil hne,Sp.spl_some 10 l _ (h l (by simp)),ih]
theorem readZ_join {ls:List Str} (hne:ls≠[]) (h : ∀ l∈ls,(10:UInt8) ∉ l):readZ (joinL ls)=readLines ls:=by
 obtain ⟨p,hp⟩:=join_last hne
 have hs:Lib.hasSuffix (joinL ls) [10]=true:=by
  unfold Lib.hasSuffix
  rw [List.isSuffixOf_iff_suffix,hp]
  exact ⟨p,rfl⟩
 unfold readZ
 rw [if_pos hs]
 have:Lib.trimSuffix (joinL ls) [10]=(joinL ls).dropLast:=by
  unfold Lib.trimSuffix
  rw [if_pos hs,List.dropLast_eq_take]; rfl
 rw [this,spl_join hne h]
theorem readAll_map {α:Type} (f:α→Str) (g:α→Rec) : ∀ (l:List α),(∀ x∈l,readRec (f x)=some (g x))→readAll (l.map f)=some (l.map g)
 | [],_=>rfl
 | x :: t,h=>by
  have ih:=readAll_map f g t (fun y hy=>h y (by simp [hy]))
  rw [List.map_cons,readAll,h x (by simp),ih]; rfl
theorem readAll_bad {l:Str} (h:readRec l=none) : ∀ (a:List Str),readAll (a++[l])=none
 | []=>by rw [List.nil_append,readAll,h]; rfl
 | x :: t=>by
  rw [List.cons_append,readAll,readAll_bad h t]
  cases readRec x <;> rfl
def wdF (m i:Nat):Str:=(dg2 i++List.replicate 55 46).take (max m (dg2 i).length)
def liF (m i:Nat):Str:=[109,46,122,122,32,55,32,84,88,84,32]++wdF m i
def lnsF (m:Nat):Nat→Str
 | 0=>[]
 | i+1=>lnsF m i++(liF m i++[10])
def nmF:Str:=[109,46,122,122]
def recF (m i:Nat):Rec:=(nmF,7,16,wdF m i)
def nsC:Rec:=([122,122],50,2,[97,46,122,122])
def txF (m n:Nat):List Rec:=(List.range n).map (recF m)
def recsF0 (m n:Nat):List Rec:=soaC :: nsC :: txF m n
def recsF (m n:Nat):List Rec:=txF m n++[nsC,soaC]
theorem lns_join (m:Nat) : ∀ n,lnsF m n=joinL ((List.range n).map (liF m))
 | 0=>rfl
 | n+1=>by rw [lnsF,lns_join m n,List.range_succ,List.map_append,joinL_app]; simp [joinL]
def h1:Str:=[111,114,105,103,105,110,32,122,122]
def h2:Str:=[122,122,32,53,48,32,83,79,65,32,97,46,122,122,32,98,46,122,122,32,57,32,52,48]
def h3:Str:=[122,122,32,53,48,32,78,83,32,97,46,122,122]
theorem head_join:headS=joinL [h1,h2,h3]:=rfl
theorem allL:(List.range 41).all (fun m=>(List.range 40).all (fun i=>decide (readRec (liF m i)=some (recF m i)) && !(liF m i).contains 10 && decide ((wdF m i).takeWhile (fun c=>c != 46)=dg2 i) && decide ((wdF m i).length=max m (dg2 i).length)))=true:=by kernel_rfl
theorem allD:(List.range 40).all (fun i=>(List.range 40).all (fun j=>decide (i=j) || decide (dg2 i≠dg2 j)))=true:=by kernel_rfl
section
variable {m n i j:Nat}
theorem line_ok (hm:m≤40) (hi:i<40):readRec (liF m i)=some (recF m i)∧(10:UInt8) ∉ liF m i∧(wdF m i).takeWhile (fun c=>c != 46)=dg2 i∧(wdF m i).length=max m (dg2 i).length:=by
 have h:=allL
 rw [List.all_eq_true] at h
 have h:=h m (List.mem_range.2 (by omega))
 rw [List.all_eq_true] at h
 have h:=h i (List.mem_range.2 hi)
 simp only [Bool.and_eq_true,decide_eq_true_eq] at h
 refine ⟨h.1.1.1,fun hc=>?_,h.1.2,h.2⟩
 have:=h.1.1.2
 rw [Bool.not_eq_true',← Bool.not_eq_true,List.contains_iff_mem] at this
 exact this hc
theorem dg2_inj (hi:i<40) (hj:j<40) (h:dg2 i=dg2 j):i=j:=by
 have a:=allD
 rw [List.all_eq_true] at a
 have a:=a i (List.mem_range.2 hi)
 rw [List.all_eq_true] at a
 have a:=a j (List.mem_range.2 hj)
 simp only [Bool.or_eq_true,decide_eq_true_eq] at a
 rcases a with a | a
 ·exact a
 ·exact absurd h a
theorem rec_inj (hm:m≤40) (hi:i<40) (hj:j<40) (h:recF m i=recF m j):i=j:=by
 have e:wdF m i=wdF m j:=congrArg (fun r:Rec=>r.2.2.2) h
 refine dg2_inj hi hj ?_
 rw [← (line_ok hm hi).2.2.1,← (line_ok hm hj).2.2.1,e]
theorem read_f (hm:m≤40) (hn:n≤40):readZ (headS++lnsF m n)=some (zz,recsF0 m n)∧readZ (headS++lnsF m n++[10])=none:=by
 have hr : ∀ x∈(List.range n).map (liF m),(10:UInt8) ∉ x:=fun x hx=>by
  obtain ⟨i,hi,rfl⟩:=List.mem_map.1 hx
  exact (line_ok hm (by have:=List.mem_range.1 hi; omega)).2.1
 have h10 : ∀ x∈[h1,h2,h3],(10:UInt8) ∉ x:=by decide
 have hall:=readAll_map (liF m) (recF m) (List.range n) (fun i hi=>(line_ok hm (by have:=List.mem_range.1 hi; omega)).1)
 have r2:readRec h2=some soaC:=by kernel_rfl
 have r3:readRec h3=some nsC:=by kernel_rfl
 have hp:(Lib.hasPrefix h1 originW && Sp.plain (Lib.trimPrefix h1 originW))=true:=by kernel_rfl
 have ho:Lib.trimPrefix h1 originW=zz:=by kernel_rfl
 constructor
 ·rw [head_join,lns_join,← joinL_app,readZ_join (by simp) (fun x hx=>by
   rcases List.mem_append.1 hx with hx | hx
   ·exact h10 x hx
   ·exact hr x hx)]
  show readLines (h1 :: h2 :: h3 :: (List.range n).map (liF m))=_
  rw [readLines,if_pos hp,ho,readAll,r2,readAll,r3,hall]; rfl
 ·have e:headS++lnsF m n++[10]=joinL ([h1,h2,h3]++(List.range n).map (liF m)++[[]]):=by
   rw [joinL_app,joinL_app,← head_join,← lns_join]; rfl
  rw [e,readZ_join (by simp) (fun x hx=>by
   rcases List.mem_append.1 hx with hx | hx
   ·rcases List.mem_append.1 hx with hx | hx
    ·exact h10 x hx
    ·exact hr x hx
   ·simp only [List.mem_cons,List.mem_nil_iff,or_false] at hx
    subst hx; simp)]
  show readLines (h1 :: (h2 :: h3 :: (List.range n).map (liF m)++[[]]))=_
  rw [readLines,if_pos hp,readAll_bad (by kernel_rfl)]; rfl
theorem lt_tx (i j:Nat):ltR (recF m i) (recF m j)=false:=by
 rw [← Bool.not_eq_true,Si.ltR_iff]
 rintro (h | ⟨_,h⟩)
 ·revert h; show ¬ Op.bytesLess nmF nmF=true; decide
 ·exact absurd h (by show ¬ (16:Int)<16; omega)
theorem lt_ns (i:Nat):ltR (recF m i) nsC=true:=by
 rw [Si.ltR_iff]
 exact .inl (by show Op.bytesLess nmF [122,122]=true; decide)
theorem ins_tx (x:Rec) (r:Rec) (t:List Rec) (hx:ltR x r=true) : ∀ (d:List Rec),(∀ y∈d,ltR x y=false)→insF x (d++r :: t)=d++x :: r :: t
 | [],_=>by rw [List.nil_append,insF,if_pos hx]; rfl
 | y :: d,h=>by
  rw [List.cons_append,insF,if_neg (by rw [h y (by simp)]; simp),ins_tx x r t hx d (fun z hz=>h z (by simp [hz]))]; rfl
theorem sort_f (m:Nat) : ∀ n,isoF (recsF0 m n)=recsF m n
 | 0=>by unfold recsF0 recsF txF; kernel_rfl
 | n+1=>by
  have ih:=sort_f m n
  have e:recsF0 m (n+1)=recsF0 m n++[recF m n]:=by
   unfold recsF0 txF; rw [List.range_succ,List.map_append]; rfl
  unfold isoF at ih ⊢
  rw [e,List.foldl_append,ih]
  show insF (recF m n) (txF m n++nsC :: [soaC])=_
  rw [ins_tx _ _ _ (lt_ns n) _ (fun y hy=>by
   obtain ⟨i,_,rfl⟩:=List.mem_map.1 hy
   exact lt_tx n i)]
  unfold recsF txF
  rw [List.range_succ,List.map_append]; simp
theorem sortF (m n:Nat):sortL (recsF0 m n)=recsF m n:=by rw [Sk.sortL_iso,← isoF_eq,sort_f]
theorem runs_head (same:Rec→Rec→Bool) (r:Rec) (a b:List Rec) (ha : ∀ x∈a,same r x=true) (hb : ∀ x∈b.head?,same r x=false):runs same (r :: (a++b))=(0,r :: a) :: runsP same (a.length+b.length) (1+a.length) b:=by
 have ht:(a++b).takeWhile (same r)=a:=by
  rw [List.takeWhile_append_of_pos ha]
  cases b with
  | nil=>simp
  | cons x t=>rw [List.takeWhile_cons_of_neg (by rw [hb x (by simp)]; simp)]; simp
 have hd:(a++b).dropWhile (same r)=b:=by
  rw [List.dropWhile_append_of_pos ha]
  cases b with
  | nil=>rfl
  | cons x t=>rw [List.dropWhile_cons_of_neg (by rw [hb x (by simp)]; simp)]
 unfold runs
 rw [List.length_cons,List.length_append,runsP,ht,hd,Nat.zero_add]
theorem runsP_nil (same:Rec→Rec→Bool) (f k:Nat):runsP same f k [] = []:=by cases f <;> rfl
theorem tx_cons (m n:Nat):txF m (n+1)=recF m 0 :: (List.range n).map (fun i=>recF m (i+1)):=by
 unfold txF; rw [List.range_succ_eq_map]; simp [List.map_map,Function.comp_def]
theorem sets_f (m n:Nat):runs aD (recsF m (n+1)) = [(0,txF m (n+1)),(n+1,[nsC]),(n+1+1,[soaC])]:=by
 unfold recsF
 rw [tx_cons,List.cons_append,runs_head aD _ _ _ (fun x hx=>by
  obtain ⟨i,_,rfl⟩:=List.mem_map.1 hx
  rfl) (fun x hx=>by simp at hx; subst hx; rfl)]
 rw [List.length_map,List.length_range,show n + [nsC,soaC].length=n+2 from rfl,Nat.add_comm 1 n]
 show _ :: (n+1,[nsC]) :: (n+1+1+0,[soaC]) :: runsP aD n (n+1+1+0+1+0) []=_
 rw [runsP_nil]
theorem owns_f (m n:Nat):runs aG (recsF m (n+1)) = [(0,txF m (n+1)),(n+1,[nsC,soaC])]:=by
 unfold recsF
 rw [tx_cons,List.cons_append,runs_head aG _ _ _ (fun x hx=>by
  obtain ⟨i,_,rfl⟩:=List.mem_map.1 hx
  rfl) (fun x hx=>by simp at hx; subst hx; rfl)]
 rw [List.length_map,List.length_range,show n + [nsC,soaC].length=n+2 from rfl,Nat.add_comm 1 n]
 rfl
theorem set_own (m n:Nat):runs aD (txF m (n+1)) = [(0,txF m (n+1))]:=by
 have:=runs_head aD (recF m 0) ((List.range n).map (fun i=>recF m (i+1))) [] (fun x hx=>by
  obtain ⟨i,_,rfl⟩:=List.mem_map.1 hx
  rfl) (fun x hx=>by simp at hx)
 rw [List.append_nil,← tx_cons] at this
 rw [this,tx_cons]
 simp only [List.length_nil,Nat.add_zero]
 cases h:((List.range n).map (fun i=>recF m (i+1))).length <;> rfl
theorem setOk_of (t0:Nat) : ∀ (l pre:List Rec),(∀ r∈l,r.ttl=t0)→(pre++l).Pairwise (·≠·)→Rg.setOk t0 pre l=true
 | [],_,_,_=>rfl
 | r :: l,pre,h,hp=>by
  have ih:=setOk_of t0 l (pre++[r]) (fun x hx=>h x (by simp [hx])) (by simpa using hp)
  rw [Rg.setOk,ih,h r (by simp)]
  have hn:pre.any (r == ·)=false:=by
   rw [← Bool.not_eq_true,List.any_eq_true]
   rintro ⟨x,hx,he⟩
   have:=(List.pairwise_append.1 hp).2.2 x hx r (by simp)
   exact this (by simpa using (beq_iff_eq.1 he).symm)
  rw [hn]; simp
theorem tx_pair (hm:m≤40) (hn:n≤40):(txF m n).Pairwise (·≠·):=by
 unfold txF
 rw [List.pairwise_map]
 refine List.Pairwise.imp_of_mem (fun {a b} ha hb hlt he=>?_) List.pairwise_lt_range
 have:=rec_inj hm (by have:=List.mem_range.1 ha; omega) (by have:=List.mem_range.1 hb; omega) he
 omega
theorem tx_mem {r:Rec} (h:r∈txF m n) : ∃ i,i<n∧r=recF m i:=by
 obtain ⟨i,hi,rfl⟩:=List.mem_map.1 h
 exact ⟨i,List.mem_range.1 hi,rfl⟩
theorem tx_any (k:Int) (hk:((16:Int) == k)=false):(txF m n).any (Rf.hasP k)=false:=by
 rw [← Bool.not_eq_true,List.any_eq_true]
 rintro ⟨r,hr,h⟩
 obtain ⟨i,_,rfl⟩:=tx_mem hr
 have:Rf.hasP k (recF m i)=((16:Int) == k):=rfl
 rw [this,hk] at h; cases h
theorem right_f (hm:m≤40) (hn:n+1≤40):rightP zz (recsF m (n+1))=true:=by
 have hs:Rg.rightSet (txF m (n+1))=true:=by
  have h:=setOk_of 7 (txF m (n+1)) [] (fun r hr=>by obtain ⟨i,_,rfl⟩:=tx_mem hr; rfl) (by simpa using tx_pair hm hn)
  rw [tx_cons] at h ⊢
  exact h
 have ho:rightOwner zz (recsF m (n+1)) nmF (txF m (n+1))=true:=by
  unfold rightOwner
  rw [tx_any 5 rfl,tx_any 2 rfl]
  have:Sp.under nmF zz=true:=by kernel_rfl
  rw [this]; simp
 have ho2:rightOwner zz (recsF m (n+1)) zz [nsC,soaC]=true:=by
  unfold rightOwner
  have:Sp.under zz zz=true:=by kernel_rfl
  have h5 : [nsC,soaC].any (Rf.hasP 5)=false:=by kernel_rfl
  rw [this,h5]; simp
 have hof:ofP (recsF m (n+1)) zz = [nsC,soaC]:=by
  unfold ofP
  rw [owns_f]
  have e:aI (0,txF m (n+1))=nmF:=by rw [tx_cons]; rfl
  rw [List.find?_cons_of_neg (by show ¬ (aI (0,txF m (n+1)) == zz)=true; rw [e]; decide)]
  rfl
 unfold rightP
 rw [sets_f,owns_f,hof]
 have e:aI (0,txF m (n+1))=nmF:=by rw [tx_cons]; rfl
 show ((Rg.rightSet (txF m (n+1)) && (Rg.rightSet [nsC] && (Rg.rightSet [soaC] && true))) && ((rightOwner zz (recsF m (n+1)) (aI (0,txF m (n+1))) (txF m (n+1)) && (rightOwner zz (recsF m (n+1)) zz [nsC,soaC] && true)) && decide (0<(setP [nsC,soaC] 2).length)))=true
 rw [hs,e,ho,ho2]
 kernel_rfl
theorem dg2_len (i:Nat):(dg2 i).length≤2∧1≤(dg2 i).length:=by unfold dg2; split <;> simp
theorem fit_any (rs:List Rec) (hm:m≤40) (hn:n≤40) (hl:rs.length≤3001) (h : ∀ r∈rs,r∈txF m n∨r=nsC∨r=soaC):Fit zz rs:=by
 refine ⟨hl,by decide,fun r hr=>?_⟩
 rcases h r hr with hr | rfl | rfl
 ·obtain ⟨i,hi,rfl⟩:=tx_mem hr
  have h4:=(line_ok (i:=i) hm (by omega)).2.2.2
  have:=dg2_len i
  refine ⟨by show nmF.length≤3000; decide,?_⟩
  show (wdF m i).length≤3000
  omega
 ·exact ⟨by decide,by decide⟩
 ·exact ⟨by decide,by decide⟩
theorem tx_len (m n:Nat):(txF m n).length=n:=by simp [txF]
theorem fit0_f (hm:m≤40) (hn:n≤40):Fit zz (recsF0 m n):=fit_any _ hm hn (by unfold recsF0; simp [tx_len]; omega) (fun r hr=>by
 unfold recsF0 at hr
 simp only [List.mem_cons] at hr
 rcases hr with rfl | rfl | hr
 ·exact .inr (.inr rfl)
 ·exact .inr (.inl rfl)
 ·exact .inl hr)
theorem fit_f (hm:m≤40) (hn:n≤40):Fit zz (recsF m n):=fit_any _ hm hn (by unfold recsF; simp [tx_len]; omega) (fun r hr=>by
 unfold recsF at hr
 simp only [List.mem_append,List.mem_cons,List.mem_nil_iff,or_false] at hr
 exact hr)
theorem starts_f (m:Nat) (hn:n≤40):Rf.startsR zz (recsF0 m n)=true:=by
 have h6:(nsC :: txF m n).any (Rf.hasP 6)=false:=by rw [List.any_cons,tx_any 6 rfl]; rfl
 unfold Rf.startsR recsF0
 simp only [h6]
 have:(soaC :: nsC :: txF m n).length≤60:=by simp [tx_len]; omega
 rw [decide_eq_true this]; rfl
theorem parse_f (hm:m≤40) (hn:n+1≤40):parseP (headS++lnsF m (n+1))=some (zz,recsF m (n+1))∧parseP (headS++lnsF m (n+1)++[10])=none:=by
 obtain ⟨r1,r2⟩:=read_f (n:=n+1) hm hn
 constructor
 ·unfold parseP
  rw [r1]
  show (if Rf.startsR zz (recsF0 m (n+1)) && rightP zz (sortL (recsF0 m (n+1))) then some (zz,sortL (recsF0 m (n+1))) else none)=_
  rw [sortF,starts_f m hn,right_f hm hn]; rfl
 ·unfold parseP
  rw [r2]; rfl
theorem of_f (m n:Nat):ofP (recsF m (n+1)) nmF=txF m (n+1)∧ofP (recsF m (n+1)) zz = [nsC,soaC]:=by
 have e:aI (0,txF m (n+1))=nmF:=by rw [tx_cons]; rfl
 constructor
 ·unfold ofP
  rw [owns_f,List.find?_cons_of_pos (by show (aI (0,txF m (n+1)) == nmF)=true; rw [e]; decide)]
 ·unfold ofP
  rw [owns_f,List.find?_cons_of_neg (by show ¬ (aI (0,txF m (n+1)) == zz)=true; rw [e]; decide)]
  rfl
theorem type_f (m n:Nat):typeOf (0,txF m (n+1))=16:=by rw [tx_cons]; rfl
theorem there_f (m n:Nat):there (recsF m (n+1)) nmF=true:=by
 have e:aI (0,txF m (n+1))=nmF:=by rw [tx_cons]; rfl
 unfold there underRuns
 rw [owns_f,List.filter_cons_of_pos (by show Sp.under (aI (0,txF m (n+1))) nmF=true; rw [e]; kernel_rfl)]
 rfl
theorem match_f (m n:Nat):matchP (recsF m (n+1)) nmF=(txF m (n+1),true):=by
 unfold matchP
 rw [if_pos (there_f m n),(of_f m n).1]
theorem cut_f (m n:Nat):cutP zz (recsF m (n+1)) nmF = []:=by
 have he:(ends nmF).takeWhile (fun e=>!(e == zz)) = [nmF]:=by kernel_rfl
 unfold cutP
 rw [he]
 show cutStep (recsF m (n+1)) [] nmF = []
 unfold cutStep
 rw [(of_f m n).1]
 have:setP (txF m (n+1)) 2 = []:=by
  unfold setP
  rw [set_own,List.find?_cons_of_neg (by show ¬ (typeOf (0,txF m (n+1)) == 2)=true; rw [type_f]; decide)]
  rfl
 rw [this]; rfl
theorem take_f (m n:Nat):takeP 16 (txF m (n+1))=txF m (n+1)∧takenP 16 (txF m (n+1))=true:=by
 have h:takes 16 (0,txF m (n+1))=true:=by unfold takes; rw [type_f]; rfl
 constructor
 ·unfold takeP takeL
  rw [set_own,List.filter_cons_of_pos h]; simp
 ·unfold takenP
  rw [set_own,List.any_cons,h]; rfl
theorem step_f (m n:Nat):stepRc zz (recsF m (n+1)) nmF=0∧aQ zz (recsF m (n+1)) 16 nmF=txF m (n+1)∧aP zz (recsF m (n+1)) 16 nmF = []:=by
 unfold stepRc aQ aP
 rw [cut_f,match_f]
 simp [(take_f m n).1,(take_f m n).2]
theorem lns_len (hm:m≤40) : ∀ n,n≤40→(lnsF m n).length≤52*n
 | 0,_=>by simp [lnsF]
 | n+1,hn=>by
  have ih:=lns_len hm n (by omega)
  have h4:=(line_ok (i:=n) hm (by omega)).2.2.2
  have h5:=Ba.dg2_len n
  rw [lnsF,List.length_append,liF]
  simp only [List.length_append,List.length_cons,List.length_nil]
  omega
theorem soa_f (m n:Nat):setP (ofP (recsF m (n+1)) zz) 6 = [soaC]:=by
 rw [(of_f m n).2]; kernel_rfl
end
end Ba
end Go.Proofs.YtkkpahmoljiepaaGreatDoor
