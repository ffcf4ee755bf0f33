/- Contract: slices.symMergeCmpFunc, at records. -/
import Derived.Test.YtkkpahmoljiepaaGreatDoorJ16
import Derived.Deep.Cut
set_option linter.unusedSimpArgs false
set_option linter.unusedVariables false
set_option maxRecDepth 1000000
set_option maxHeartbeats 12800000
namespace Go.Proofs.YtkkpahmoljiepaaGreatDoor
open Go.RowKit Go.Sort Go.Shelf
open Pu (Str aH aU)
namespace Sh
open Ka Kd Sa Sb Sc Sd Se Sf Sg
theorem cells4 {W:World} {g:Nat} {dk:Array Rec} (h:HoldsK Rec.enc 4 W g 0 dk) {j:Nat} (hj:j<dk.size) :
  W.cell? ⟨g,j*4,none⟩=some (.string (B dk[j]!.owner))∧W.cell? ⟨g,j*4+1,none⟩=some (.int .i64 dk[j]!.ttl)∧W.cell? ⟨g,j*4+2,none⟩=some (.int .i64 dk[j]!.type)∧W.cell? ⟨g,j*4+3,none⟩=some (.string (B dk[j]!.data)):=by
 have e : ∀ c (hc:c<4),W.cell? ⟨g,j*4+c,none⟩=some (Rec.enc dk[j]!)[c]!:=fun c hc=>by
  have:=(h.cell (i:=j) (c:=c) hj hc).1
  rwa [Nat.zero_add] at this
 exact ⟨e 0 (by omega),e 1 (by omega),e 2 (by omega),e 3 (by omega)⟩
def SymOk (g cap:Nat) (d:Array Rec) (w:World) (f:Nat):Prop :=
 ∀ (a m b q:Nat) (dk:Array Rec) (os:Array Obj) (X A' B' Z:List Rec),dk.size=d.size→dk.toList=X++(A'++(B'++Z))→X.length=a→a+A'.length=m→m+B'.length=b→0<A'.length→0<B'.length→Srt ltR A'→Srt ltR B'→b - a≤f →
  Calls Tryz.prog 232 #[.slice (some ⟨g,0,none⟩) d.size cap,.int .i64 a,.int .i64 m,.int .i64 b,.func (.func 103) #[] #[]] (sortWorldK Rec.enc 4 w g 0 q dk os) fun e w' =>
   e=.returned (.tuple #[])∧∃ q' os' d',w'=sortWorldK Rec.enc 4 w g 0 q' d' os'∧d'.toList=X++(mg ltR A' B'++Z)
theorem halves (hw:Wk ltR) {dk:Array Rec} {X A' B' Z:List Rec} {a m b mid s s0 r0 e2:Nat} (hl:dk.toList=X++(A'++(B'++Z))) (ea:X.length=a) (em:a+A'.length=m) (eb:m+B'.length=b) (hA:Srt ltR A') (hB:Srt ltR B')
  (hmid:(a+b)/2=mid) (hs0:s0≤s) (hr0:s≤r0) (he:e2+s=mid+m) (hbr:(mid<m∧s0+b=mid+m∧r0=mid)∨(m≤mid∧s0=a∧r0=m))
  (h1:s=s0∨ltR dk[e2]! dk[s - 1]! = false) (h2:s=r0∨ltR dk[e2 - 1]! dk[s]! = true) :
  ∃ A1 A2 B1 B2,A'=A1++A2∧B'=B1++B2∧a+A1.length=s∧m+B1.length=e2∧mg ltR A' B'=mg ltR A1 B1++mg ltR A2 B2∧a≤s∧s≤m∧m≤e2∧e2≤b:=by
 have q1:a≤s:=by omega
 have q2:s≤m:=by omega
 have q3:m≤e2:=by omega
 have q4:e2≤b:=by omega
 have hatA : ∀ t (h:t<A'.length),dk[a+t]! = A'[t]:=fun t h=>by rw [← ea]; exact at_app hl h
 have hatB : ∀ t (h:t<B'.length),dk[m+t]! = B'[t]:=fun t h=>by
  have:=at_app (d:=dk) (X:=X++A') (B:=B') (Z:=Z) (by rw [hl]; simp) h
  rw [show (X++A').length=m from by simp; omega] at this; exact this
 refine ⟨A'.take (s - a),A'.drop (s - a),B'.take (e2 - m),B'.drop (e2 - m),(List.take_append_drop _ _).symm,(List.take_append_drop _ _).symm,by simp; omega,by simp; omega,?_,q1,q2,q3,q4⟩
 conv=>lhs; rw [← List.take_append_drop (s - a) A',← List.take_append_drop (e2 - m) B']
 refine mg_cut ltR hw (by rw [List.take_append_drop]; exact hA) (by rw [List.take_append_drop]; exact hB) (fun x y hx hy=>?_) (fun x y hx hy=>?_)
 ·obtain ⟨x1,x2,x3⟩:=last_take (by omega) hx
  obtain ⟨y1,y2⟩:=head_drop hy
  rcases h1 with h1 | h1
  ·omega
  ·rw [show s - 1=a+(s - a - 1) from by omega,hatA _ x1,x3,show e2=m+(e2 - m) from by omega,hatB _ y1,y2] at h1; exact h1
 ·obtain ⟨x1,x2⟩:=head_drop hx
  obtain ⟨y1,y2,y3⟩:=last_take (by omega) hy
  rcases h2 with h2 | h2
  ·omega
  ·rw [show e2 - 1=m+(e2 - m - 1) from by omega,hatB _ y1,y3,show s=a+(s - a) from by omega,hatA _ x1,x2] at h2; exact h2
theorem mid_k (g cap a m b q f:Nat) (d dk:Array Rec) (os:Array Obj) (X A' B' Z:List Rec) (w:World) (hH:HoldsK Rec.enc 4 w g 0 d) (hg:g<w.heap.size) (hs:dk.size=d.size) (hd:d.size≤3001)
  (hl:dk.toList=X++(A'++(B'++Z))) (ea:X.length=a) (em:a+A'.length=m) (eb:m+B'.length=b) (hA2:2≤A'.length) (hB2:2≤B'.length) (hw:Wk ltR) (hA:Srt ltR A') (hB:Srt ltR B') (hf:b - a≤f+1) (IH:SymOk g cap d w f) :
  Calls Tryz.prog 232 #[.slice (some ⟨g,0,none⟩) d.size cap,.int .i64 a,.int .i64 m,.int .i64 b,.func (.func 103) #[] #[]] (sortWorldK Rec.enc 4 w g 0 q dk os) fun e w' =>
   e=.returned (.tuple #[])∧∃ q' os' d',w'=sortWorldK Rec.enc 4 w g 0 q' d' os'∧d'.toList=X++(mg ltR A' B'++Z):=by
 have mixed:Tryz.prog.follows Departure.mixedOrders=true:=by kernel_rfl
 have hsz:d.size=X.length+(A'.length+(B'.length+Z.length)):=by rw [← hs,← Array.length_toList,hl]; simp
 obtain ⟨mid,hmid⟩ : ∃ mid,(a+b)/2=mid:=⟨_,rfl⟩
 obtain ⟨nn,hnn⟩ : ∃ nn,mid+m=nn:=⟨_,rfl⟩
 obtain ⟨p,hp⟩ : ∃ p,p+1=nn:=⟨nn - 1,by omega⟩
 obtain ⟨s0,r0,hbr⟩ : ∃ s0 r0,(mid<m∧s0+b=mid+m∧r0=mid)∨(m≤mid∧s0=a∧r0=m):=by
  by_cases h:mid<m
  ·exact ⟨mid+m - b,mid,.inl ⟨h,by omega,rfl⟩⟩
  ·exact ⟨a,m,.inr ⟨by omega,rfl,rfl⟩⟩
 have hsr0:s0≤r0:=by omega
 have hr0m:r0≤m:=by omega
 have has0:a≤s0:=by omega
 have hps:p<s0+b:=by omega
 have hpm:m+r0≤p+1:=by omega
 have hmidI:((a:Int)+b)/2=(mid:Int):=by omega
 have hnnI:(mid:Int)+m=(nn:Int):=by omega
 have hpI:(nn:Int) - 1=(p:Int):=by omega
 have hbd:b≤3001:=by omega
 have hbs:b≤d.size:=by omega
 have ham:a<m:=by omega
 have hmb:m<b:=by omega
 have hmida:a<mid:=by omega
 have hmidb:mid<b:=by omega
 have haI:((m:Int) - a == 1)=false:=by rw [beq_eq_false_iff_ne]; omega
 have hbI:((b:Int) - m == 1)=false:=by rw [beq_eq_false_iff_ne]; omega
 have hnn3:nn≤6002:=by omega
 have hp6:p≤6002:=by omega
 have HH:=aH hH
 have HG:=aH hg
 have HIH:=aH IH
 have HS:Hid (d.size=X.length+(A'.length+(B'.length+Z.length))∧dk.size=d.size∧dk.toList=X++(A'++(B'++Z))∧X.length=a∧a+A'.length=m∧m+B'.length=b∧Wk ltR∧Srt ltR A'∧Srt ltR B'∧(a+b)/2=mid∧mid+m=nn∧p+1=nn∧b - a≤f+1):=⟨hsz,hs,hl,ea,em,eb,hw,hA,hB,hmid,hnn,hp,hf⟩
 have HBR:=aH hbr
 clear hH hg hsz hl ea em eb hA hB hw hmid hnn hp hA2 hB2 IH hf hbr
 obtain ⟨w0,hw0⟩ : ∃ w0,w0=sortWorldK Rec.enc 4 w g 0 q dk os:=⟨_,rfl⟩
 rw [← hw0]
 have HW0:=aH hw0
 clear hw0
 go_enter Tryz.func232,Tryz.ntmps232
 go_upto_if 140 with fail
 go_cut [20,21] from 138 (fun v20 v21 wx=>v20=.int .i64 s0∧v21=.int .i64 r0∧wx=w0)
 case first =>
  rcases aU HBR with ⟨h1,h2,h3⟩ | ⟨h1,h2,h3⟩
  ·have h1I:(mid:Int)<(m:Int):=by omega
   have h2I:(nn:Int) - b=(s0:Int):=by omega
   clear h1 h2
   go_wp2_with fail
   go_meet
   case rel=>exact ⟨by first | rfl | go_num,by rw [h3],rfl⟩
  ·have h1I : ¬ (mid:Int)<(m:Int):=by omega
   clear h1
   go_wp2_with fail
   go_meet
   case rel=>exact ⟨by rw [h2],by rw [h3],rfl⟩
 case rest =>
  obtain ⟨rfl,rfl,rfl⟩:=hcut
  go_wp2_with fail
  go_loopg [20,21] (r0 - s0) (fun g1 vi vj wr=>∃ (i j:Nat),vi=.int .i64 i∧vj=.int .i64 j∧s0≤i∧i≤j∧j≤r0∧j - i≤g1∧Hid (∃ q os,wr=sortWorldK Rec.enc 4 w g 0 q dk os)∧Hid ((i=s0∨ltR dk[p - (i - 1)]! dk[i - 1]! = false)∧(j=r0∨ltR dk[p - j]! dk[j]! = true)))
  case atStart=>exact ⟨s0,r0,rfl,rfl,Nat.le_refl _,hsr0,Nat.le_refl _,Nat.le_refl _,⟨q,os,aU HW0⟩,.inl rfl,.inl rfl⟩
  case round =>
   obtain ⟨i,j,rfl,rfl,hmi,hij,hjb,hgi,HWR,HX⟩:=hrel
   by_cases hlt:i<j
   ·have hltz:(i:Int)<(j:Int):=by omega
    obtain ⟨h,hh⟩ : ∃ h,(i+j)/2=h:=⟨_,rfl⟩
    have hhI:((i:Int)+j)/2=(h:Int):=by omega
    have hih:i≤h:=by omega
    have hhj:h<j:=by omega
    obtain ⟨t,ht⟩ : ∃ t,t+h=p:=⟨p - h,by omega⟩
    have htI:(p:Int) - h=(t:Int):=by omega
    have htd:t<d.size:=by omega
    have wT:IntKind.i64.wrap (t:Int)=(t:Int):=by rw [IntKind.wrap_i64]; omega
    have wT2:IntKind.i64.wrap ((p:Int) - (h:Int))=(t:Int):=by rw [IntKind.wrap_i64]; omega
    have hhp:h≤p:=by omega
    have htz:(t:Int)<(d.size:Int):=by omega
    obtain ⟨q1,os1,hwr⟩:=aU HWR
    have hcls : ∀ n' os',grow (wr.drewN n') os'=sortWorldK Rec.enc 4 w g 0 (q1+n') dk (os1++os'):=fun n' os'=>by rw [hwr]; exact sortWorldK_grown_c Rec.enc 4 w g 0 q1 n' dk os1 os'
    have hHc : ∀ n' os',HoldsK Rec.enc 4 (grow (wr.drewN n') os') g 0 dk:=fun n' os'=>by rw [hcls]; exact holdsK_sortWorldK_c Rec.enc 4 w g 0 d dk _ _ (aU HH) (aU HG) hs
    obtain ⟨x,hx⟩ : ∃ x,dk[h]! = x:=⟨_,rfl⟩
    obtain ⟨y,hy⟩ : ∃ y,dk[t]! = y:=⟨_,rfl⟩
    have hcx : ∀ n' os',_:=fun n' os'=>cells4 (hHc n' os') (j:=h) (by omega)
    have hcy : ∀ n' os',_:=fun n' os'=>cells4 (hHc n' os') (j:=t) (by omega)
    rw [hx] at hcx
    rw [hy] at hcy
    have x0:=fun n' os'=>(hcx n' os').1
    have x1:=fun n' os'=>(hcx n' os').2.1
    have x2:=fun n' os'=>(hcx n' os').2.2.1
    have x3:=fun n' os'=>(hcx n' os').2.2.2
    have y0:=fun n' os'=>(hcy n' os').1
    have y1:=fun n' os'=>(hcy n' os').2.1
    have y2:=fun n' os'=>(hcy n' os').2.2.1
    have y3:=fun n' os'=>(hcy n' os').2.2.2
    have hcg : ∀ W,Calls Tryz.prog 103 #[.agg #[.string (B y.owner),.int .i64 y.ttl,.int .i64 y.type,.string (B y.data)],.agg #[.string (B x.owner),.int .i64 x.ttl,.int .i64 x.type,.string (B x.data)]] W fun e w'=>e=.returned (.int .i64 (cmpR y x))∧∃ q os',w'=grow (W.drewN q) os':=fun W=>sorted1 y x W
    have HCG:=aH hcg
    have CLS:=aH hcls
    have hhz:(h:Int)<(d.size:Int):=by omega
    have HY:Hid (dk[h]! = x∧dk[t]! = y∧(i+j)/2=h∧t+h=p):=⟨hx,hy,hh,ht⟩
    clear hcls hHc hwr hh hy hcg hx hcx hcy ht
    generalize hcv:cmpR y x=cv at HCG
    have HCV:=aH hcv
    clear hcv
    by_cases hlv:cv<0
    ·go_wp2_with fail
     go_quiet_grown (first | (go_at_call 103; refine Calls.grown_of (aU HCG _)))
     go_wp2_with fail
     go_roundg (h - i)
     case measure=>omega
     case rel =>
      refine ⟨i,h,rfl,by first | rfl | go_num,hmi,by omega,by omega,Nat.le_refl _,⟨_,_,aU CLS _ _⟩,(aU HX).1,.inr ?_⟩
      show ltOf cmpR dk[p - h]! dk[h]! = true
      obtain ⟨e1,e2,e3,e4⟩:=aU HY
      rw [show p - h=t from by omega,e1,e2]; unfold ltOf; rw [aU HCV]; exact decide_eq_true hlv
    ·have hlv2:decide (cv<0)=false:=decide_eq_false hlv
     have HLV:Hid (¬ cv<0):=hlv
     clear hlv
     go_wp2_with fail
     go_quiet_grown (first | (go_at_call 103; refine Calls.grown_of (aU HCG _)))
     go_wp2_with fail
     go_roundg (j - (h+1))
     case measure=>omega
     case rel =>
      refine ⟨h+1,j,by first | rfl | go_num,rfl,by omega,by omega,hjb,Nat.le_refl _,⟨_,_,aU CLS _ _⟩,.inr ?_,(aU HX).2⟩
      show ltOf cmpR dk[p - h]! dk[h]! = false
      obtain ⟨e1,e2,e3,e4⟩:=aU HY
      rw [show p - h=t from by omega,e1,e2]; unfold ltOf; rw [aU HCV]; exact decide_eq_false (by have:=aU HLV; omega)
   ·have hltz : ¬ (i:Int)<(j:Int):=by omega
    obtain rfl:i=j:=by omega
    obtain ⟨e2,he2⟩ : ∃ e2,e2+i=nn:=⟨nn - i,by omega⟩
    have heI:(nn:Int) - i=(e2:Int):=by omega
    have HV:=by
     obtain ⟨hsz,hs',hl,ea,em,eb,hw,hA,hB,hmid,hnn,hp,hf⟩:=aU HS
     obtain ⟨h1,h2⟩:=aU HX
     have h1':i=s0∨ltR dk[e2]! dk[i - 1]! = false:=by
      rcases h1 with h | h
      ·exact .inl h
      ·by_cases hi0:i=0
       ·exact .inl (by omega)
       ·right; rw [show e2=p - (i - 1) from by omega]; exact h
     exact aH (halves hw (s:=i) (s0:=s0) (r0:=r0) (e2:=e2) hl ea em eb hA hB hmid hmi hjb (by omega) (aU HBR) h1' (h2.imp id fun h=>by rw [show e2 - 1=p - i from by omega]; exact h))
    obtain ⟨A1,A2,B1,B2,v1,v2,v3,v4,v5,v6,v7,v8,v9⟩:=aU HV
    have hd1:Hid (∃ q os d1,wr=sortWorldK Rec.enc 4 w g 0 q d1 os∧d1.size=d.size∧d1.toList=X++(A1++(A2++(B1++(B2++Z))))):=by
     obtain ⟨hsz,hs',hl,_⟩:=aU HS
     obtain ⟨q1,os1,hwr⟩:=aU HWR
     exact ⟨q1,os1,dk,hwr,hs,by rw [hl,v1,v2]; simp⟩
    have HSA:Hid (Srt ltR A1∧Srt ltR A2∧Srt ltR B1∧Srt ltR B2∧X.length=a∧a+A1.length=i∧i+A2.length=m∧m+B1.length=e2∧e2+B2.length=b∧a+A1.length+B1.length=mid∧b - a≤f+1∧mg ltR A' B'=mg ltR A1 B1++mg ltR A2 B2):=by
     obtain ⟨hsz,hs',hl,ea,em,eb,hw,hA,hB,hmid,hnn,hp,hf⟩:=aU HS
     rw [v1] at hA em
     rw [v2] at hB eb
     rw [List.length_append] at em eb
     exact ⟨(List.pairwise_append.1 hA).1,(List.pairwise_append.1 hA).2.1,(List.pairwise_append.1 hB).1,(List.pairwise_append.1 hB).2.1,ea,v3,by omega,v4,by omega,by omega,hf,v5⟩
    have HE2:Hid (e2+i=nn):=he2
    clear v1 v2 v3 v4 v5 HV HX hmi hij hjb hgi he2 HWR hs hps hpm has0 hsr0 hr0m
    obtain ⟨cb185,hcb185⟩ : ∃ c:Bool,c=decide (i<m∧m<e2):=⟨_,rfl⟩
    have HCB185:=aH hcb185
    clear hcb185
    go_upto_region 39 with fail
    go_cut [185] from 178 (fun v wx=>v=.bool cb185∧wx=wr)
    case first =>
     by_cases c1:i<m
     ·have c1I:(i:Int)<(m:Int):=by omega
      by_cases c2:m<e2
      ·have c2I:(m:Int)<(e2:Int):=by omega
       go_wp2_with fail
       go_meet
       case rel=>exact ⟨congrArg Value.bool ((aU HCB185).trans (decide_eq_true (And.intro c1 c2))).symm,rfl⟩
      ·have c2I : ¬ (m:Int)<(e2:Int):=by omega
       go_wp2_with fail
       go_meet
       case rel=>exact ⟨congrArg Value.bool ((aU HCB185).trans (decide_eq_false (fun h=>c2 h.2))).symm,rfl⟩
     ·have c1I : ¬ (i:Int)<(m:Int):=by omega
      go_wp2_with fail
      go_meet
      case rel=>exact ⟨congrArg Value.bool ((aU HCB185).trans (decide_eq_false (fun h=>c1 h.1))).symm,rfl⟩
    case rest =>
     obtain ⟨rfl,rfl⟩:=hcut
     go_upto_if 185 with fail
     go_cut [24] from 178 (fun v24 wx=>v24=.int .i64 e2∧Hid (∃ q os d1,wx=sortWorldK Rec.enc 4 w g 0 q d1 os∧d1.size=d.size∧d1.toList=X++(A1++(B1++(A2++(B2++Z))))))
     case first =>
      obtain ⟨q1,os1,d1,hwr,hs1,hl1⟩:=aU hd1
      by_cases hc:i<m∧m<e2
      ·obtain rfl:cb185=true:=(aU HCB185).trans (decide_eq_true hc)
       have HROT:=by
        obtain ⟨_,_,_,_,ea,h1,h2,h3,h4,h5,hf,_⟩:=aU HSA
        exact aH (rotate_any g cap i m e2 q1 d d1 os1 (X++A1) A2 B1 (B2++Z) w (aU HH) (aU HG) hs1 hd (by rw [hl1]; simp) (by simp; omega) h2 h3 (by omega) (by omega))
       rw [← hwr] at HROT
       clear hwr hs1 hl1 hc
       go_wp2_with fail
       refine (aU HROT).mono ?_
       rintro e wn ⟨rfl,q2,d2,hw2,hl2⟩
       have HN:Hid (∃ q os d1,wn=sortWorldK Rec.enc 4 w g 0 q d1 os∧d1.size=d.size∧d1.toList=X++(A1++(B1++(A2++(B2++Z))))):=by
        refine ⟨q2,os1,d2,hw2,?_,by rw [hl2]; simp⟩
        obtain ⟨q1,os1,d1,hwr,hs1,hl1⟩:=aU hd1
        rw [← hs1,← Array.length_toList,← Array.length_toList,hl1,hl2]; simp; omega
       clear hw2 hl2
       go_wp2_with fail
       go_meet
       case rel=>exact ⟨rfl,HN⟩
      ·obtain rfl:cb185=false:=(aU HCB185).trans (decide_eq_false hc)
       have HN:Hid (∃ q os d1,wc=sortWorldK Rec.enc 4 w g 0 q d1 os∧d1.size=d.size∧d1.toList=X++(A1++(B1++(A2++(B2++Z))))):=by
        refine ⟨q1,os1,d1,hwr,hs1,?_⟩
        obtain ⟨_,_,_,_,ea,h1,h2,h3,h4,h5,hf,_⟩:=aU HSA
        rw [hl1]
        by_cases hi:i<m
        ·have:B1 = []:=List.length_eq_zero_iff.1 (by omega)
         rw [this]; simp
        ·have:A2 = []:=List.length_eq_zero_iff.1 (by omega)
         rw [this]; simp
       clear hwr hs1 hl1 hc
       go_wp2_with fail
       go_meet
       case rel=>exact ⟨rfl,HN⟩
     case rest =>
      obtain ⟨rfl,hd2⟩:=hcut
      obtain ⟨wa,hwa⟩ : ∃ wa,wc=wa:=⟨_,rfl⟩
      rw [hwa] at hd2 ⊢
      clear hwa hd1
      obtain ⟨cb199,hcb199⟩ : ∃ c:Bool,c=decide (a<i∧i<mid):=⟨_,rfl⟩
      have HCB199:=aH hcb199
      clear hcb199
      go_upto_region 41 with fail
      go_cut [199] from 192 (fun v wx=>v=.bool cb199∧wx=wa)
      case first =>
       by_cases c1:a<i
       ·have c1I:(a:Int)<(i:Int):=by omega
        by_cases c2:i<mid
        ·have c2I:(i:Int)<(mid:Int):=by omega
         go_wp2_with fail
         go_meet
         case rel=>exact ⟨congrArg Value.bool ((aU HCB199).trans (decide_eq_true (And.intro c1 c2))).symm,rfl⟩
        ·have c2I : ¬ (i:Int)<(mid:Int):=by omega
         go_wp2_with fail
         go_meet
         case rel=>exact ⟨congrArg Value.bool ((aU HCB199).trans (decide_eq_false (fun h=>c2 h.2))).symm,rfl⟩
       ·have c1I : ¬ (a:Int)<(i:Int):=by omega
        go_wp2_with fail
        go_meet
        case rel=>exact ⟨congrArg Value.bool ((aU HCB199).trans (decide_eq_false (fun h=>c1 h.1))).symm,rfl⟩
      case rest =>
       obtain ⟨rfl,rfl⟩:=hcut
       go_upto_if 199 with fail
       go_cut [24] from 192 (fun v24 wx=>v24=.int .i64 e2∧Hid (∃ q os d1,wx=sortWorldK Rec.enc 4 w g 0 q d1 os∧d1.size=d.size∧d1.toList=X++(mg ltR A1 B1++(A2++(B2++Z)))))
       case first =>
        obtain ⟨q1,os1,d1,hwr,hs1,hl1⟩:=aU hd2
        by_cases hc:a<i∧i<mid
        ·obtain rfl:cb199=true:=(aU HCB199).trans (decide_eq_true hc)
         have HREC:=by
          obtain ⟨sA1,_,sB1,_,ea,h1,h2,h3,h4,h5,hf,_⟩:=aU HSA
          exact aH (aU HIH a i mid q1 d1 os1 X A1 B1 (A2++(B2++Z)) hs1 hl1 ea h1 (by omega) (by omega) (by omega) sA1 sB1 (by omega))
         rw [← hwr] at HREC
         clear hwr hs1 hl1 hc
         go_wp2_with fail
         refine (aU HREC).mono ?_
         rintro e wn ⟨rfl,q2,os2,d2,hw2,hl2⟩
         have HN:Hid (∃ q os d1,wn=sortWorldK Rec.enc 4 w g 0 q d1 os∧d1.size=d.size∧d1.toList=X++(mg ltR A1 B1++(A2++(B2++Z)))):=by
          refine ⟨q2,os2,d2,hw2,?_,hl2⟩
          obtain ⟨q1,os1,d1,hwr,hs1,hl1⟩:=aU hd2
          rw [← hs1,← Array.length_toList,← Array.length_toList,hl1,hl2]; simp [mg_len]; omega
         clear hw2 hl2
         go_wp2_with fail
         go_meet
         case rel=>exact ⟨rfl,HN⟩
        ·obtain rfl:cb199=false:=(aU HCB199).trans (decide_eq_false hc)
         have HN:Hid (∃ q os d1,wc=sortWorldK Rec.enc 4 w g 0 q d1 os∧d1.size=d.size∧d1.toList=X++(mg ltR A1 B1++(A2++(B2++Z)))):=by
          refine ⟨q1,os1,d1,hwr,hs1,?_⟩
          obtain ⟨_,_,_,_,ea,h1,h2,h3,h4,h5,hf,_⟩:=aU HSA
          rw [hl1]
          by_cases hi:a<i
          ·have:B1 = []:=List.length_eq_zero_iff.1 (by omega)
           rw [this]; simp
          ·have:A1 = []:=List.length_eq_zero_iff.1 (by omega)
           rw [this]; simp
         clear hwr hs1 hl1 hc
         go_wp2_with fail
         go_meet
         case rel=>exact ⟨rfl,HN⟩
       case rest =>
        obtain ⟨rfl,hd3⟩:=hcut
        obtain ⟨wb,hwb⟩ : ∃ wb,wc=wb:=⟨_,rfl⟩
        rw [hwb] at hd3 ⊢
        clear hwb hd2
        obtain ⟨cb213,hcb213⟩ : ∃ c:Bool,c=decide (mid<e2∧e2<b):=⟨_,rfl⟩
        have HCB213:=aH hcb213
        clear hcb213
        go_upto_region 43 with fail
        go_cut [213] from 206 (fun v wx=>v=.bool cb213∧wx=wb)
        case first =>
         by_cases c1:mid<e2
         ·have c1I:(mid:Int)<(e2:Int):=by omega
          by_cases c2:e2<b
          ·have c2I:(e2:Int)<(b:Int):=by omega
           go_wp2_with fail
           go_meet
           case rel=>exact ⟨congrArg Value.bool ((aU HCB213).trans (decide_eq_true (And.intro c1 c2))).symm,rfl⟩
          ·have c2I : ¬ (e2:Int)<(b:Int):=by omega
           go_wp2_with fail
           go_meet
           case rel=>exact ⟨congrArg Value.bool ((aU HCB213).trans (decide_eq_false (fun h=>c2 h.2))).symm,rfl⟩
         ·have c1I : ¬ (mid:Int)<(e2:Int):=by omega
          go_wp2_with fail
          go_meet
          case rel=>exact ⟨congrArg Value.bool ((aU HCB213).trans (decide_eq_false (fun h=>c1 h.1))).symm,rfl⟩
        case rest =>
         obtain ⟨rfl,rfl⟩:=hcut
         obtain ⟨q1,os1,d1,hwr,hs1,hl1⟩:=aU hd3
         by_cases hc:mid<e2∧e2<b
         ·obtain rfl:cb213=true:=(aU HCB213).trans (decide_eq_true hc)
          have HREC:=by
           obtain ⟨_,sA2,_,sB2,ea,h1,h2,h3,h4,h5,hf,_⟩:=aU HSA
           exact aH (aU HIH mid e2 b q1 d1 os1 (X++mg ltR A1 B1) A2 B2 Z hs1 (by rw [hl1]; simp) (by simp [mg_len]; omega) (by omega) h4 (by omega) (by omega) sA2 sB2 (by omega))
          rw [← hwr] at HREC
          clear hwr hs1 hl1 hc
          go_wp2_with fail
          refine (aU HREC).mono ?_
          rintro e wn ⟨rfl,q2,os2,d2,hw2,hl2⟩
          have HN:Hid (∃ q' os' d',wn=sortWorldK Rec.enc 4 w g 0 q' d' os'∧d'.toList=X++(mg ltR A' B'++Z)):=by
           obtain ⟨_,_,_,_,_,_,_,_,_,_,_,hfin⟩:=aU HSA
           exact ⟨q2,os2,d2,hw2,by rw [hl2,hfin]; simp⟩
          clear hw2 hl2
          go_wp2_with fail
          go_end0
          exact ⟨rfl,aU HN⟩
         ·obtain rfl:cb213=false:=(aU HCB213).trans (decide_eq_false hc)
          have HN:Hid (∃ q' os' d',wc=sortWorldK Rec.enc 4 w g 0 q' d' os'∧d'.toList=X++(mg ltR A' B'++Z)):=by
           obtain ⟨_,_,_,_,ea,h1,h2,h3,h4,h5,hf,hfin⟩:=aU HSA
           refine ⟨q1,os1,d1,hwr,?_⟩
           rw [hl1,hfin]
           by_cases hi:mid<e2
           ·have:B2 = []:=List.length_eq_zero_iff.1 (by omega)
            rw [this]; simp
           ·have:A2 = []:=List.length_eq_zero_iff.1 (by omega)
            rw [this]; simp
          clear hwr hs1 hl1 hc
          go_wp2_with fail
          go_end0
          exact ⟨rfl,aU HN⟩
end Sh
end Go.Proofs.YtkkpahmoljiepaaGreatDoor

namespace Go.Proofs.YtkkpahmoljiepaaGreatDoor
open Go.RowKit Go.Sort Go.Shelf
open Pu (Str aH aU)
namespace Sc
section
variable {α:Type} (lt:α→α→Bool)
def csort (s:Nat) (l:List α):List α:=if l.length≤s∨s=0 then iso lt l else iso lt (l.take s)++csort s (l.drop s)
termination_by l.length
decreasing_by simp; omega
theorem csort_small {s:Nat} {l:List α} (h:l.length≤s):csort lt s l=iso lt l:=by rw [csort,if_pos (.inl h)]
theorem csort_nil (s:Nat):csort lt s ([]:List α) = []:=by rw [csort_small lt (by simp)]; rfl
theorem csort_len (s:Nat) : ∀ (f:Nat) (l:List α),l.length≤f→(csort lt s l).length=l.length
 | 0,l,h=>by obtain rfl:l = []:=List.length_eq_zero_iff.1 (by omega); rw [csort_nil]
 | f+1,l,h=>by
  rw [csort]
  split
  ·exact iso_len lt l
  ·rw [List.length_append,iso_len,csort_len s f _ (by simp; omega)]; simp; omega
theorem csort_snoc {s:Nat} (hs:0<s) (c:List α) : ∀ (t:Nat) (l:List α),l.length=s*t→csort lt s (l++c)=csort lt s l++csort lt s c
 | 0,l,h=>by obtain rfl:l = []:=List.length_eq_zero_iff.1 (by omega); rw [csort_nil]; rfl
 | t+1,l,h=>by
  have hl:s≤l.length:=by rw [h,Nat.mul_succ]; omega
  have ih:=csort_snoc hs c t (l.drop s) (by rw [List.length_drop,h,Nat.mul_succ]; omega)
  have e1:csort lt s l=iso lt (l.take s)++csort lt s (l.drop s):=by
   by_cases hls:l.length≤s
   ·rw [csort_small lt hls,List.take_of_length_le hls,List.drop_of_length_le hls,csort_nil,List.append_nil]
   ·conv=>lhs; rw [csort,if_neg (by omega)]
  by_cases hlc:(l++c).length≤s
  ·have hc:c = []:=List.length_eq_zero_iff.1 (by rw [List.length_append] at hlc; omega)
   subst hc
   rw [csort_nil,List.append_nil,List.append_nil]
  ·conv=>lhs; rw [csort,if_neg (by omega)]
   rw [List.take_append_of_le_length hl,List.drop_append_of_le_length hl,ih,e1,List.append_assoc]
theorem csort_two {s:Nat} (hs:0<s) {C1 C2 R:List α} (h1:C1.length=s):csort lt s (C1++(C2++R))=iso lt C1++csort lt s (C2++R):=by
 rw [csort_snoc lt hs _ 1 C1 (by omega),csort_small lt (by omega)]
end
end Sc
namespace Si
open Ka Kd Sa Sb Sc Sd Se Sf Sg Sh
theorem bl_ir : ∀ x,Op.bytesLess x x=false
 | []=>rfl
 | a :: x=>by rw [Op.bytesLess,bl_ir x]; simp [UInt8.lt_irrefl]
theorem bl_tr : ∀ x y z,Op.bytesLess x y=true→Op.bytesLess y z=true→Op.bytesLess x z=true
 | _,_,[],_,h=>by cases ‹List UInt8› <;> simp [Op.bytesLess] at h
 | _,[],_ :: _,h,_=>by cases ‹List UInt8› <;> simp [Op.bytesLess] at h
 | [],_ :: _,_ :: _,_,_=>rfl
 | a :: x,b :: y,c :: z,h,k=>by
  simp only [Op.bytesLess,Bool.or_eq_true,Bool.and_eq_true,decide_eq_true_eq,beq_iff_eq] at h k ⊢
  rcases h with h | ⟨rfl,h⟩
  ·rcases k with k | ⟨rfl,k⟩
   ·exact .inl (UInt8.lt_trans h k)
   ·exact .inl h
  ·rcases k with k | ⟨rfl,k⟩
   ·exact .inl k
   ·exact .inr ⟨rfl,bl_tr _ _ _ h k⟩
theorem bl_eq : ∀ x y,Op.bytesLess x y=false→Op.bytesLess y x=false→x=y
 | [],[],_,_=>rfl
 | [],_ :: _,h,_=>by simp [Op.bytesLess] at h
 | _ :: _,[],_,h=>by simp [Op.bytesLess] at h
 | a :: x,b :: y,h,k=>by
  simp only [Op.bytesLess,Bool.or_eq_false_iff,Bool.and_eq_false_iff,decide_eq_false_iff_not,beq_eq_false_iff_ne] at h k
  have hab:a=b:=by
   have h1:=h.1; have h2:=k.1
   rw [UInt8.not_lt] at h1 h2
   exact UInt8.le_antisymm h2 h1
  subst hab
  have h1:Op.bytesLess x y=false:=h.2.elim (fun e=>absurd rfl e) id
  have h2:Op.bytesLess y x=false:=k.2.elim (fun e=>absurd rfl e) id
  rw [bl_eq x y h1 h2]
theorem ltR_iff (r s:Rec):ltR r s=true ↔ (Op.bytesLess r.owner s.owner=true∨(r.owner=s.owner∧r.type<s.type)):=by
 unfold ltR ltOf cmpR orV cmpS Lib.compareInt
 rw [decide_eq_true_iff]
 cases hb:Op.bytesLess r.owner s.owner
 ·by_cases he:r.owner=s.owner
  ·have he':(r.owner == s.owner)=true:=by simpa using he
   simp only [he',Bool.false_eq_true,if_false,if_true]
   by_cases h1:r.type<s.type
   ·simp [h1,he]
   ·by_cases h2:r.type > s.type
    ·simp [h1,h2]
    ·simp [h1,h2]
  ·have he':(r.owner == s.owner)=false:=by simpa using he
   simp [he',he]
 ·simp
theorem wkR:Wk ltR:=by
 refine ⟨fun x y z h k=>?_,fun x y z h k=>?_⟩
 ·rw [ltR_iff] at *
  rcases h with h | ⟨h1,h2⟩
  ·rcases k with k | ⟨k1,k2⟩
   ·exact .inl (bl_tr _ _ _ h k)
   ·exact .inl (k1 ▸ h)
  ·rcases k with k | ⟨k1,k2⟩
   ·exact .inl (h1 ▸ k)
   ·exact .inr ⟨h1.trans k1,Int.lt_trans h2 k2⟩
 ·have nf : ∀ a b:Rec,ltR a b=false→Op.bytesLess a.owner b.owner=false∧(a.owner=b.owner→¬ a.type<b.type):=fun a b e=>by
   have hn : ¬ ltR a b=true:=by rw [e]; decide
   rw [ltR_iff] at hn
   refine ⟨?_,fun e1 e2=>hn (.inr ⟨e1,e2⟩)⟩
   cases e':Op.bytesLess a.owner b.owner
   ·rfl
   ·exact absurd (.inl e') hn
  obtain ⟨h1,h2⟩:=nf _ _ h
  obtain ⟨k1,k2⟩:=nf _ _ k
  cases e:ltR x z
  ·rfl
  ·exfalso
   rw [ltR_iff] at e
   cases hyx:Op.bytesLess y.owner x.owner
   ·have exy:=bl_eq _ _ h1 hyx
    rcases e with e | ⟨e1,e2⟩
    ·rw [exy,k1] at e; cases e
    ·have:=h2 exy
     have:=k2 (exy ▸ e1)
     omega
   ·rcases e with e | ⟨e1,e2⟩
    ·have:=bl_tr _ _ _ hyx e; rw [k1] at this; cases this
    ·rw [e1] at hyx; rw [k1] at hyx; cases hyx
theorem irR (x:Rec):ltR x x=false:=by
 cases e:ltR x x
 ·rfl
 ·rw [ltR_iff] at e
  rcases e with e | ⟨_,e⟩
  ·rw [bl_ir] at e; cases e
  ·omega
theorem symOk (g cap:Nat) (d:Array Rec) (w:World) (hH:HoldsK Rec.enc 4 w g 0 d) (hg:g<w.heap.size) (hd:d.size≤3001) : ∀ f,SymOk g cap d w f
 | 0=>fun a m b q dk os X A' B' Z hs hl ea em eb hA hB sA sB hf=>by omega
 | f+1=>fun a m b q dk os X A' B' Z hs hl ea em eb hA hB sA sB hf=>by
  have IH:=symOk g cap d w hH hg hd f
  by_cases h1:A'.length=1
  ·obtain ⟨x,rfl⟩:=List.length_eq_one_iff.1 h1
   exact left_k 0 4 g cap a m b q (fun _=>rfl) Tryz.sizeOf47 d dk os X x B' Z w hH hg hs hd (by rw [hl]; simp) ea em eb hB wkR sB
  ·by_cases h2:B'.length=1
   ·obtain ⟨y,rfl⟩:=List.length_eq_one_iff.1 h2
    exact right_k 0 4 g cap a m b q (fun _=>rfl) Tryz.sizeOf47 d dk os X A' y Z w hH hg hs hd (by rw [hl]; simp) ea em eb (by omega) wkR sA
   ·exact mid_k g cap a m b q f d dk os X A' B' Z w hH hg hs hd hl ea em eb (by omega) (by omega) wkR sA sB hf IH
theorem insertion_on (g cap a b q:Nat) (d dk:Array Rec) (os:Array Obj) (w:World) (hH:HoldsK Rec.enc 4 w g 0 d) (hg:g<w.heap.size) (hs:dk.size=d.size) (hd:d.size≤3001) (hab:a≤b) (hb:b≤d.size) :
  Calls Tryz.prog 231 #[.slice (some ⟨g,0,none⟩) d.size cap,.int .i64 a,.int .i64 b,.func (.func 103) #[] #[]] (sortWorldK Rec.enc 4 w g 0 q dk os) fun e w' =>
   e=.returned (.tuple #[])∧∃ q' os',w'=sortWorldK Rec.enc 4 w g 0 q' (Sort.insertionSort ltR dk a b) os':=by
 have hH':=holdsK_sortWorldK_c Rec.enc 4 w g 0 d dk q os hH hg hs
 have h:=AnyQ.insertionSortCmpFunc Tryz.lInsertion 4 Tryz.isAgg47 Tryz.sizeOf47 Rec.enc (fun _=>rfl) one_enc cmpR 103 #[] g 0 cap a b dk (sortWorldK Rec.enc 4 w g 0 q dk os) (enters_of Tryz.func103 (by kernel_rfl) rfl) (cmpLays _ _ _ _) hH' (Nat.lt_of_lt_of_le hg (size_sortWorldK_c Rec.enc 4 w g 0 q dk os)) hab (by omega) (by omega)
 rw [hs] at h
 refine Calls.mono h ?_
 rintro e w' ⟨rfl,q',os',rfl⟩
 exact ⟨rfl,_,_,world_on w g q q' dk (Sort.insertionSort ltR dk a b) os os' hg (size_sort _ _ _ _)⟩
end Si
end Go.Proofs.YtkkpahmoljiepaaGreatDoor
