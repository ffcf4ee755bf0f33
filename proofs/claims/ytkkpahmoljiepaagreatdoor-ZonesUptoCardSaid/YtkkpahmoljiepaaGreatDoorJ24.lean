/- Pure: what a zone answers, step by step; what the records of an answer keep to. Nothing of memory here. -/
import Derived.Test.YtkkpahmoljiepaaGreatDoorJOe
import Derived.Test.YtkkpahmoljiepaaGreatDoorJ22
set_option linter.unusedSimpArgs false
set_option linter.unusedVariables false
set_option maxRecDepth 1000000
set_option maxHeartbeats 12800000
namespace Go.Proofs.YtkkpahmoljiepaaGreatDoor
open Go.RowKit
open Pu (Str aH aU)
def goP (o:Str) (L:List Rec) (t:Int):Nat→Bool→Bool→List Rec→Str→Int×Bool×List Rec×List Rec
 | 0,first,aa,ans,n=>((oneP o L t first aa ans n).1,(oneP o L t first aa ans n).2.1,(oneP o L t first aa ans n).2.2.1,(oneP o L t first aa ans n).2.2.2.1)
 | f+1,first,aa,ans,n=>match oneP o L t first aa ans n with
  | (rc,aa',ans',auth,none)=>(rc,aa',ans',auth)
  | (_,aa',ans',_,some d)=>goP o L t f false aa' ans' d
structure AnsOk (rs:List Rec) (r:Rec):Prop where
 dat : ∃ r0∈rs,r.type=r0.type∧r.data=r0.data
 own:r.owner.length≤60
namespace Oi
open Ka Ed Ek Em En Ep Ia Sc Sf Si Lg Eu Ex Oa Ob Oc Od Of Oe Og La Lb Es Ev Er Eh Za Ie Ec Ee Eb Re Lc Ke Ln
section
variable {o:Str} {rs:List Rec} (hz:ZOk o rs)
include hz
theorem link_data {n:Str} {r:Rec} (hn:NeL n) (h:linkP o (sortL rs) n=some r) : ∃ r0∈rs,r=setOwner n r0∧r0.type=5∧Sp.plain r.data=true:=by
 obtain ⟨_,h2,h3,h4⟩:=Ln.linkP_some h
 rcases src_two rs (zty hz) hn with ⟨_,c2⟩ | ⟨s,_,_,c3⟩
 ·rw [h2] at c2; cases c2
 ·rw [h3] at c3
  cases hf:ofP (sortL rs) s with
  | nil=>rw [hf] at c3; simp at c3
  | cons r0 l =>
   rw [hf] at c3
   have e:r=setOwner n r0:=by simp at c3; exact c3.1
   have hm:r0∈rs:=(of_mem (by rw [hf]; simp)).1
   have h5:r0.type=5:=by
    unfold aliasP at h4
    rw [e] at h4
    have:((setOwner n r0).type == 5)=true:=by simpa using h4
    have h':(r0.type == 5)=true:=this
    simpa using h'
   refine ⟨r0,hm,e,h5,?_⟩
   rw [e]
   exact (one_data hz hm h5).2
omit hz in
theorem own_ok {n m:Str} {t:Int} (hm:m.length≤60) : ∀ r∈(ownT rs n t).map (setOwner m),AnsOk rs r:=by
 intro r hr
 obtain ⟨r0,h0,rfl⟩:=List.mem_map.1 hr
 have hmem:r0∈rs:=by
  unfold ownT at h0
  split at h0
  ·obtain ⟨k,_,hk⟩:=List.mem_flatMap.1 h0
   exact (List.mem_filter.1 hk).1
  ·exact (List.mem_filter.1 h0).1
 exact ⟨⟨r0,hmem,rfl,rfl⟩,hm⟩
theorem deny_ok : ∀ r∈denyP o (sortL rs),AnsOk rs r:=by
 intro r hr
 obtain ⟨a0,a1,a2,a3,_,_,_,h4,_⟩:=deny_two hz
 rw [h4] at hr
 obtain rfl:r=_:=by simpa using hr
 have hm:=List.getElem_mem (zpos hz)
 exact ⟨⟨_,hm,rfl,rfl⟩,(valid_nel (hz.recs _ hm).val).2⟩
theorem rec_ok {r:Rec} (h:r∈rs):AnsOk rs r:=⟨⟨r,h,rfl,rfl⟩,(valid_nel (hz.recs r h).val).2⟩
theorem match_take {n:Str} (hn:NeL n) (t:Int):takeP t (matchP (sortL rs) n).1 = []∨∃ s,takeP t (matchP (sortL rs) n).1=(ownT rs s t).map (setOwner n):=by
 rcases src_two rs (zty hz) hn with ⟨_,c2⟩ | ⟨s,_,_,c3⟩
 ·left
  have:(matchP (sortL rs) n).1 = []:=by
   unfold matchP at c2 ⊢
   split
   ·rename_i h; rw [if_pos h] at c2; cases c2
   ·rename_i h
    rw [if_neg h] at c2
    split
    ·rename_i a ha
     rw [ha] at c2
     simp only [decide_eq_false_iff_not,Nat.not_lt,Nat.le_zero] at c2
     show List.map (setOwner n) (ofP (sortL rs) (42 :: 46 :: a)) = []
     rw [List.eq_nil_of_length_eq_zero c2]; rfl
    ·rfl
  rw [this]; rfl
 ·right
  exact ⟨s,by rw [c3,take_star rs s n t (zty hz)]⟩
theorem cut_ok {n:Str} (hn:NeL n) (hu:Sp.under n o=true) : ∀ r∈cutP o (sortL rs) n,r∈rs:=by
 rcases cut_two (zty hz) hn hu with ⟨_,h⟩ | ⟨i,_,_,h,_⟩
 ·rw [h]; intro r hr; cases hr
 ·rw [h]; intro r hr; exact (List.mem_filter.1 hr).1
theorem cut_len {n:Str} (hn:NeL n) (hu:Sp.under n o=true):(cutP o (sortL rs) n).length≤60:=by
 rcases cut_two (zty hz) hn hu with ⟨_,h⟩ | ⟨i,_,_,h,_⟩
 ·rw [h]; simp
 ·rw [h]; exact own_len hz _ _
theorem deny_len:(denyP o (sortL rs)).length=1:=by
 obtain ⟨a0,a1,a2,a3,_,_,_,h4,_⟩:=deny_two hz
 rw [h4]; rfl
structure StOk (rs ans:List Rec) (q:Int×Bool×List Rec×List Rec×Option Str):Prop where
 ans' : ∀ r∈q.2.2.1,AnsOk rs r
 auth : ∀ r∈q.2.2.2.1,AnsOk rs r
 alen:q.2.2.1.length≤ans.length+60
 ulen:q.2.2.2.1.length≤60
 nxt : ∀ d,q.2.2.2.2=some d→Sp.plain d=true∧q.1=0∧q.2.2.2.1 = []∧q.2.2.1.length=ans.length+1∧ans.length≠8
theorem one_ok {n:Str} (hn:NeL n) (hl:n.length≤60) (t:Int) (first aa:Bool) (ans:List Rec) (ha : ∀ r∈ans,AnsOk rs r):StOk rs ans (oneP o (sortL rs) t first aa ans n):=by
 cases hu:Sp.under n o with
 | false =>
  unfold oneP
  rw [if_pos hu]
  exact ⟨ha,(by intro r hr; cases hr),Nat.le_add_right _ _,Nat.zero_le _,(by intro d hd; cases hd)⟩
 | true =>
  by_cases hc:(cutP o (sortL rs) n).length=0
  ·have hc':=List.eq_nil_of_length_eq_zero hc
   cases hm:(matchP (sortL rs) n).2 with
   | false =>
    rw [one_none hu hc' hm]
    exact ⟨ha,deny_ok hz,Nat.le_add_right _ _,(by show (denyP o (sortL rs)).length≤60; rw [deny_len hz]; omega),(by intro d hd; cases hd)⟩
   | true =>
    by_cases hl5:(t=5∨t=255)∨linkP o (sortL rs) n=none
    ·rw [one_take hu hc' hm hl5]
     have hta : ∀ r∈takeP t (matchP (sortL rs) n).1,AnsOk rs r:=by
      rcases match_take hz hn t with h | ⟨s,h⟩
      ·rw [h]; intro r hr; cases hr
      ·rw [h]; exact own_ok hl
     have htl:(takeP t (matchP (sortL rs) n).1).length≤60:=by
      rcases match_take hz hn t with h | ⟨s,h⟩
      ·rw [h]; simp
      ·rw [h,List.length_map]; exact ownT_len hz s t
     refine ⟨fun r hr=>?_,fun r hr=>?_,?_,?_,(by intro d hd; cases hd)⟩
     ·rcases List.mem_append.1 hr with h | h
      ·exact ha r h
      ·exact hta r h
     ·have hr':r∈(if takenP t (matchP (sortL rs) n).1 then [] else denyP o (sortL rs)):=hr
      split at hr'
      ·cases hr'
      ·exact deny_ok hz r hr'
     ·show (ans++_).length≤_
      rw [List.length_append]; omega
     ·show (if takenP t (matchP (sortL rs) n).1 then [] else denyP o (sortL rs)).length≤60
      split
      ·simp
      ·rw [deny_len hz]; omega
    ·have h5:t≠5:=fun h=>hl5 (.inl (.inl h))
     have h255:t≠255:=fun h=>hl5 (.inl (.inr h))
     cases hlk:linkP o (sortL rs) n with
     | none=>exact absurd (.inr hlk) hl5
     | some r =>
      obtain ⟨r0,hm0,e,_,hp⟩:=link_data hz hn hlk
      by_cases h8:ans.length=8
      ·rw [one_full hu hc' hlk h5 h255 h8]
       exact ⟨(by intro r hr; cases hr),(by intro r hr; cases hr),Nat.zero_le _,Nat.zero_le _,(by intro d hd; cases hd)⟩
      ·rw [one_link hu hc' hlk h5 h255 h8]
       refine ⟨fun x hx=>?_,(by intro r hr; cases hr),?_,Nat.zero_le _,fun d hd=>?_⟩
       ·rcases List.mem_append.1 hx with h | h
        ·exact ha x h
        ·obtain rfl:x=r:=by simpa using h
         rw [e]
         exact ⟨⟨r0,hm0,rfl,rfl⟩,hl⟩
       ·show (ans++[r]).length≤_
        rw [List.length_append]; simp
       ·obtain rfl:r.data=d:=Option.some.inj hd
        exact ⟨hp,rfl,rfl,by simp,h8⟩
  ·rw [one_cut hu hc]
   exact ⟨ha,fun r hr=>rec_ok hz (cut_ok hz hn hu r hr),Nat.le_add_right _ _,cut_len hz hn hu,(by intro d hd; cases hd)⟩
theorem go_ok (t:Int) : ∀ (f:Nat) (first aa:Bool) (ans:List Rec) (n:Str),NeL n→n.length≤60→(∀ r∈ans,AnsOk rs r)→ans.length≤8 →
  (∀ r∈(goP o (sortL rs) t f first aa ans n).2.2.1,AnsOk rs r)∧(∀ r∈(goP o (sortL rs) t f first aa ans n).2.2.2,AnsOk rs r)∧(goP o (sortL rs) t f first aa ans n).2.2.1.length≤68∧(goP o (sortL rs) t f first aa ans n).2.2.2.length≤60
 | 0,first,aa,ans,n,hn,hl,ha,h8=>by
  have h:=one_ok hz hn hl t first aa ans ha
  exact ⟨h.ans',h.auth,by have:=h.alen; show (oneP o (sortL rs) t first aa ans n).2.2.1.length≤68; omega,h.ulen⟩
 | f+1,first,aa,ans,n,hn,hl,ha,h8=>by
  have h:=one_ok hz hn hl t first aa ans ha
  unfold goP
  generalize oneP o (sortL rs) t first aa ans n=q at h
  obtain ⟨rc,aa',ans',auth,nx⟩:=q
  cases nx with
  | none=>exact ⟨h.ans',h.auth,by have:=h.alen; simp only at this; show ans'.length≤68; omega,h.ulen⟩
  | some d =>
   obtain ⟨hp,_,_,hl',hn8⟩:=h.nxt d rfl
   simp only at hl'
   exact go_ok t f false aa' ans' d (plain_nel hp).1 (plain_nel hp).2 h.ans' (by omega)
theorem ans_named {r:Rec} (h:AnsOk rs r) (hn:nmd r=true) : ∃ ws x,Sp.spl 32 r.data=ws++[x]∧lastW r.data=x∧Sp.plain x=true∧r.data.length≤3000:=by
 obtain ⟨⟨r0,hm,ht,hd⟩,_⟩:=h
 have h0:=hz.recs r0 hm
 have hty:r0.type=2∨r0.type=15:=by
  unfold nmd at hn
  rw [ht] at hn
  simpa using hn
 obtain ⟨ws,x,h1,h2,h3⟩:=last_name h0 hty
 rw [hd]
 exact ⟨ws,x,h1,h2,h3,h0.len⟩
end
end Oi
def resP (o:Str) (L:List Rec) (t:Int) (n:Str):Option (Int×List Rec×List Rec) :=
 if t=5∨t=255 then some (stepRc o L n,aQ o L t n,aP o L t n) else (chase o L 8 n).map (fun x=>(finRc o L x.2,x.1++finAns o L t x.2,finAuth o L t x.2))
namespace Lu
open Ka Ed Ek Em En Ep Ia Sc Sf Si Lg Eu Ex Oa Ob Oc Od Of Oe Og Oi La Lb Es Ev Er Eh Za Ie Ec Ee Eb Re Lc Ke Ln Lq
variable {o:Str} {L:List Rec} {t:Int}
theorem one_out {first aa:Bool} {ans:List Rec} {n:Str} (hu:Sp.under n o=false):oneP o L t first aa ans n=((if first then 5 else 0),aa,ans,[],none):=by unfold oneP; rw [if_pos hu]
theorem one_last {first aa:Bool} {ans:List Rec} {n:Str} (hu:Sp.under n o=true) (hl:(t=5∨t=255)∨linkP o L n=none):oneP o L t first aa ans n=(stepRc o L n,(if (cutP o L n).length=0 then true else aa || !first),ans++aQ o L t n,aP o L t n,none):=by
 by_cases hc:(cutP o L n).length=0
 ·have hl':(if t=5∨t=255 then none else linkP o L n)=none:=by
   rcases hl with h | h
   ·rw [if_pos h]
   ·rw [h,ite_self]
  unfold oneP
  rw [if_neg (by simp [hu]),if_neg (by simp [hc]),hl',if_pos hc]
 ·rw [one_cut hu hc,if_neg hc]
  unfold stepRc aQ aP
  rw [if_neg hc,if_neg hc,if_neg hc,List.append_nil]
theorem go_one {first aa:Bool} {ans:List Rec} {n:Str} {rc:Int} {aa':Bool} {ans' auth:List Rec} (f:Nat) (h:oneP o L t first aa ans n=(rc,aa',ans',auth,none)):goP o L t f first aa ans n=(rc,aa',ans',auth):=by
 cases f with
 | zero=>unfold goP; rw [h]
 | succ f=>unfold goP; rw [h]
theorem go_more {first aa:Bool} {ans:List Rec} {n d:Str} {rc:Int} {aa':Bool} {ans' auth:List Rec} (f:Nat) (h:oneP o L t first aa ans n=(rc,aa',ans',auth,some d)):goP o L t (f+1) first aa ans n=goP o L t f false aa' ans' d:=by
 conv=>lhs; unfold goP
 rw [h]
theorem link_cut {n:Str} {r:Rec} (h:linkP o L n=some r):cutP o L n = []:=List.eq_nil_of_length_eq_zero (Ln.linkP_some h).1
theorem go_chase (h5:t≠5) (h255:t≠255) : ∀ (m:Nat) (ans:List Rec) (n:Str),ans.length+m=8→Sp.under n o=true →
  goP o L t (m+1) false true ans n=match chase o L m n with
   | none=>(2,true,[],[])
   | some x=>(finRc o L x.2,true,ans++(x.1++finAns o L t x.2),finAuth o L t x.2):=by
 intro m
 induction m with
 | zero =>
  intro ans n hl hu
  cases hk:linkP o L n with
  | none =>
   rw [go_one 1 (one_last hu (.inr hk))]
   unfold chase
   rw [hk]
   simp [finRc,finAns,finAuth]
  | some r =>
   rw [go_one 1 (one_full hu (link_cut hk) hk h5 h255 (by omega))]
   unfold chase
   rw [hk]
 | succ m ih =>
  intro ans n hl hu
  cases hk:linkP o L n with
  | none =>
   rw [go_one (m+2) (one_last hu (.inr hk))]
   unfold chase
   rw [hk]
   simp [finRc,finAns,finAuth]
  | some r =>
   rw [go_more (m+1) (one_link hu (link_cut hk) hk h5 h255 (by omega))]
   have hch:chase o L (m+1) n=if Sp.under r.data o=true then (chase o L m r.data).map (fun x=>(r :: x.1,x.2)) else some ([r],none):=by
    conv=>lhs; unfold chase
    rw [hk]
   rw [hch]
   cases hr:Sp.under r.data o with
   | false =>
    rw [go_one (m+1) (one_out hr)]
    simp [finRc,finAns,finAuth]
   | true =>
    rw [ih (ans++[r]) r.data (by simp; omega) hr]
    simp only [if_true]
    cases chase o L m r.data with
    | none=>rfl
    | some x=>simp
theorem ask_res {n:Str} (hu:Sp.under n o=true):goP o L t 9 true false [] n=match resP o L t n with
  | none=>(2,true,[],[])
  | some x=>(x.1,decide ((cutP o L n).length=0),x.2.1,x.2.2):=by
 have hdec:(if (cutP o L n).length=0 then true else (false || !true))=decide ((cutP o L n).length=0):=by
  by_cases h:(cutP o L n).length=0 <;> simp [h]
 unfold resP
 by_cases ht:t=5∨t=255
 ·rw [go_one 9 (one_last hu (.inl ht)),if_pos ht,hdec]
  rfl
 ·rw [if_neg ht]
  have h5:t≠5:=fun h=>ht (.inl h)
  have h255:t≠255:=fun h=>ht (.inr h)
  cases hk:linkP o L n with
  | none =>
   rw [go_one 9 (one_last hu (.inr hk)),hdec]
   have:chase o L 8 n=some ([],some n):=by unfold chase; rw [hk]
   rw [this]
   simp [finRc,finAns,finAuth]
  | some r =>
   have hc:=link_cut hk
   rw [go_more 8 (one_link hu hc hk h5 h255 (by simp)),hc]
   have hch:chase o L 8 n=if Sp.under r.data o=true then (chase o L 7 r.data).map (fun x=>(r :: x.1,x.2)) else some ([r],none):=by
    conv=>lhs; unfold chase
    rw [hk]
   rw [hch]
   cases hr:Sp.under r.data o with
   | false =>
    rw [go_one 8 (one_out hr)]
    simp [finRc,finAns,finAuth]
   | true =>
    rw [go_chase h5 h255 7 ([]++[r]) r.data (by simp) hr]
    simp only [if_true]
    cases chase o L 7 r.data with
    | none=>rfl
    | some x=>simp
section
variable {rs:List Rec} (hz:ZOk o rs)
include hz
def AllA (rs ans:List Rec):Prop:=∀ x,ans.any (fun a=>a.owner == x && a.type == 1)=true→∀ s∈own rs x 1,s∈ans
omit hz in
theorem own_none {n:Str} (h:there (sortL rs) n=false) (k:Int):own rs n k = []:=by
 unfold own
 rw [List.filter_eq_nil_iff]
 intro r hr hc
 simp only [Bool.and_eq_true,beq_iff_eq] at hc
 rw [there_two] at h
 have:thereR rs (Sp.spl 46 n)=true:=by
  unfold thereR
  refine List.any_eq_true.2 ⟨r,hr,?_⟩
  rw [und_text,hc.1]
  exact under_self n
 rw [h] at this; cases this
theorem match_own {n:Str} (hn:NeL n) (t:Int):takeP t (matchP (sortL rs) n).1 = []∨takeP t (matchP (sortL rs) n).1=ownT rs n t∨(own rs n 1 = []∧∀ r∈takeP t (matchP (sortL rs) n).1,r.owner=n):=by
 by_cases ht:there (sortL rs) n=true
 ·have:(matchP (sortL rs) n).1=ofP (sortL rs) n:=by unfold matchP; rw [if_pos ht]
  rw [this,take_own rs n t (zty hz)]
  exact .inr (.inl rfl)
 ·have ht':there (sortL rs) n=false:=by simpa using ht
  rcases match_take hz hn t with h | ⟨s,h⟩
  ·exact .inl h
  ·refine .inr (.inr ⟨own_none ht' 1,?_⟩)
   rw [h]
   intro r hr
   obtain ⟨r0,_,rfl⟩:=List.mem_map.1 hr
   rfl
omit hz in
theorem ownT_one {n:Str} {t:Int} {r:Rec} (hr:r∈ownT rs n t) (h1:r.type=1) : ∀ s∈own rs n 1,s∈ownT rs n t:=by
 intro s hs
 unfold ownT at hr ⊢
 split at hr
 ·rename_i h
  rw [if_pos h]
  exact List.mem_flatMap.2 ⟨1,by simp,hs⟩
 ·rename_i h
  rw [if_neg h]
  have:=(List.mem_filter.1 hr).2
  simp only [Bool.and_eq_true,beq_iff_eq] at this
  have ht:t=1:=by rw [← this.2,h1]
  rw [ht]; exact hs
omit hz in
theorem ownT_owner {n:Str} {t:Int} {r:Rec} (hr:r∈ownT rs n t):r.owner=n:=by
 unfold ownT at hr
 split at hr
 ·obtain ⟨k,_,hk⟩:=List.mem_flatMap.1 hr
  have:=(List.mem_filter.1 hk).2
  simp only [Bool.and_eq_true,beq_iff_eq] at this
  exact this.1
 ·have:=(List.mem_filter.1 hr).2
  simp only [Bool.and_eq_true,beq_iff_eq] at this
  exact this.1
theorem all_take {ls:List Rec} {n:Str} (hn:NeL n) (t:Int) (hls : ∀ r∈ls,r.type=5):AllA rs (ls++takeP t (matchP (sortL rs) n).1):=by
 intro x hx s hs
 obtain ⟨a,ha,hc⟩:=List.any_eq_true.1 hx
 simp only [Bool.and_eq_true,beq_iff_eq] at hc
 rcases List.mem_append.1 ha with h | h
 ·have:=hls a h
  rw [this] at hc
  exact absurd hc.2 (by decide)
 ·refine List.mem_append_right _ ?_
  rcases match_own hz hn t with e | e | ⟨e1,e2⟩
  ·rw [e] at h; cases h
  ·rw [e] at h ⊢
   have:=ownT_owner h
   rw [hc.1] at this
   subst this
   exact ownT_one h hc.2 s hs
  ·have:=e2 a h
   rw [hc.1] at this
   subst this
   rw [e1] at hs; cases hs
omit hz in
theorem all_links {ls:List Rec} (hls : ∀ r∈ls,r.type=5):AllA rs ls:=by
 intro x hx s hs
 obtain ⟨a,ha,hc⟩:=List.any_eq_true.1 hx
 simp only [Bool.and_eq_true,beq_iff_eq] at hc
 have:=hls a ha
 rw [this] at hc
 exact absurd hc.2 (by decide)
theorem all_step {ls:List Rec} {n:Str} (hn:NeL n) (t:Int) (hls : ∀ r∈ls,r.type=5):AllA rs (ls++aQ o (sortL rs) t n):=by
 unfold aQ
 split
 ·split
  ·exact all_take hz hn t hls
  ·rw [List.append_nil]; exact all_links hls
 ·rw [List.append_nil]; exact all_links hls
theorem chase_ok : ∀ (m:Nat) (n:Str) (x:List Rec×Option Str),NeL n→chase o (sortL rs) m n=some x→(∀ r∈x.1,r.type=5)∧∀ f,x.2=some f→NeL f:=by
 intro m
 induction m with
 | zero =>
  intro n x hn h
  unfold chase at h
  cases hk:linkP o (sortL rs) n with
  | none=>rw [hk] at h; obtain rfl:=Option.some.inj h; exact ⟨fun r hr=>(by cases hr),fun f hf=>by obtain rfl:=Option.some.inj hf; exact hn⟩
  | some r=>rw [hk] at h; cases h
 | succ m ih =>
  intro n x hn h
  unfold chase at h
  cases hk:linkP o (sortL rs) n with
  | none=>rw [hk] at h; obtain rfl:=Option.some.inj h; exact ⟨fun r hr=>(by cases hr),fun f hf=>by obtain rfl:=Option.some.inj hf; exact hn⟩
  | some r =>
   rw [hk] at h
   obtain ⟨r0,_,e,h5,hp⟩:=link_data hz hn hk
   have ht5:r.type=5:=by rw [e]; exact h5
   simp only at h
   split at h
   ·cases hc:chase o (sortL rs) m r.data with
    | none=>rw [hc] at h; cases h
    | some y =>
     rw [hc] at h
     obtain rfl:=Option.some.inj h
     obtain ⟨k1,k2⟩:=ih r.data y (plain_nel hp).1 hc
     exact ⟨fun a ha=>by rcases List.mem_cons.1 ha with rfl | ha; exact ht5; exact k1 a ha,k2⟩
   ·obtain rfl:=Option.some.inj h
    exact ⟨fun a ha=>by rw [show a=r by simpa using ha]; exact ht5,fun f hf=>by cases hf⟩
theorem res_all {n:Str} (hn:NeL n) (t:Int) (x:Int×List Rec×List Rec) (h:resP o (sortL rs) t n=some x):AllA rs x.2.1:=by
 unfold resP at h
 split at h
 ·obtain rfl:=Option.some.inj h
  have:=all_step hz (ls:=[]) hn t (fun r hr=>by cases hr)
  rw [List.nil_append] at this
  exact this
 ·cases hc:chase o (sortL rs) 8 n with
  | none=>rw [hc] at h; cases h
  | some y =>
   rw [hc] at h
   obtain rfl:=Option.some.inj h
   obtain ⟨k1,k2⟩:=chase_ok hz 8 n y hn hc
   obtain ⟨ls,fin⟩:=y
   cases fin with
   | none =>
    show AllA rs (ls++[])
    rw [List.append_nil]; exact all_links k1
   | some f=>exact all_step hz (k2 f rfl) t k1
omit hz in
theorem add_eq {ans:List Rec} (ha:AllA rs ans) (l:List Rec):pGo (sortL rs) ans l=mGo rs ans l:=by
 have hstep : ∀ s r,pStep (sortL rs) ans s r=mStep rs ans s r:=by
  intro s r
  unfold pStep mStep
  cases hn:nmd r with
  | false=>simp
  | true =>
   cases hc:s.1.contains (lastW r.data) with
   | true=>simp
   | false =>
    simp only [Bool.not_false,Bool.and_true,if_true]
    rw [set_own]
    congr 1
    generalize lastW r.data=x
    by_cases hx:ans.any (fun a=>a.owner == x && a.type == 1)=true
    ·rw [if_pos hx]
     have:(own rs x 1).filter (fun a=>!ans.any (a == ·)) = []:=by
      rw [List.filter_eq_nil_iff]
      intro s hs hc
      have hm:=ha x hx s hs
      have:ans.any (s == ·)=true:=List.any_eq_true.2 ⟨s,hm,by simp⟩
      rw [this] at hc; cases hc
     rw [this,List.append_nil]
    ·rw [if_neg hx]
     have:(own rs x 1).filter (fun a=>!ans.any (a == ·))=own rs x 1:=by
      rw [List.filter_eq_self]
      intro s hs
      rw [Bool.not_eq_true',← Bool.not_eq_true]
      intro hc
      obtain ⟨b,hb,e⟩:=List.any_eq_true.1 hc
      have e':s=b:=by simpa using e
      have:=(List.mem_filter.1 hs).2
      exact hx (List.any_eq_true.2 ⟨b,hb,by rw [← e']; exact this⟩)
     rw [this]
 unfold pGo mGo
 congr 1
 funext s r
 exact hstep s r
end
end Lu
end Go.Proofs.YtkkpahmoljiepaaGreatDoor
