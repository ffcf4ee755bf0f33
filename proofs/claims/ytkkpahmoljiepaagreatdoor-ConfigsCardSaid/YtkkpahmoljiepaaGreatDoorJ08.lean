/- Contracts: zone.isRightCut. -/
import Derived.Test.YtkkpahmoljiepaaGreatDoorJ06
set_option linter.unusedSimpArgs false
set_option linter.unusedVariables false
set_option maxRecDepth 1000000
set_option maxHeartbeats 12800000
namespace Go.Proofs.YtkkpahmoljiepaaGreatDoor
open Go.RowKit
open Pu (Str aH aU)
attribute [local go_sem] Oper.semAt_some
def notP (k:Int) (r:Rec):Bool:=r.type != k
def cutOk (n:Str) (x:Nat×List Rec):Bool:=!Sp.starred (aI x) && !x.2.any (notP (if aI x == n then 2 else 1))
def rightCut (rs:List Rec) (n:Str):Bool:=(underRuns n rs).all (cutOk n)
namespace Ze
open Ka Kd Rf Rg Ia Iow Ie Zb Zc Za
theorem all_step {p:Nat×List Rec→Bool} {l:List (Nat×List Rec)} {i:Nat} {x:Nat×List Rec} (h:l[i]? = some x):(l.drop i).all p=(p x && (l.drop (i+1)).all p):=by
 obtain ⟨hi,rfl⟩:=List.getElem?_eq_some_iff.1 h
 rw [List.drop_eq_getElem_cons hi,List.all_cons]
theorem other_any (r:Rec) (k:Int) (bk:Nat) (W:World) (hc:W.cell? ⟨bk,0,none⟩=some (.int .i64 k)) (hb:bk<W.heap.size) :
  Calls Tryz.prog 183 #[.agg #[.string (B r.owner),.int .i64 r.ttl,.int .i64 r.type,.string (B r.data)],.pointer (some ⟨bk,0,none⟩)] W fun e w'=>e=.returned (.bool (notP k r))∧Below W.heap.size W w':=by
 go_enter Tryz.func183,Tryz.ntmps183
 go_wp2
 go_ret
 exact ⟨rfl,(Below.refl _ _).alloc (Nat.le_refl _) _⟩
theorem otherPred (k:Int) (bk:Nat) (w:World) (hc:w.cell? ⟨bk,0,none⟩=some (.int .i64 k)) (hb:bk<w.heap.size) :
  PredBelow Tryz.prog 183 #[.pointer (some ⟨bk,0,none⟩)] (fun x=>.agg (Rec.enc x).toArray) (notP k) w:=by
 intro W r hB
 refine (other_any r k bk W ((hB.cell (p:=⟨bk,0,none⟩) hb).trans hc) (Nat.lt_of_lt_of_le hb hB.size)).mono ?_
 rintro e w' ⟨rfl,hb'⟩
 exact ⟨rfl,hB.trans (hb'.mono hB.size)⟩
theorem containsOther (k:Int) (bk b off cap:Nat) (rs:List Rec) (w:World) (hc:w.cell? ⟨bk,0,none⟩=some (.int .i64 k)) (hb:bk<w.heap.size) (hr:bE w b off rs) (hl:rs.length≤3001) :
  Calls Tryz.prog 171 #[.slice (some ⟨b,off,none⟩) rs.length cap,.func (.func 183) #[] #[.pointer (some ⟨bk,0,none⟩)]] w fun e w' =>
   e=.returned (.bool (rs.any (notP k)))∧Below w.heap.size w w':=by
 have:=AnyQ.slices_ContainsFunc Tryz.lContainsFunc 4 Tryz.isAgg47 Tryz.sizeOf47 Rec.enc (fun _=>rfl) (notP k) 183 #[.pointer (some ⟨bk,0,none⟩)] (enters_of Tryz.func183 (by kernel_rfl) rfl) b off rs.length cap rs w (otherPred k bk w hc hb) (Nat.le_refl _) (by omega) hr.1 hr.2
 rw [List.take_length] at this
 exact this
theorem cut_step {n:Str} {rs:List Rec} {i:Nat} {x:Nat×List Rec} (kk:Int) (h:Hid (rightCut rs n=(cutOk n x && ((underRuns n rs).drop (i+1)).all (cutOk n)))) (hs:Sp.starred (aI x)=false) (ho:(if aI x == n then (2:Int) else 1)=kk) :
  (x.2.any (notP kk)=false→((underRuns n rs).drop (i+1)).all (cutOk n)=rightCut rs n)∧(x.2.any (notP kk)=true→rightCut rs n=false):=by
 have h':=aU h
 have hc:cutOk n x = !x.2.any (notP kk):=by
  unfold cutOk
  rw [hs,ho]; rfl
 rw [hc] at h'
 refine ⟨fun e=>?_,fun e=>?_⟩
 ·rw [h',e]; rfl
 ·rw [h',e]; rfl
theorem isRightCut_any (b off cap:Nat) (n:Str) (rs:List Rec) (w:World) (hr:bE w b off rs) (hcap:rs.length≤cap) (hlen:rs.length≤3001) (hn:n.length≤3000) (ho : ∀ r∈rs,r.owner.length≤3000) :
  Calls Tryz.prog 111 #[.string (B n),.slice (some ⟨b,off,none⟩) rs.length cap] w fun e w'=>e=.returned (.bool (rightCut rs n))∧Below w.heap.size w w':=by
 refine (callsIn_wide (n:=0)).1 ?_
 refine callsIn_of_wp_marks Tryz.func111 rfl trivial ?_
 simp only [Tryz.ntmps111,List.size_toArray,List.length_cons,List.length_nil,Nat.reduceAdd,Nat.reduceSub,Array.replicate_succ,Array.replicate_zero,List.push_toArray,List.append_toArray,List.nil_append,List.cons_append]
 have HR:=aH hr
 have HO:=aH ho
 have hb:=hr.1
 clear hr ho
 gi_wp2_with fail
 refine ⟨trivial,rfl,?_⟩
 refine (callsIn_wide.2 (under_o _ _ _ _ _)).mono ?_
 rintro e W2 ⟨rfl,e4,hb2,e2,e3⟩
 have e0:It.Box W2 w.heap.size (.string (B n)) 9:=((It.Box.new _ _ _).alloc _).below hb2 (by simp <;> omega)
 have e1:It.Box W2 (w.heap.size+1) (.bool false) 4:=by
  have:=(It.Box.new (w.alloc (.cells #[.string (B n)] 9)) (.bool false) 4).below hb2 (by simp <;> omega)
  rwa [World.size_alloc] at this
 have e5:Below w.heap.size w W2:=(((Below.refl _ _).alloc (Nat.le_refl _) _).alloc (by simp) _).trans (hb2.mono (by simp <;> omega))
 simp only [World.size_alloc] at e4 e2 e3
 gi_wp2_with fail
 have hr2:=aH ((aU HR).below e5)
 have hgrow : ∀ r,Below W2.heap.size W2 ((W2.alloc (.deferred (some []))).alloc (.loop r)):=fun r=>((Below.refl _ _).alloc (Nat.le_refl _) _).alloc (by simp) _
 have hgsz : ∀ r,((W2.alloc (.deferred (some []))).alloc (.loop r)).heap.size=W2.heap.size+2:=fun r=>by simp
 refine It.rangeB (xs:=underRuns n rs) (encs:=fun x:Nat×List Rec=>#[.string (B (aI x)),.slice (some ⟨b,off+x.1*4,none⟩) x.2.length x.2.length]) (St:=fun A B=>Below (W2.heap.size+2) A B) (Kp:=fun A B=>(B.heap[b]? = A.heap[b]?∧B.heap[w.heap.size+1+1+1]? = A.heap[w.heap.size+1+1+1]?)∧It.Above (W2.heap.size+2) A B) (Kx:=fun A B=>It.Above (W2.heap.size+2) A B)
  (gf:=235) (lb:=#[.pointer (some ⟨w.heap.size+1+1,0,none⟩),.pointer (some ⟨w.heap.size+1+1+1,0,none⟩)]) rfl (enters_of Tryz.func235 (by kernel_rfl) rfl) (fun _=>rfl) ?seq
  [b,w.heap.size+1+1+1] (by simp; omega) (fun _ _ _ h=>h) (fun A B h h'=>⟨⟨h _ (by simp),h _ (by simp)⟩,h'⟩) (fun _ _ h=>h)
  (fun i W=>((underRuns n rs).drop i).all (cutOk n)=rightCut rs n∧Below w.heap.size w W∧It.Box W w.heap.size (.string (B n)) 9∧It.Box W (w.heap.size+1) (.bool false) 4)
  (fun c W=>c=.ret∧rightCut rs n=false∧Below w.heap.size w W∧It.Box W (w.heap.size+1) (.bool false) 4)
  (fun i A B h hb=>⟨h.1,h.2.1.trans (hb.mono (by omega)),h.2.2.1.below hb (by omega),h.2.2.2.below hb (by omega)⟩)
  (fun c A B h hb=>⟨h.1,h.2.1,h.2.2.1.trans (hb.mono (by omega)),h.2.2.2.below hb (by omega)⟩)
  ⟨rfl,e5,e0,e1⟩
  ?round ?done ?stop
 case seq =>
  intro r
  have hg:=hgrow r
  have:=under_seq b off cap (w.heap.size+1+1) (w.heap.size+1+1+1) n rs ((W2.alloc (.deferred (some []))).alloc (.loop r)) ((aU hr2).below hg) hcap ((hg.cell (p:=⟨w.heap.size+1+1,0,none⟩) (by show w.heap.size+1+1<W2.heap.size; omega)).trans e2) ((hg.cell (p:=⟨w.heap.size+1+1+1,0,none⟩) (by show w.heap.size+1+1+1<W2.heap.size; omega)).trans e3) (by have:=hg.size; omega) (by have:=hg.size; omega) hlen hn (aU HO)
  rw [hgsz r] at this
  exact this
 case round =>
  intro l' i x V W hx hI hsz
  gi_wp2_with fail
  refine ⟨trivial,?_⟩
  obtain ⟨hf,hB,hn',hc⟩:=hI
  have cn:=hn'.cell
  have hmem:x∈runs aG rs:=(List.mem_filter.1 (List.mem_of_getElem? hx)).1
  have hP:=bE.piece ((aU HR).below hB) hmem
  have hrl:=runs_len hmem
  have hst:=all_step (p:=cutOk n) hx
  rw [hf] at hst
  have HS:=aH hst
  have HNB:=aH hn'
  have HCB:=aH hc
  have HP:=aH hP
  have hBB:((B (aI x)).toList == (B n).toList)=(aI x == n):=B_inj
  have hnlt:=hn'.lt
  have hclt:=hc.lt
  clear hf hst hn' hc hmem hP
  have hcs:=fun W'=>starred_any (B (aI x)) W'
  have HCS:Hid (∀ W',Calls Tryz.prog 124 #[.string (B (aI x))] W' fun e w'=>e=.returned (.bool (Sp.starred (aI x)))∧w'=W'):=hcs
  clear hcs
  -- what follows a tested owner,at a world that only has more
  have HFIN : ∀ (kk:Int) (W3 W4:World),Below W.heap.size W W3→Below W3.heap.size W3 W4→Sp.starred (aI x)=false→(if aI x == n then (2:Int) else 1)=kk →
    Hid ((x.2.any (notP kk)=false→It.Above W2.heap.size W W4∧(∀ k∈[b,w.heap.size+1+1+1],W4.heap[k]? = W.heap[k]?)∧(((underRuns n rs).drop (i+1)).all (cutOk n)=rightCut rs n∧Below w.heap.size w W4∧It.Box W4 w.heap.size (.string (B n)) 9∧It.Box W4 (w.heap.size+1) (.bool false) 4)) ∧
     (x.2.any (notP kk)=true→It.Above W2.heap.size W (W4.setCell ⟨w.heap.size+1,0,none⟩ (.bool false))∧rightCut rs n=false∧Below w.heap.size w (W4.setCell ⟨w.heap.size+1,0,none⟩ (.bool false))∧It.Box (W4.setCell ⟨w.heap.size+1,0,none⟩ (.bool false)) (w.heap.size+1) (.bool false) 4)):=by
   intro kk W3 W4 h3 h4 hsd ho
   have hs:=cut_step kk HS hsd ho
   have h34:=h3.trans (h4.mono h3.size)
   have s34:=h34.size
   refine ⟨fun e=>⟨It.Above.of_grown h34,fun k hk=>h34.block k (by simp at hk; omega),hs.1 e,hB.trans (h34.mono hB.size),(aU HNB).below h34 hnlt,(aU HCB).below h34 hclt⟩,fun e=>⟨(It.Above.of_grown h34).trans (It.Above.setCell W4 _ _ (by omega)),hs.2 e,(hB.trans (h34.mono hB.size)).setCell (by show w.heap.size≤w.heap.size+1; omega) _,((aU HCB).below h34 hclt).set _⟩⟩
  cases hsd:Sp.starred (aI x)
  ·cases ho:aI x == n
   ·rw [ho] at hBB
    gi_wp2_with fail
    refine ⟨trivial,rfl,?_⟩
    refine (CallsIn.inRound l' (callsIn_wide.2 (aU HCS _))).mono ?_
    rintro e W3 ⟨rfl,hW3⟩
    have h3:Below W.heap.size W W3:=by rw [hW3]; exact (Below.refl _ _).alloc (Nat.le_refl _) _
    have c3:W3.cell? ⟨W.heap.size,0,none⟩=some (.int .i64 1):=by rw [hW3]; go_simp
    have l3:W.heap.size<W3.heap.size:=by rw [hW3]; simp
    clear hW3
    have HC4:=aH (containsOther 1 W.heap.size b (off+x.1*4) x.2.length x.2 W3 c3 l3 ((aU HP).below h3) (by omega))
    gi_wp2_with fail
    refine ⟨trivial,rfl,?_⟩
    refine (CallsIn.inRound l' (callsIn_wide.2 (aU HC4))).mono ?_
    rintro e W4 ⟨rfl,hb4⟩
    have HE:=HFIN 1 W3 W4 h3 hb4 hsd (by rw [ho]; rfl)
    have b4:=(((aU HCB).below h3 hclt).below hb4 (Nat.lt_of_lt_of_le hclt h3.size))
    have cb4:=b4.cell
    have cf4:=b4.frozen
    clear HFIN b4
    cases hm:x.2.any (notP 1)
    ·gi_wp2_with fail
     exact (aU HE).1 hm
    ·gi_wp2_with fail
     obtain ⟨r1,r2⟩:=(aU HE).2 hm
     exact ⟨r1,rfl,r2⟩
   ·rw [ho] at hBB
    gi_wp2_with fail
    refine ⟨trivial,rfl,?_⟩
    refine (CallsIn.inRound l' (callsIn_wide.2 (aU HCS _))).mono ?_
    rintro e W3 ⟨rfl,hW3⟩
    have h3:Below W.heap.size W W3:=by rw [hW3]; exact (Below.refl _ _).alloc (Nat.le_refl _) _
    have c3:W3.cell? ⟨W.heap.size,0,none⟩=some (.int .i64 2):=by rw [hW3]; go_simp
    have l3:W.heap.size<W3.heap.size:=by rw [hW3]; simp
    clear hW3
    have HC4:=aH (containsOther 2 W.heap.size b (off+x.1*4) x.2.length x.2 W3 c3 l3 ((aU HP).below h3) (by omega))
    gi_wp2_with fail
    refine ⟨trivial,rfl,?_⟩
    refine (CallsIn.inRound l' (callsIn_wide.2 (aU HC4))).mono ?_
    rintro e W4 ⟨rfl,hb4⟩
    have HE:=HFIN 2 W3 W4 h3 hb4 hsd (by rw [ho]; rfl)
    have b4:=(((aU HCB).below h3 hclt).below hb4 (Nat.lt_of_lt_of_le hclt h3.size))
    have cb4:=b4.cell
    have cf4:=b4.frozen
    clear HFIN b4
    cases hm:x.2.any (notP 2)
    ·gi_wp2_with fail
     exact (aU HE).1 hm
    ·gi_wp2_with fail
     obtain ⟨r1,r2⟩:=(aU HE).2 hm
     exact ⟨r1,rfl,r2⟩
  ·have HF:Hid (rightCut rs n=false):=by
    rw [Hid,aU HS,cutOk,hsd]; rfl
   clear HFIN
   cases ho:aI x == n
   all_goals
    rw [ho] at hBB
    gi_wp2_with fail
    refine ⟨trivial,rfl,?_⟩
    refine (CallsIn.inRound l' (callsIn_wide.2 (aU HCS _))).mono ?_
    rintro e W3 ⟨rfl,hW3⟩
    have h3:Below W.heap.size W W3:=by
     rw [hW3]
     first
     | exact (Below.refl _ _).alloc (Nat.le_refl _) _
     | exact ((Below.refl _ _).alloc (Nat.le_refl _) _).setCell (p:=⟨W.heap.size,0,none⟩) (Nat.le_refl W.heap.size) _
    clear hW3
    have b4:=(aU HCB).below h3 hclt
    have cb4:=b4.cell
    have cf4:=b4.frozen
    have B4:=aH b4
    clear b4
    have s3:=h3.size
    gi_wp2_with fail
    refine ⟨trivial,?_⟩
    gi_wp2_with fail
    exact ⟨(It.Above.of_grown h3).trans (It.Above.setCell W3 _ _ (by omega)),rfl,aU HF,(hB.trans (h3.mono hB.size)).setCell (by show w.heap.size≤w.heap.size+1; omega) _,(aU B4).set _⟩
 case done =>
  intro W hI hdef hsz
  obtain ⟨hf,hB,hn',hc⟩:=hI
  have cb:=hc.cell
  have cf:=hc.frozen
  have HF:Hid (rightCut rs n=true):=by
   rw [Hid,← hf,List.drop_of_length_le (Nat.le_refl _)]; rfl
  clear hf
  gi_wp2_with fail
  have hd':=(Below.heap_setCell W ⟨w.heap.size+1,0,none⟩ (.bool true) W2.heap.size (by show W2.heap.size≠w.heap.size+1; omega)).trans hdef
  refine ⟨by simp,.inl ⟨_,_,rfl,run_takeDeferred hd',?_⟩⟩
  have cr:=((hc.set (.bool true)).put (d:=W2.heap.size) (o:=.deferred none) (by omega)).cell
  refine ⟨.bool true,by simp [results,Tryz.results111,go_sem,cr],by rw [aU HF],?_⟩
  exact (hB.setCell (by show w.heap.size≤w.heap.size+1; omega) _).trans (belowK_b (w:=W2) (by omega) _ _ _ _ (Nat.le_refl _) hd' rfl rfl)
 case stop =>
  intro c W hI hdef hsz
  obtain ⟨rfl,hof,hB,hc⟩:=hI
  have HF:=aH hof
  clear hof
  have cb:=hc.cell
  gi_wp2_with fail
  refine ⟨by simp,.inl ⟨_,_,rfl,run_takeDeferred hdef,?_⟩⟩
  have cr:=(hc.put (d:=W2.heap.size) (o:=.deferred none) (by omega)).cell
  have hB':=hB.trans (belowK_b (w:=W2) (show w.heap.size≤W2.heap.size by omega) W _ _ (.deferred none) (Nat.le_refl _) hdef rfl rfl)
  exact ⟨.bool false,by simp [results,Tryz.results111,go_sem,cr],by rw [aU HF],hB'⟩
end Ze
end Go.Proofs.YtkkpahmoljiepaaGreatDoor

set_option maxRecDepth 1000000
set_option maxHeartbeats 12800000
namespace Go.Proofs.YtkkpahmoljiepaaGreatDoor
open Go.RowKit
open Pu (Str aH aU)
attribute [local go_sem] Oper.semAt_some undef
def rightOwner (o:Str) (rs:List Rec) (n:Str) (l:List Rec):Bool :=
 Sp.under n o && !(l.any (Rf.hasP 5) && decide (1<l.length)) && (n == o || !l.any (Rf.hasP 2) || rightCut rs n)
def rightP (o:Str) (rs:List Rec):Bool :=
 (runs aD rs).all (fun x=>Rg.rightSet x.2) && ((runs aG rs).all (fun x=>rightOwner o rs (aI x) x.2) && decide (0<(setP (ofP rs o) 2).length))
namespace Zg
open Ka Kd Rf Rg Ia Iow Ie Zb Zc Za Ze
theorem isRightSet_piece (l:List Rec) (b off:Nat) (w:World) (hr:bE w b off l) (hpos:0<l.length) (hl:l.length≤3001) :
  Calls Tryz.prog 108 #[.slice (some ⟨b,off,none⟩) l.length l.length] w fun e w'=>e=.returned (.bool (rightSet l))∧Below w.heap.size w w':=by
 cases l with
 | nil=>simp at hpos
 | cons r t=>exact isRightSet_any r t b off _ w hr hl (Nat.le_refl _)
theorem owners_o (a:Option Addr) (n c:Nat) (w:World) :
  Calls Tryz.prog 109 #[.slice a n c] w fun e w'=>e=.returned (.func (.func 179) #[] #[.pointer (some ⟨w.heap.size,0,none⟩)])∧w'.heap.size=w.heap.size+1∧Below w.heap.size w w'∧w'.cell? ⟨w.heap.size,0,none⟩=some (.slice a n c):=by
 refine (owners_any _ _ _ _).mono ?_
 rintro e w' ⟨rfl,rfl⟩
 exact ⟨rfl,by simp,(Below.refl _ _).alloc (Nat.le_refl _) _,by go_simp⟩
theorem isRight_any (b off cap:Nat) (o:Str) (rs:List Rec) (w:World) (hr:bE w b off rs) (hcap:rs.length≤cap) (hlen:rs.length≤3001) (hol:o.length≤3000) (ho : ∀ r∈rs,r.owner.length≤3000) :
  Calls Tryz.prog 60 #[.string (B o),.slice (some ⟨b,off,none⟩) rs.length cap] w fun e w'=>e=.returned (.bool (rightP o rs))∧Below w.heap.size w w':=by
 refine (callsIn_wide (n:=0)).1 ?_
 refine callsIn_of_wp_marks Tryz.func60 rfl trivial ?_
 simp only [Tryz.ntmps60,List.size_toArray,List.length_cons,List.length_nil,Nat.reduceAdd,Nat.reduceSub,Array.replicate_succ,Array.replicate_zero,List.push_toArray,List.append_toArray,List.nil_append,List.cons_append]
 have HR:=aH hr
 have HO:=aH ho
 have hb:=hr.1
 have hbx:Below w.heap.size w (((w.alloc (.cells #[.string (B o)] 9)).alloc (.cells #[.slice (some ⟨b,off,none⟩) rs.length cap] 41)).alloc (.cells #[.bool false] 4)):=(((Below.refl _ _).alloc (Nat.le_refl _) _).alloc (by simp) _).alloc (by simp; omega) _
 have HV:=aH (show RV _ (.slice (some ⟨b,off,none⟩) rs.length cap) rs from .inr ⟨b,off,cap,rfl,hcap,hr.below hbx⟩)
 clear hr ho
 gi_wp2_with fail
 refine ⟨trivial,rfl,?_⟩
 refine (callsIn_wide.2 (sets_o _ rs _ (aU HV))).mono ?_
 rintro e W2 ⟨rfl,e4,hb2,e2,e3⟩
 have e0:It.Box W2 w.heap.size (.string (B o)) 9:=(((It.Box.new _ _ _).alloc _).alloc _).below hb2 (by simp <;> omega)
 have e1:It.Box W2 (w.heap.size+1) (.slice (some ⟨b,off,none⟩) rs.length cap) 41:=by
  have:=((It.Box.new (w.alloc (.cells #[.string (B o)] 9)) (.slice (some ⟨b,off,none⟩) rs.length cap) 41).alloc (.cells #[.bool false] 4)).below hb2 (by simp <;> omega)
  rwa [World.size_alloc] at this
 have e1b:It.Box W2 (w.heap.size+1+1) (.bool false) 4:=by
  have:=(It.Box.new ((w.alloc (.cells #[.string (B o)] 9)).alloc (.cells #[.slice (some ⟨b,off,none⟩) rs.length cap] 41)) (.bool false) 4).below hb2 (by simp <;> omega)
  rwa [World.size_alloc,World.size_alloc] at this
 have e5:Below w.heap.size w W2:=hbx.trans (hb2.mono (by simp <;> omega))
 simp only [World.size_alloc] at e4 e2 e3
 clear hbx hb2 HV
 gi_wp2_with fail
 have hgrow : ∀ r,Below W2.heap.size W2 ((W2.alloc (.deferred (some []))).alloc (.loop r)):=fun r=>((Below.refl _ _).alloc (Nat.le_refl _) _).alloc (by simp) _
 have HR2:=aH ((aU HR).below e5)
 refine It.rangeB (xs:=runs aD rs) (encs:=fun x:Nat×List Rec=>#[.slice (some ⟨b,off+x.1*4,none⟩) x.2.length x.2.length]) (St:=fun A B=>Below A.heap.size A B) (Kp:=It.Keep3 (w.heap.size+1+1+1) (w.heap.size+1+1+1+1) b) (Kx:=fun _ _=>True)
  (gf:=233) (lb:=#[.pointer (some ⟨w.heap.size+1+1+1,0,none⟩),.pointer (some ⟨w.heap.size+1+1+1+1,0,none⟩)]) rfl (enters_of Tryz.func233 (by kernel_rfl) rfl) (fun _=>rfl) ?seq
  [w.heap.size+1+1+1,w.heap.size+1+1+1+1,b] (by simp; omega) (fun A B hA h=>h.mono hA) (fun A B h h'=>⟨h'.1,h _ (by simp),h _ (by simp),h _ (by simp)⟩) (fun _ _ _=>trivial)
  (fun i W=>((runs aD rs).drop i).all (fun x=>rightSet x.2)=(runs aD rs).all (fun x=>rightSet x.2)∧Below w.heap.size w W∧It.Box W w.heap.size (.string (B o)) 9∧It.Box W (w.heap.size+1) (.slice (some ⟨b,off,none⟩) rs.length cap) 41∧It.Box W (w.heap.size+1+1) (.bool false) 4)
  (fun c W=>c=.ret∧rightP o rs=false∧Below w.heap.size w W∧It.Box W (w.heap.size+1+1) (.bool false) 4)
  (fun i A B h hb=>⟨h.1,h.2.1.trans (hb.mono (by omega)),h.2.2.1.below hb (by omega),h.2.2.2.1.below hb (by omega),h.2.2.2.2.below hb (by omega)⟩)
  (fun c A B h hb=>⟨h.1,h.2.1,h.2.2.1.trans (hb.mono (by omega)),h.2.2.2.below hb (by omega)⟩)
  ⟨rfl,e5,e0,e1,e1b⟩
  ?round ?done ?stop
 case seq =>
  intro r
  have hg:=hgrow r
  exact Ib.seq b off cap _ _ rs _ ((hg.cell (p:=⟨w.heap.size+1+1+1,0,none⟩) (by show w.heap.size+1+1+1<W2.heap.size; omega)).trans e2) ((hg.cell (p:=⟨w.heap.size+1+1+1+1,0,none⟩) (by show w.heap.size+1+1+1+1<W2.heap.size; omega)).trans e3) ((aU HR2).below hg) (by have:=hg.size; omega) (by have:=hg.size; omega) hlen hcap
 case round =>
  intro l' i x V W hx hI hsz
  gi_wp2_with fail
  refine ⟨trivial,?_⟩
  obtain ⟨hf,hB,hn0,hn1,hc⟩:=hI
  have hmem:x∈runs aD rs:=List.mem_of_getElem? hx
  have hP:=bE.piece ((aU HR).below hB) hmem
  have hpos:=(runs_piece hmem).2.1
  have hrl:=runs_len hmem
  have hst:=all_step (p:=fun x=>rightSet x.2) hx
  rw [hf] at hst
  have HS:=aH hst
  have HC:=aH (isRightSet_piece x.2 b (off+x.1*4) W hP hpos (by omega))
  have HN0:=aH hn0
  have HN1:=aH hn1
  have HCB:=aH hc
  clear hf hst hn0 hn1 hc hmem hP
  cases hs:rightSet x.2
  ·have HF:Hid (rightP o rs=false):=by unfold rightP; rw [Hid,aU HS,hs]; rfl
   gi_wp2_with fail
   refine ⟨trivial,rfl,?_⟩
   refine (CallsIn.inRound l' (callsIn_wide.2 (aU HC))).mono ?_
   rintro e W4 ⟨rfl,hb4⟩
   have hb5:=(aU HCB).below hb4 (aU HCB).lt
   have cb:=hb5.cell
   have cf:=hb5.frozen
   have HB5:=aH hb5
   have hb4s:=hb4.size
   clear hb5
   gi_wp2_with fail
   exact ⟨(It.Above.of_grown hb4).trans (It.Above.setCell W4 _ _ (by omega)),rfl,aU HF,(hB.trans (hb4.mono hB.size)).setCell (by show w.heap.size≤w.heap.size+1+1; omega) _,(aU HB5).set _⟩
  ·have HF:Hid (((runs aD rs).drop (i+1)).all (fun x=>rightSet x.2)=(runs aD rs).all (fun x=>rightSet x.2)):=by rw [Hid,aU HS,hs]; rfl
   gi_wp2_with fail
   refine ⟨trivial,rfl,?_⟩
   refine (CallsIn.inRound l' (callsIn_wide.2 (aU HC))).mono ?_
   rintro e W4 ⟨rfl,hb4⟩
   have HN04:=aH ((aU HN0).below hb4 (aU HN0).lt)
   have HN14:=aH ((aU HN1).below hb4 (aU HN1).lt)
   have HCB4:=aH ((aU HCB).below hb4 (aU HCB).lt)
   gi_wp2_with fail
   exact ⟨It.Above.of_grown hb4,fun k hk=>hb4.block k (by simp at hk; omega),aU HF,hB.trans (hb4.mono hB.size),aU HN04,aU HN14,aU HCB4⟩
 case stop =>
  intro c W hI hdef hsz
  obtain ⟨rfl,hof,hB,hc⟩:=hI
  have HF:=aH hof
  clear hof
  have cb:=hc.cell
  gi_wp2_with fail
  refine ⟨by simp,.inl ⟨_,_,rfl,run_takeDeferred hdef,?_⟩⟩
  have cr:=(hc.put (d:=W2.heap.size) (o:=.deferred none) (by omega)).cell
  have hB':=hB.trans (belowK_b (w:=W2) (show w.heap.size≤W2.heap.size by omega) W _ _ (.deferred none) (Nat.le_refl _) hdef rfl rfl)
  exact ⟨.bool false,by simp [results,Tryz.results60,go_sem,cr],by rw [aU HF],hB'⟩
 case done =>
  intro W hI hdef hsz
  obtain ⟨hf,hB,hn0,hn1,hc⟩:=hI
  have hall:(runs aD rs).all (fun x=>rightSet x.2)=true:=by
   rw [← hf,List.drop_of_length_le (Nat.le_refl _)]; rfl
  have HRP:Hid (rightP o rs=((runs aG rs).all (fun x=>rightOwner o rs (aI x) x.2) && decide (0<(setP (ofP rs o) 2).length))):=by unfold rightP; rw [Hid,hall]; rfl
  clear hf hall
  have cn1:=hn1.cell
  have HN0:=aH hn0
  have HN1:=aH hn1
  have HCB:=aH hc
  clear hn0 hn1 hc
  gi_wp2_with fail
  refine ⟨trivial,rfl,?_⟩
  refine (callsIn_wide.2 (owners_o _ _ _ _)).mono ?_
  rintro e W5 ⟨rfl,e7,e8,e6⟩
  rw [e4] at hdef hsz
  have hBs:=hB.size
  have HR5:=aH (((aU HR).below hB).below e8)
  have I0:=aH ((aU HN0).below e8 (aU HN0).lt)
  have I1:=aH ((aU HN1).below e8 (aU HN1).lt)
  have I2:=aH ((aU HCB).below e8 (aU HCB).lt)
  clear cn1
  gi_wp2_with fail
  have hgrow5 : ∀ r,Below W5.heap.size W5 ((W5.alloc (.deferred (some []))).alloc (.loop r)):=fun r=>((Below.refl _ _).alloc (Nat.le_refl _) _).alloc (by simp) _
  have hgsz5 : ∀ r,((W5.alloc (.deferred (some []))).alloc (.loop r)).heap.size=W5.heap.size+2:=fun r=>by simp
  refine It.rangeB (xs:=runs aG rs) (encs:=fun x:Nat×List Rec=>#[.string (B (aI x)),.slice (some ⟨b,off+x.1*4,none⟩) x.2.length x.2.length]) (St:=fun A B=>Below (W5.heap.size+2) A B) (Kp:=fun A B=>B.heap[b]? = A.heap[b]?∧It.Above (W5.heap.size+2) A B) (Kx:=fun A B=>It.Above (W5.heap.size+2) A B)
   (gf:=179) (lb:=#[.pointer (some ⟨W.heap.size,0,none⟩)]) rfl (enters_of Tryz.func179 (by kernel_rfl) rfl) (fun _=>rfl) ?seq2
   [b] (by simp; omega) (fun _ _ _ h=>h) (fun A B h h'=>⟨h _ (by simp),h'⟩) (fun _ _ h=>h)
   (fun i V=>((runs aG rs).drop i).all (fun x=>rightOwner o rs (aI x) x.2)=(runs aG rs).all (fun x=>rightOwner o rs (aI x) x.2)∧Below w.heap.size w V∧It.Box V w.heap.size (.string (B o)) 9∧It.Box V (w.heap.size+1) (.slice (some ⟨b,off,none⟩) rs.length cap) 41∧It.Box V (w.heap.size+1+1) (.bool false) 4∧V.heap[w.heap.size+5]? = some (.deferred (some [])))
   (fun c V=>c=.ret∧rightP o rs=false∧Below w.heap.size w V∧It.Box V (w.heap.size+1+1) (.bool false) 4∧V.heap[w.heap.size+5]? = some (.deferred (some [])))
   (fun i A B h hb=>⟨h.1,h.2.1.trans (hb.mono (by omega)),h.2.2.1.below hb (by omega),h.2.2.2.1.below hb (by omega),h.2.2.2.2.1.below hb (by omega),(hb.block _ (by omega)).trans h.2.2.2.2.2⟩)
   (fun c A B h hb=>⟨h.1,h.2.1,h.2.2.1.trans (hb.mono (by omega)),h.2.2.2.1.below hb (by omega),(hb.block _ (by omega)).trans h.2.2.2.2⟩)
   ⟨rfl,hB.trans (e8.mono hBs),aU I0,aU I1,aU I2,(e8.block _ (by omega)).trans hdef⟩
   ?round2 ?done2 ?stop2
  case seq2 =>
   intro r
   have hg:=hgrow5 r
   have:=owners_seq b off cap W.heap.size rs ((W5.alloc (.deferred (some []))).alloc (.loop r)) ((hg.cell (p:=⟨W.heap.size,0,none⟩) (by show W.heap.size<W5.heap.size; omega)).trans e6) ((aU HR5).below hg) (by have:=hg.size; omega) hlen hcap
   rw [hgsz5 r] at this
   exact this
  case round2 =>
   intro l' i x V' V hx hI hsz2
   gi_wp2_with fail
   refine ⟨trivial,?_⟩
   obtain ⟨hf,hBV,hn0,hn1,hc,hd1⟩:=hI
   have hmem:x∈runs aG rs:=List.mem_of_getElem? hx
   have hP:=bE.piece ((aU HR).below hBV) hmem
   have hrl:=runs_len hmem
   obtain ⟨r,hrm,hro⟩:=owner_mem hmem
   have hxl:(aI x).length≤3000:=by rw [← hro]; exact aU HO r hrm
   have hst:=all_step (p:=fun x=>rightOwner o rs (aI x) x.2) hx
   rw [hf] at hst
   have HS:=aH hst
   have cn0:=hn0.cell
   have HN0:=aH hn0
   have HN1:=aH hn1
   have HCB2:=aH hc
   have HD1:=aH hd1
   have HP:=aH hP
   have HCU:Hid (Calls Tryz.prog 110 #[.string (B (aI x)),.string (B o)] V fun e w'=>e=.returned (.bool (Sp.under (aI x) o))∧w'=V) :=
    under_any (B (aI x)) (B o) V (by rw [size_B]; omega) (by rw [size_B]; omega)
   have HSTOP:Hid (rightOwner o rs (aI x) x.2=false→∀ W4,Below V.heap.size V W4→It.Above W5.heap.size V (W4.setCell ⟨w.heap.size+1+1,0,none⟩ (.bool false))∧rightP o rs=false∧Below w.heap.size w (W4.setCell ⟨w.heap.size+1+1,0,none⟩ (.bool false))∧It.Box (W4.setCell ⟨w.heap.size+1+1,0,none⟩ (.bool false)) (w.heap.size+1+1) (.bool false) 4∧(W4.setCell ⟨w.heap.size+1+1,0,none⟩ (.bool false)).heap[w.heap.size+5]? = some (.deferred (some []))):=by
    intro hs W4 hb4
    have hb4s:=hb4.size
    have HF:rightP o rs=false:=by rw [aU HRP,aU HS,hs]; rfl
    exact ⟨(It.Above.of_grown hb4).trans (It.Above.setCell W4 _ _ (by omega)),HF,(hBV.trans (hb4.mono hBV.size)).setCell (by show w.heap.size≤w.heap.size+1+1; omega) _,((aU HCB2).below hb4 (aU HCB2).lt).set _,(Below.heap_setCell _ _ _ _ (by show w.heap.size+5≠w.heap.size+1+1; omega)).trans ((hb4.block _ (by omega)).trans (aU HD1))⟩
   have HGO:Hid (rightOwner o rs (aI x) x.2=true→∀ W4,Below V.heap.size V W4→It.Above W5.heap.size V W4∧(∀ k∈[b],W4.heap[k]? = V.heap[k]?)∧(((runs aG rs).drop (i+1)).all (fun x=>rightOwner o rs (aI x) x.2)=(runs aG rs).all (fun x=>rightOwner o rs (aI x) x.2)∧Below w.heap.size w W4∧It.Box W4 w.heap.size (.string (B o)) 9∧It.Box W4 (w.heap.size+1) (.slice (some ⟨b,off,none⟩) rs.length cap) 41∧It.Box W4 (w.heap.size+1+1) (.bool false) 4∧W4.heap[w.heap.size+5]? = some (.deferred (some [])))):=by
    intro hs W4 hb4
    exact ⟨It.Above.of_grown hb4,fun k hk=>hb4.block k (by simp at hk; omega),by rw [aU HS,hs]; rfl,hBV.trans (hb4.mono hBV.size),(aU HN0).below hb4 (aU HN0).lt,(aU HN1).below hb4 (aU HN1).lt,(aU HCB2).below hb4 (aU HCB2).lt,(hb4.block _ (by omega)).trans (aU HD1)⟩
   have HBX:Hid (∀ W4,Below V.heap.size V W4→W4.cell? ⟨w.heap.size,0,none⟩=some (.string (B o))∧W4.cell? ⟨w.heap.size+1,0,none⟩=some (.slice (some ⟨b,off,none⟩) rs.length cap)∧W4.cell? ⟨w.heap.size+1+1,0,none⟩=some (.bool false)∧W4.frozen? ⟨w.heap.size+1+1,0,none⟩=false):=fun W4 hb4 =>
    ⟨((aU HN0).below hb4 (aU HN0).lt).cell,((aU HN1).below hb4 (aU HN1).lt).cell,((aU HCB2).below hb4 (aU HCB2).lt).cell,((aU HCB2).below hb4 (aU HCB2).lt).frozen⟩
   have hRVx:Hid (∀ W4,Below V.heap.size V W4→RV W4 (.slice (some ⟨b,off+x.1*4,none⟩) x.2.length x.2.length) x.2):=fun W4 hb4=>.inr ⟨b,off+x.1*4,x.2.length,rfl,Nat.le_refl _,(aU HP).below hb4⟩
   have HRV4:Hid (∀ W4,Below V.heap.size V W4→bE W4 b off rs):=fun W4 hb4=>((aU HR).below hBV).below hb4
   clear hf hst hn0 hn1 hc hmem hP hro hrm hd1
   have hBB:((B (aI x)).toList == (B o).toList)=(aI x == o):=B_inj
   cases hu:Sp.under (aI x) o
   ·have hs:rightOwner o rs (aI x) x.2=false:=by unfold rightOwner; rw [hu]; rfl
    have HE:=aH (aU HSTOP hs V (Below.refl _ _))
    obtain ⟨_,_,cb,cf⟩:=aU HBX V (Below.refl _ _)
    gi_wp2_with fail
    refine ⟨trivial,rfl,?_⟩
    refine (CallsIn.inRound l' (callsIn_wide.2 (aU HCU))).mono ?_
    rintro e V ⟨rfl,rfl⟩
    clear HSTOP HGO HBX hRVx HRV4 HCU HP HD1 HCB2 HN1 HN0 HS hs hBB hgsz5 hgrow5 I0 I1 I2 HR5 hx
    gi_wp2_with fail
    refine ⟨trivial,?_⟩
    gi_wp2_with fail
    exact ⟨(aU HE).1,rfl,(aU HE).2⟩
   cases h5:x.2.any (hasP 5) && decide (1<x.2.length)
   ·have hr1:Hid (rightOwner o rs (aI x) x.2=(aI x == o || !x.2.any (hasP 2) || rightCut rs (aI x))):=by unfold rightOwner; rw [hu,h5]; rfl
    have h5':(x.2.any (hasP 5)=false)∨(x.2.any (hasP 5)=true∧(x.2.length:Int)≤1):=by
     cases hh:x.2.any (hasP 5)
     ·exact .inl rfl
     ·rw [hh] at h5; simp at h5; exact .inr ⟨rfl,by omega⟩
    clear h5
    have HC5:=aH (fun W4 (h:Below V.heap.size V W4)=>has_any 5 _ x.2 W4 (aU hRVx W4 h) (by omega))
    have HC2:=aH (fun W4 (h:Below V.heap.size V W4)=>has_any 2 _ x.2 W4 (aU hRVx W4 h) (by omega))
    have HCC:=aH (fun W4 (h:Below V.heap.size V W4)=>isRightCut_any b off cap (aI x) rs W4 (aU HRV4 W4 h) hcap hlen hxl (aU HO))
    clear HS HP hRVx HRV4 HN0 HN1 HCB2 HD1
    cases hno:aI x == o
    ·rw [hno] at hBB
     cases h2:x.2.any (hasP 2)
     ·have hs:=aH (show rightOwner o rs (aI x) x.2=true by rw [aU hr1,hno,h2]; rfl)
      rcases h5' with h5 | ⟨h5,h5l⟩
      all_goals
       gi_wp2_with fail
       refine ⟨trivial,rfl,?_⟩
       refine (CallsIn.inRound l' (callsIn_wide.2 (aU HCU))).mono ?_
       rintro e V ⟨rfl,rfl⟩
       gi_wp2_with fail
       refine ⟨trivial,rfl,?_⟩
       refine (CallsIn.inRound l' (callsIn_wide.2 (aU HC5 _ (Below.refl _ _)))).mono ?_
       rintro e W4 ⟨rfl,hb4⟩
       obtain ⟨d0,d1,d2,d3⟩:=aU HBX W4 hb4
       gi_wp2_with fail
       refine ⟨trivial,rfl,?_⟩
       refine (CallsIn.inRound l' (callsIn_wide.2 (aU HC2 _ hb4))).mono ?_
       rintro e W6 ⟨rfl,hb6⟩
       have HE:=aH (aU HGO (aU hs) W6 (hb4.trans (hb6.mono hb4.size)))
       clear HGO
       gi_wp2_with fail
       refine ⟨trivial,?_⟩
       gi_wp2_with fail
       exact aU HE
     ·cases hct:rightCut rs (aI x)
      ·have hs:=aH (show rightOwner o rs (aI x) x.2=false by rw [aU hr1,hno,h2,hct]; rfl)
       rcases h5' with h5 | ⟨h5,h5l⟩
       all_goals
        gi_wp2_with fail
        refine ⟨trivial,rfl,?_⟩
        refine (CallsIn.inRound l' (callsIn_wide.2 (aU HCU))).mono ?_
        rintro e V ⟨rfl,rfl⟩
        gi_wp2_with fail
        refine ⟨trivial,rfl,?_⟩
        refine (CallsIn.inRound l' (callsIn_wide.2 (aU HC5 _ (Below.refl _ _)))).mono ?_
        rintro e W4 ⟨rfl,hb4⟩
        obtain ⟨d0,d1,d2,d3⟩:=aU HBX W4 hb4
        gi_wp2_with fail
        refine ⟨trivial,rfl,?_⟩
        refine (CallsIn.inRound l' (callsIn_wide.2 (aU HC2 _ hb4))).mono ?_
        rintro e W6 ⟨rfl,hb6⟩
        have hb46:=hb4.trans (hb6.mono hb4.size)
        obtain ⟨f0,f1,f2,f3⟩:=aU HBX W6 hb46
        gi_wp2_with fail
        refine ⟨trivial,rfl,?_⟩
        refine (CallsIn.inRound l' (callsIn_wide.2 (aU HCC _ hb46))).mono ?_
        rintro e W7 ⟨rfl,hb7⟩
        have hb47:=hb46.trans (hb7.mono hb46.size)
        obtain ⟨g0,g1,g2,g3⟩:=aU HBX W7 hb47
        have HE:=aH (aU HSTOP (aU hs) W7 hb47)
        clear HSTOP HGO
        gi_wp2_with fail
        exact ⟨(aU HE).1,rfl,(aU HE).2⟩
      ·have hs:=aH (show rightOwner o rs (aI x) x.2=true by rw [aU hr1,hno,h2,hct]; rfl)
       rcases h5' with h5 | ⟨h5,h5l⟩
       all_goals
        gi_wp2_with fail
        refine ⟨trivial,rfl,?_⟩
        refine (CallsIn.inRound l' (callsIn_wide.2 (aU HCU))).mono ?_
        rintro e V ⟨rfl,rfl⟩
        gi_wp2_with fail
        refine ⟨trivial,rfl,?_⟩
        refine (CallsIn.inRound l' (callsIn_wide.2 (aU HC5 _ (Below.refl _ _)))).mono ?_
        rintro e W4 ⟨rfl,hb4⟩
        obtain ⟨d0,d1,d2,d3⟩:=aU HBX W4 hb4
        gi_wp2_with fail
        refine ⟨trivial,rfl,?_⟩
        refine (CallsIn.inRound l' (callsIn_wide.2 (aU HC2 _ hb4))).mono ?_
        rintro e W6 ⟨rfl,hb6⟩
        have hb46:=hb4.trans (hb6.mono hb4.size)
        obtain ⟨f0,f1,f2,f3⟩:=aU HBX W6 hb46
        gi_wp2_with fail
        refine ⟨trivial,rfl,?_⟩
        refine (CallsIn.inRound l' (callsIn_wide.2 (aU HCC _ hb46))).mono ?_
        rintro e W7 ⟨rfl,hb7⟩
        have HE:=aH (aU HGO (aU hs) W7 (hb46.trans (hb7.mono hb46.size)))
        clear HSTOP HGO
        gi_wp2_with fail
        exact aU HE
    ·rw [hno] at hBB
     have hs:=aH (show rightOwner o rs (aI x) x.2=true by rw [aU hr1,hno]; rfl)
     rcases h5' with h5 | ⟨h5,h5l⟩
     all_goals
      gi_wp2_with fail
      refine ⟨trivial,rfl,?_⟩
      refine (CallsIn.inRound l' (callsIn_wide.2 (aU HCU))).mono ?_
      rintro e V ⟨rfl,rfl⟩
      gi_wp2_with fail
      refine ⟨trivial,rfl,?_⟩
      refine (CallsIn.inRound l' (callsIn_wide.2 (aU HC5 _ (Below.refl _ _)))).mono ?_
      rintro e W4 ⟨rfl,hb4⟩
      obtain ⟨d0,d1,d2,d3⟩:=aU HBX W4 hb4
      have HE:=aH (aU HGO (aU hs) W4 hb4)
      clear HSTOP HGO
      gi_wp2_with fail
      refine ⟨trivial,?_⟩
      gi_wp2_with fail
      refine ⟨trivial,?_⟩
      gi_wp2_with fail
      exact aU HE
   ·have hs:=aH (show rightOwner o rs (aI x) x.2=false by unfold rightOwner; rw [hu,h5]; rfl)
    rw [Bool.and_eq_true] at h5
    obtain ⟨h5a,h5b⟩:=h5
    have h5l:(1:Int)<(x.2.length:Int):=by simp at h5b; omega
    clear h5b
    have HC5:=aH (has_any 5 _ x.2 V (aU hRVx V (Below.refl _ _)) (by omega))
    gi_wp2_with fail
    refine ⟨trivial,rfl,?_⟩
    refine (CallsIn.inRound l' (callsIn_wide.2 (aU HCU))).mono ?_
    rintro e V ⟨rfl,rfl⟩
    gi_wp2_with fail
    refine ⟨trivial,rfl,?_⟩
    refine (CallsIn.inRound l' (callsIn_wide.2 (aU HC5))).mono ?_
    rintro e W4 ⟨rfl,hb4⟩
    obtain ⟨d0,d1,d2,d3⟩:=aU HBX W4 hb4
    have HE:=aH (aU HSTOP (aU hs) W4 hb4)
    clear HSTOP HGO
    gi_wp2_with fail
    exact ⟨(aU HE).1,rfl,(aU HE).2⟩
  case stop2 =>
   intro c V hI hdef2 hsz2
   obtain ⟨rfl,hof,hBV,hc,hd1⟩:=hI
   have HF:=aH hof
   clear hof
   have cb:=hc.cell
   gi_wp2_with fail
   refine ⟨by simp,.inl ⟨_,_,rfl,run_takeDeferred hdef2,?_⟩⟩
   have hd1':=(World.putObj_heap_other (w:=V) (o:=.deferred none) (show w.heap.size+5≠W5.heap.size by omega)).trans hd1
   refine ⟨by simp,.inl ⟨_,_,rfl,run_takeDeferred hd1',?_⟩⟩
   have cr:=((hc.put (d:=W5.heap.size) (o:=.deferred none) (by omega)).put (d:=w.heap.size+5) (o:=.deferred none) (by omega)).cell
   have hB1:=hBV.trans (belowK_b (w:=W5) (show w.heap.size≤W5.heap.size by omega) V _ _ (.deferred none) (Nat.le_refl _) hdef2 rfl rfl)
   have hB2:=hB1.trans (belowK_b (w:=w) (Nat.le_refl _) _ (w.heap.size+5) _ (.deferred none) (by omega) hd1' rfl rfl)
   exact ⟨.bool false,by simp [results,Tryz.results60,go_sem,cr],by rw [aU HF],hB2⟩
  case done2 =>
   intro V hI hdef2 hsz2
   rw [e7] at hdef2 hsz2
   obtain ⟨hf,hBV,hn0,hn1,hc,hd1⟩:=hI
   have hall:(runs aG rs).all (fun x=>rightOwner o rs (aI x) x.2)=true:=by
    rw [← hf,List.drop_of_length_le (Nat.le_refl _)]; rfl
   have HF:Hid (rightP o rs=decide (0<(setP (ofP rs o) 2).length)):=by rw [Hid,aU HRP,hall]; rfl
   clear hf hall
   have cn0:=hn0.cell
   have cn1:=hn1.cell
   have HRV:=aH ((aU HR).below hBV)
   have HCB2:=aH hc
   have HD1:=aH hd1
   have hmx:Tryz.prog.follows .mixedOrders=true:=by kernel_rfl
   clear hn0 hn1 hc hd1
   gi_wp2_with fail
   refine ⟨trivial,rfl,?_⟩
   refine (callsIn_wide.2 (set_any b off cap o 2 rs _ (aU HRV) hcap hlen)).mono ?_
   rintro e V2 ⟨⟨v,rfl,hv⟩,hb4⟩
   obtain ⟨a4,c4,rfl⟩:=hv.slice
   have hb5:=(aU HCB2).below hb4 (aU HCB2).lt
   have HB5:=aH hb5
   have HV4:=aH hb4
   have cb5:=hb5.cell
   have cf5:=hb5.frozen
   clear hv hb5 hb4
   gi_wp2_with fail
   have hb4:=aU HV4
   have hb4s:V.heap.size≤V2.heap.size:=hb4.size
   first | rw [e7] | skip
   have hd2':(V2.setCell ⟨w.heap.size+1+1,0,none⟩ (.bool (decide (0<(setP (ofP rs o) 2).length)))).heap[(W.heap.size+1)]? = some (.deferred (some [])) :=
    (Below.heap_setCell _ _ _ _ (by show (W.heap.size+1)≠w.heap.size+1+1; omega)).trans ((hb4.block _ (by show (W.heap.size+1)<V.heap.size; omega)).trans hdef2)
   refine ⟨by simp,.inl ⟨_,_,rfl,run_takeDeferred hd2',?_⟩⟩
   have hd1':((V2.setCell ⟨w.heap.size+1+1,0,none⟩ (.bool (decide (0<(setP (ofP rs o) 2).length)))).putObj (W.heap.size+1) (.deferred none)).heap[w.heap.size+5]? = some (.deferred (some [])) :=
    (World.putObj_heap_other (by omega)).trans ((Below.heap_setCell _ _ _ _ (by show w.heap.size+5≠w.heap.size+1+1; omega)).trans ((hb4.block _ (by show w.heap.size+5<V.heap.size; omega)).trans (aU HD1)))
   refine ⟨by simp,.inl ⟨_,_,rfl,run_takeDeferred hd1',?_⟩⟩
   have cr:=((((aU HB5).set (.bool (decide (0<(setP (ofP rs o) 2).length)))).put (d:=(W.heap.size+1)) (o:=.deferred none) (by omega)).put (d:=w.heap.size+5) (o:=.deferred none) (by omega)).cell
   have hB0:=(hBV.trans (hb4.mono hBV.size)).setCell (p:=⟨w.heap.size+1+1,0,none⟩) (by show w.heap.size≤w.heap.size+1+1; omega) (.bool (decide (0<(setP (ofP rs o) 2).length)))
   have hB1:=hB0.trans (belowK_b (w:=W) (show w.heap.size≤W.heap.size by omega) _ _ _ (.deferred none) (Nat.le_succ _) hd2' rfl rfl)
   have hB2:=hB1.trans (belowK_b (w:=w) (Nat.le_refl _) _ (w.heap.size+5) _ (.deferred none) (by omega) hd1' rfl rfl)
   refine ⟨_,by simp [results,Tryz.results60,go_sem,cr]; rfl,?_,hB2⟩
   refine ret_bool ?_
   rw [aU HF]
end Zg
end Go.Proofs.YtkkpahmoljiepaaGreatDoor
