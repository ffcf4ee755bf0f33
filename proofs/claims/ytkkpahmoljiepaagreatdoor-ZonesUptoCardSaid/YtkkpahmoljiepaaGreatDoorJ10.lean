/- Contracts: lookup's cancel: newCancel, asked, call. -/
import Derived.Test.YtkkpahmoljiepaaGreatDoorJ07
import Derived.Conc.LoneSelect
import Derived.Conc.EventLaws
import Derived.KernelRfl
import Derived.Laws.Rows
set_option linter.unusedSimpArgs false
set_option linter.unusedVariables false
set_option maxRecDepth 1000000
set_option maxHeartbeats 12800000
namespace Go.Proofs.YtkkpahmoljiepaaGreatDoor
open Go.RowKit Go.Conc
open Pu (Str aH aU)
def CancelAt (w:World) (cb c:Nat) (shut:Bool):Prop :=
 cb<w.heap.size∧w.cell? ⟨cb,0,none⟩=some (.chan (some c))∧∃ s r tm,w.heap[c]? = some (.chan 0 #[] shut s r tm)
theorem CancelAt.below {w w':World} {cb c n:Nat} {shut:Bool} (h:CancelAt w cb c shut) (hb:Below n w w') (h1:cb<n) (h2:c<n):CancelAt w' cb c shut:=by
 obtain ⟨a,b,s,r,tm,d⟩:=h
 exact ⟨Nat.lt_of_lt_of_le a hb.size,(hb.cell (p:=⟨cb,0,none⟩) h1).trans b,s,r,tm,(hb.block c h2).trans d⟩
theorem CancelAt.lt {w:World} {cb c:Nat} {shut:Bool} (h:CancelAt w cb c shut):c<w.heap.size:=by
 obtain ⟨_,_,_,_,_,h⟩:=h
 exact (Array.getElem?_eq_some_iff.1 h).1
namespace Ld
open Ka
theorem bytesE : ∃ i,Tryz.prog.info? 332=some i∧i.bytes=0:=by
 have h:(Tryz.prog.info? 332).map (·.bytes)=some 0:=by kernel_rfl
 obtain ⟨i,hi,hb⟩:=Option.map_eq_some_iff.1 h
 exact ⟨i,hi,hb⟩
theorem mk0 (w:World):(Instr.makeChan 270 (.int .i64 0)).run Tryz.prog w=.ok (.chan (some w.heap.size)) (w.alloc (.chan 0 #[] false 0 0 false)):=by
 obtain ⟨i,hi,hb⟩:=bytesE
 simpa using run_makeChan (P:=Tryz.prog) (w:=w) Tryz.underlying270 hi .i64 0 (by omega) (by rw [hb]; omega)
theorem newCancel_any (w:World) :
  Calls Tryz.prog 125 #[] w fun e w'=>∃ cb c,e=.returned (.pointer (some ⟨cb,0,none⟩))∧CancelAt w' cb c false∧w.heap.size≤cb∧w.heap.size≤c∧cb≠c∧Below w.heap.size w w':=by
 have hmc:=mk0
 go_enter Tryz.func125,Tryz.ntmps125
 go_wp2
 go_ret
 refine ⟨_,w.heap.size,rfl,⟨by simp,by go_simp,0,0,false,?_⟩,by omega,Nat.le_refl _,by omega,((Below.refl _ _).alloc (Nat.le_refl _) _).alloc (by simp) _⟩
 exact (Below.heap_alloc _ _ _ (by simp)).trans (World.alloc_heap_new w _)
theorem asked_open (cb c:Nat) (w:World) (h:CancelAt w cb c false) :
  Calls Tryz.prog 193 #[.pointer (some ⟨cb,0,none⟩)] w fun e w'=>e=.returned (.bool false)∧w'=w:=by
 obtain ⟨hlt,hc,s,r,tm,hch⟩:=h
 refine calls_of_loneTo fun cs=>?_
 have e:Frame.enter Tryz.prog 193 #[.pointer (some ⟨cb,0,none⟩)] .normal=(base 193).at ⟨#[.pointer (some ⟨cb,0,none⟩),undef,undef,undef,undef,undef,undef,undef,undef,undef],[]⟩ [.code (Tryz.f193.body.getD .skip)]:=by
  simp [Frame.enter,Frame.at,Tryz.func193,base,Tryz.f193]
 rw [e]
 refine LoneTo.goes (n:=13) ?_
 simp only [Tryz.f193,Option.getD_some]
 s_c stepG_seq
 s_reg
 s_op
 s_c stepG_region_end
 s_c stepG_seq
 s_reg
 s_op
 s_op
 s_op
 s_op
 s_c stepG_region_end
 s_c stepG_seq
 s_reg
 s_stop
 refine LoneTo.step (step_lone_select_default (c:=c) (z:=.agg #[]) (stepG_comm (cases:=#[rcase c (.agg #[])]) (blocking:=false) (shape:=.select) (w':=w) rfl rfl (by decide) (by simp [go_sem,execOp,rcase,Act.eval])) hch) ?_
 rw [Frame.finish_at]
 walk_nrm
 refine LoneTo.goes (n:=10) ?_
 s_op
 s_op
 s_c stepG_region_end
 s_c stepG_block
 s_cond false
 s_c stepG_seq
 s_reg
 s_op
 s_c stepG_region_end
 s_c stepG_ret'
 s_stop
 refine LoneTo.done ⟨.returned (.bool false),_,rfl,⟨rfl,rfl⟩,rfl,rfl,rfl,rfl,_,Tryz.func193,by simp [results,Tryz.f193,Frame.at]⟩
theorem asked_shut (cb c:Nat) (w:World) (h:CancelAt w cb c true) :
  Calls Tryz.prog 193 #[.pointer (some ⟨cb,0,none⟩)] w fun e w'=>e=.returned (.bool true)∧w'=w:=by
 obtain ⟨hlt,hc,s,r,tm,hch⟩:=h
 refine calls_of_loneTo fun cs=>?_
 have e:Frame.enter Tryz.prog 193 #[.pointer (some ⟨cb,0,none⟩)] .normal=(base 193).at ⟨#[.pointer (some ⟨cb,0,none⟩),undef,undef,undef,undef,undef,undef,undef,undef,undef],[]⟩ [.code (Tryz.f193.body.getD .skip)]:=by
  simp [Frame.enter,Frame.at,Tryz.func193,base,Tryz.f193]
 rw [e]
 refine LoneTo.goes (n:=13) ?_
 simp only [Tryz.f193,Option.getD_some]
 s_c stepG_seq
 s_reg
 s_op
 s_c stepG_region_end
 s_c stepG_seq
 s_reg
 s_op
 s_op
 s_op
 s_op
 s_c stepG_region_end
 s_c stepG_seq
 s_reg
 s_stop
 refine LoneTo.step (step_lone_select_recv_shut (c:=c) (z:=.agg #[]) (stepG_comm (cases:=#[rcase c (.agg #[])]) (blocking:=false) (shape:=.select) (w':=w) rfl rfl (by decide) (by simp [go_sem,execOp,rcase,Act.eval])) hch) ?_
 rw [Frame.finish_at]
 walk_nrm
 refine LoneTo.goes (n:=10) ?_
 s_op
 s_op
 s_c stepG_region_end
 s_c stepG_block
 s_cond true
 s_c stepG_seq
 s_reg
 s_op
 s_c stepG_region_end
 s_c stepG_ret'
 s_stop
 refine LoneTo.done ⟨.returned (.bool true),_,rfl,⟨rfl,rfl⟩,rfl,rfl,rfl,rfl,_,Tryz.func193,by simp [results,Tryz.f193,Frame.at]⟩
theorem asked_any (cb c:Nat) (shut:Bool) (w:World) (h:CancelAt w cb c shut) :
  Calls Tryz.prog 193 #[.pointer (some ⟨cb,0,none⟩)] w fun e w'=>e=.returned (.bool shut)∧w'=w:=by
 cases shut
 ·exact asked_open cb c w h
 ·exact asked_shut cb c w h
theorem call_any (cb c:Nat) (w:World) (h:CancelAt w cb c false) (hne:cb≠c) :
  Calls Tryz.prog 275 #[.pointer (some ⟨cb,0,none⟩)] w fun e w'=>(∃ v,e=.returned v)∧CancelAt w' cb c true∧(∀ k,k≠c→w'.heap[k]? = w.heap[k]?)∧w'.heap.size=w.heap.size∧∀ B,B≤c→Below B w w':=by
 have HA:=aH (asked_any cb c false w h)
 have hc:=h.2.1
 have hcb:=h.1
 obtain ⟨s,r,tm,hch⟩:=h.2.2
 clear h
 have hcl:=fun ats ty=>run_close_open (P:=Tryz.prog) (w:=w) ats ty hch
 go_enter Tryz.func275,Tryz.ntmps275
 go_wp2_with fail
 refine (aU HA).mono ?_
 rintro e w ⟨rfl,rfl⟩
 go_wp2_with fail
 go_end0
 have hoth : ∀ k,k≠c→(w.heap.setIfInBounds c (.chan 0 #[] true s r tm))[k]? = w.heap[k]?:=fun k hk=>Array.getElem?_setIfInBounds_ne (by omega)
 have hclt:c<w.heap.size:=(Array.getElem?_eq_some_iff.1 hch).1
 refine ⟨⟨_,rfl⟩,⟨by simpa using hcb,(World.cell?_of_block (hoth cb hne)).trans hc,s,r,tm,?_⟩,hoth,by simp,fun B hB=>⟨rfl,rfl,rfl,by simp,fun k hk=>hoth k (by omega)⟩⟩
 show (w.heap.setIfInBounds c (.chan 0 #[] true s r tm))[c]? = _
 rw [Array.getElem?_setIfInBounds_self_of_lt hclt]
end Ld
end Go.Proofs.YtkkpahmoljiepaaGreatDoor

set_option maxRecDepth 1000000
set_option maxHeartbeats 12800000
namespace Go.Proofs.YtkkpahmoljiepaaGreatDoor
open Go.RowKit
open Pu (Str aH aU)
attribute [local go_sem] Oper.semAt_some
def notP (k:Int) (r:Rec):Bool:=r.type != k
def cutOk (n:Str) (x:Nat×List Rec):Bool:=!Sp.starred (aI x) && !x.2.any (notP (if aI x == n then 2 else 1))
def rightCut (rs:List Rec) (n:Str):Bool:=(underRuns n rs).all (cutOk n)
namespace Ze
open Ka Kd Rf Rg Ia Iow Ie Zb Zc Za
theorem all_step {p:Nat×List Rec→Bool} {l:List (Nat×List Rec)} {i:Nat} {x:Nat×List Rec} (h:l[i]? = some x):(l.drop i).all p=(p x && (l.drop (i+1)).all p):=by
 obtain ⟨hi,rfl⟩:=List.getElem?_eq_some_iff.1 h
 rw [List.drop_eq_getElem_cons hi,List.all_cons]
theorem other_any (r:Rec) (k:Int) (bk:Nat) (W:World) (hc:W.cell? ⟨bk,0,none⟩=some (.int .i64 k)) (hb:bk<W.heap.size) :
  Calls Tryz.prog 183 #[.agg #[.string (B r.owner),.int .i64 r.ttl,.int .i64 r.type,.string (B r.data)],.pointer (some ⟨bk,0,none⟩)] W fun e w'=>e=.returned (.bool (notP k r))∧Below W.heap.size W w':=by
 go_enter Tryz.func183,Tryz.ntmps183
 go_wp2
 go_ret
 exact ⟨rfl,(Below.refl _ _).alloc (Nat.le_refl _) _⟩
theorem otherPred (k:Int) (bk:Nat) (w:World) (hc:w.cell? ⟨bk,0,none⟩=some (.int .i64 k)) (hb:bk<w.heap.size) :
  PredBelow Tryz.prog 183 #[.pointer (some ⟨bk,0,none⟩)] (fun x=>.agg (Rec.enc x).toArray) (notP k) w:=by
 intro W r hB
 refine (other_any r k bk W ((hB.cell (p:=⟨bk,0,none⟩) hb).trans hc) (Nat.lt_of_lt_of_le hb hB.size)).mono ?_
 rintro e w' ⟨rfl,hb'⟩
 exact ⟨rfl,hB.trans (hb'.mono hB.size)⟩
theorem containsOther (k:Int) (bk b off cap:Nat) (rs:List Rec) (w:World) (hc:w.cell? ⟨bk,0,none⟩=some (.int .i64 k)) (hb:bk<w.heap.size) (hr:bE w b off rs) (hl:rs.length≤3001) :
  Calls Tryz.prog 171 #[.slice (some ⟨b,off,none⟩) rs.length cap,.func (.func 183) #[] #[.pointer (some ⟨bk,0,none⟩)]] w fun e w' =>
   e=.returned (.bool (rs.any (notP k)))∧Below w.heap.size w w':=by
 have:=AnyQ.slices_ContainsFunc Tryz.lContainsFunc 4 Tryz.isAgg47 Tryz.sizeOf47 Rec.enc (fun _=>rfl) (notP k) 183 #[.pointer (some ⟨bk,0,none⟩)] (enters_of Tryz.func183 (by kernel_rfl) rfl) b off rs.length cap rs w (otherPred k bk w hc hb) (Nat.le_refl _) (by omega) hr.1 hr.2
 rw [List.take_length] at this
 exact this
theorem cut_step {n:Str} {rs:List Rec} {i:Nat} {x:Nat×List Rec} (kk:Int) (h:Hid (rightCut rs n=(cutOk n x && ((underRuns n rs).drop (i+1)).all (cutOk n)))) (hs:Sp.starred (aI x)=false) (ho:(if aI x == n then (2:Int) else 1)=kk) :
  (x.2.any (notP kk)=false→((underRuns n rs).drop (i+1)).all (cutOk n)=rightCut rs n)∧(x.2.any (notP kk)=true→rightCut rs n=false):=by
 have h':=aU h
 have hc:cutOk n x = !x.2.any (notP kk):=by
  unfold cutOk
  rw [hs,ho]; rfl
 rw [hc] at h'
 refine ⟨fun e=>?_,fun e=>?_⟩
 ·rw [h',e]; rfl
 ·rw [h',e]; rfl
theorem isRightCut_any (b off cap:Nat) (n:Str) (rs:List Rec) (w:World) (hr:bE w b off rs) (hcap:rs.length≤cap) (hlen:rs.length≤3001) (hn:n.length≤3000) (ho : ∀ r∈rs,r.owner.length≤3000) :
  Calls Tryz.prog 111 #[.string (B n),.slice (some ⟨b,off,none⟩) rs.length cap] w fun e w'=>e=.returned (.bool (rightCut rs n))∧Below w.heap.size w w':=by
 refine (callsIn_wide (n:=0)).1 ?_
 refine callsIn_of_wp_marks Tryz.func111 rfl trivial ?_
 simp only [Tryz.ntmps111,List.size_toArray,List.length_cons,List.length_nil,Nat.reduceAdd,Nat.reduceSub,Array.replicate_succ,Array.replicate_zero,List.push_toArray,List.append_toArray,List.nil_append,List.cons_append]
 have HR:=aH hr
 have HO:=aH ho
 have hb:=hr.1
 clear hr ho
 gi_wp2_with fail
 refine ⟨trivial,rfl,?_⟩
 refine (callsIn_wide.2 (under_o _ _ _ _ _)).mono ?_
 rintro e W2 ⟨rfl,e4,hb2,e2,e3⟩
 have e0:It.Box W2 w.heap.size (.string (B n)) 9:=((It.Box.new _ _ _).alloc _).below hb2 (by simp <;> omega)
 have e1:It.Box W2 (w.heap.size+1) (.bool false) 4:=by
  have:=(It.Box.new (w.alloc (.cells #[.string (B n)] 9)) (.bool false) 4).below hb2 (by simp <;> omega)
  rwa [World.size_alloc] at this
 have e5:Below w.heap.size w W2:=(((Below.refl _ _).alloc (Nat.le_refl _) _).alloc (by simp) _).trans (hb2.mono (by simp <;> omega))
 simp only [World.size_alloc] at e4 e2 e3
 gi_wp2_with fail
 have hr2:=aH ((aU HR).below e5)
 have hgrow : ∀ r,Below W2.heap.size W2 ((W2.alloc (.deferred (some []))).alloc (.loop r)):=fun r=>((Below.refl _ _).alloc (Nat.le_refl _) _).alloc (by simp) _
 have hgsz : ∀ r,((W2.alloc (.deferred (some []))).alloc (.loop r)).heap.size=W2.heap.size+2:=fun r=>by simp
 refine It.rangeB (xs:=underRuns n rs) (encs:=fun x:Nat×List Rec=>#[.string (B (aI x)),.slice (some ⟨b,off+x.1*4,none⟩) x.2.length x.2.length]) (St:=fun A B=>Below (W2.heap.size+2) A B) (Kp:=fun A B=>(B.heap[b]? = A.heap[b]?∧B.heap[w.heap.size+1+1+1]? = A.heap[w.heap.size+1+1+1]?)∧It.Above (W2.heap.size+2) A B) (Kx:=fun A B=>It.Above (W2.heap.size+2) A B)
  (gf:=235) (lb:=#[.pointer (some ⟨w.heap.size+1+1,0,none⟩),.pointer (some ⟨w.heap.size+1+1+1,0,none⟩)]) rfl (enters_of Tryz.func235 (by kernel_rfl) rfl) (fun _=>rfl) ?seq
  [b,w.heap.size+1+1+1] (by simp; omega) (fun _ _ _ h=>h) (fun A B h h'=>⟨⟨h _ (by simp),h _ (by simp)⟩,h'⟩) (fun _ _ h=>h)
  (fun i W=>((underRuns n rs).drop i).all (cutOk n)=rightCut rs n∧Below w.heap.size w W∧It.Box W w.heap.size (.string (B n)) 9∧It.Box W (w.heap.size+1) (.bool false) 4)
  (fun c W=>c=.ret∧rightCut rs n=false∧Below w.heap.size w W∧It.Box W (w.heap.size+1) (.bool false) 4)
  (fun i A B h hb=>⟨h.1,h.2.1.trans (hb.mono (by omega)),h.2.2.1.below hb (by omega),h.2.2.2.below hb (by omega)⟩)
  (fun c A B h hb=>⟨h.1,h.2.1,h.2.2.1.trans (hb.mono (by omega)),h.2.2.2.below hb (by omega)⟩)
  ⟨rfl,e5,e0,e1⟩
  ?round ?done ?stop
 case seq =>
  intro r
  have hg:=hgrow r
  have:=under_seq b off cap (w.heap.size+1+1) (w.heap.size+1+1+1) n rs ((W2.alloc (.deferred (some []))).alloc (.loop r)) ((aU hr2).below hg) hcap ((hg.cell (p:=⟨w.heap.size+1+1,0,none⟩) (by show w.heap.size+1+1<W2.heap.size; omega)).trans e2) ((hg.cell (p:=⟨w.heap.size+1+1+1,0,none⟩) (by show w.heap.size+1+1+1<W2.heap.size; omega)).trans e3) (by have:=hg.size; omega) (by have:=hg.size; omega) hlen hn (aU HO)
  rw [hgsz r] at this
  exact this
 case round =>
  intro l' i x V W hx hI hsz
  gi_wp2_with fail
  refine ⟨trivial,?_⟩
  obtain ⟨hf,hB,hn',hc⟩:=hI
  have cn:=hn'.cell
  have hmem:x∈runs aG rs:=(List.mem_filter.1 (List.mem_of_getElem? hx)).1
  have hP:=bE.piece ((aU HR).below hB) hmem
  have hrl:=runs_len hmem
  have hst:=all_step (p:=cutOk n) hx
  rw [hf] at hst
  have HS:=aH hst
  have HNB:=aH hn'
  have HCB:=aH hc
  have HP:=aH hP
  have hBB:((B (aI x)).toList == (B n).toList)=(aI x == n):=B_inj
  have hnlt:=hn'.lt
  have hclt:=hc.lt
  clear hf hst hn' hc hmem hP
  have hcs:=fun W'=>starred_any (B (aI x)) W'
  have HCS:Hid (∀ W',Calls Tryz.prog 124 #[.string (B (aI x))] W' fun e w'=>e=.returned (.bool (Sp.starred (aI x)))∧w'=W'):=hcs
  clear hcs
  -- what follows a tested owner,at a world that only has more
  have HFIN : ∀ (kk:Int) (W3 W4:World),Below W.heap.size W W3→Below W3.heap.size W3 W4→Sp.starred (aI x)=false→(if aI x == n then (2:Int) else 1)=kk →
    Hid ((x.2.any (notP kk)=false→It.Above W2.heap.size W W4∧(∀ k∈[b,w.heap.size+1+1+1],W4.heap[k]? = W.heap[k]?)∧(((underRuns n rs).drop (i+1)).all (cutOk n)=rightCut rs n∧Below w.heap.size w W4∧It.Box W4 w.heap.size (.string (B n)) 9∧It.Box W4 (w.heap.size+1) (.bool false) 4)) ∧
     (x.2.any (notP kk)=true→It.Above W2.heap.size W (W4.setCell ⟨w.heap.size+1,0,none⟩ (.bool false))∧rightCut rs n=false∧Below w.heap.size w (W4.setCell ⟨w.heap.size+1,0,none⟩ (.bool false))∧It.Box (W4.setCell ⟨w.heap.size+1,0,none⟩ (.bool false)) (w.heap.size+1) (.bool false) 4)):=by
   intro kk W3 W4 h3 h4 hsd ho
   have hs:=cut_step kk HS hsd ho
   have h34:=h3.trans (h4.mono h3.size)
   have s34:=h34.size
   refine ⟨fun e=>⟨It.Above.of_grown h34,fun k hk=>h34.block k (by simp at hk; omega),hs.1 e,hB.trans (h34.mono hB.size),(aU HNB).below h34 hnlt,(aU HCB).below h34 hclt⟩,fun e=>⟨(It.Above.of_grown h34).trans (It.Above.setCell W4 _ _ (by omega)),hs.2 e,(hB.trans (h34.mono hB.size)).setCell (by show w.heap.size≤w.heap.size+1; omega) _,((aU HCB).below h34 hclt).set _⟩⟩
  cases hsd:Sp.starred (aI x)
  ·cases ho:aI x == n
   ·rw [ho] at hBB
    gi_wp2_with fail
    refine ⟨trivial,rfl,?_⟩
    refine (CallsIn.inRound l' (callsIn_wide.2 (aU HCS _))).mono ?_
    rintro e W3 ⟨rfl,hW3⟩
    have h3:Below W.heap.size W W3:=by rw [hW3]; exact (Below.refl _ _).alloc (Nat.le_refl _) _
    have c3:W3.cell? ⟨W.heap.size,0,none⟩=some (.int .i64 1):=by rw [hW3]; go_simp
    have l3:W.heap.size<W3.heap.size:=by rw [hW3]; simp
    clear hW3
    have HC4:=aH (containsOther 1 W.heap.size b (off+x.1*4) x.2.length x.2 W3 c3 l3 ((aU HP).below h3) (by omega))
    gi_wp2_with fail
    refine ⟨trivial,rfl,?_⟩
    refine (CallsIn.inRound l' (callsIn_wide.2 (aU HC4))).mono ?_
    rintro e W4 ⟨rfl,hb4⟩
    have HE:=HFIN 1 W3 W4 h3 hb4 hsd (by rw [ho]; rfl)
    have b4:=(((aU HCB).below h3 hclt).below hb4 (Nat.lt_of_lt_of_le hclt h3.size))
    have cb4:=b4.cell
    have cf4:=b4.frozen
    clear HFIN b4
    cases hm:x.2.any (notP 1)
    ·gi_wp2_with fail
     exact (aU HE).1 hm
    ·gi_wp2_with fail
     obtain ⟨r1,r2⟩:=(aU HE).2 hm
     exact ⟨r1,rfl,r2⟩
   ·rw [ho] at hBB
    gi_wp2_with fail
    refine ⟨trivial,rfl,?_⟩
    refine (CallsIn.inRound l' (callsIn_wide.2 (aU HCS _))).mono ?_
    rintro e W3 ⟨rfl,hW3⟩
    have h3:Below W.heap.size W W3:=by rw [hW3]; exact (Below.refl _ _).alloc (Nat.le_refl _) _
    have c3:W3.cell? ⟨W.heap.size,0,none⟩=some (.int .i64 2):=by rw [hW3]; go_simp
    have l3:W.heap.size<W3.heap.size:=by rw [hW3]; simp
    clear hW3
    have HC4:=aH (containsOther 2 W.heap.size b (off+x.1*4) x.2.length x.2 W3 c3 l3 ((aU HP).below h3) (by omega))
    gi_wp2_with fail
    refine ⟨trivial,rfl,?_⟩
    refine (CallsIn.inRound l' (callsIn_wide.2 (aU HC4))).mono ?_
    rintro e W4 ⟨rfl,hb4⟩
    have HE:=HFIN 2 W3 W4 h3 hb4 hsd (by rw [ho]; rfl)
    have b4:=(((aU HCB).below h3 hclt).below hb4 (Nat.lt_of_lt_of_le hclt h3.size))
    have cb4:=b4.cell
    have cf4:=b4.frozen
    clear HFIN b4
    cases hm:x.2.any (notP 2)
    ·gi_wp2_with fail
     exact (aU HE).1 hm
    ·gi_wp2_with fail
     obtain ⟨r1,r2⟩:=(aU HE).2 hm
     exact ⟨r1,rfl,r2⟩
  ·have HF:Hid (rightCut rs n=false):=by
    rw [Hid,aU HS,cutOk,hsd]; rfl
   clear HFIN
   cases ho:aI x == n
   all_goals
    rw [ho] at hBB
    gi_wp2_with fail
    refine ⟨trivial,rfl,?_⟩
    refine (CallsIn.inRound l' (callsIn_wide.2 (aU HCS _))).mono ?_
    rintro e W3 ⟨rfl,hW3⟩
    have h3:Below W.heap.size W W3:=by
     rw [hW3]
     first
     | exact (Below.refl _ _).alloc (Nat.le_refl _) _
     | exact ((Below.refl _ _).alloc (Nat.le_refl _) _).setCell (p:=⟨W.heap.size,0,none⟩) (Nat.le_refl W.heap.size) _
    clear hW3
    have b4:=(aU HCB).below h3 hclt
    have cb4:=b4.cell
    have cf4:=b4.frozen
    have B4:=aH b4
    clear b4
    have s3:=h3.size
    gi_wp2_with fail
    refine ⟨trivial,?_⟩
    gi_wp2_with fail
    exact ⟨(It.Above.of_grown h3).trans (It.Above.setCell W3 _ _ (by omega)),rfl,aU HF,(hB.trans (h3.mono hB.size)).setCell (by show w.heap.size≤w.heap.size+1; omega) _,(aU B4).set _⟩
 case done =>
  intro W hI hdef hsz
  obtain ⟨hf,hB,hn',hc⟩:=hI
  have cb:=hc.cell
  have cf:=hc.frozen
  have HF:Hid (rightCut rs n=true):=by
   rw [Hid,← hf,List.drop_of_length_le (Nat.le_refl _)]; rfl
  clear hf
  gi_wp2_with fail
  have hd':=(Below.heap_setCell W ⟨w.heap.size+1,0,none⟩ (.bool true) W2.heap.size (by show W2.heap.size≠w.heap.size+1; omega)).trans hdef
  refine ⟨by simp,.inl ⟨_,_,rfl,run_takeDeferred hd',?_⟩⟩
  have cr:=((hc.set (.bool true)).put (d:=W2.heap.size) (o:=.deferred none) (by omega)).cell
  refine ⟨.bool true,by simp [results,Tryz.results111,go_sem,cr],by rw [aU HF],?_⟩
  exact (hB.setCell (by show w.heap.size≤w.heap.size+1; omega) _).trans (belowK_b (w:=W2) (by omega) _ _ _ _ (Nat.le_refl _) hd' rfl rfl)
 case stop =>
  intro c W hI hdef hsz
  obtain ⟨rfl,hof,hB,hc⟩:=hI
  have HF:=aH hof
  clear hof
  have cb:=hc.cell
  gi_wp2_with fail
  refine ⟨by simp,.inl ⟨_,_,rfl,run_takeDeferred hdef,?_⟩⟩
  have cr:=(hc.put (d:=W2.heap.size) (o:=.deferred none) (by omega)).cell
  have hB':=hB.trans (belowK_b (w:=W2) (show w.heap.size≤W2.heap.size by omega) W _ _ (.deferred none) (Nat.le_refl _) hdef rfl rfl)
  exact ⟨.bool false,by simp [results,Tryz.results111,go_sem,cr],by rw [aU HF],hB'⟩
end Ze
end Go.Proofs.YtkkpahmoljiepaaGreatDoor
