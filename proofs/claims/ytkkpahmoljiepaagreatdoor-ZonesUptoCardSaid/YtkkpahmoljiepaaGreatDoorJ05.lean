/- Contracts: records.Owners and what it gives. -/
import Derived.Test.YtkkpahmoljiepaaGreatDoorJ04
set_option linter.unusedSimpArgs false
set_option linter.unusedVariables false
set_option maxRecDepth 1000000
set_option maxHeartbeats 12800000
namespace Go.Proofs.YtkkpahmoljiepaaGreatDoor
open Go.RowKit
open Pu (Str aH aU)
attribute [local go_sem] Oper.semAt_some
def aI (x:Nat×List Rec):Str:=(x.2.headD Rec.zero).owner
namespace Iow
open Ka Kd Rg Ia
theorem owners_any (a:Option Addr) (n c:Nat) (w:World) :
  Calls Tryz.prog 109 #[.slice a n c] w fun e w'=>e=.returned (.func (.func 179) #[] #[.pointer (some ⟨w.heap.size,0,none⟩)])∧w'=w.alloc (.cells #[.slice a n c] 41):=by
 go_enter Tryz.func109,Tryz.ntmps109
 go_wp2
 go_ret
 exact ⟨rfl,rfl⟩
theorem runsP_piece (same:Rec→Rec→Bool) : ∀ (f k:Nat) (l:List Rec) (x:Nat×List Rec),x∈runsP same f k l→k≤x.1∧x.1+x.2.length≤k+l.length∧0<x.2.length∧x.2=(l.drop (x.1 - k)).take x.2.length
 | 0,k,l,x,h=>by simp [runsP] at h
 | f+1,k,[],x,h=>by simp [runsP] at h
 | f+1,k,r :: t,x,h=>by
  have hlen:=congrArg List.length (List.takeWhile_append_dropWhile (p:=same r) (l:=t))
  rw [List.length_append] at hlen
  rw [runsP,List.mem_cons] at h
  rcases h with rfl | h
  ·refine ⟨Nat.le_refl _,by simp; omega,by simp,?_⟩
   simp only [Nat.sub_self,List.drop_zero,List.length_cons,List.take_succ_cons]
   congr 1
   conv=>rhs; arg 2; rw [← List.takeWhile_append_dropWhile (p:=same r) (l:=t)]
   rw [List.take_left]
  ·obtain ⟨h1,h2,h3,h4⟩:=runsP_piece same f _ _ x h
   refine ⟨by omega,by simp; omega,h3,?_⟩
   have hd:(r :: t).drop (x.1 - k)=(t.dropWhile (same r)).drop (x.1 - (k+1+(t.takeWhile (same r)).length)):=by
    conv=>lhs; arg 2; arg 2; rw [← List.takeWhile_append_dropWhile (p:=same r) (l:=t)]
    rw [show x.1 - k=1+(t.takeWhile (same r)).length+(x.1 - (k+1+(t.takeWhile (same r)).length)) from by omega]
    rw [← List.drop_drop,show 1+(t.takeWhile (same r)).length=(r :: t.takeWhile (same r)).length from by simp; omega,← List.cons_append,List.drop_left]
   rw [hd]; exact h4
theorem runs_piece {same:Rec→Rec→Bool} {rs:List Rec} {x:Nat×List Rec} (h:x∈runs same rs):x.1+x.2.length≤rs.length∧0<x.2.length∧x.2=(rs.drop x.1).take x.2.length:=by
 obtain ⟨h1,h2,h3,h4⟩:=runsP_piece same _ _ _ _ h
 exact ⟨by omega,h3,by simpa using h4⟩
theorem bE.piece {w:World} {b off:Nat} {rs:List Rec} (h:bE w b off rs) {same:Rec→Rec→Bool} {x:Nat×List Rec} (hx:x∈runs same rs):bE w b (off+x.1*4) x.2:=by
 obtain ⟨_,_,h3⟩:=runs_piece hx
 rw [h3]
 exact (h.drop x.1).take _
theorem owner_head (x:Nat×List Rec) (h:0<x.2.length):x.2[0].owner=aI x:=by
 obtain ⟨k,l⟩:=x
 cases l with
 | nil=>simp at h
 | cons a t=>rfl
theorem owners_seq (b off cap bo:Nat) (rs:List Rec) (W0:World)
  (hl:W0.cell? ⟨bo,0,none⟩=some (.slice (some ⟨b,off,none⟩) rs.length cap)) (hr:bE W0 b off rs) (hbo':bo<W0.heap.size) (hlen:rs.length≤3001) (hcap:rs.length≤cap) :
  It.Seq Tryz.prog 179 #[.pointer (some ⟨bo,0,none⟩)] (fun x:Nat×List Rec=>#[.string (B (aI x)),.slice (some ⟨b,off+x.1*4,none⟩) x.2.length x.2.length]) (runs aG rs)
   (fun A B=>Below W0.heap.size A B) (fun A B=>B.heap[b]? = A.heap[b]?∧It.Above W0.heap.size A B) (fun A B=>It.Above W0.heap.size A B) W0:=by
 intro l J Jx hJ hJx hY h0
 have HY:=aH hY
 have HJ:=aH hJ
 have HJx:=aH hJx
 clear hY hJ hJx
 refine callsIn_of_wp_marks Tryz.func179 rfl trivial ?_
 simp only [Tryz.ntmps179,List.size_toArray,List.length_cons,List.length_nil,Nat.reduceAdd,Nat.reduceSub,Array.replicate_succ,Array.replicate_zero,List.push_toArray,List.append_toArray,List.nil_append,List.cons_append]
 have hb:b<W0.heap.size:=hr.1
 gi_wp2_with (refine ⟨trivial,rfl,?_⟩; gi_at_call 176; refine (callsIn_wide.2 (runs_any _ _ _ _ _)).mono ?_; rintro e w' ⟨rfl,rfl⟩)
 have e1:(((W0.alloc (.cells #[.func (.yield l) #[] #[]] 108)).alloc (.cells #[.slice (some ⟨b,off,none⟩) rs.length cap] 41)).alloc (.cells #[.func (.func 180) #[] #[]] 261)).cell? ⟨W0.heap.size,0,none⟩=some (.func (.yield l) #[] #[]):=by go_simp
 have e2:(((W0.alloc (.cells #[.func (.yield l) #[] #[]] 108)).alloc (.cells #[.slice (some ⟨b,off,none⟩) rs.length cap] 41)).alloc (.cells #[.func (.func 180) #[] #[]] 261)).cell? ⟨W0.heap.size+1,0,none⟩=some (.slice (some ⟨b,off,none⟩) rs.length cap):=by go_simp
 have e3:(((W0.alloc (.cells #[.func (.yield l) #[] #[]] 108)).alloc (.cells #[.slice (some ⟨b,off,none⟩) rs.length cap] 41)).alloc (.cells #[.func (.func 180) #[] #[]] 261)).cell? ⟨W0.heap.size+1+1,0,none⟩=some (.func (.func 180) #[] #[]):=by go_simp
 have e4:(((W0.alloc (.cells #[.func (.yield l) #[] #[]] 108)).alloc (.cells #[.slice (some ⟨b,off,none⟩) rs.length cap] 41)).alloc (.cells #[.func (.func 180) #[] #[]] 261)).heap.size=W0.heap.size+3:=by simp
 have e5:Below W0.heap.size W0 (((W0.alloc (.cells #[.func (.yield l) #[] #[]] 108)).alloc (.cells #[.slice (some ⟨b,off,none⟩) rs.length cap] 41)).alloc (.cells #[.func (.func 180) #[] #[]] 261)) :=
  (((Below.refl _ _).alloc (Nat.le_refl _) _).alloc (by simp) _).alloc (by simp; omega) _
 generalize ((W0.alloc (.cells #[.func (.yield l) #[] #[]] 108)).alloc (.cells #[.slice (some ⟨b,off,none⟩) rs.length cap] 41)).alloc (.cells #[.func (.func 180) #[] #[]] 261)=W2 at *
 have hgrow : ∀ r,Below W2.heap.size W2 ((W2.alloc (.deferred (some []))).alloc (.loop r)):=fun r=>((Below.refl _ _).alloc (Nat.le_refl _) _).alloc (by simp) _
 refine It.range (xs:=runs aG rs) (encs:=fun x:Nat×List Rec=>#[.slice (some ⟨b,off+x.1*4,none⟩) x.2.length x.2.length]) (St:=fun A B=>Below A.heap.size A B) (Kp:=It.Keep3 (W0.heap.size+1) (W0.heap.size+1+1) b) (Kx:=fun _ _=>True)
  (gf:=233) (lb:=#[.pointer (some ⟨W0.heap.size+1,0,none⟩),.pointer (some ⟨W0.heap.size+1+1,0,none⟩)]) rfl (enters_of Tryz.func233 (by kernel_rfl) rfl) (fun _=>rfl) ?seq
  (fun i W=>J i W∧W.heap[W0.heap.size]? = W2.heap[W0.heap.size]?∧W.heap[b]? = W2.heap[b]?∧W2.heap.size≤W.heap.size)
  (fun c W=>c=.ret∧Jx W∧W2.heap.size≤W.heap.size)
  ?hSt ?hI ?hIx ?hIp ?hIxp ?h0 (fun A B=>B.heap[b]? = A.heap[b]?∧It.Above W0.heap.size A B) ?hKp (fun _ _=>True) (fun _ _ _ _ _ _ _ _=>trivial)
  (fun x=>{ tmps:=#[.func (.yield l) #[] #[],.pointer (some ⟨bo,0,none⟩),.pointer (some ⟨W0.heap.size,0,none⟩),.func (.func 180) #[] #[],.slice (some ⟨b,off+x.1*4,none⟩) x.2.length x.2.length,
   .slice (some ⟨b,off,none⟩) rs.length cap,.func (.func 180) #[] #[],.func (.func 233) #[] #[.pointer (some ⟨W0.heap.size+1,0,none⟩),.pointer (some ⟨W0.heap.size+1+1,0,none⟩)],.slice (some ⟨b,off+x.1*4,none⟩) x.2.length x.2.length,undef,undef,undef,undef,undef,undef,undef,undef],defers:=[] })
  ?assign ?body ?done ?stop
 case seq =>
  intro r
  have hg:=hgrow r
  exact Ic.seq b off cap _ _ rs _ ((hg.cell (p:=⟨W0.heap.size+1,0,none⟩) (by show W0.heap.size+1<W2.heap.size; omega)).trans e2) ((hg.cell (p:=⟨W0.heap.size+1+1,0,none⟩) (by show W0.heap.size+1+1<W2.heap.size; omega)).trans e3) ((hr.below e5).below hg) (by have:=hg.size; omega) (by have:=hg.size; omega) hlen hcap
 case hSt=>exact fun A B hA hst=>⟨hst.size,hst.block _ (by omega),hst.block _ (by omega)⟩
 case hI=>exact fun i A B hA hst=>⟨aU HJ i A B hA.1 (hst.mono (by omega)),(hst.block _ (by omega)).trans hA.2.1,(hst.block _ (by omega)).trans hA.2.2.1,Nat.le_trans hA.2.2.2 hst.size⟩
 case hIx=>exact fun c A B hA hst=>⟨hA.1,aU HJx A B hA.2.1 (hst.mono (by omega)),Nat.le_trans hA.2.2 hst.size⟩
 case hIp =>
  intro i A r o hA hrec
  have hp:Below W0.heap.size A (A.putObj (W2.heap.size+1) o):=belowK_b (w:=W2) (by omega) A _ _ o (by omega) hrec rfl rfl
  exact ⟨aU HJ i A _ hA.1 hp,(World.putObj_heap_other (by omega)).trans hA.2.1,(World.putObj_heap_other (by omega)).trans hA.2.2.1,by rw [World.putObj_size]; exact hA.2.2.2⟩
 case hIxp =>
  intro c A r o hA hrec
  have hp:Below W0.heap.size A (A.putObj (W2.heap.size+1) o):=belowK_b (w:=W2) (by omega) A _ _ o (by omega) hrec rfl rfl
  exact ⟨hA.1,aU HJx A _ hA.2.1 hp,by rw [World.putObj_size]; exact hA.2.2⟩
 case h0 =>
  intro r
  have hg:=hgrow r
  exact ⟨aU HJ 0 _ _ h0 (e5.trans (hg.mono (by omega))),hg.block _ (by omega),hg.block _ (by omega),hg.size⟩
 case hKp =>
  intro W r r' r'' Wc hrec hk hL
  have hlt:W2.heap.size+1<W.heap.size:=(Array.getElem?_eq_some_iff.1 hrec).1
  have hs:=hk.2.1
  rw [World.putObj_size] at hs
  refine ⟨by rw [World.putObj_size]; exact hs,?_,?_,?_⟩
  ·rw [World.putObj_heap_other (by omega),hk.2.2 _ (by omega) (by rw [World.putObj_size]; omega),World.putObj_heap_other (by omega)]
  ·rw [World.putObj_heap_other (by omega),hk.2.2 _ (by omega) (by rw [World.putObj_size]; omega),World.putObj_heap_other (by omega)]
  ·rw [World.putObj_heap_other (by omega),hk.1,World.putObj_heap_other (by omega)]
 case assign =>
  intro l' x W K hK
  gi_wp2
  exact hK
 case body =>
  intro l' i x W hx hI hsz
  obtain ⟨hJi,hyb,hdb,hw2⟩:=hI
  have hmem:x∈runs aG rs:=List.mem_of_getElem? hx
  have hA:bE W b off rs:=Ia.bE.kept (hr.below e5) hw2 hdb
  have hP:=bE.piece hA hmem
  have hpos:=(runs_piece hmem).2.1
  obtain ⟨q0,q1,q2,q3⟩:=hP.four 0 hpos
  clear q1 q2 q3
  rw [Nat.zero_mul,Nat.add_zero,owner_head x hpos] at q0
  have cy:W.cell? ⟨W0.heap.size,0,none⟩=some (.func (.yield l) #[] #[]):=(World.cell?_of_block hyb).trans e1
  have hyi:=aU HY i x W.drew hx (aU HJ i _ _ hJi ((Below.refl _ _).drew))
  have hposI:(0:Int)<(x.2.length:Int):=by omega
  have hmx:Tryz.prog.follows .mixedOrders=true:=by kernel_rfl
  obtain ⟨fn,tmps,assign,body,hy,hR⟩:=hyi
  clear hA hP hmem
  have HL : ∀ W3,It.Above W0.heap.size W.drew W3→It.Loops W2.heap.size W W3:=fun W3 hk=>by
   have h2:It.Above W0.heap.size W W3:=hk
   exact ⟨h2.1,h2.2 _ (by omega) (by omega),h2.2 _ (by omega) (by omega)⟩
  have HN : ∀ W3,J (i+1) W3→W3.heap[b]? = W.drew.heap[b]?∧It.Above W0.heap.size W.drew W3→Hid (It.Loops W2.heap.size W W3∧(W3.heap[b]? = W.heap[b]?∧It.Above W0.heap.size W W3)∧(J (i+1) W3∧W3.heap[W0.heap.size]? = W2.heap[W0.heap.size]?∧W3.heap[b]? = W2.heap[b]?∧W2.heap.size≤W3.heap.size)):=fun W3 hj hk=>by
   have h1:=HL W3 hk.2
   have h2:W3.heap[b]? = W.heap[b]?∧It.Above W0.heap.size W W3:=hk
   exact ⟨h1,h2,hj,(h2.2.2 _ (Nat.le_refl _) (by omega)).trans hyb,h2.1.trans hdb,Nat.le_trans hw2 h1.1⟩
  have HX : ∀ W3,Jx W3→It.Above W0.heap.size W.drew W3→Hid (It.Loops W2.heap.size W W3∧(Jx W3∧W2.heap.size≤W3.heap.size)):=fun W3 hj hk=>by
   have h1:=HL W3 hk
   exact ⟨h1,hj,Nat.le_trans hw2 h1.1⟩
  clear HL
  gi_wp2_with fail
  refine Ir.region_round hmx (Ir.noDefer_spec (by kernel_rfl)) ?_
  refine wpAnyIn_take (i:=1) (v:=?_) rfl rfl (by kernel_rfl) (by kernel_rfl) (by kernel_rfl) (fun _ _ _ h=>h) ⟨Or.inl ⟨by rfl,by intro w; go_simp; first | done | with_reducible rfl⟩,fun _=>rfl⟩ ?_
  refine wpAnyIn_take (i:=2) (v:=?_) rfl rfl (by kernel_rfl) (by kernel_rfl) (by kernel_rfl) (fun _ _ _ h=>h) ⟨Or.inl ⟨by rfl,by intro w; go_simp; first | done | with_reducible rfl⟩,fun _=>rfl⟩ ?_
  refine wpAnyIn_take (i:=3) (v:=?_) rfl rfl (by kernel_rfl) (by kernel_rfl) (by kernel_rfl) (fun _ _ _ h=>h) ⟨Or.inl ⟨by rfl,by intro w; go_simp; first | done | with_reducible rfl⟩,fun _=>rfl⟩ ?_
  refine wpAnyIn_take (i:=5) (v:=?_) rfl rfl (by kernel_rfl) (by kernel_rfl) (by kernel_rfl) (fun _ _ _ h=>h) ⟨Or.inl ⟨by rfl,by intro w; go_simp; first | done | with_reducible rfl⟩,fun _=>rfl⟩ ?_
  refine wpAnyIn_ready (rs:=[0,4]) (by kernel_rfl) (by simp) ?_
  refine AllReadyIn.cons rfl (fun K hK=>?_) (AllReadyIn.cons rfl (fun K hK=>?_) AllReadyIn.nil)
  ·go_simp
   refine hK _ _ ?_
   clear hK K
   refine wpAnyIn_ready (rs:=[4]) (by kernel_rfl) (by simp) ?_
   refine AllReadyIn.cons rfl (fun K hK=>?_) AllReadyIn.nil
   go_simp
   refine hK _ _ ?_
   clear hK K
   refine wpAnyIn_ready (rs:=[6]) (by kernel_rfl) (by simp) ?_
   refine AllReadyIn.cons rfl (fun K hK=>?_) AllReadyIn.nil
   go_simp
   refine ⟨rfl,hR.mono ?_⟩
   rintro e W3 (⟨rfl,hJ4,hk4⟩ | ⟨rfl,hJx4,hk4⟩)
   ·refine hK _ _ ?_
    clear hK K
    refine wpAnyIn_ready (rs:=[7]) (by kernel_rfl) (by simp) ?_
    refine AllReadyIn.cons rfl (fun K hK=>?_) AllReadyIn.nil
    go_simp
    refine hK _ _ ?_
    clear hK K
    refine wpAnyIn_done (by kernel_rfl) ?_ _
    gi_wp2_with fail
    exact aU (HN W3 hJ4 hk4)
   ·refine hK _ _ ?_
    clear hK K
    refine wpAnyIn_ready (rs:=[7]) (by kernel_rfl) (by simp) ?_
    refine AllReadyIn.cons rfl (fun K hK=>?_) AllReadyIn.nil
    go_simp
    refine hK _ _ ?_
    clear hK K
    refine wpAnyIn_done (by kernel_rfl) ?_ _
    gi_wp2_with fail
    obtain ⟨r1,r3,r4⟩:=aU (HX W3 hJx4 hk4)
    exact ⟨r1,trivial,rfl,r3,r4⟩
  ·go_simp
   refine hK _ _ ?_
   clear hK K
   refine wpAnyIn_ready (rs:=[0]) (by kernel_rfl) (by simp) ?_
   refine AllReadyIn.cons rfl (fun K hK=>?_) AllReadyIn.nil
   go_simp
   refine hK _ _ ?_
   clear hK K
   refine wpAnyIn_ready (rs:=[6]) (by kernel_rfl) (by simp) ?_
   refine AllReadyIn.cons rfl (fun K hK=>?_) AllReadyIn.nil
   go_simp
   refine ⟨rfl,hR.mono ?_⟩
   rintro e W3 (⟨rfl,hJ4,hk4⟩ | ⟨rfl,hJx4,hk4⟩)
   ·refine hK _ _ ?_
    clear hK K
    refine wpAnyIn_ready (rs:=[7]) (by kernel_rfl) (by simp) ?_
    refine AllReadyIn.cons rfl (fun K hK=>?_) AllReadyIn.nil
    go_simp
    refine hK _ _ ?_
    clear hK K
    refine wpAnyIn_done (by kernel_rfl) ?_ _
    gi_wp2_with fail
    exact aU (HN W3 hJ4 hk4)
   ·refine hK _ _ ?_
    clear hK K
    refine wpAnyIn_ready (rs:=[7]) (by kernel_rfl) (by simp) ?_
    refine AllReadyIn.cons rfl (fun K hK=>?_) AllReadyIn.nil
    go_simp
    refine hK _ _ ?_
    clear hK K
    refine wpAnyIn_done (by kernel_rfl) ?_ _
    gi_wp2_with fail
    obtain ⟨r1,r3,r4⟩:=aU (HX W3 hJx4 hk4)
    exact ⟨r1,trivial,rfl,r3,r4⟩
 case done =>
  intro W hI hdef hsz
  gi_wp2
  refine ⟨by simp,.inl ⟨_,_,rfl,run_takeDeferred hdef,?_⟩⟩
  have hp:Below W0.heap.size W (W.putObj W2.heap.size (.deferred none)):=belowK_b (w:=W2) (by omega) W _ _ _ (Nat.le_refl _) hdef rfl rfl
  exact ⟨_,results_none rfl _ _ _,⟨_,rfl⟩,.inl (aU HJ _ _ _ hI.1 hp)⟩
 case stop =>
  intro c W hI hdef hsz
  obtain ⟨rfl,hJx',hw2⟩:=hI
  gi_wp2
  refine ⟨by simp,.inl ⟨_,_,rfl,run_takeDeferred hdef,?_⟩⟩
  have hp:Below W0.heap.size W (W.putObj W2.heap.size (.deferred none)):=belowK_b (w:=W2) (by omega) W _ _ _ (Nat.le_refl _) hdef rfl rfl
  exact ⟨_,results_none rfl _ _ _,⟨_,rfl⟩,.inr (aU HJx _ _ hJx' hp)⟩
end Iow
end Go.Proofs.YtkkpahmoljiepaaGreatDoor

set_option maxRecDepth 1000000
set_option maxHeartbeats 12800000
namespace Go.Proofs.YtkkpahmoljiepaaGreatDoor
open Go.RowKit
open Pu (Str aH aU)
attribute [local go_sem] Oper.semAt_some
def underRuns (n:Str) (rs:List Rec):List (Nat×List Rec):=(runs aG rs).filter (fun x=>Sp.under (aI x) n)
namespace Ie
open Ka Kd Rg Ia Iow
theorem under_mk (a:Option Addr) (n c:Nat) (s:ByteArray) (w:World) :
  Calls Tryz.prog 182 #[.slice a n c,.string s] w fun e w'=>e=.returned (.func (.func 235) #[] #[.pointer (some ⟨w.heap.size,0,none⟩),.pointer (some ⟨w.heap.size+1,0,none⟩)]) ∧
   w'=(w.alloc (.cells #[.slice a n c] 41)).alloc (.cells #[.string s] 9):=by
 go_enter Tryz.func182,Tryz.ntmps182
 go_wp2
 go_ret
 exact ⟨rfl,rfl⟩
theorem under_o (a:Option Addr) (n c:Nat) (s:ByteArray) (w:World) :
  Calls Tryz.prog 182 #[.slice a n c,.string s] w fun e w'=>e=.returned (.func (.func 235) #[] #[.pointer (some ⟨w.heap.size,0,none⟩),.pointer (some ⟨w.heap.size+1,0,none⟩)])∧w'.heap.size=w.heap.size+2∧Below w.heap.size w w' ∧
   w'.cell? ⟨w.heap.size,0,none⟩=some (.slice a n c)∧w'.cell? ⟨w.heap.size+1,0,none⟩=some (.string s):=by
 refine (under_mk a n c s w).mono ?_
 rintro e w' ⟨rfl,rfl⟩
 exact ⟨rfl,by simp,((Below.refl _ _).alloc (Nat.le_refl _) _).alloc (by simp) _,by go_simp,by go_simp⟩
def cnt (p:Nat×List Rec→Bool) (l:List (Nat×List Rec)) (i:Nat):Nat:=((l.take i).filter p).length
theorem cnt_end (p:Nat×List Rec→Bool) (l:List (Nat×List Rec)):cnt p l l.length=(l.filter p).length:=by unfold cnt; rw [List.take_length]
theorem cnt_no (p:Nat×List Rec→Bool) (l:List (Nat×List Rec)) (i:Nat) (x:Nat×List Rec) (h:l[i]? = some x) (hp:p x=false):cnt p l (i+1)=cnt p l i:=by
 obtain ⟨hi,rfl⟩:=List.getElem?_eq_some_iff.1 h
 unfold cnt
 rw [List.take_succ_eq_append_getElem hi,List.filter_append,List.length_append]
 simp [hp]
theorem cnt_yes (p:Nat×List Rec→Bool) (l:List (Nat×List Rec)) (i:Nat) (x:Nat×List Rec) (h:l[i]? = some x) (hp:p x=true):cnt p l (i+1)=cnt p l i+1∧(l.filter p)[cnt p l i]? = some x:=by
 obtain ⟨hi,rfl⟩:=List.getElem?_eq_some_iff.1 h
 unfold cnt
 refine ⟨?_,?_⟩
 ·rw [List.take_succ_eq_append_getElem hi,List.filter_append,List.length_append]
  simp [hp]
 ·have e:l.filter p=(l.take i).filter p++(l[i] :: (l.drop (i+1)).filter p):=by
   conv=>lhs; rw [← List.take_append_drop i l,List.drop_eq_getElem_cons hi]
   rw [List.filter_append,List.filter_cons_of_pos hp]
  rw [e,List.getElem?_append_right (Nat.le_refl _)]
  simp
theorem owner_mem {rs:List Rec} {x:Nat×List Rec} (hx:x∈runs aG rs) : ∃ r∈rs,r.owner=aI x:=by
 obtain ⟨h1,h2,h3⟩:=runs_piece hx
 have hall : ∀ y∈x.2,y∈rs:=by
  intro y hy
  rw [h3] at hy
  exact List.mem_of_mem_drop (List.mem_of_mem_take hy)
 exact ⟨x.2[0],hall _ (List.getElem_mem h2),owner_head x h2⟩
theorem under_seq (b off cap bz bn:Nat) (n:Str) (rs:List Rec) (W0:World)
  (hr:bE W0 b off rs) (hcap:rs.length≤cap) (hcz:W0.cell? ⟨bz,0,none⟩=some (.slice (some ⟨b,off,none⟩) rs.length cap)) (hcn:W0.cell? ⟨bn,0,none⟩=some (.string (B n)))
  (hbz:bz<W0.heap.size) (hbn:bn<W0.heap.size) (hlen:rs.length≤3001) (hn:n.length≤3000) (ho : ∀ r∈rs,r.owner.length≤3000) :
  It.Seq Tryz.prog 235 #[.pointer (some ⟨bz,0,none⟩),.pointer (some ⟨bn,0,none⟩)] (fun x:Nat×List Rec=>#[.string (B (aI x)),.slice (some ⟨b,off+x.1*4,none⟩) x.2.length x.2.length]) (underRuns n rs)
   (fun A B=>Below W0.heap.size A B) (fun A B=>(B.heap[b]? = A.heap[b]?∧B.heap[bn]? = A.heap[bn]?)∧It.Above W0.heap.size A B) (fun A B=>It.Above W0.heap.size A B) W0:=by
 intro l J Jx hJ hJx hY h0
 have HY:=aH hY
 have HJ:=aH hJ
 have HJx:=aH hJx
 clear hY hJ hJx
 have hb:b<W0.heap.size:=hr.1
 refine callsIn_of_wp_marks Tryz.func235 rfl trivial ?_
 simp only [Tryz.ntmps235,List.size_toArray,List.length_cons,List.length_nil,Nat.reduceAdd,Nat.reduceSub,Array.replicate_succ,Array.replicate_zero,List.push_toArray,List.append_toArray,List.nil_append,List.cons_append]
 gi_wp2_with (refine ⟨trivial,rfl,?_⟩; gi_at_call 109; refine (callsIn_wide.2 (owners_any _ _ _ _)).mono ?_; rintro e w' ⟨rfl,rfl⟩)
 have e1:((W0.alloc (.cells #[.func (.yield l) #[] #[]] 108)).alloc (.cells #[.slice (some ⟨b,off,none⟩) rs.length cap] 41)).cell? ⟨W0.heap.size,0,none⟩=some (.func (.yield l) #[] #[]):=by go_simp
 have e2:((W0.alloc (.cells #[.func (.yield l) #[] #[]] 108)).alloc (.cells #[.slice (some ⟨b,off,none⟩) rs.length cap] 41)).cell? ⟨W0.heap.size+1,0,none⟩=some (.slice (some ⟨b,off,none⟩) rs.length cap):=by go_simp
 have e4:((W0.alloc (.cells #[.func (.yield l) #[] #[]] 108)).alloc (.cells #[.slice (some ⟨b,off,none⟩) rs.length cap] 41)).heap.size=W0.heap.size+2:=by simp
 have e5:Below W0.heap.size W0 ((W0.alloc (.cells #[.func (.yield l) #[] #[]] 108)).alloc (.cells #[.slice (some ⟨b,off,none⟩) rs.length cap] 41)):=((Below.refl _ _).alloc (Nat.le_refl _) _).alloc (by simp) _
 generalize ((W0.alloc (.cells #[.func (.yield l) #[] #[]] 108)).alloc (.cells #[.slice (some ⟨b,off,none⟩) rs.length cap] 41))=W2 at *
 have hgrow : ∀ r,Below W2.heap.size W2 ((W2.alloc (.deferred (some []))).alloc (.loop r)):=fun r=>((Below.refl _ _).alloc (Nat.le_refl _) _).alloc (by simp) _
 have hgsz : ∀ r,((W2.alloc (.deferred (some []))).alloc (.loop r)).heap.size=W2.heap.size+2:=fun r=>by simp
 refine It.rangeW (xs:=runs aG rs) (encs:=fun x:Nat×List Rec=>#[.string (B (aI x)),.slice (some ⟨b,off+x.1*4,none⟩) x.2.length x.2.length]) (St:=fun A B=>Below (W2.heap.size+2) A B) (Kp:=fun A B=>B.heap[b]? = A.heap[b]?∧It.Above (W2.heap.size+2) A B) (Kx:=fun A B=>It.Above (W2.heap.size+2) A B)
  (gf:=179) (lb:=#[.pointer (some ⟨W0.heap.size+1,0,none⟩)]) rfl (enters_of Tryz.func179 (by kernel_rfl) rfl) (fun _=>rfl) ?seq
  (fun i W=>J (cnt (fun x=>Sp.under (aI x) n) (runs aG rs) i) W∧W.heap[W0.heap.size]? = W2.heap[W0.heap.size]?∧W.heap[bn]? = W2.heap[bn]?∧W2.heap.size≤W.heap.size)
  (fun c W=>c=.ret∧Jx W∧W2.heap.size≤W.heap.size)
  ?hSt ?hI ?hIx ?hIp ?hIxp ?h0 (fun A B=>(B.heap[b]? = A.heap[b]?∧B.heap[bn]? = A.heap[bn]?)∧It.Above W0.heap.size A B) ?hKp (fun A B=>It.Above W0.heap.size A B) ?hKx
  ?round ?done ?stop
 case seq =>
  intro r
  have hg:=hgrow r
  have:=owners_seq b off cap (W0.heap.size+1) rs ((W2.alloc (.deferred (some []))).alloc (.loop r)) ((hg.cell (p:=⟨W0.heap.size+1,0,none⟩) (by show W0.heap.size+1<W2.heap.size; omega)).trans e2) ((hr.below e5).below hg) (by have:=hg.size; omega) hlen hcap
  rw [hgsz r] at this
  exact this
 case hSt=>exact fun A B hA hst=>⟨hst.size,hst.block _ (by omega),hst.block _ (by omega)⟩
 case hI=>exact fun i A B hA hst=>⟨aU HJ _ A B hA.1 (hst.mono (by omega)),(hst.block _ (by omega)).trans hA.2.1,(hst.block _ (by omega)).trans hA.2.2.1,Nat.le_trans hA.2.2.2 hst.size⟩
 case hIx=>exact fun c A B hA hst=>⟨hA.1,aU HJx A B hA.2.1 (hst.mono (by omega)),Nat.le_trans hA.2.2 hst.size⟩
 case hIp =>
  intro i A r o hA hrec
  have hp:Below W0.heap.size A (A.putObj (W2.heap.size+1) o):=belowK_b (w:=W2) (by omega) A _ _ o (by omega) hrec rfl rfl
  exact ⟨aU HJ _ A _ hA.1 hp,(World.putObj_heap_other (by omega)).trans hA.2.1,(World.putObj_heap_other (by omega)).trans hA.2.2.1,by rw [World.putObj_size]; exact hA.2.2.2⟩
 case hIxp =>
  intro c A r o hA hrec
  have hp:Below W0.heap.size A (A.putObj (W2.heap.size+1) o):=belowK_b (w:=W2) (by omega) A _ _ o (by omega) hrec rfl rfl
  exact ⟨hA.1,aU HJx A _ hA.2.1 hp,by rw [World.putObj_size]; exact hA.2.2⟩
 case h0 =>
  intro r
  have hg:=hgrow r
  exact ⟨aU HJ 0 _ _ h0 (e5.trans (hg.mono (by omega))),hg.block _ (by omega),hg.block _ (by omega),hg.size⟩
 case hKp =>
  intro W r r' r'' Wc hrec hk hL
  have hlt:W2.heap.size+1<W.heap.size:=(Array.getElem?_eq_some_iff.1 hrec).1
  have hs:=hk.2.1
  rw [World.putObj_size] at hs
  refine ⟨by rw [World.putObj_heap_other (by omega),hk.1.1,World.putObj_heap_other (by omega)],by rw [World.putObj_size]; exact hs,fun k hk1 hk2=>?_⟩
  rw [World.putObj_heap_other (by omega),hk.2.2 _ (by omega) (by rw [World.putObj_size]; omega),World.putObj_heap_other (by omega)]
 case hKx =>
  intro W r r' r'' Wc hrec hk hL
  have hs:=hk.1
  rw [World.putObj_size] at hs
  refine ⟨by rw [World.putObj_size]; exact hs,fun k hk1 hk2=>?_⟩
  rw [World.putObj_heap_other (by omega),hk.2 _ (by omega) (by rw [World.putObj_size]; omega),World.putObj_heap_other (by omega)]
 case round =>
  intro l' i x V W hx hI hsz
  gi_wp2_with fail
  refine ⟨trivial,?_⟩
  obtain ⟨hJi,hyb,hdb,hw2⟩:=hI
  have hmem:x∈runs aG rs:=List.mem_of_getElem? hx
  obtain ⟨r,hrm,hro⟩:=owner_mem hmem
  have hol:(B (aI x)).size≤1000000:=by rw [size_B,← hro]; have:=ho r hrm; omega
  have hnl:(B n).size≤1000000:=by rw [size_B]; omega
  have cy:W.cell? ⟨W0.heap.size,0,none⟩=some (.func (.yield l) #[] #[]):=(World.cell?_of_block hyb).trans e1
  have cn:W.cell? ⟨bn,0,none⟩=some (.string (B n)):=(World.cell?_of_block hdb).trans ((e5.cell (p:=⟨bn,0,none⟩) hbn).trans hcn)
  have hcon:=under_any (B (aI x)) (B n) W hol hnl
  rw [data_B,data_B] at hcon
  have HCU:=aH hcon
  clear hcon hro hrm
  cases hu:Sp.under (aI x) n
  ·have hc:=cnt_no (fun x=>Sp.under (aI x) n) _ i x hx hu
   have HC:=aH hc
   have HJi:=aH hJi
   clear hc hJi
   gi_wp2_with (refine ⟨trivial,rfl,?_⟩; gi_at_call 110; refine (CallsIn.inRound l' (callsIn_wide.2 (aU HCU))).mono ?_; rintro e w' ⟨rfl,rfl⟩)
   refine ⟨fun _ h=>(by cases h),?_⟩
   gi_wp2_with fail
   exact ⟨⟨Nat.le_refl _,rfl,rfl⟩,⟨⟨rfl,rfl⟩,It.Above.refl _ _⟩,by rw [aU HC]; exact aU HJi,hyb,hdb,hw2⟩
  ·obtain ⟨hc,hxs⟩:=cnt_yes (fun x=>Sp.under (aI x) n) _ i x hx hu
   have hyi:=aU HY _ x W hxs hJi
   have HC:=aH hc
   have HN : ∀ W3,J (cnt (fun x=>Sp.under (aI x) n) (runs aG rs) i+1) W3→((W3.heap[b]? = W.heap[b]?∧W3.heap[bn]? = W.heap[bn]?)∧It.Above W0.heap.size W W3) →
     Hid (It.Loops W2.heap.size W W3∧((W3.heap[b]? = W.heap[b]?∧W3.heap[bn]? = W.heap[bn]?)∧It.Above W0.heap.size W W3)∧(J (cnt (fun x=>Sp.under (aI x) n) (runs aG rs) (i+1)) W3∧W3.heap[W0.heap.size]? = W2.heap[W0.heap.size]?∧W3.heap[bn]? = W2.heap[bn]?∧W2.heap.size≤W3.heap.size)):=fun W3 hj hk=>by
    have h2:=hk.2
    refine ⟨⟨h2.1,h2.2 _ (by omega) (by omega),h2.2 _ (by omega) (by omega)⟩,hk,?_,(h2.2 _ (Nat.le_refl _) (by omega)).trans hyb,hk.1.2.trans hdb,Nat.le_trans hw2 h2.1⟩
    rw [aU HC]; exact hj
   have HX : ∀ W3,Jx W3→It.Above W0.heap.size W W3→Hid (It.Loops W2.heap.size W W3∧It.Above W0.heap.size W W3∧(Jx W3∧W2.heap.size≤W3.heap.size)):=fun W3 hj h2 =>
    ⟨⟨h2.1,h2.2 _ (by omega) (by omega),h2.2 _ (by omega) (by omega)⟩,h2,hj,Nat.le_trans hw2 h2.1⟩
   obtain ⟨fn,tmps,assign,body,hy,hR⟩:=hyi
   clear hc hJi hxs
   gi_wp2_with (refine ⟨trivial,rfl,?_⟩; gi_at_call 110; refine (CallsIn.inRound l' (callsIn_wide.2 (aU HCU))).mono ?_; rintro e w' ⟨rfl,rfl⟩)
   refine ⟨rfl,hR.mono ?_⟩
   rintro e W3 (⟨rfl,hJ4,hk4⟩ | ⟨rfl,hJx4,hk4⟩)
   ·have HE:=HN W3 hJ4 hk4
    clear hJ4 hk4 HN HX
    gi_wp2_with fail
    exact aU HE
   ·have HE:=HX W3 hJx4 hk4
    clear hJx4 hk4 HN HX
    gi_wp2_with fail
    obtain ⟨r1,r2,r3,r4⟩:=aU HE
    exact ⟨r1,r2,rfl,r3,r4⟩
 case done =>
  intro W hI hdef hsz
  gi_wp2
  refine ⟨by simp,.inl ⟨_,_,rfl,run_takeDeferred hdef,?_⟩⟩
  have hp:Below W0.heap.size W (W.putObj W2.heap.size (.deferred none)):=belowK_b (w:=W2) (by omega) W _ _ _ (Nat.le_refl _) hdef rfl rfl
  have hj:=hI.1
  rw [cnt_end] at hj
  exact ⟨_,results_none rfl _ _ _,⟨_,rfl⟩,.inl (aU HJ _ _ _ hj hp)⟩
 case stop =>
  intro c W hI hdef hsz
  obtain ⟨rfl,hJx',hw2⟩:=hI
  gi_wp2
  refine ⟨by simp,.inl ⟨_,_,rfl,run_takeDeferred hdef,?_⟩⟩
  have hp:Below W0.heap.size W (W.putObj W2.heap.size (.deferred none)):=belowK_b (w:=W2) (by omega) W _ _ _ (Nat.le_refl _) hdef rfl rfl
  exact ⟨_,results_none rfl _ _ _,⟨_,rfl⟩,.inr (aU HJx _ _ hJx' hp)⟩
end Ie
end Go.Proofs.YtkkpahmoljiepaaGreatDoor
