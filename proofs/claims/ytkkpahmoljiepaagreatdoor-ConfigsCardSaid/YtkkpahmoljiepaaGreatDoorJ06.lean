/- Contracts: records.Under and what it gives. -/
import Derived.Test.YtkkpahmoljiepaaGreatDoorJ05
import Derived.Test.YtkkpahmoljiepaaGreatDoorJ02
import Derived.Test.YtkkpahmoljiepaaGreatDoorJ03
import Derived.Laws.IdiomStrings
import Derived.Test.YtkkpahmoljiepaaGreatDoorShelf
import Derived.Laws.MakeOwn
import Derived.Lib.SmallJoins
import Derived.Laws.OwnMore
import Derived.Deep.QuietTactic
import Derived.Deep.Quiet
import Derived.BigQuiet
set_option linter.unusedSimpArgs false
set_option linter.unusedVariables false
set_option maxRecDepth 1000000
set_option maxHeartbeats 12800000
namespace Go.Proofs.YtkkpahmoljiepaaGreatDoor
open Go.RowKit
open Pu (Str aH aU)
attribute [local go_sem] Oper.semAt_some
def underRuns (n:Str) (rs:List Rec):List (Nat×List Rec):=(runs aG rs).filter (fun x=>Sp.under (aI x) n)
namespace Ie
open Ka Kd Rg Ia Iow
theorem under_mk (a:Option Addr) (n c:Nat) (s:ByteArray) (w:World) :
  Calls Tryz.prog 182 #[.slice a n c,.string s] w fun e w'=>e=.returned (.func (.func 235) #[] #[.pointer (some ⟨w.heap.size,0,none⟩),.pointer (some ⟨w.heap.size+1,0,none⟩)]) ∧
   w'=(w.alloc (.cells #[.slice a n c] 41)).alloc (.cells #[.string s] 9):=by
 go_enter Tryz.func182,Tryz.ntmps182
 go_wp2
 go_ret
 exact ⟨rfl,rfl⟩
theorem under_o (a:Option Addr) (n c:Nat) (s:ByteArray) (w:World) :
  Calls Tryz.prog 182 #[.slice a n c,.string s] w fun e w'=>e=.returned (.func (.func 235) #[] #[.pointer (some ⟨w.heap.size,0,none⟩),.pointer (some ⟨w.heap.size+1,0,none⟩)])∧w'.heap.size=w.heap.size+2∧Below w.heap.size w w' ∧
   w'.cell? ⟨w.heap.size,0,none⟩=some (.slice a n c)∧w'.cell? ⟨w.heap.size+1,0,none⟩=some (.string s):=by
 refine (under_mk a n c s w).mono ?_
 rintro e w' ⟨rfl,rfl⟩
 exact ⟨rfl,by simp,((Below.refl _ _).alloc (Nat.le_refl _) _).alloc (by simp) _,by go_simp,by go_simp⟩
def cnt (p:Nat×List Rec→Bool) (l:List (Nat×List Rec)) (i:Nat):Nat:=((l.take i).filter p).length
theorem cnt_end (p:Nat×List Rec→Bool) (l:List (Nat×List Rec)):cnt p l l.length=(l.filter p).length:=by unfold cnt; rw [List.take_length]
theorem cnt_no (p:Nat×List Rec→Bool) (l:List (Nat×List Rec)) (i:Nat) (x:Nat×List Rec) (h:l[i]? = some x) (hp:p x=false):cnt p l (i+1)=cnt p l i:=by
 obtain ⟨hi,rfl⟩:=List.getElem?_eq_some_iff.1 h
 unfold cnt
 rw [List.take_succ_eq_append_getElem hi,List.filter_append,List.length_append]
 simp [hp]
theorem cnt_yes (p:Nat×List Rec→Bool) (l:List (Nat×List Rec)) (i:Nat) (x:Nat×List Rec) (h:l[i]? = some x) (hp:p x=true):cnt p l (i+1)=cnt p l i+1∧(l.filter p)[cnt p l i]? = some x:=by
 obtain ⟨hi,rfl⟩:=List.getElem?_eq_some_iff.1 h
 unfold cnt
 refine ⟨?_,?_⟩
 ·rw [List.take_succ_eq_append_getElem hi,List.filter_append,List.length_append]
  simp [hp]
 ·have e:l.filter p=(l.take i).filter p++(l[i] :: (l.drop (i+1)).filter p):=by
   conv=>lhs; rw [← List.take_append_drop i l,List.drop_eq_getElem_cons hi]
   rw [List.filter_append,List.filter_cons_of_pos hp]
  rw [e,List.getElem?_append_right (Nat.le_refl _)]
  simp
theorem owner_mem {rs:List Rec} {x:Nat×List Rec} (hx:x∈runs aG rs) : ∃ r∈rs,r.owner=aI x:=by
 obtain ⟨h1,h2,h3⟩:=runs_piece hx
 have hall : ∀ y∈x.2,y∈rs:=by
  intro y hy
  rw [h3] at hy
  exact List.mem_of_mem_drop (List.mem_of_mem_take hy)
 exact ⟨x.2[0],hall _ (List.getElem_mem h2),owner_head x h2⟩
theorem under_seq (b off cap bz bn:Nat) (n:Str) (rs:List Rec) (W0:World)
  (hr:bE W0 b off rs) (hcap:rs.length≤cap) (hcz:W0.cell? ⟨bz,0,none⟩=some (.slice (some ⟨b,off,none⟩) rs.length cap)) (hcn:W0.cell? ⟨bn,0,none⟩=some (.string (B n)))
  (hbz:bz<W0.heap.size) (hbn:bn<W0.heap.size) (hlen:rs.length≤3001) (hn:n.length≤3000) (ho : ∀ r∈rs,r.owner.length≤3000) :
  It.Seq Tryz.prog 235 #[.pointer (some ⟨bz,0,none⟩),.pointer (some ⟨bn,0,none⟩)] (fun x:Nat×List Rec=>#[.string (B (aI x)),.slice (some ⟨b,off+x.1*4,none⟩) x.2.length x.2.length]) (underRuns n rs)
   (fun A B=>Below W0.heap.size A B) (fun A B=>(B.heap[b]? = A.heap[b]?∧B.heap[bn]? = A.heap[bn]?)∧It.Above W0.heap.size A B) (fun A B=>It.Above W0.heap.size A B) W0:=by
 intro l J Jx hJ hJx hY h0
 have HY:=aH hY
 have HJ:=aH hJ
 have HJx:=aH hJx
 clear hY hJ hJx
 have hb:b<W0.heap.size:=hr.1
 refine callsIn_of_wp_marks Tryz.func235 rfl trivial ?_
 simp only [Tryz.ntmps235,List.size_toArray,List.length_cons,List.length_nil,Nat.reduceAdd,Nat.reduceSub,Array.replicate_succ,Array.replicate_zero,List.push_toArray,List.append_toArray,List.nil_append,List.cons_append]
 gi_wp2_with (refine ⟨trivial,rfl,?_⟩; gi_at_call 109; refine (callsIn_wide.2 (owners_any _ _ _ _)).mono ?_; rintro e w' ⟨rfl,rfl⟩)
 have e1:((W0.alloc (.cells #[.func (.yield l) #[] #[]] 108)).alloc (.cells #[.slice (some ⟨b,off,none⟩) rs.length cap] 41)).cell? ⟨W0.heap.size,0,none⟩=some (.func (.yield l) #[] #[]):=by go_simp
 have e2:((W0.alloc (.cells #[.func (.yield l) #[] #[]] 108)).alloc (.cells #[.slice (some ⟨b,off,none⟩) rs.length cap] 41)).cell? ⟨W0.heap.size+1,0,none⟩=some (.slice (some ⟨b,off,none⟩) rs.length cap):=by go_simp
 have e4:((W0.alloc (.cells #[.func (.yield l) #[] #[]] 108)).alloc (.cells #[.slice (some ⟨b,off,none⟩) rs.length cap] 41)).heap.size=W0.heap.size+2:=by simp
 have e5:Below W0.heap.size W0 ((W0.alloc (.cells #[.func (.yield l) #[] #[]] 108)).alloc (.cells #[.slice (some ⟨b,off,none⟩) rs.length cap] 41)):=((Below.refl _ _).alloc (Nat.le_refl _) _).alloc (by simp) _
 generalize ((W0.alloc (.cells #[.func (.yield l) #[] #[]] 108)).alloc (.cells #[.slice (some ⟨b,off,none⟩) rs.length cap] 41))=W2 at *
 have hgrow : ∀ r,Below W2.heap.size W2 ((W2.alloc (.deferred (some []))).alloc (.loop r)):=fun r=>((Below.refl _ _).alloc (Nat.le_refl _) _).alloc (by simp) _
 have hgsz : ∀ r,((W2.alloc (.deferred (some []))).alloc (.loop r)).heap.size=W2.heap.size+2:=fun r=>by simp
 refine It.rangeW (xs:=runs aG rs) (encs:=fun x:Nat×List Rec=>#[.string (B (aI x)),.slice (some ⟨b,off+x.1*4,none⟩) x.2.length x.2.length]) (St:=fun A B=>Below (W2.heap.size+2) A B) (Kp:=fun A B=>B.heap[b]? = A.heap[b]?∧It.Above (W2.heap.size+2) A B) (Kx:=fun A B=>It.Above (W2.heap.size+2) A B)
  (gf:=179) (lb:=#[.pointer (some ⟨W0.heap.size+1,0,none⟩)]) rfl (enters_of Tryz.func179 (by kernel_rfl) rfl) (fun _=>rfl) ?seq
  (fun i W=>J (cnt (fun x=>Sp.under (aI x) n) (runs aG rs) i) W∧W.heap[W0.heap.size]? = W2.heap[W0.heap.size]?∧W.heap[bn]? = W2.heap[bn]?∧W2.heap.size≤W.heap.size)
  (fun c W=>c=.ret∧Jx W∧W2.heap.size≤W.heap.size)
  ?hSt ?hI ?hIx ?hIp ?hIxp ?h0 (fun A B=>(B.heap[b]? = A.heap[b]?∧B.heap[bn]? = A.heap[bn]?)∧It.Above W0.heap.size A B) ?hKp (fun A B=>It.Above W0.heap.size A B) ?hKx
  ?round ?done ?stop
 case seq =>
  intro r
  have hg:=hgrow r
  have:=owners_seq b off cap (W0.heap.size+1) rs ((W2.alloc (.deferred (some []))).alloc (.loop r)) ((hg.cell (p:=⟨W0.heap.size+1,0,none⟩) (by show W0.heap.size+1<W2.heap.size; omega)).trans e2) ((hr.below e5).below hg) (by have:=hg.size; omega) hlen hcap
  rw [hgsz r] at this
  exact this
 case hSt=>exact fun A B hA hst=>⟨hst.size,hst.block _ (by omega),hst.block _ (by omega)⟩
 case hI=>exact fun i A B hA hst=>⟨aU HJ _ A B hA.1 (hst.mono (by omega)),(hst.block _ (by omega)).trans hA.2.1,(hst.block _ (by omega)).trans hA.2.2.1,Nat.le_trans hA.2.2.2 hst.size⟩
 case hIx=>exact fun c A B hA hst=>⟨hA.1,aU HJx A B hA.2.1 (hst.mono (by omega)),Nat.le_trans hA.2.2 hst.size⟩
 case hIp =>
  intro i A r o hA hrec
  have hp:Below W0.heap.size A (A.putObj (W2.heap.size+1) o):=belowK_b (w:=W2) (by omega) A _ _ o (by omega) hrec rfl rfl
  exact ⟨aU HJ _ A _ hA.1 hp,(World.putObj_heap_other (by omega)).trans hA.2.1,(World.putObj_heap_other (by omega)).trans hA.2.2.1,by rw [World.putObj_size]; exact hA.2.2.2⟩
 case hIxp =>
  intro c A r o hA hrec
  have hp:Below W0.heap.size A (A.putObj (W2.heap.size+1) o):=belowK_b (w:=W2) (by omega) A _ _ o (by omega) hrec rfl rfl
  exact ⟨hA.1,aU HJx A _ hA.2.1 hp,by rw [World.putObj_size]; exact hA.2.2⟩
 case h0 =>
  intro r
  have hg:=hgrow r
  exact ⟨aU HJ 0 _ _ h0 (e5.trans (hg.mono (by omega))),hg.block _ (by omega),hg.block _ (by omega),hg.size⟩
 case hKp =>
  intro W r r' r'' Wc hrec hk hL
  have hlt:W2.heap.size+1<W.heap.size:=(Array.getElem?_eq_some_iff.1 hrec).1
  have hs:=hk.2.1
  rw [World.putObj_size] at hs
  refine ⟨by rw [World.putObj_heap_other (by omega),hk.1.1,World.putObj_heap_other (by omega)],by rw [World.putObj_size]; exact hs,fun k hk1 hk2=>?_⟩
  rw [World.putObj_heap_other (by omega),hk.2.2 _ (by omega) (by rw [World.putObj_size]; omega),World.putObj_heap_other (by omega)]
 case hKx =>
  intro W r r' r'' Wc hrec hk hL
  have hs:=hk.1
  rw [World.putObj_size] at hs
  refine ⟨by rw [World.putObj_size]; exact hs,fun k hk1 hk2=>?_⟩
  rw [World.putObj_heap_other (by omega),hk.2 _ (by omega) (by rw [World.putObj_size]; omega),World.putObj_heap_other (by omega)]
 case round =>
  intro l' i x V W hx hI hsz
  gi_wp2_with fail
  refine ⟨trivial,?_⟩
  obtain ⟨hJi,hyb,hdb,hw2⟩:=hI
  have hmem:x∈runs aG rs:=List.mem_of_getElem? hx
  obtain ⟨r,hrm,hro⟩:=owner_mem hmem
  have hol:(B (aI x)).size≤1000000:=by rw [size_B,← hro]; have:=ho r hrm; omega
  have hnl:(B n).size≤1000000:=by rw [size_B]; omega
  have cy:W.cell? ⟨W0.heap.size,0,none⟩=some (.func (.yield l) #[] #[]):=(World.cell?_of_block hyb).trans e1
  have cn:W.cell? ⟨bn,0,none⟩=some (.string (B n)):=(World.cell?_of_block hdb).trans ((e5.cell (p:=⟨bn,0,none⟩) hbn).trans hcn)
  have hcon:=under_any (B (aI x)) (B n) W hol hnl
  rw [data_B,data_B] at hcon
  have HCU:=aH hcon
  clear hcon hro hrm
  cases hu:Sp.under (aI x) n
  ·have hc:=cnt_no (fun x=>Sp.under (aI x) n) _ i x hx hu
   have HC:=aH hc
   have HJi:=aH hJi
   clear hc hJi
   gi_wp2_with (refine ⟨trivial,rfl,?_⟩; gi_at_call 110; refine (CallsIn.inRound l' (callsIn_wide.2 (aU HCU))).mono ?_; rintro e w' ⟨rfl,rfl⟩)
   refine ⟨fun _ h=>(by cases h),?_⟩
   gi_wp2_with fail
   exact ⟨⟨Nat.le_refl _,rfl,rfl⟩,⟨⟨rfl,rfl⟩,It.Above.refl _ _⟩,by rw [aU HC]; exact aU HJi,hyb,hdb,hw2⟩
  ·obtain ⟨hc,hxs⟩:=cnt_yes (fun x=>Sp.under (aI x) n) _ i x hx hu
   have hyi:=aU HY _ x W hxs hJi
   have HC:=aH hc
   have HN : ∀ W3,J (cnt (fun x=>Sp.under (aI x) n) (runs aG rs) i+1) W3→((W3.heap[b]? = W.heap[b]?∧W3.heap[bn]? = W.heap[bn]?)∧It.Above W0.heap.size W W3) →
     Hid (It.Loops W2.heap.size W W3∧((W3.heap[b]? = W.heap[b]?∧W3.heap[bn]? = W.heap[bn]?)∧It.Above W0.heap.size W W3)∧(J (cnt (fun x=>Sp.under (aI x) n) (runs aG rs) (i+1)) W3∧W3.heap[W0.heap.size]? = W2.heap[W0.heap.size]?∧W3.heap[bn]? = W2.heap[bn]?∧W2.heap.size≤W3.heap.size)):=fun W3 hj hk=>by
    have h2:=hk.2
    refine ⟨⟨h2.1,h2.2 _ (by omega) (by omega),h2.2 _ (by omega) (by omega)⟩,hk,?_,(h2.2 _ (Nat.le_refl _) (by omega)).trans hyb,hk.1.2.trans hdb,Nat.le_trans hw2 h2.1⟩
    rw [aU HC]; exact hj
   have HX : ∀ W3,Jx W3→It.Above W0.heap.size W W3→Hid (It.Loops W2.heap.size W W3∧It.Above W0.heap.size W W3∧(Jx W3∧W2.heap.size≤W3.heap.size)):=fun W3 hj h2 =>
    ⟨⟨h2.1,h2.2 _ (by omega) (by omega),h2.2 _ (by omega) (by omega)⟩,h2,hj,Nat.le_trans hw2 h2.1⟩
   obtain ⟨fn,tmps,assign,body,hy,hR⟩:=hyi
   clear hc hJi hxs
   gi_wp2_with (refine ⟨trivial,rfl,?_⟩; gi_at_call 110; refine (CallsIn.inRound l' (callsIn_wide.2 (aU HCU))).mono ?_; rintro e w' ⟨rfl,rfl⟩)
   refine ⟨rfl,hR.mono ?_⟩
   rintro e W3 (⟨rfl,hJ4,hk4⟩ | ⟨rfl,hJx4,hk4⟩)
   ·have HE:=HN W3 hJ4 hk4
    clear hJ4 hk4 HN HX
    gi_wp2_with fail
    exact aU HE
   ·have HE:=HX W3 hJx4 hk4
    clear hJx4 hk4 HN HX
    gi_wp2_with fail
    obtain ⟨r1,r2,r3,r4⟩:=aU HE
    exact ⟨r1,r2,rfl,r3,r4⟩
 case done =>
  intro W hI hdef hsz
  gi_wp2
  refine ⟨by simp,.inl ⟨_,_,rfl,run_takeDeferred hdef,?_⟩⟩
  have hp:Below W0.heap.size W (W.putObj W2.heap.size (.deferred none)):=belowK_b (w:=W2) (by omega) W _ _ _ (Nat.le_refl _) hdef rfl rfl
  have hj:=hI.1
  rw [cnt_end] at hj
  exact ⟨_,results_none rfl _ _ _,⟨_,rfl⟩,.inl (aU HJ _ _ _ hj hp)⟩
 case stop =>
  intro c W hI hdef hsz
  obtain ⟨rfl,hJx',hw2⟩:=hI
  gi_wp2
  refine ⟨by simp,.inl ⟨_,_,rfl,run_takeDeferred hdef,?_⟩⟩
  have hp:Below W0.heap.size W (W.putObj W2.heap.size (.deferred none)):=belowK_b (w:=W2) (by omega) W _ _ _ (Nat.le_refl _) hdef rfl rfl
  exact ⟨_,results_none rfl _ _ _,⟨_,rfl⟩,.inr (aU HJx _ _ hJx' hp)⟩
end Ie
end Go.Proofs.YtkkpahmoljiepaaGreatDoor

set_option maxRecDepth 1000000
set_option maxHeartbeats 12800000
namespace Go.Proofs.YtkkpahmoljiepaaGreatDoor
open Go.RowKit
open Pu (Str aH aU)
attribute [local go_sem] Oper.semAt_some
def ofP (rs:List Rec) (n:Str):List Rec :=
 match (runs aG rs).find? (fun x=>aI x == n) with
 | some x=>x.2
 | none=>[]
def Lies (v:Value) (b off:Nat) (rs:List Rec):Prop:=(v=.slice none 0 0∧rs = [])∨∃ cap,v=.slice (some ⟨b,off,none⟩) rs.length cap∧rs.length≤cap
def Piece (b off:Nat) (rs:List Rec) (v:Value) (l:List Rec):Prop:=(v=.slice none 0 0∧l = [])∨∃ k,(v=.slice (some ⟨b,off+k*4,none⟩) l.length l.length∧k+l.length≤rs.length∧l=(rs.drop k).take l.length)
theorem Piece.at {w:World} {b off:Nat} {rs l:List Rec} {v:Value} (h:Piece b off rs v l) (hr:bE w b off rs) : ∃ o',bE w b o' l∧Lies v b o' l∧∀ same,∀ x∈runs same l,Piece b off rs (.slice (some ⟨b,o'+x.1*4,none⟩) x.2.length x.2.length) x.2:=by
 rcases h with ⟨rfl,rfl⟩ | ⟨k,rfl,hk,hl⟩
 ·exact ⟨off,⟨hr.1,fun j hj=>by simp at hj⟩,.inl ⟨rfl,rfl⟩,fun same x hx=>by simp [runs,runsP] at hx⟩
 ·refine ⟨off+k*4,by rw [hl]; exact (hr.drop k).take _,.inr ⟨_,rfl,Nat.le_refl _⟩,fun same x hx=>.inr ⟨k+x.1,?_,?_,?_⟩⟩
  ·rw [Nat.add_assoc,← Nat.add_mul]
  ·have:=(Iow.runs_piece hx).1; omega
  ·obtain ⟨h1,_,h3⟩:=Iow.runs_piece hx
   conv=>lhs; rw [h3,hl]
   rw [List.drop_take,List.take_take,List.drop_drop,Nat.min_eq_left (by omega)]
theorem Piece.rv {w:World} {b off:Nat} {rs l:List Rec} {v:Value} (h:Piece b off rs v l) (hr:bE w b off rs):RV w v l:=by
 obtain ⟨o',h1,h2,_⟩:=h.at hr
 rcases h2 with h2 | ⟨cap,rfl,hc⟩
 ·exact .inl h2
 ·exact .inr ⟨b,o',cap,rfl,hc,h1⟩
theorem Piece.slice {b off:Nat} {rs l:List Rec} {v:Value} (h:Piece b off rs v l) : ∃ a c,v=.slice a l.length c:=by
 rcases h with ⟨rfl,rfl⟩ | ⟨k,rfl,_,_⟩
 ·exact ⟨none,0,rfl⟩
 ·exact ⟨_,_,rfl⟩
theorem Piece.of_run {b off:Nat} {rs:List Rec} {same:Rec→Rec→Bool} {x:Nat×List Rec} (hx:x∈runs same rs):Piece b off rs (.slice (some ⟨b,off+x.1*4,none⟩) x.2.length x.2.length) x.2 :=
 .inr ⟨x.1,rfl,(Iow.runs_piece hx).1,(Iow.runs_piece hx).2.2⟩
namespace Zb
open Ka Kd Rg Ia Iow Ie
theorem find_step {p:Nat×List Rec→Bool} {l:List (Nat×List Rec)} {i:Nat} {x:Nat×List Rec} (h:l[i]? = some x):(l.drop i).find? p=if p x then some x else (l.drop (i+1)).find? p:=by
 obtain ⟨hi,rfl⟩:=List.getElem?_eq_some_iff.1 h
 rw [List.drop_eq_getElem_cons hi,List.find?_cons]
 cases p l[i] <;> rfl
theorem of_any (b off cap:Nat) (n:Str) (rs:List Rec) (w:World) (hr:bE w b off rs) (hcap:rs.length≤cap) (hlen:rs.length≤3001) :
  Calls Tryz.prog 184 #[.slice (some ⟨b,off,none⟩) rs.length cap,.string (B n)] w fun e w'=>(∃ v,e=.returned v∧Piece b off rs v (ofP rs n))∧Below w.heap.size w w':=by
 refine (callsIn_wide (n:=0)).1 ?_
 refine callsIn_of_wp_marks Tryz.func184 rfl trivial ?_
 simp only [Tryz.ntmps184,List.size_toArray,List.length_cons,List.length_nil,Nat.reduceAdd,Nat.reduceSub,Array.replicate_succ,Array.replicate_zero,List.push_toArray,List.append_toArray,List.nil_append,List.cons_append]
 have HR:=aH hr
 have hb:=hr.1
 clear hr
 gi_wp2_with (refine ⟨trivial,rfl,?_⟩; gi_at_call 109; refine (callsIn_wide.2 (owners_any _ _ _ _)).mono ?_; rintro e w' ⟨rfl,rfl⟩)
 have e0:It.Box (((w.alloc (.cells #[.string (B n)] 9)).alloc (.cells #[.slice none 0 0] 41)).alloc (.cells #[.slice (some ⟨b,off,none⟩) rs.length cap] 41)) w.heap.size (.string (B n)) 9:=((It.Box.new _ _ _).alloc _).alloc _
 have e1:It.Box (((w.alloc (.cells #[.string (B n)] 9)).alloc (.cells #[.slice none 0 0] 41)).alloc (.cells #[.slice (some ⟨b,off,none⟩) rs.length cap] 41)) (w.heap.size+1) (.slice none 0 0) 41:=by
  have:=(It.Box.new (w.alloc (.cells #[.string (B n)] 9)) (.slice none 0 0) 41).alloc (.cells #[.slice (some ⟨b,off,none⟩) rs.length cap] 41)
  rwa [World.size_alloc] at this
 have e2:(((w.alloc (.cells #[.string (B n)] 9)).alloc (.cells #[.slice none 0 0] 41)).alloc (.cells #[.slice (some ⟨b,off,none⟩) rs.length cap] 41)).cell? ⟨w.heap.size+1+1,0,none⟩=some (.slice (some ⟨b,off,none⟩) rs.length cap):=by go_simp
 have e4:(((w.alloc (.cells #[.string (B n)] 9)).alloc (.cells #[.slice none 0 0] 41)).alloc (.cells #[.slice (some ⟨b,off,none⟩) rs.length cap] 41)).heap.size=w.heap.size+3:=by simp
 have e5:Below w.heap.size w (((w.alloc (.cells #[.string (B n)] 9)).alloc (.cells #[.slice none 0 0] 41)).alloc (.cells #[.slice (some ⟨b,off,none⟩) rs.length cap] 41)):=(((Below.refl _ _).alloc (Nat.le_refl _) _).alloc (by simp) _).alloc (by simp; omega) _
 generalize ((w.alloc (.cells #[.string (B n)] 9)).alloc (.cells #[.slice none 0 0] 41)).alloc (.cells #[.slice (some ⟨b,off,none⟩) rs.length cap] 41)=W2 at *
 have hgrow : ∀ r,Below W2.heap.size W2 ((W2.alloc (.deferred (some []))).alloc (.loop r)):=fun r=>((Below.refl _ _).alloc (Nat.le_refl _) _).alloc (by simp) _
 have hgsz : ∀ r,((W2.alloc (.deferred (some []))).alloc (.loop r)).heap.size=W2.heap.size+2:=fun r=>by simp
 refine It.rangeB (xs:=runs aG rs) (encs:=fun x:Nat×List Rec=>#[.string (B (aI x)),.slice (some ⟨b,off+x.1*4,none⟩) x.2.length x.2.length]) (St:=fun A B=>Below (W2.heap.size+2) A B) (Kp:=fun A B=>B.heap[b]? = A.heap[b]?∧It.Above (W2.heap.size+2) A B) (Kx:=fun A B=>It.Above (W2.heap.size+2) A B)
  (gf:=179) (lb:=#[.pointer (some ⟨w.heap.size+1+1,0,none⟩)]) rfl (enters_of Tryz.func179 (by kernel_rfl) rfl) (fun _=>rfl) ?seq
  [b] (by simp; omega) (fun _ _ _ h=>h) (fun A B h h'=>⟨h _ (by simp),h'⟩) (fun _ _ h=>h)
  (fun i W=>((runs aG rs).drop i).find? (fun x=>aI x == n)=(runs aG rs).find? (fun x=>aI x == n)∧Below w.heap.size w W∧It.Box W w.heap.size (.string (B n)) 9∧It.Box W (w.heap.size+1) (.slice none 0 0) 41)
  (fun c W=>c=.ret∧Below w.heap.size w W∧∃ x,x∈runs aG rs∧ofP rs n=x.2∧It.Box W (w.heap.size+1) (.slice (some ⟨b,off+x.1*4,none⟩) x.2.length x.2.length) 41)
  (fun i A B h hb=>⟨h.1,h.2.1.trans (hb.mono (by omega)),h.2.2.1.below hb (by omega),h.2.2.2.below hb (by omega)⟩)
  (fun c A B h hb=>⟨h.1,h.2.1.trans (hb.mono (by omega)),by obtain ⟨x,h1,h2,h3⟩:=h.2.2; exact ⟨x,h1,h2,h3.below hb (by omega)⟩⟩)
  ⟨rfl,e5,e0,e1⟩
  ?round ?done ?stop
 case seq =>
  intro r
  have hg:=hgrow r
  have:=owners_seq b off cap (w.heap.size+1+1) rs ((W2.alloc (.deferred (some []))).alloc (.loop r)) ((hg.cell (p:=⟨w.heap.size+1+1,0,none⟩) (by show w.heap.size+1+1<W2.heap.size; omega)).trans e2) (((aU HR).below e5).below hg) (by have:=hg.size; omega) hlen hcap
  rw [hgsz r] at this
  exact this
 case round =>
  intro l' i x V W hx hI hsz
  gi_wp2_with fail
  refine ⟨trivial,?_⟩
  obtain ⟨hf,hB,hn',hc⟩:=hI
  have cn:=hn'.cell
  have cb:=hc.cell
  have cf:=hc.frozen
  have hBB:((B (aI x)).toList == (B n).toList)=(aI x == n):=B_inj
  have hst:=find_step (p:=fun x=>aI x == n) hx
  rw [hf] at hst
  have HS:=aH hst
  have HNB:=aH hn'
  have HCB:=aH hc
  clear hf hst hn' hc
  cases ho:aI x == n
  ·rw [ho] at hBB
   have HF:Hid (((runs aG rs).drop (i+1)).find? (fun x=>aI x == n)=(runs aG rs).find? (fun x=>aI x == n)):=by
    rw [Hid,aU HS,if_neg (by simp [ho])]
   gi_wp2_with fail
   exact ⟨It.Above.refl _ _,by simp,aU HF,hB,aU HNB,aU HCB⟩
  ·rw [ho] at hBB
   have HF:Hid (ofP rs n=x.2):=by
    unfold ofP
    rw [Hid,aU HS,if_pos ho]
   gi_wp2_with fail
   exact ⟨It.Above.setCell W _ _ (by omega),rfl,hB.setCell (by show w.heap.size≤w.heap.size+1; omega) _,x,List.mem_of_getElem? hx,aU HF,(aU HCB).set _⟩
 case done =>
  intro W hI hdef hsz
  obtain ⟨hf,hB,hn',hc⟩:=hI
  have cb:=hc.cell
  have cf:=hc.frozen
  have HF:Hid (ofP rs n = []):=by
   unfold ofP
   rw [Hid,← hf,List.drop_of_length_le (Nat.le_refl _)]; rfl
  clear hf
  gi_wp2_with fail
  have hd':=(Below.heap_setCell W ⟨w.heap.size+1,0,none⟩ (.slice none 0 0) W2.heap.size (by show W2.heap.size≠w.heap.size+1; omega)).trans hdef
  refine ⟨by simp,.inl ⟨_,_,rfl,run_takeDeferred hd',?_⟩⟩
  have cr:=((hc.set (.slice none 0 0)).put (d:=W2.heap.size) (o:=.deferred none) (by omega)).cell
  refine ⟨.slice none 0 0,by simp [results,Tryz.results184,go_sem,cr],⟨_,rfl,.inl ⟨rfl,aU HF⟩⟩,?_⟩
  exact (hB.setCell (by show w.heap.size≤w.heap.size+1; omega) _).trans (belowK_b (w:=W2) (by omega) _ _ _ _ (Nat.le_refl _) hd' rfl rfl)
 case stop =>
  intro c W hI hdef hsz
  obtain ⟨rfl,hB,x,hx,hof,hc⟩:=hI
  have HF:=aH hof
  clear hof
  have cb:=hc.cell
  gi_wp2_with fail
  refine ⟨by simp,.inl ⟨_,_,rfl,run_takeDeferred hdef,?_⟩⟩
  have cr:=(hc.put (d:=W2.heap.size) (o:=.deferred none) (by omega)).cell
  have hB':=hB.trans (belowK_b (w:=W2) (show w.heap.size≤W2.heap.size by omega) W _ _ (.deferred none) (Nat.le_refl _) hdef rfl rfl)
  refine ⟨_,by simp [results,Tryz.results184,go_sem,cr]; rfl,⟨_,rfl,?_⟩,hB'⟩
  rw [aU HF]
  exact Piece.of_run hx
end Zb
end Go.Proofs.YtkkpahmoljiepaaGreatDoor

set_option maxRecDepth 1000000
set_option maxHeartbeats 12800000
namespace Go.Proofs.YtkkpahmoljiepaaGreatDoor
open Go.RowKit
open Pu (Str aH aU)
attribute [local go_sem] Oper.semAt_some
def typeOf (x:Nat×List Rec):Int:=(x.2.headD Rec.zero).type
def setP (rs:List Rec) (k:Int):List Rec :=
 match (runs aD rs).find? (fun x=>typeOf x == k) with
 | some x=>x.2
 | none=>[]
namespace Zc
open Ka Kd Rg Ia Iow Ie Zb
theorem sets_any (a:Option Addr) (n c:Nat) (w:World) :
  Calls Tryz.prog 107 #[.slice a n c] w fun e w'=>e=.returned (.func (.func 233) #[] #[.pointer (some ⟨w.heap.size,0,none⟩),.pointer (some ⟨w.heap.size+1,0,none⟩)])∧w'=(w.alloc (.cells #[.slice a n c] 41)).alloc (.cells #[.func (.func 177) #[] #[]] 261):=by
 go_enter Tryz.func107,Tryz.ntmps107
 go_wp2_with (go_at_call 176; refine (runs_any _ _ _ _ _).mono ?_; rintro e w' ⟨rfl,rfl⟩)
 go_ret
 exact ⟨rfl,rfl⟩
theorem type_head (x:Nat×List Rec) (h:0<x.2.length):x.2[0].type=typeOf x:=by
 obtain ⟨k,l⟩:=x
 cases l with
 | nil=>simp at h
 | cons a t=>rfl
theorem rv_slice {w:World} {v:Value} {rs:List Rec} (h:RV w v rs) : ∃ a c,v=.slice a rs.length c:=by
 rcases h with ⟨rfl,rfl⟩ | ⟨b,off,cap,rfl,_,_⟩
 ·exact ⟨none,0,rfl⟩
 ·exact ⟨_,_,rfl⟩
theorem sets_o (v:Value) (rs:List Rec) (w:World) (hv:RV w v rs) :
  Calls Tryz.prog 107 #[v] w fun e w'=>e=.returned (.func (.func 233) #[] #[.pointer (some ⟨w.heap.size,0,none⟩),.pointer (some ⟨w.heap.size+1,0,none⟩)])∧w'.heap.size=w.heap.size+2∧Below w.heap.size w w' ∧
   w'.cell? ⟨w.heap.size,0,none⟩=some v∧w'.cell? ⟨w.heap.size+1,0,none⟩=some (.func (.func 177) #[] #[]):=by
 obtain ⟨a,c,rfl⟩:=rv_slice hv
 refine (sets_any a rs.length c w).mono ?_
 rintro e w' ⟨rfl,rfl⟩
 exact ⟨rfl,by simp,((Below.refl _ _).alloc (Nat.le_refl _) _).alloc (by simp) _,by go_simp,by go_simp⟩
theorem seqV (v:Value) (b off bl bs:Nat) (rs:List Rec) (W0:World) (hv:Lies v b off rs)
  (hl:W0.cell? ⟨bl,0,none⟩=some v) (hs:W0.cell? ⟨bs,0,none⟩=some (.func (.func 177) #[] #[]))
  (hr:bE W0 b off rs) (h1:bl<W0.heap.size) (h2:bs<W0.heap.size) (hlen:rs.length≤3001) :
  It.Seq Tryz.prog 233 #[.pointer (some ⟨bl,0,none⟩),.pointer (some ⟨bs,0,none⟩)] (fun x:Nat×List Rec=>#[.slice (some ⟨b,off+x.1*4,none⟩) x.2.length x.2.length]) (runs aD rs)
   (fun A B=>Below A.heap.size A B) (It.Keep3 bl bs b) (fun _ _=>True) W0:=by
 rcases hv with ⟨rfl,rfl⟩ | ⟨cap,rfl,hc⟩
 ·exact Ib.seq_nil b off bl bs W0 hl _
 ·exact Ib.seq b off cap bl bs rs W0 hl hs hr h1 h2 hlen hc
theorem runs_len {same:Rec→Rec→Bool} {rs:List Rec} {x:Nat×List Rec} (h:x∈runs same rs):x.2.length≤rs.length:=by
 have:=(runs_piece h).1; omega
theorem ofP_len (rs:List Rec) (n:Str):(ofP rs n).length≤rs.length:=by
 unfold ofP
 split
 ·rename_i x hx
  exact runs_len (List.mem_of_find?_eq_some hx)
 ·simp
theorem set_any (b off cap:Nat) (n:Str) (k:Int) (l0:List Rec) (w:World) (hr:bE w b off l0) (hcap:l0.length≤cap) (hlen0:l0.length≤3001) :
  Calls Tryz.prog 112 #[.slice (some ⟨b,off,none⟩) l0.length cap,.string (B n),.int .i64 k] w fun e w'=>(∃ v,e=.returned v∧Piece b off l0 v (setP (ofP l0 n) k))∧Below w.heap.size w w':=by
 refine (callsIn_wide (n:=0)).1 ?_
 refine callsIn_of_wp_marks Tryz.func112 rfl trivial ?_
 simp only [Tryz.ntmps112,List.size_toArray,List.length_cons,List.length_nil,Nat.reduceAdd,Nat.reduceSub,Array.replicate_succ,Array.replicate_zero,List.push_toArray,List.append_toArray,List.nil_append,List.cons_append]
 have hlen:=ofP_len l0 n
 have hbx:Below w.heap.size w ((w.alloc (.cells #[.int .i64 k] 3)).alloc (.cells #[.slice none 0 0] 41)):=((Below.refl _ _).alloc (Nat.le_refl _) _).alloc (by simp) _
 have HC:=aH (of_any b off cap n l0 _ (hr.below hbx) hcap hlen0)
 have HR0:=aH hr
 have hb:=hr.1
 clear hr
 gi_wp2_with fail
 refine ⟨trivial,rfl,?_⟩
 refine (callsIn_wide.2 (aU HC)).mono ?_
 rintro e w1 ⟨⟨v,rfl,hv⟩,hb1⟩
 have e0:It.Box w1 w.heap.size (.int .i64 k) 3:=((It.Box.new _ _ _).alloc _).below hb1 (by simp <;> omega)
 have e1:It.Box w1 (w.heap.size+1) (.slice none 0 0) 41:=by
  have:=(It.Box.new (w.alloc (.cells #[.int .i64 k] 3)) (.slice none 0 0) 41).below hb1 (by simp <;> omega)
  rwa [World.size_alloc] at this
 have hB1:Below w.heap.size w w1:=hbx.trans (hb1.mono (by simp <;> omega))
 have hs1:w.heap.size+2≤w1.heap.size:=by have:=hb1.size; simp at this; omega
 generalize hrs:ofP l0 n=rs at *
 clear hb1 hbx
 obtain ⟨o',hr,hL,hpc⟩:=hv.at (aU HR0)
 have HR:=aH hr
 have HLies:=aH hL
 have HPC:=aH hpc
 have HV:=aH (hv.rv ((aU HR0).below hB1))
 obtain ⟨av,cv,rfl⟩:=hv.slice
 clear hv hr hL hpc
 gi_wp2_with fail
 refine ⟨trivial,rfl,?_⟩
 refine (callsIn_wide.2 (sets_o _ rs _ (aU HV))).mono ?_
 rintro e W2 ⟨rfl,e4,hb2,e2,e3⟩
 have e0':=e0.below hb2 e0.lt
 have e1':=e1.below hb2 e1.lt
 have e5:=hB1.trans (hb2.mono hB1.size)
 have HR2:=aH ((aU HR).below e5)
 clear e0 e1
 gi_wp2_with fail
 have hgrow : ∀ r,Below W2.heap.size W2 ((W2.alloc (.deferred (some []))).alloc (.loop r)):=fun r=>((Below.refl _ _).alloc (Nat.le_refl _) _).alloc (by simp) _
 refine It.rangeB (xs:=runs aD rs) (encs:=fun x:Nat×List Rec=>#[.slice (some ⟨b,o'+x.1*4,none⟩) x.2.length x.2.length]) (St:=fun A B=>Below A.heap.size A B) (Kp:=It.Keep3 w1.heap.size (w1.heap.size+1) b) (Kx:=fun _ _=>True)
  (gf:=233) (lb:=#[.pointer (some ⟨w1.heap.size,0,none⟩),.pointer (some ⟨w1.heap.size+1,0,none⟩)]) rfl (enters_of Tryz.func233 (by kernel_rfl) rfl) (fun _=>rfl) ?seq
  [w1.heap.size,w1.heap.size+1,b] (by simp; omega) (fun A B hA h=>h.mono hA) (fun A B h h'=>⟨h'.1,h _ (by simp),h _ (by simp),h _ (by simp)⟩) (fun _ _ _=>trivial)
  (fun i W=>((runs aD rs).drop i).find? (fun x=>typeOf x == k)=(runs aD rs).find? (fun x=>typeOf x == k)∧Below w.heap.size w W∧It.Box W w.heap.size (.int .i64 k) 3∧It.Box W (w.heap.size+1) (.slice none 0 0) 41)
  (fun c W=>c=.ret∧Below w.heap.size w W∧∃ x,x∈runs aD rs∧setP rs k=x.2∧It.Box W (w.heap.size+1) (.slice (some ⟨b,o'+x.1*4,none⟩) x.2.length x.2.length) 41)
  (fun i A B h hb'=>⟨h.1,h.2.1.trans (hb'.mono (by omega)),h.2.2.1.below hb' (by omega),h.2.2.2.below hb' (by omega)⟩)
  (fun c A B h hb'=>⟨h.1,h.2.1.trans (hb'.mono (by omega)),by obtain ⟨x,h1,h2,h3⟩:=h.2.2; exact ⟨x,h1,h2,h3.below hb' (by omega)⟩⟩)
  ⟨rfl,e5,e0',e1'⟩
  ?round ?done ?stop
 case seq =>
  intro r
  have hg:=hgrow r
  exact seqV _ b o' _ _ rs _ (aU HLies) ((hg.cell (p:=⟨w1.heap.size,0,none⟩) (by show w1.heap.size<W2.heap.size; omega)).trans e2) ((hg.cell (p:=⟨w1.heap.size+1,0,none⟩) (by show w1.heap.size+1<W2.heap.size; omega)).trans e3) ((aU HR2).below hg) (by have:=hg.size; omega) (by have:=hg.size; omega) (by omega)
 case round =>
  intro l' i x V W hx hI hsz
  gi_wp2_with fail
  refine ⟨trivial,?_⟩
  obtain ⟨hf,hB,hn',hc⟩:=hI
  have cn:=hn'.cell
  have cb:=hc.cell
  have cf:=hc.frozen
  have hmem:x∈runs aD rs:=List.mem_of_getElem? hx
  have hP:=bE.piece ((aU HR).below hB) hmem
  have hpos:=(runs_piece hmem).2.1
  obtain ⟨q0,q1,q2,q3⟩:=hP.four 0 hpos
  clear q0 q1 q3 hP
  rw [Nat.zero_mul,Nat.add_zero,type_head x hpos] at q2
  have hposI:(0:Int)<(x.2.length:Int):=by omega
  have hmx:Tryz.prog.follows .mixedOrders=true:=by kernel_rfl
  have hst:=find_step (p:=fun x=>typeOf x == k) hx
  rw [hf] at hst
  have HS:=aH hst
  have HNB:=aH hn'
  have HCB:=aH hc
  have HM:=aH hmem
  clear hf hst hn' hc hmem
  cases ho:typeOf x == k
  ·have HF:Hid (((runs aD rs).drop (i+1)).find? (fun x=>typeOf x == k)=(runs aD rs).find? (fun x=>typeOf x == k)):=by
    rw [Hid,aU HS,if_neg (by simp [ho])]
   have HE:Hid (It.Above W2.heap.size W W.drew∧(∀ k'∈[w1.heap.size,w1.heap.size+1,b],W.drew.heap[k']? = W.heap[k']?)∧(((runs aD rs).drop (i+1)).find? (fun x=>typeOf x == k)=(runs aD rs).find? (fun x=>typeOf x == k)∧Below w.heap.size w W.drew∧It.Box W.drew w.heap.size (.int .i64 k) 3∧It.Box W.drew (w.heap.size+1) (.slice none 0 0) 41)) :=
    ⟨It.Above.refl _ W,fun _ _=>rfl,aU HF,hB.drew,aU HNB,aU HCB⟩
   gi_wp2_with fail
   refine Ir.region_round hmx (Ir.noDefer_spec (by kernel_rfl)) ?_
   refine wpAnyIn_take (i:=0) (v:=?_) rfl rfl (by kernel_rfl) (by kernel_rfl) (by kernel_rfl) (fun _ _ _ h=>h) ⟨Or.inl ⟨by rfl,by intro w; go_simp; first | done | with_reducible rfl⟩,fun _=>rfl⟩ ?_
   refine wpAnyIn_take (i:=1) (v:=?_) rfl rfl (by kernel_rfl) (by kernel_rfl) (by kernel_rfl) (fun _ _ _ h=>h) ⟨Or.inl ⟨by rfl,by intro w; go_simp; first | done | with_reducible rfl⟩,fun _=>rfl⟩ ?_
   refine wpAnyIn_take (i:=2) (v:=?_) rfl rfl (by kernel_rfl) (by kernel_rfl) (by kernel_rfl) (fun _ _ _ h=>h) ⟨Or.inl ⟨by rfl,by intro w; go_simp; first | done | with_reducible rfl⟩,fun _=>rfl⟩ ?_
   refine wpAnyIn_ready (rs:=[3,4]) (by kernel_rfl) (by simp) ?_
   refine AllReadyIn.cons rfl (fun K hK=>?_) (AllReadyIn.cons rfl (fun K hK=>?_) AllReadyIn.nil)
   ·go_simp
    refine hK _ _ ?_
    clear hK K
    refine wpAnyIn_ready (rs:=[4]) (by kernel_rfl) (by simp) ?_
    refine AllReadyIn.cons rfl (fun K hK=>?_) AllReadyIn.nil
    go_simp
    refine hK _ _ ?_
    clear hK K
    refine wpAnyIn_ready (rs:=[5]) (by kernel_rfl) (by simp) ?_
    refine AllReadyIn.cons rfl (fun K hK=>?_) AllReadyIn.nil
    go_simp
    refine hK _ _ ?_
    clear hK K
    refine wpAnyIn_done (by kernel_rfl) ?_ _
    gi_wp2_with fail
    exact aU HE
   ·go_simp
    refine hK _ _ ?_
    clear hK K
    refine wpAnyIn_ready (rs:=[3]) (by kernel_rfl) (by simp) ?_
    refine AllReadyIn.cons rfl (fun K hK=>?_) AllReadyIn.nil
    go_simp
    refine hK _ _ ?_
    clear hK K
    refine wpAnyIn_ready (rs:=[5]) (by kernel_rfl) (by simp) ?_
    refine AllReadyIn.cons rfl (fun K hK=>?_) AllReadyIn.nil
    go_simp
    refine hK _ _ ?_
    clear hK K
    refine wpAnyIn_done (by kernel_rfl) ?_ _
    gi_wp2_with fail
    exact aU HE
  ·have HF:Hid (setP rs k=x.2):=by
    unfold setP
    rw [Hid,aU HS,if_pos ho]
   have HE:Hid (It.Above W2.heap.size W (W.setCell ⟨w.heap.size+1,0,none⟩ (.slice (some ⟨b,o'+x.1*4,none⟩) x.2.length x.2.length)).drew∧(Below w.heap.size w (W.setCell ⟨w.heap.size+1,0,none⟩ (.slice (some ⟨b,o'+x.1*4,none⟩) x.2.length x.2.length)).drew∧∃ x',x'∈runs aD rs∧setP rs k=x'.2∧It.Box (W.setCell ⟨w.heap.size+1,0,none⟩ (.slice (some ⟨b,o'+x.1*4,none⟩) x.2.length x.2.length)).drew (w.heap.size+1) (.slice (some ⟨b,o'+x'.1*4,none⟩) x'.2.length x'.2.length) 41)) :=
    ⟨It.Above.setCell W _ _ (by omega),(hB.setCell (by show w.heap.size≤w.heap.size+1; omega) _).drew,x,aU HM,aU HF,(aU HCB).set _⟩
   gi_wp2_with fail
   refine Ir.region_round hmx (Ir.noDefer_spec (by kernel_rfl)) ?_
   refine wpAnyIn_take (i:=0) (v:=?_) rfl rfl (by kernel_rfl) (by kernel_rfl) (by kernel_rfl) (fun _ _ _ h=>h) ⟨Or.inl ⟨by rfl,by intro w; go_simp; first | done | with_reducible rfl⟩,fun _=>rfl⟩ ?_
   refine wpAnyIn_take (i:=1) (v:=?_) rfl rfl (by kernel_rfl) (by kernel_rfl) (by kernel_rfl) (fun _ _ _ h=>h) ⟨Or.inl ⟨by rfl,by intro w; go_simp; first | done | with_reducible rfl⟩,fun _=>rfl⟩ ?_
   refine wpAnyIn_take (i:=2) (v:=?_) rfl rfl (by kernel_rfl) (by kernel_rfl) (by kernel_rfl) (fun _ _ _ h=>h) ⟨Or.inl ⟨by rfl,by intro w; go_simp; first | done | with_reducible rfl⟩,fun _=>rfl⟩ ?_
   refine wpAnyIn_ready (rs:=[3,4]) (by kernel_rfl) (by simp) ?_
   refine AllReadyIn.cons rfl (fun K hK=>?_) (AllReadyIn.cons rfl (fun K hK=>?_) AllReadyIn.nil)
   ·go_simp
    refine hK _ _ ?_
    clear hK K
    refine wpAnyIn_ready (rs:=[4]) (by kernel_rfl) (by simp) ?_
    refine AllReadyIn.cons rfl (fun K hK=>?_) AllReadyIn.nil
    go_simp
    refine hK _ _ ?_
    clear hK K
    refine wpAnyIn_ready (rs:=[5]) (by kernel_rfl) (by simp) ?_
    refine AllReadyIn.cons rfl (fun K hK=>?_) AllReadyIn.nil
    go_simp
    refine hK _ _ ?_
    clear hK K
    refine wpAnyIn_done (by kernel_rfl) ?_ _
    gi_wp2_with fail
    exact ⟨(aU HE).1,rfl,(aU HE).2⟩
   ·go_simp
    refine hK _ _ ?_
    clear hK K
    refine wpAnyIn_ready (rs:=[3]) (by kernel_rfl) (by simp) ?_
    refine AllReadyIn.cons rfl (fun K hK=>?_) AllReadyIn.nil
    go_simp
    refine hK _ _ ?_
    clear hK K
    refine wpAnyIn_ready (rs:=[5]) (by kernel_rfl) (by simp) ?_
    refine AllReadyIn.cons rfl (fun K hK=>?_) AllReadyIn.nil
    go_simp
    refine hK _ _ ?_
    clear hK K
    refine wpAnyIn_done (by kernel_rfl) ?_ _
    gi_wp2_with fail
    exact ⟨(aU HE).1,rfl,(aU HE).2⟩
 case done =>
  intro W hI hdef hsz
  obtain ⟨hf,hB,hn',hc⟩:=hI
  have cb:=hc.cell
  have cf:=hc.frozen
  have HF:Hid (setP rs k = []):=by
   unfold setP
   rw [Hid,← hf,List.drop_of_length_le (Nat.le_refl _)]; rfl
  clear hf
  gi_wp2_with fail
  have hd':=(Below.heap_setCell W ⟨w.heap.size+1,0,none⟩ (.slice none 0 0) W2.heap.size (by show W2.heap.size≠w.heap.size+1; omega)).trans hdef
  refine ⟨by simp,.inl ⟨_,_,rfl,run_takeDeferred hd',?_⟩⟩
  have cr:=((hc.set (.slice none 0 0)).put (d:=W2.heap.size) (o:=.deferred none) (by omega)).cell
  refine ⟨.slice none 0 0,by simp [results,Tryz.results112,go_sem,cr],⟨_,rfl,.inl ⟨rfl,by rw [hrs]; exact aU HF⟩⟩,?_⟩
  exact (hB.setCell (by show w.heap.size≤w.heap.size+1; omega) _).trans (belowK_b (w:=W2) (by omega) _ _ _ _ (Nat.le_refl _) hd' rfl rfl)
 case stop =>
  intro c W hI hdef hsz
  obtain ⟨rfl,hB,x,hx,hof,hc⟩:=hI
  have HF:=aH hof
  clear hof
  have cb:=hc.cell
  gi_wp2_with fail
  refine ⟨by simp,.inl ⟨_,_,rfl,run_takeDeferred hdef,?_⟩⟩
  have cr:=(hc.put (d:=W2.heap.size) (o:=.deferred none) (by omega)).cell
  have hB':=hB.trans (belowK_b (w:=W2) (show w.heap.size≤W2.heap.size by omega) W _ _ (.deferred none) (Nat.le_refl _) hdef rfl rfl)
  refine ⟨_,by simp [results,Tryz.results112,go_sem,cr]; rfl,⟨_,rfl,?_⟩,hB'⟩
  rw [hrs,aU HF]
  exact aU HPC _ x hx
end Zc
end Go.Proofs.YtkkpahmoljiepaaGreatDoor

namespace Go.Proofs.YtkkpahmoljiepaaGreatDoor
open Go.RowKit
open Pu (Str aH aU)
attribute [local go_sem] Oper.semAt_some
def aN (w:World) (zb:Nat) (o:Str) (b off cap:Nat) (rs:List Rec):Prop :=
 zb<w.heap.size∧w.cell? ⟨zb,0,none⟩=some (.string (B o))∧w.cell? ⟨zb,1,none⟩=some (.slice (some ⟨b,off,none⟩) rs.length cap)∧rs.length≤cap∧bE w b off rs
def Fit (o:Str) (rs:List Rec):Prop:=rs.length≤3001∧o.length≤3000∧∀ r∈rs,r.owner.length≤3000∧r.data.length≤3000
namespace Za
open Ka Kd Rg Ia Iow Ie Zb Zc
end Za
end Go.Proofs.YtkkpahmoljiepaaGreatDoor

namespace Go.Proofs.YtkkpahmoljiepaaGreatDoor
open Go.RowKit
open Pu (Str aH aU)
attribute [local go_sem] Oper.semAt_some
namespace La
open Ka Kd Rg Ia Iow Ie Zb Zc Za
end La
end Go.Proofs.YtkkpahmoljiepaaGreatDoor

namespace Go.Proofs.YtkkpahmoljiepaaGreatDoor
open Go.RowKit
open Pu (Str aH aU)
def BytesAt (w:World) (b:Nat) (l:Str):Prop:=b<w.heap.size∧(∀ j (h:j<l.length),w.cell? ⟨b,j,none⟩=some (.int .u8 l[j].toNat))∧∀ j,j<l.length→w.frozen? ⟨b,j,none⟩=false
namespace Wd
open Ka Wa Wb
theorem bytes_new (w:World) (l:Str) (cap:Nat):BytesAt (w.drew.alloc (.cells (bytesRow (B l) cap) 5 ((bytesRow (B l) cap).size,(bytesRow (B l) cap).size+1))) w.heap.size l:=by
 have hn:(w.drew.alloc (.cells (bytesRow (B l) cap) 5 ((bytesRow (B l) cap).size,(bytesRow (B l) cap).size+1))).heap[w.heap.size]? = some (.cells (bytesRow (B l) cap) 5 ((bytesRow (B l) cap).size,(bytesRow (B l) cap).size+1)):=World.alloc_heap_new w.drew _
 have hs:l.length≤(bytesRow (B l) cap).size:=by simp [bytesRow,B]
 refine ⟨by simp,fun j hj=>?_,fun j hj=>?_⟩
 ·have:=bytesRow_at (B l) cap j (by simpa [B] using hj)
  simp only [World.cell?,hn]
  rw [this]
  rfl
 ·simp only [World.frozen?,hn]
  simp; omega
end Wd
section
variable {w:World} {g:Nat} {l:List Str}
end
namespace We
open Ka Wa Wb Wd Re
end We
attribute [local go_sem] Oper.semAt_some undef
namespace Lb
open Ka Kd Rg Ia Iow Ie Zb Zc Za La
end Lb
end Go.Proofs.YtkkpahmoljiepaaGreatDoor

namespace Go.Proofs.YtkkpahmoljiepaaGreatDoor
open Go.RowKit
open Pu (Str aH aU)
section
open Rf Re
end
namespace Lc
open Ka Kd Rf Rg Ia Iow Ie Zb Zc Za La Lb Re
end Lc
namespace Le
open Ka Kd Rf Rg Ia Iow Ie Zb Zc Za La Lb Re Lc
end Le
attribute [local go_sem] Oper.semAt_some undef
namespace Lf
open Ka Kd Rf Rg Ia Iow Ie Zb Zc Za La Lb Re Lc Le
end Lf
end Go.Proofs.YtkkpahmoljiepaaGreatDoor

namespace Go.Proofs.YtkkpahmoljiepaaGreatDoor
open Go.RowKit
namespace Iq
variable {P:Program} {ops:Array Oper} {C:World→Prop} {l:Nat}
end Iq
end Go.Proofs.YtkkpahmoljiepaaGreatDoor
