/- Contracts: records.Sets, records.Set. -/
import Derived.Test.YtkkpahmoljiepaaGreatDoorJ06
import Derived.Test.YtkkpahmoljiepaaGreatDoorJ04
import Derived.Laws.IdiomStrings
set_option linter.unusedSimpArgs false
set_option linter.unusedVariables false
set_option maxRecDepth 1000000
set_option maxHeartbeats 12800000
namespace Go.Proofs.YtkkpahmoljiepaaGreatDoor
open Go.RowKit
open Pu (Str aH aU)
attribute [local go_sem] Oper.semAt_some
def typeOf (x:Nat×List Rec):Int:=(x.2.headD Rec.zero).type
def setP (rs:List Rec) (k:Int):List Rec :=
 match (runs aD rs).find? (fun x=>typeOf x == k) with
 | some x=>x.2
 | none=>[]
namespace Zc
open Ka Kd Rg Ia Iow Ie Zb
theorem sets_any (a:Option Addr) (n c:Nat) (w:World) :
  Calls Tryz.prog 107 #[.slice a n c] w fun e w'=>e=.returned (.func (.func 233) #[] #[.pointer (some ⟨w.heap.size,0,none⟩),.pointer (some ⟨w.heap.size+1,0,none⟩)])∧w'=(w.alloc (.cells #[.slice a n c] 41)).alloc (.cells #[.func (.func 177) #[] #[]] 261):=by
 go_enter Tryz.func107,Tryz.ntmps107
 go_wp2_with (go_at_call 176; refine (runs_any _ _ _ _ _).mono ?_; rintro e w' ⟨rfl,rfl⟩)
 go_ret
 exact ⟨rfl,rfl⟩
theorem type_head (x:Nat×List Rec) (h:0<x.2.length):x.2[0].type=typeOf x:=by
 obtain ⟨k,l⟩:=x
 cases l with
 | nil=>simp at h
 | cons a t=>rfl
theorem rv_slice {w:World} {v:Value} {rs:List Rec} (h:RV w v rs) : ∃ a c,v=.slice a rs.length c:=by
 rcases h with ⟨rfl,rfl⟩ | ⟨b,off,cap,rfl,_,_⟩
 ·exact ⟨none,0,rfl⟩
 ·exact ⟨_,_,rfl⟩
theorem sets_o (v:Value) (rs:List Rec) (w:World) (hv:RV w v rs) :
  Calls Tryz.prog 107 #[v] w fun e w'=>e=.returned (.func (.func 233) #[] #[.pointer (some ⟨w.heap.size,0,none⟩),.pointer (some ⟨w.heap.size+1,0,none⟩)])∧w'.heap.size=w.heap.size+2∧Below w.heap.size w w' ∧
   w'.cell? ⟨w.heap.size,0,none⟩=some v∧w'.cell? ⟨w.heap.size+1,0,none⟩=some (.func (.func 177) #[] #[]):=by
 obtain ⟨a,c,rfl⟩:=rv_slice hv
 refine (sets_any a rs.length c w).mono ?_
 rintro e w' ⟨rfl,rfl⟩
 exact ⟨rfl,by simp,((Below.refl _ _).alloc (Nat.le_refl _) _).alloc (by simp) _,by go_simp,by go_simp⟩
theorem seqV (v:Value) (b off bl bs:Nat) (rs:List Rec) (W0:World) (hv:Lies v b off rs)
  (hl:W0.cell? ⟨bl,0,none⟩=some v) (hs:W0.cell? ⟨bs,0,none⟩=some (.func (.func 177) #[] #[]))
  (hr:bE W0 b off rs) (h1:bl<W0.heap.size) (h2:bs<W0.heap.size) (hlen:rs.length≤3001) :
  It.Seq Tryz.prog 233 #[.pointer (some ⟨bl,0,none⟩),.pointer (some ⟨bs,0,none⟩)] (fun x:Nat×List Rec=>#[.slice (some ⟨b,off+x.1*4,none⟩) x.2.length x.2.length]) (runs aD rs)
   (fun A B=>Below A.heap.size A B) (It.Keep3 bl bs b) (fun _ _=>True) W0:=by
 rcases hv with ⟨rfl,rfl⟩ | ⟨cap,rfl,hc⟩
 ·exact Ib.seq_nil b off bl bs W0 hl _
 ·exact Ib.seq b off cap bl bs rs W0 hl hs hr h1 h2 hlen hc
theorem runs_len {same:Rec→Rec→Bool} {rs:List Rec} {x:Nat×List Rec} (h:x∈runs same rs):x.2.length≤rs.length:=by
 have:=(runs_piece h).1; omega
theorem ofP_len (rs:List Rec) (n:Str):(ofP rs n).length≤rs.length:=by
 unfold ofP
 split
 ·rename_i x hx
  exact runs_len (List.mem_of_find?_eq_some hx)
 ·simp
theorem setP_len (rs:List Rec) (k:Int):(setP rs k).length≤rs.length:=by
 unfold setP
 split
 ·rename_i x hx
  exact runs_len (List.mem_of_find?_eq_some hx)
 ·simp
theorem set_any (b off cap:Nat) (n:Str) (k:Int) (l0:List Rec) (w:World) (hr:bE w b off l0) (hcap:l0.length≤cap) (hlen0:l0.length≤3001) :
  Calls Tryz.prog 112 #[.slice (some ⟨b,off,none⟩) l0.length cap,.string (B n),.int .i64 k] w fun e w'=>(∃ v,e=.returned v∧Piece b off l0 v (setP (ofP l0 n) k))∧Below w.heap.size w w':=by
 refine (callsIn_wide (n:=0)).1 ?_
 refine callsIn_of_wp_marks Tryz.func112 rfl trivial ?_
 simp only [Tryz.ntmps112,List.size_toArray,List.length_cons,List.length_nil,Nat.reduceAdd,Nat.reduceSub,Array.replicate_succ,Array.replicate_zero,List.push_toArray,List.append_toArray,List.nil_append,List.cons_append]
 have hlen:=ofP_len l0 n
 have hbx:Below w.heap.size w ((w.alloc (.cells #[.int .i64 k] 3)).alloc (.cells #[.slice none 0 0] 41)):=((Below.refl _ _).alloc (Nat.le_refl _) _).alloc (by simp) _
 have HC:=aH (of_any b off cap n l0 _ (hr.below hbx) hcap hlen0)
 have HR0:=aH hr
 have hb:=hr.1
 clear hr
 gi_wp2_with fail
 refine ⟨trivial,rfl,?_⟩
 refine (callsIn_wide.2 (aU HC)).mono ?_
 rintro e w1 ⟨⟨v,rfl,hv⟩,hb1⟩
 have e0:It.Box w1 w.heap.size (.int .i64 k) 3:=((It.Box.new _ _ _).alloc _).below hb1 (by simp <;> omega)
 have e1:It.Box w1 (w.heap.size+1) (.slice none 0 0) 41:=by
  have:=(It.Box.new (w.alloc (.cells #[.int .i64 k] 3)) (.slice none 0 0) 41).below hb1 (by simp <;> omega)
  rwa [World.size_alloc] at this
 have hB1:Below w.heap.size w w1:=hbx.trans (hb1.mono (by simp <;> omega))
 have hs1:w.heap.size+2≤w1.heap.size:=by have:=hb1.size; simp at this; omega
 generalize hrs:ofP l0 n=rs at *
 clear hb1 hbx
 obtain ⟨o',hr,hL,hpc⟩:=hv.at (aU HR0)
 have HR:=aH hr
 have HLies:=aH hL
 have HPC:=aH hpc
 have HV:=aH (hv.rv ((aU HR0).below hB1))
 obtain ⟨av,cv,rfl⟩:=hv.slice
 clear hv hr hL hpc
 gi_wp2_with fail
 refine ⟨trivial,rfl,?_⟩
 refine (callsIn_wide.2 (sets_o _ rs _ (aU HV))).mono ?_
 rintro e W2 ⟨rfl,e4,hb2,e2,e3⟩
 have e0':=e0.below hb2 e0.lt
 have e1':=e1.below hb2 e1.lt
 have e5:=hB1.trans (hb2.mono hB1.size)
 have HR2:=aH ((aU HR).below e5)
 clear e0 e1
 gi_wp2_with fail
 have hgrow : ∀ r,Below W2.heap.size W2 ((W2.alloc (.deferred (some []))).alloc (.loop r)):=fun r=>((Below.refl _ _).alloc (Nat.le_refl _) _).alloc (by simp) _
 refine It.rangeB (xs:=runs aD rs) (encs:=fun x:Nat×List Rec=>#[.slice (some ⟨b,o'+x.1*4,none⟩) x.2.length x.2.length]) (St:=fun A B=>Below A.heap.size A B) (Kp:=It.Keep3 w1.heap.size (w1.heap.size+1) b) (Kx:=fun _ _=>True)
  (gf:=233) (lb:=#[.pointer (some ⟨w1.heap.size,0,none⟩),.pointer (some ⟨w1.heap.size+1,0,none⟩)]) rfl (enters_of Tryz.func233 (by kernel_rfl) rfl) (fun _=>rfl) ?seq
  [w1.heap.size,w1.heap.size+1,b] (by simp; omega) (fun A B hA h=>h.mono hA) (fun A B h h'=>⟨h'.1,h _ (by simp),h _ (by simp),h _ (by simp)⟩) (fun _ _ _=>trivial)
  (fun i W=>((runs aD rs).drop i).find? (fun x=>typeOf x == k)=(runs aD rs).find? (fun x=>typeOf x == k)∧Below w.heap.size w W∧It.Box W w.heap.size (.int .i64 k) 3∧It.Box W (w.heap.size+1) (.slice none 0 0) 41)
  (fun c W=>c=.ret∧Below w.heap.size w W∧∃ x,x∈runs aD rs∧setP rs k=x.2∧It.Box W (w.heap.size+1) (.slice (some ⟨b,o'+x.1*4,none⟩) x.2.length x.2.length) 41)
  (fun i A B h hb'=>⟨h.1,h.2.1.trans (hb'.mono (by omega)),h.2.2.1.below hb' (by omega),h.2.2.2.below hb' (by omega)⟩)
  (fun c A B h hb'=>⟨h.1,h.2.1.trans (hb'.mono (by omega)),by obtain ⟨x,h1,h2,h3⟩:=h.2.2; exact ⟨x,h1,h2,h3.below hb' (by omega)⟩⟩)
  ⟨rfl,e5,e0',e1'⟩
  ?round ?done ?stop
 case seq =>
  intro r
  have hg:=hgrow r
  exact seqV _ b o' _ _ rs _ (aU HLies) ((hg.cell (p:=⟨w1.heap.size,0,none⟩) (by show w1.heap.size<W2.heap.size; omega)).trans e2) ((hg.cell (p:=⟨w1.heap.size+1,0,none⟩) (by show w1.heap.size+1<W2.heap.size; omega)).trans e3) ((aU HR2).below hg) (by have:=hg.size; omega) (by have:=hg.size; omega) (by omega)
 case round =>
  intro l' i x V W hx hI hsz
  gi_wp2_with fail
  refine ⟨trivial,?_⟩
  obtain ⟨hf,hB,hn',hc⟩:=hI
  have cn:=hn'.cell
  have cb:=hc.cell
  have cf:=hc.frozen
  have hmem:x∈runs aD rs:=List.mem_of_getElem? hx
  have hP:=bE.piece ((aU HR).below hB) hmem
  have hpos:=(runs_piece hmem).2.1
  obtain ⟨q0,q1,q2,q3⟩:=hP.four 0 hpos
  clear q0 q1 q3 hP
  rw [Nat.zero_mul,Nat.add_zero,type_head x hpos] at q2
  have hposI:(0:Int)<(x.2.length:Int):=by omega
  have hmx:Tryz.prog.follows .mixedOrders=true:=by kernel_rfl
  have hst:=find_step (p:=fun x=>typeOf x == k) hx
  rw [hf] at hst
  have HS:=aH hst
  have HNB:=aH hn'
  have HCB:=aH hc
  have HM:=aH hmem
  clear hf hst hn' hc hmem
  cases ho:typeOf x == k
  ·have HF:Hid (((runs aD rs).drop (i+1)).find? (fun x=>typeOf x == k)=(runs aD rs).find? (fun x=>typeOf x == k)):=by
    rw [Hid,aU HS,if_neg (by simp [ho])]
   have HE:Hid (It.Above W2.heap.size W W.drew∧(∀ k'∈[w1.heap.size,w1.heap.size+1,b],W.drew.heap[k']? = W.heap[k']?)∧(((runs aD rs).drop (i+1)).find? (fun x=>typeOf x == k)=(runs aD rs).find? (fun x=>typeOf x == k)∧Below w.heap.size w W.drew∧It.Box W.drew w.heap.size (.int .i64 k) 3∧It.Box W.drew (w.heap.size+1) (.slice none 0 0) 41)) :=
    ⟨It.Above.refl _ W,fun _ _=>rfl,aU HF,hB.drew,aU HNB,aU HCB⟩
   gi_wp2_with fail
   refine Ir.region_round hmx (Ir.noDefer_spec (by kernel_rfl)) ?_
   refine wpAnyIn_take (i:=0) (v:=?_) rfl rfl (by kernel_rfl) (by kernel_rfl) (by kernel_rfl) (fun _ _ _ h=>h) ⟨Or.inl ⟨by rfl,by intro w; go_simp; first | done | with_reducible rfl⟩,fun _=>rfl⟩ ?_
   refine wpAnyIn_take (i:=1) (v:=?_) rfl rfl (by kernel_rfl) (by kernel_rfl) (by kernel_rfl) (fun _ _ _ h=>h) ⟨Or.inl ⟨by rfl,by intro w; go_simp; first | done | with_reducible rfl⟩,fun _=>rfl⟩ ?_
   refine wpAnyIn_take (i:=2) (v:=?_) rfl rfl (by kernel_rfl) (by kernel_rfl) (by kernel_rfl) (fun _ _ _ h=>h) ⟨Or.inl ⟨by rfl,by intro w; go_simp; first | done | with_reducible rfl⟩,fun _=>rfl⟩ ?_
   refine wpAnyIn_ready (rs:=[3,4]) (by kernel_rfl) (by simp) ?_
   refine AllReadyIn.cons rfl (fun K hK=>?_) (AllReadyIn.cons rfl (fun K hK=>?_) AllReadyIn.nil)
   ·go_simp
    refine hK _ _ ?_
    clear hK K
    refine wpAnyIn_ready (rs:=[4]) (by kernel_rfl) (by simp) ?_
    refine AllReadyIn.cons rfl (fun K hK=>?_) AllReadyIn.nil
    go_simp
    refine hK _ _ ?_
    clear hK K
    refine wpAnyIn_ready (rs:=[5]) (by kernel_rfl) (by simp) ?_
    refine AllReadyIn.cons rfl (fun K hK=>?_) AllReadyIn.nil
    go_simp
    refine hK _ _ ?_
    clear hK K
    refine wpAnyIn_done (by kernel_rfl) ?_ _
    gi_wp2_with fail
    exact aU HE
   ·go_simp
    refine hK _ _ ?_
    clear hK K
    refine wpAnyIn_ready (rs:=[3]) (by kernel_rfl) (by simp) ?_
    refine AllReadyIn.cons rfl (fun K hK=>?_) AllReadyIn.nil
    go_simp
    refine hK _ _ ?_
    clear hK K
    refine wpAnyIn_ready (rs:=[5]) (by kernel_rfl) (by simp) ?_
    refine AllReadyIn.cons rfl (fun K hK=>?_) AllReadyIn.nil
    go_simp
    refine hK _ _ ?_
    clear hK K
    refine wpAnyIn_done (by kernel_rfl) ?_ _
    gi_wp2_with fail
    exact aU HE
  ·have HF:Hid (setP rs k=x.2):=by
    unfold setP
    rw [Hid,aU HS,if_pos ho]
   have HE:Hid (It.Above W2.heap.size W (W.setCell ⟨w.heap.size+1,0,none⟩ (.slice (some ⟨b,o'+x.1*4,none⟩) x.2.length x.2.length)).drew∧(Below w.heap.size w (W.setCell ⟨w.heap.size+1,0,none⟩ (.slice (some ⟨b,o'+x.1*4,none⟩) x.2.length x.2.length)).drew∧∃ x',x'∈runs aD rs∧setP rs k=x'.2∧It.Box (W.setCell ⟨w.heap.size+1,0,none⟩ (.slice (some ⟨b,o'+x.1*4,none⟩) x.2.length x.2.length)).drew (w.heap.size+1) (.slice (some ⟨b,o'+x'.1*4,none⟩) x'.2.length x'.2.length) 41)) :=
    ⟨It.Above.setCell W _ _ (by omega),(hB.setCell (by show w.heap.size≤w.heap.size+1; omega) _).drew,x,aU HM,aU HF,(aU HCB).set _⟩
   gi_wp2_with fail
   refine Ir.region_round hmx (Ir.noDefer_spec (by kernel_rfl)) ?_
   refine wpAnyIn_take (i:=0) (v:=?_) rfl rfl (by kernel_rfl) (by kernel_rfl) (by kernel_rfl) (fun _ _ _ h=>h) ⟨Or.inl ⟨by rfl,by intro w; go_simp; first | done | with_reducible rfl⟩,fun _=>rfl⟩ ?_
   refine wpAnyIn_take (i:=1) (v:=?_) rfl rfl (by kernel_rfl) (by kernel_rfl) (by kernel_rfl) (fun _ _ _ h=>h) ⟨Or.inl ⟨by rfl,by intro w; go_simp; first | done | with_reducible rfl⟩,fun _=>rfl⟩ ?_
   refine wpAnyIn_take (i:=2) (v:=?_) rfl rfl (by kernel_rfl) (by kernel_rfl) (by kernel_rfl) (fun _ _ _ h=>h) ⟨Or.inl ⟨by rfl,by intro w; go_simp; first | done | with_reducible rfl⟩,fun _=>rfl⟩ ?_
   refine wpAnyIn_ready (rs:=[3,4]) (by kernel_rfl) (by simp) ?_
   refine AllReadyIn.cons rfl (fun K hK=>?_) (AllReadyIn.cons rfl (fun K hK=>?_) AllReadyIn.nil)
   ·go_simp
    refine hK _ _ ?_
    clear hK K
    refine wpAnyIn_ready (rs:=[4]) (by kernel_rfl) (by simp) ?_
    refine AllReadyIn.cons rfl (fun K hK=>?_) AllReadyIn.nil
    go_simp
    refine hK _ _ ?_
    clear hK K
    refine wpAnyIn_ready (rs:=[5]) (by kernel_rfl) (by simp) ?_
    refine AllReadyIn.cons rfl (fun K hK=>?_) AllReadyIn.nil
    go_simp
    refine hK _ _ ?_
    clear hK K
    refine wpAnyIn_done (by kernel_rfl) ?_ _
    gi_wp2_with fail
    exact ⟨(aU HE).1,rfl,(aU HE).2⟩
   ·go_simp
    refine hK _ _ ?_
    clear hK K
    refine wpAnyIn_ready (rs:=[3]) (by kernel_rfl) (by simp) ?_
    refine AllReadyIn.cons rfl (fun K hK=>?_) AllReadyIn.nil
    go_simp
    refine hK _ _ ?_
    clear hK K
    refine wpAnyIn_ready (rs:=[5]) (by kernel_rfl) (by simp) ?_
    refine AllReadyIn.cons rfl (fun K hK=>?_) AllReadyIn.nil
    go_simp
    refine hK _ _ ?_
    clear hK K
    refine wpAnyIn_done (by kernel_rfl) ?_ _
    gi_wp2_with fail
    exact ⟨(aU HE).1,rfl,(aU HE).2⟩
 case done =>
  intro W hI hdef hsz
  obtain ⟨hf,hB,hn',hc⟩:=hI
  have cb:=hc.cell
  have cf:=hc.frozen
  have HF:Hid (setP rs k = []):=by
   unfold setP
   rw [Hid,← hf,List.drop_of_length_le (Nat.le_refl _)]; rfl
  clear hf
  gi_wp2_with fail
  have hd':=(Below.heap_setCell W ⟨w.heap.size+1,0,none⟩ (.slice none 0 0) W2.heap.size (by show W2.heap.size≠w.heap.size+1; omega)).trans hdef
  refine ⟨by simp,.inl ⟨_,_,rfl,run_takeDeferred hd',?_⟩⟩
  have cr:=((hc.set (.slice none 0 0)).put (d:=W2.heap.size) (o:=.deferred none) (by omega)).cell
  refine ⟨.slice none 0 0,by simp [results,Tryz.results112,go_sem,cr],⟨_,rfl,.inl ⟨rfl,by rw [hrs]; exact aU HF⟩⟩,?_⟩
  exact (hB.setCell (by show w.heap.size≤w.heap.size+1; omega) _).trans (belowK_b (w:=W2) (by omega) _ _ _ _ (Nat.le_refl _) hd' rfl rfl)
 case stop =>
  intro c W hI hdef hsz
  obtain ⟨rfl,hB,x,hx,hof,hc⟩:=hI
  have HF:=aH hof
  clear hof
  have cb:=hc.cell
  gi_wp2_with fail
  refine ⟨by simp,.inl ⟨_,_,rfl,run_takeDeferred hdef,?_⟩⟩
  have cr:=(hc.put (d:=W2.heap.size) (o:=.deferred none) (by omega)).cell
  have hB':=hB.trans (belowK_b (w:=W2) (show w.heap.size≤W2.heap.size by omega) W _ _ (.deferred none) (Nat.le_refl _) hdef rfl rfl)
  refine ⟨_,by simp [results,Tryz.results112,go_sem,cr]; rfl,⟨_,rfl,?_⟩,hB'⟩
  rw [hrs,aU HF]
  exact aU HPC _ x hx
end Zc
end Go.Proofs.YtkkpahmoljiepaaGreatDoor

set_option maxRecDepth 1000000
set_option maxHeartbeats 12800000
namespace Go.Proofs.YtkkpahmoljiepaaGreatDoor
open Go.RowKit
open Pu (Str aH aU)
attribute [local go_sem] Oper.semAt_some
def aN (w:World) (zb:Nat) (o:Str) (b off cap:Nat) (rs:List Rec):Prop :=
 zb<w.heap.size∧w.cell? ⟨zb,0,none⟩=some (.string (B o))∧w.cell? ⟨zb,1,none⟩=some (.slice (some ⟨b,off,none⟩) rs.length cap)∧rs.length≤cap∧bE w b off rs
theorem aN.below {w w':World} {zb b off cap:Nat} {o:Str} {rs:List Rec} (h:aN w zb o b off cap rs) (hb:Below w.heap.size w w'):aN w' zb o b off cap rs :=
 ⟨Nat.lt_of_lt_of_le h.1 hb.size,(hb.cell (p:=⟨zb,0,none⟩) h.1).trans h.2.1,(hb.cell (p:=⟨zb,1,none⟩) h.1).trans h.2.2.1,h.2.2.2.1,h.2.2.2.2.below hb⟩
theorem aN.low {w w':World} {zb b off cap n:Nat} {o:Str} {rs:List Rec} (h:aN w zb o b off cap rs) (hb:Below n w w') (h1:zb<n) (h2:b<n):aN w' zb o b off cap rs :=
 ⟨Nat.lt_of_lt_of_le h.1 hb.size,(hb.cell (p:=⟨zb,0,none⟩) h1).trans h.2.1,(hb.cell (p:=⟨zb,1,none⟩) h1).trans h.2.2.1,h.2.2.2.1,Ia.bE.low h.2.2.2.2 hb h2⟩
def Fit (o:Str) (rs:List Rec):Prop:=rs.length≤3001∧o.length≤3000∧∀ r∈rs,r.owner.length≤3000∧r.data.length≤3000
def there (rs:List Rec) (n:Str):Bool:=!(underRuns n rs).isEmpty
namespace Za
open Ka Kd Rg Ia Iow Ie Zb Zc
theorem of_t (zb b off cap:Nat) (o n:Str) (rs:List Rec) (w:World) (hz:aN w zb o b off cap rs) (hlen:rs.length≤3001) :
  Calls Tryz.prog 270 #[.pointer (some ⟨zb,0,none⟩),.string (B n)] w fun e w'=>(∃ v,e=.returned v∧Piece b off rs v (ofP rs n))∧Below w.heap.size w w':=by
 obtain ⟨hzb,hz0,hz1,hcap,hr⟩:=hz
 have HC:=aH (of_any b off cap n rs w hr hcap hlen)
 clear hr
 go_enter Tryz.func270,Tryz.ntmps270
 go_wp2_with fail
 refine (aU HC).mono ?_
 rintro e w1 ⟨⟨v,rfl,hv⟩,hb1⟩
 have HV:=aH hv
 clear hv
 go_wp2_with fail
 go_ret
 exact ⟨⟨_,rfl,aU HV⟩,hb1⟩
theorem set_t (zb b off cap:Nat) (o n:Str) (k:Int) (rs:List Rec) (w:World) (hz:aN w zb o b off cap rs) (hlen:rs.length≤3001) :
  Calls Tryz.prog 192 #[.pointer (some ⟨zb,0,none⟩),.string (B n),.int .i64 k] w fun e w'=>(∃ v,e=.returned v∧Piece b off rs v (setP (ofP rs n) k))∧Below w.heap.size w w':=by
 obtain ⟨hzb,hz0,hz1,hcap,hr⟩:=hz
 have HC:=aH (set_any b off cap n k rs w hr hcap hlen)
 clear hr
 go_enter Tryz.func192,Tryz.ntmps192
 go_wp2_with fail
 refine (aU HC).mono ?_
 rintro e w1 ⟨⟨v,rfl,hv⟩,hb1⟩
 have HV:=aH hv
 clear hv
 go_wp2_with fail
 go_ret
 exact ⟨⟨_,rfl,aU HV⟩,hb1⟩
theorem isThere_any (zb b off cap:Nat) (o n:Str) (rs:List Rec) (w:World) (hz:aN w zb o b off cap rs) (hlen:rs.length≤3001) (hn:n.length≤3000) (ho : ∀ r∈rs,r.owner.length≤3000) :
  Calls Tryz.prog 269 #[.pointer (some ⟨zb,0,none⟩),.string (B n)] w fun e w'=>e=.returned (.bool (there rs n))∧Below w.heap.size w w':=by
 refine (callsIn_wide (n:=0)).1 ?_
 refine callsIn_of_wp_marks Tryz.func269 rfl trivial ?_
 simp only [Tryz.ntmps269,List.size_toArray,List.length_cons,List.length_nil,Nat.reduceAdd,Nat.reduceSub,Array.replicate_succ,Array.replicate_zero,List.push_toArray,List.append_toArray,List.nil_append,List.cons_append]
 have HO:=aH ho
 obtain ⟨hzb,hz0,hz1,hcap,hr⟩:=hz
 have HR:=aH hr
 have hb:=hr.1
 clear hr ho
 gi_wp2_with fail
 refine ⟨trivial,rfl,?_⟩
 refine (callsIn_wide.2 (under_o _ _ _ _ _)).mono ?_
 rintro e W2 ⟨rfl,e4,hb2,e1,e2⟩
 have e0:It.Box W2 w.heap.size (.bool false) 4:=(It.Box.new _ _ _).below hb2 (by simp <;> omega)
 have e5:Below w.heap.size w W2:=((Below.refl _ _).alloc (Nat.le_refl _) _).trans (hb2.mono (by simp <;> omega))
 simp only [World.size_alloc] at e4 e1 e2
 gi_wp2_with fail
 have hgrow : ∀ r,Below W2.heap.size W2 ((W2.alloc (.deferred (some []))).alloc (.loop r)):=fun r=>((Below.refl _ _).alloc (Nat.le_refl _) _).alloc (by simp) _
 have hgsz : ∀ r,((W2.alloc (.deferred (some []))).alloc (.loop r)).heap.size=W2.heap.size+2:=fun r=>by simp
 refine It.rangeB (xs:=underRuns n rs) (encs:=fun x:Nat×List Rec=>#[.string (B (aI x)),.slice (some ⟨b,off+x.1*4,none⟩) x.2.length x.2.length]) (St:=fun A B=>Below (W2.heap.size+2) A B) (Kp:=fun A B=>(B.heap[b]? = A.heap[b]?∧B.heap[w.heap.size+1+1]? = A.heap[w.heap.size+1+1]?)∧It.Above (W2.heap.size+2) A B) (Kx:=fun A B=>It.Above (W2.heap.size+2) A B)
  (gf:=235) (lb:=#[.pointer (some ⟨w.heap.size+1,0,none⟩),.pointer (some ⟨w.heap.size+1+1,0,none⟩)]) rfl (enters_of Tryz.func235 (by kernel_rfl) rfl) (fun _=>rfl) ?seq
  [b,w.heap.size+1+1] (by simp; omega) (fun _ _ _ h=>h) (fun A B h h'=>⟨⟨h _ (by simp),h _ (by simp)⟩,h'⟩) (fun _ _ h=>h)
  (fun i W=>i=0∧Below w.heap.size w W∧It.Box W w.heap.size (.bool false) 4)
  (fun c W=>c=.ret∧there rs n=true∧Below w.heap.size w W∧It.Box W w.heap.size (.bool true) 4)
  (fun i A B h hb=>⟨h.1,h.2.1.trans (hb.mono (by omega)),h.2.2.below hb (by omega)⟩)
  (fun c A B h hb=>⟨h.1,h.2.1,h.2.2.1.trans (hb.mono (by omega)),h.2.2.2.below hb (by omega)⟩)
  ⟨rfl,e5,e0⟩
  ?round ?done ?stop
 case seq =>
  intro r
  have hg:=hgrow r
  have:=under_seq b off cap (w.heap.size+1) (w.heap.size+1+1) n rs ((W2.alloc (.deferred (some []))).alloc (.loop r)) (((aU HR).below e5).below hg) hcap ((hg.cell (p:=⟨w.heap.size+1,0,none⟩) (by show w.heap.size+1<W2.heap.size; omega)).trans e1) ((hg.cell (p:=⟨w.heap.size+1+1,0,none⟩) (by show w.heap.size+1+1<W2.heap.size; omega)).trans e2) (by have:=hg.size; omega) (by have:=hg.size; omega) hlen hn (aU HO)
  rw [hgsz r] at this
  exact this
 case round =>
  intro l' i x V W hx hI hsz
  gi_wp2_with fail
  refine ⟨trivial,?_⟩
  obtain ⟨rfl,hB,hc⟩:=hI
  have cb:=hc.cell
  have cf:=hc.frozen
  have hth:there rs n=true:=by
   unfold there
   cases h:underRuns n rs with
   | nil=>rw [h] at hx; simp at hx
   | cons y t=>rfl
  gi_wp2_with fail
  exact ⟨It.Above.setCell W _ _ (by omega),rfl,hth,hB.setCell (Nat.le_refl _) _,hc.set _⟩
 case done =>
  intro W hI hdef hsz
  obtain ⟨h0,hB,hc⟩:=hI
  have cb:=hc.cell
  have cf:=hc.frozen
  have hth:there rs n=false:=by
   unfold there
   cases h:underRuns n rs with
   | nil=>rfl
   | cons y t=>rw [h] at h0; simp at h0
  gi_wp2_with fail
  refine ⟨by simp,.inl ⟨_,_,rfl,run_takeDeferred ((Below.heap_setCell _ _ _ _ (by show W2.heap.size≠w.heap.size; omega)).trans hdef),?_⟩⟩
  have cr:=((hc.set (.bool false)).put (d:=W2.heap.size) (o:=.deferred none) (by omega)).cell
  refine ⟨.bool false,by simp [results,Tryz.results269,go_sem,cr],by rw [hth],?_⟩
  exact (hB.setCell (Nat.le_refl _) _).trans (belowK_b (w:=W2) (by omega) _ _ _ _ (Nat.le_refl _) ((Below.heap_setCell _ _ _ _ (by show W2.heap.size≠w.heap.size; omega)).trans hdef) rfl rfl)
 case stop =>
  intro c W hI hdef hsz
  obtain ⟨rfl,ht,hB,hc⟩:=hI
  have cb:=hc.cell
  gi_wp2_with fail
  refine ⟨by simp,.inl ⟨_,_,rfl,run_takeDeferred hdef,?_⟩⟩
  have cr:=(hc.put (d:=W2.heap.size) (o:=.deferred none) (by omega)).cell
  refine ⟨.bool true,by simp [results,Tryz.results269,go_sem,cr],by rw [ht],?_⟩
  exact hB.trans (belowK_b (w:=W2) (by omega) _ _ _ _ (Nat.le_refl _) hdef rfl rfl)
end Za
end Go.Proofs.YtkkpahmoljiepaaGreatDoor

set_option maxRecDepth 1000000
set_option maxHeartbeats 12800000
namespace Go.Proofs.YtkkpahmoljiepaaGreatDoor
open Go.RowKit
open Pu (Str aH aU)
attribute [local go_sem] Oper.semAt_some
def after (l:Str):Str:=(Lib.cut l [46]).2.1
def endsF:Nat→Str→List Str
 | 0,_=>[]
 | f+1,l=>if l = [] then [] else l :: endsF f (after l)
def ends (l:Str):List Str:=endsF l.length l
theorem after_some (a b:Str) (h:(46:UInt8) ∉ a):after (a++46 :: b)=b:=by
 unfold after Lib.cut
 rw [Lib.index_one,Sp.indexByte_some 46 a b h,if_pos (by omega)]
 simp [Int.toNat_natCast]
theorem after_none (l:Str) (h:(46:UInt8) ∉ l):after l = []:=by
 unfold after Lib.cut
 rw [Lib.index_one,Sp.indexByte_none 46 l h,if_neg (by decide)]
theorem after_len (l:Str) (h:l≠[]):(after l).length<l.length:=by
 by_cases hc:(46:UInt8)∈l
 ·obtain ⟨a,b,rfl,ha⟩:=List.eq_append_cons_of_mem hc
  rw [after_some a b ha]; simp; omega
 ·rw [after_none l hc]
  cases l with
  | nil=>exact absurd rfl h
  | cons x t=>simp
theorem endsF_fuel : ∀ (f:Nat) (l:Str),l.length≤f→endsF f l=endsF l.length l
 | 0,l,h=>by
  obtain rfl:l = []:=List.eq_nil_of_length_eq_zero (by omega)
  rfl
 | f+1,l,h=>by
  by_cases hl:l = []
  ·subst hl; rfl
  ·have h1:=after_len l hl
   obtain ⟨k,hk⟩ : ∃ k,l.length=k+1:=⟨l.length - 1,by cases l with | nil=>exact absurd rfl hl | cons x t=>simp⟩
   rw [hk,endsF,endsF,if_neg hl,if_neg hl,endsF_fuel f _ (by omega),endsF_fuel k _ (by omega)]
theorem ends_nil:ends [] = []:=rfl
theorem ends_cons (l:Str) (h:l≠[]):ends l=l :: ends (after l):=by
 have h1:=after_len l h
 unfold ends
 obtain ⟨k,hk⟩ : ∃ k,l.length=k+1:=⟨l.length - 1,by cases l with | nil=>exact absurd rfl h | cons x t=>simp⟩
 rw [hk,endsF,if_neg h,endsF_fuel k _ (by omega)]
theorem ends_len : ∀ (f:Nat) (l:Str),l.length≤f→∀ x∈ends l,x.length≤l.length
 | 0,l,h,x,hx=>by
  obtain rfl:l = []:=List.eq_nil_of_length_eq_zero (by omega)
  simp [ends_nil] at hx
 | f+1,l,h,x,hx=>by
  by_cases hl:l = []
  ·subst hl; simp [ends_nil] at hx
  ·rw [ends_cons l hl,List.mem_cons] at hx
   have h1:=after_len l hl
   rcases hx with rfl | hx
   ·exact Nat.le_refl _
   ·have:=ends_len f (after l) (by omega) x hx; omega
theorem ends_mem_len {l x:Str} (hx:x∈ends l):x.length≤l.length:=ends_len _ _ (Nat.le_refl _) x hx
def strLen:Value→Nat
 | .string s=>s.size
 | _=>0
namespace La
open Ka Kd Rg Ia Iow Ie Zb Zc Za
theorem ends_o (n:Str) (w:World) :
  Calls Tryz.prog 191 #[.string (B n)] w fun e w'=>e=.returned (.func (.func 241) #[] #[.pointer (some ⟨w.heap.size,0,none⟩)])∧w'.heap.size=w.heap.size+1∧Below w.heap.size w w'∧w'.cell? ⟨w.heap.size,0,none⟩=some (.string (B n)):=by
 go_enter Tryz.func191,Tryz.ntmps191
 go_wp2
 go_ret
 exact ⟨rfl,by simp,(Below.refl _ _).alloc (Nat.le_refl _) _,by go_simp⟩
theorem cut_any (e:Str) (w:World) (hg:G w) (he:e.length≤3000) :
  Calls Tryz.prog 242 #[.string (B e),.string ⟨#[46]⟩] w fun x w'=>(∃ b c,x=.returned (.tuple #[.string (B b),.string (B (after e)),.bool c]))∧Below w.heap.size w w':=by
 obtain ⟨_,m,hm⟩:=hg
 refine (Tryz.strings_Cut (B e) ⟨#[46]⟩ m w (by rw [size_B]; omega) hm).mono ?_
 rintro x w' ⟨rfl,k,rfl⟩
 exact ⟨⟨_,_,rfl⟩,Rg.below_drewN (Below.refl _ w) k⟩
theorem ancestors_o (n:Str) (w:World) (hg:G w) (hn:n.length≤3000) :
  Calls Tryz.prog 271 #[.string (B n)] w fun e w'=>∃ bn,e=.returned (.func (.func 241) #[] #[.pointer (some ⟨bn,0,none⟩)])∧bn<w'.heap.size∧w.heap.size≤bn∧Below w.heap.size w w'∧w'.cell? ⟨bn,0,none⟩=some (.string (B (after n))):=by
 have HC:=aH (cut_any n w hg hn)
 clear hg
 go_enter Tryz.func271,Tryz.ntmps271
 go_wp2_with fail
 refine (aU HC).mono ?_
 rintro e w1 ⟨⟨b,c,rfl⟩,hb1⟩
 go_wp2_with fail
 refine (ends_o (after n) w1).mono ?_
 rintro e w2 ⟨rfl,hs2,hb2,c2⟩
 have C2:=aH c2
 clear c2
 go_wp2_with fail
 go_ret
 have:=hb1.size
 exact ⟨_,rfl,by omega,by omega,hb1.trans (hb2.mono hb1.size),aU C2⟩
theorem ends_seq (bn:Nat) (n:Str) (W0:World) (hc:W0.cell? ⟨bn,0,none⟩=some (.string (B n))) (hg:G W0) (hn:n.length≤3000) :
  It.Seq Tryz.prog 241 #[.pointer (some ⟨bn,0,none⟩)] (fun e:Str=>#[.string (B e)]) (ends n)
   (fun A B=>Below A.heap.size A B) (fun A B=>A.heap.size≤B.heap.size∧B.heap[0]? = A.heap[0]?) (fun _ _=>True) W0:=by
 intro l J Jx hJ hJx hY h0
 have HY:=aH hY
 have HJ:=aH hJ
 have HG:=aH hg
 clear hY hJ hJx hg
 refine callsIn_of_wp Tryz.func241 rfl trivial ?_
 simp only [Tryz.ntmps241,List.size_toArray,List.length_cons,List.length_nil,Nat.reduceAdd,Nat.reduceSub,Array.replicate_succ,Array.replicate_zero,List.push_toArray,List.append_toArray,List.nil_append,List.cons_append]
 gi_wp2
 gi_loopw [3] (fun s wr=>∃ (i:Nat) (e:Str),s=.string (B e)∧e.length≤n.length∧i≤(ends n).length∧(ends n).drop i=ends e∧J i wr∧(W0.heap.size≤wr.heap.size∧wr.heap[0]? = W0.heap[0]?)) (fun s _=>strLen s)
 case atStart=>exact ⟨0,n,rfl,Nat.le_refl _,Nat.zero_le _,rfl,h0,Nat.le_refl _,rfl⟩
 case round =>
  obtain ⟨i,e,rfl,hel,hi,hdr,hJi,hB⟩:=hrel
  have HD:=aH hdr
  have HJi:=aH hJi
  clear hdr hJi
  by_cases he:e = []
  ·have hne:((B e).toList == [])=true:=by rw [he,ByteArray.toList_eq]; rfl
   have hfin:Hid (i=(ends n).length):=by
    have:=congrArg List.length (aU HD)
    rw [List.length_drop,he,ends_nil,List.length_nil] at this
    rw [Hid]; omega
   clear hc HY HJ HG HD hel hi hB he
   gi_wp2
   go_end0
   exact ⟨⟨_,rfl⟩,.inl (by rw [← aU hfin]; exact aU HJi)⟩
  ·have hne:((B e).toList == [])=false:=by
    rw [beq_eq_false_iff_ne,ByteArray.toList_eq]; exact he
   have HIX:Hid ((ends n)[i]? = some e):=by
    have:=congrArg (fun l:List Str=>l[0]?) (aU HD)
    rw [ends_cons e he] at this
    rw [Hid]
    simpa using this
   have HNX:Hid ((ends n).drop (i+1)=ends (after e)):=by
    rw [Hid,← List.drop_drop,aU HD,ends_cons e he]; rfl
   have HI1:Hid (i+1≤(ends n).length):=(List.getElem?_eq_some_iff.1 (aU HIX)).1
   have hal:=after_len e he
   have hyi:=aU HY i e wr (aU HIX) (aU HJi)
   obtain ⟨fn,tmps,assign,body,hy,hR⟩:=hyi
   gi_wp2_with fail
   refine ⟨rfl,hR.mono ?_⟩
   rintro x W3 (⟨rfl,hJ4,hk4⟩ | ⟨rfl,hJx4,_⟩)
   ·have HJ4:=aH hJ4
    have hB4:W0.heap.size≤W3.heap.size∧W3.heap[0]? = W0.heap[0]?:=⟨Nat.le_trans hB.1 hk4.1,hk4.2.trans hB.2⟩
    have HG3:G W3:=by
     obtain ⟨g0,m,hm⟩:=aU HG
     exact ⟨Nat.lt_of_lt_of_le g0 hB4.1,m,(World.cell?_of_block hB4.2).trans hm⟩
    have HC:=aH (cut_any e W3 HG3 (by omega))
    have h03:=HG3.1
    clear hJ4 hk4 HG3
    gi_wp2_with fail
    refine ⟨trivial,rfl,?_⟩
    refine (callsIn_wide.2 (aU HC)).mono ?_
    rintro x W5 ⟨⟨b,c,rfl⟩,hb5⟩
    have HE:=aH (aU HJ _ _ _ (aU HJ4) hb5)
    have hB5:W0.heap.size≤W5.heap.size∧W5.heap[0]? = W0.heap[0]?:=⟨Nat.le_trans hB4.1 hb5.size,(hb5.block 0 h03).trans hB4.2⟩
    gi_wp2_with fail
    exact ⟨⟨i+1,after e,rfl,by omega,aU HI1,aU HNX,aU HE,hB5⟩,by simp only [strLen,size_B]; omega⟩
   ·gi_wp2
    refine bodyPost_ret (results_none rfl _ _ _) rfl ?_
    exact ⟨⟨_,rfl⟩,.inr hJx4⟩
end La
end Go.Proofs.YtkkpahmoljiepaaGreatDoor

set_option maxRecDepth 1000000
set_option maxHeartbeats 12800000
namespace Go.Proofs.YtkkpahmoljiepaaGreatDoor
open Go.RowKit
open Pu (Str aH aU)
def BytesAt (w:World) (b:Nat) (l:Str):Prop:=b<w.heap.size∧(∀ j (h:j<l.length),w.cell? ⟨b,j,none⟩=some (.int .u8 l[j].toNat))∧∀ j,j<l.length→w.frozen? ⟨b,j,none⟩=false
theorem BytesAt.set {w:World} {b:Nat} {l:Str} (h:BytesAt w b l) (k:Nat) (c:UInt8) (hk:k<l.length):BytesAt (w.setCell ⟨b,k,none⟩ (.int .u8 c.toNat)) b (l.set k c):=by
 obtain ⟨h1,h2,h3⟩:=h
 refine ⟨by simpa [World.setCell] using h1,fun j hj=>?_,fun j hj=>?_⟩
 ·rw [List.length_set] at hj
  by_cases e:k=j
  ·subst e
   rw [World.cell?_setCell_same _ _ _ (h2 k hj)]
   simp
  ·rw [World.cell?_setCell_other _ _ _ _ (fun x=>e (congrArg Addr.off x)),h2 j hj]
   simp [List.getElem_set,e]
 ·rw [List.length_set] at hj
  rw [World.frozen?_setCell]
  exact h3 j hj
namespace Wd
open Ka Wa Wb
theorem bytes_new (w:World) (l:Str) (cap:Nat):BytesAt (w.drew.alloc (.cells (bytesRow (B l) cap) 5 ((bytesRow (B l) cap).size,(bytesRow (B l) cap).size+1))) w.heap.size l:=by
 have hn:(w.drew.alloc (.cells (bytesRow (B l) cap) 5 ((bytesRow (B l) cap).size,(bytesRow (B l) cap).size+1))).heap[w.heap.size]? = some (.cells (bytesRow (B l) cap) 5 ((bytesRow (B l) cap).size,(bytesRow (B l) cap).size+1)):=World.alloc_heap_new w.drew _
 have hs:l.length≤(bytesRow (B l) cap).size:=by simp [bytesRow,B]
 refine ⟨by simp,fun j hj=>?_,fun j hj=>?_⟩
 ·have:=bytesRow_at (B l) cap j (by simpa [B] using hj)
  simp only [World.cell?,hn]
  rw [this]
  rfl
 ·simp only [World.frozen?,hn]
  simp; omega
def foldC (c:UInt8):UInt8:=if 65≤c.toNat∧c.toNat≤90 then UInt8.ofNat (c.toNat+32) else if c.toNat=46 then 80 else c
theorem map_step (l:Str) (k:Nat) (c:UInt8) (h:k<l.length):((l.take k).map foldC++l.drop k).set k (foldC l[k])=(l.take (k+1)).map foldC++l.drop (k+1):=by
 have e1:((l.take k).map foldC).length=k:=by simp; omega
 rw [List.drop_eq_getElem_cons h,List.take_succ_eq_append_getElem h,List.set_append,if_neg (by omega),e1,Nat.sub_self,List.map_append,List.append_assoc,List.set_cons_zero]
 rfl
theorem map_same (l:Str) (k:Nat) (h:k<l.length) (hc:foldC l[k]=l[k]):(l.take (k+1)).map foldC++l.drop (k+1)=(l.take k).map foldC++l.drop k:=by
 rw [List.drop_eq_getElem_cons h,List.take_succ_eq_append_getElem h,List.map_append,List.append_assoc]
 simp only [List.map_cons,List.map_nil,hc,List.singleton_append]
theorem fold_any (l:Str) (w:World) (hl:l.length≤1000) :
  Calls Tryz.prog 252 #[.string (B l)] w fun e w'=>e=.returned (.string (B (l.map foldC)))∧Below w.heap.size w w':=by
 have kb:=run_bytes_of_string (P:=Tryz.prog) w 9 58 5 (B l) Tryz.underlying9 Tryz.underlying58 Tryz.underlying5
 have HA:=aH (bytes_new w l (grownCap w (B l).size 0 5))
 have HB:=aH ((Below.refl w.heap.size w).drew.alloc (Nat.le_refl w.heap.size) (.cells (bytesRow (B l) (grownCap w (B l).size 0 5)) 5 ((bytesRow (B l) (grownCap w (B l).size 0 5)).size,(bytesRow (B l) (grownCap w (B l).size 0 5)).size+1)))
 have hcap:l.length≤grownCap w (B l).size 0 5:=by
  have:=grownCap_ge w (B l).size 0 5
  rw [size_B] at this ⊢
  exact this
 generalize grownCap w (B l).size 0 5=cap at *
 generalize w.drew.alloc (.cells (bytesRow (B l) cap) 5 ((bytesRow (B l) cap).size,(bytesRow (B l) cap).size+1))=W at *
 have hs:(B l).size=l.length:=size_B l
 go_enter Tryz.func252,Tryz.ntmps252
 go_wp2_with fail
 go_loopw [10] (fun i wr=>∃ k:Nat,i=.int .i64 k∧k≤l.length∧BytesAt wr w.heap.size ((l.take k).map foldC++l.drop k)∧Below w.heap.size w wr) (fun i _=>l.length - (intOf i).toNat)
 case atStart=>exact ⟨0,rfl,Nat.zero_le _,by simpa using aU HA,aU HB⟩
 case round =>
  obtain ⟨k,rfl,hk,hba,hb⟩:=hrel
  have HBA:=aH hba
  have HBB:=aH hb
  clear hba hb
  by_cases hlk:k<l.length
  ·have hlen:((l.take k).map foldC++l.drop k).length=l.length:=by simp; omega
   have hcell:wr.cell? ⟨w.heap.size,k,none⟩=some (.int .u8 l[k].toNat):=by
    rw [(aU HBA).2.1 k (by omega)]
    rw [List.getElem_append_right (by simp; omega),List.getElem_drop]
    simp [Nat.min_eq_left hk]
   have hfz:wr.frozen? ⟨w.heap.size,k,none⟩=false:=(aU HBA).2.2 k (by omega)
   have HM:=aH (map_step l k 0 hlk)
   have HS:=aH ((aU HBA).set k (foldC l[k]) (by omega))
   have HX:=aH (map_same l k hlk)
   generalize l[k]=c at *
   have hc:=UInt8.toNat_lt c
   have HV:Hid (((foldC c).toNat:Int)=if 65≤c.toNat∧c.toNat≤90 then (c.toNat:Int)+32 else if c.toNat=46 then 80 else c.toNat):=by
    unfold Hid foldC
    split
    ·simp [UInt8.toNat_ofNat']; omega
    ·split <;> rfl
   have HC:Hid (foldC c=c→BytesAt wr w.heap.size ((l.take (k+1)).map foldC++l.drop (k+1))):=fun h=>by rw [aU HX h]; exact aU HBA
   rw [aU HM] at HS
   have HI:Hid (¬ (65≤c.toNat∧c.toNat≤90)→¬ c.toNat=46→foldC c=c):=fun h1 h2=>by unfold foldC; rw [if_neg h1,if_neg h2]
   generalize hn:c.toNat=n at *
   clear hlen
   by_cases h1:65≤n∧n≤90
   ·have hv:((foldC c).toNat:Int)=(n:Int) - 65+97:=by rw [aU HV,if_pos h1]; omega
    rw [hv] at HS
    clear hv
    obtain ⟨h1,h2⟩:=h1
    go_wp2
    exact ⟨⟨k+1,by go_num,by omega,aU HS,(aU HBB).setCell (Nat.le_refl _) _⟩,by simp [intOf]; omega⟩
   ·by_cases h2:n=46
    ·have hv:((foldC c).toNat:Int)=80:=by rw [aU HV,if_neg h1,if_pos h2]
     rw [hv] at HS
     clear hv
     subst h2
     go_wp2
     exact ⟨⟨k+1,by go_num,by omega,aU HS,(aU HBB).setCell (Nat.le_refl _) _⟩,by simp [intOf]; omega⟩
    ·have HF:=aH (aU HC (aU HI h1 h2))
     have h3:((n:Int) == 46)=false:=by simp; omega
     by_cases h4:65≤n
     ·have h5 : ¬ n≤90:=by omega
      clear h1
      go_wp2
      exact ⟨⟨k+1,by go_num,by omega,aU HF,aU HBB⟩,by simp [intOf]; omega⟩
     ·clear h1
      go_wp2
      exact ⟨⟨k+1,by go_num,by omega,aU HF,aU HBB⟩,by simp [intOf]; omega⟩
  ·have hkl:k=l.length:=by omega
   have hend:Hid ((l.take k).map foldC++l.drop k=l.map foldC):=by rw [Hid,hkl]; simp
   have hba:=aU HBA
   rw [aU hend] at hba
   have hlm:(l.map foldC).length=l.length:=by simp
   have kc:=run_convert_bytes_back (P:=Tryz.prog) wr 58 9 5 ⟨w.heap.size,0,none⟩ cap (l.map foldC) Tryz.underlying58 Tryz.underlying5 Tryz.underlying9 (fun j hj=>by
    have e:(⟨w.heap.size,0,none⟩:Addr).add j=⟨w.heap.size,j,none⟩:=by unfold Addr.add; by_cases h:j=0 <;> simp [h]
    rw [e]
    exact hba.2.1 j hj)
   rw [hlm] at kc
   clear hba hlm
   subst hkl
   go_wp2
   go_ret
   exact ⟨rfl,aU HBB⟩
theorem first_any (l:Str) (w:World) (hg:G w) (hl:l.length≤3000) :
  Calls Tryz.prog 340 #[.string (B l)] w fun e w'=>e=.returned (.string (B (Lib.cut l [46]).1))∧Below w.heap.size w w':=by
 obtain ⟨_,m,hm⟩:=hg
 have HC:=aH (Tryz.strings_Cut (B l) ⟨#[46]⟩ m w (by rw [size_B]; omega) hm)
 clear hm
 go_enter Tryz.func340,Tryz.ntmps340
 go_wp2_with fail
 refine (aU HC).mono ?_
 rintro e w1 ⟨rfl,n,rfl⟩
 go_wp2_with fail
 go_ret
 exact ⟨rfl,Rg.below_drewN (Below.refl _ w) n⟩
end Wd
end Go.Proofs.YtkkpahmoljiepaaGreatDoor
