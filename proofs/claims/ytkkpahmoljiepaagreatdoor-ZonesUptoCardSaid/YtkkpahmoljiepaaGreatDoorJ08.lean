/- Contract: (*lookup.Table).match. -/
import Derived.Test.YtkkpahmoljiepaaGreatDoorJ07
import Derived.Test.YtkkpahmoljiepaaGreatDoorJ04
import Derived.Deep.QuietTactic
import Derived.Deep.Quiet
import Derived.BigQuiet
set_option linter.unusedSimpArgs false
set_option linter.unusedVariables false
set_option maxRecDepth 1000000
set_option maxHeartbeats 12800000
namespace Go.Proofs.YtkkpahmoljiepaaGreatDoor
open Go.RowKit
open Pu (Str aH aU)
attribute [local go_sem] Oper.semAt_some undef
def matchP (rs:List Rec) (n:Str):List Rec×Bool :=
 if there rs n then (ofP rs n,true)
 else match (ends (after n)).find? (there rs) with
  | some a=>((ofP rs (42 :: 46 :: a)).map (setOwner n),decide (0<(ofP rs (42 :: 46 :: a)).length))
  | none=>([],false)
def Near (w:World) (v:Value) (b base:Nat) (l:List Rec):Prop:=∃ b' off',Lies v b' off' l∧bE w b' off' l∧(b'=b∨base≤b')
theorem Near.rv {w:World} {v:Value} {b base:Nat} {l:List Rec} (h:Near w v b base l):RV w v l:=by
 obtain ⟨b',off',hL,hr,_⟩:=h
 rcases hL with h | ⟨cap,h1,h2⟩
 ·exact .inl h
 ·exact .inr ⟨b',off',cap,h1,h2,hr⟩
theorem Near.own {w:World} {v:Value} {b base base':Nat} {l:List Rec} (h:OwnR w base' v l) (hb:b<w.heap.size) (hle:base≤base'):Near w v b base l:=by
 have hrv:=h.rv
 rcases hrv with ⟨rfl,rfl⟩ | ⟨b',off',cap,rfl,hc,hr⟩
 ·exact ⟨b,0,.inl ⟨rfl,rfl⟩,⟨hb,fun j hj=>by simp at hj⟩,.inl rfl⟩
 ·exact ⟨b',off',.inr ⟨cap,rfl,hc⟩,hr,.inr (Nat.le_trans hle (h.own_lt0 b' rfl).1)⟩
namespace Lf
open Ka Kd Rf Rg Ia Iow Ie Zb Zc Za La Lb Re Lc Le
theorem find_stepS {p:Str→Bool} {l:List Str} {i:Nat} {x:Str} (h:l[i]? = some x):(l.drop i).find? p=if p x then some x else (l.drop (i+1)).find? p:=by
 obtain ⟨hi,rfl⟩:=List.getElem?_eq_some_iff.1 h
 rw [List.drop_eq_getElem_cons hi,List.find?_cons]
 cases p l[i] <;> rfl
theorem match_any (zb b off cap:Nat) (o n:Str) (rs:List Rec) (w:World) (hz:aN w zb o b off cap rs) (hg:G w) (hlen:rs.length≤3001) (hn:n.length≤2900) (ho : ∀ r∈rs,r.owner.length≤3000) :
  Calls Tryz.prog 244 #[.pointer (some ⟨zb,0,none⟩),.string (B n)] w fun e w'=>(∃ v,e=.returned (.tuple #[v,.bool (matchP rs n).2])∧Near w' v b w.heap.size (matchP rs n).1)∧Below w.heap.size w w':=by
 refine (callsIn_wide (n:=0)).1 ?_
 refine callsIn_of_wp_marks Tryz.func244 rfl trivial ?_
 simp only [Tryz.ntmps244,List.size_toArray,List.length_cons,List.length_nil,Nat.reduceAdd,Nat.reduceSub,Array.replicate_succ,Array.replicate_zero,List.push_toArray,List.append_toArray,List.nil_append,List.cons_append]
 have HZ:=aH hz
 have HG:=aH hg
 have HO:=aH ho
 have hzb:=hz.1
 have hblt:=hz.2.2.2.2.1
 have hg0:=hg.1
 have hmx:Tryz.prog.follows .mixedOrders=true:=by kernel_rfl
 have hbx:Below w.heap.size w ((((w.alloc (.cells #[.pointer (some ⟨zb,0,none⟩)] 110)).alloc (.cells #[.string (B n)] 9)).alloc (.cells #[.slice none 0 0] 41)).alloc (.cells #[.bool false] 4)) :=
  ((((Below.refl _ _).alloc (Nat.le_refl _) _).alloc (by simp) _).alloc (by simp; omega) _).alloc (by simp; omega) _
 clear hz hg ho
 have HIT:=aH (isThere_any zb b off cap o n rs _ ((aU HZ).below hbx) hlen (by omega) (aU HO))
 gi_wp2_with fail
 refine ⟨trivial,rfl,?_⟩
 refine (callsIn_wide.2 (aU HIT)).mono ?_
 rintro e W1 ⟨rfl,hb1⟩
 have e0:It.Box W1 w.heap.size (.pointer (some ⟨zb,0,none⟩)) 110:=((((It.Box.new _ _ _).alloc _).alloc _).alloc _).below hb1 (by simp <;> omega)
 have e1:It.Box W1 (w.heap.size+1) (.string (B n)) 9:=by
  have:=(((It.Box.new (w.alloc (.cells #[.pointer (some ⟨zb,0,none⟩)] 110)) (.string (B n)) 9).alloc (.cells #[.slice none 0 0] 41)).alloc (.cells #[.bool false] 4)).below hb1 (by simp <;> omega)
  rwa [World.size_alloc] at this
 have e2:It.Box W1 (w.heap.size+1+1) (.slice none 0 0) 41:=by
  have:=((It.Box.new ((w.alloc (.cells #[.pointer (some ⟨zb,0,none⟩)] 110)).alloc (.cells #[.string (B n)] 9)) (.slice none 0 0) 41).alloc (.cells #[.bool false] 4)).below hb1 (by simp <;> omega)
  rwa [World.size_alloc,World.size_alloc] at this
 have e3:It.Box W1 (w.heap.size+1+1+1) (.bool false) 4:=by
  have:=(It.Box.new (((w.alloc (.cells #[.pointer (some ⟨zb,0,none⟩)] 110)).alloc (.cells #[.string (B n)] 9)).alloc (.cells #[.slice none 0 0] 41)) (.bool false) 4).below hb1 (by simp <;> omega)
  rwa [World.size_alloc,World.size_alloc,World.size_alloc] at this
 have hB1:Below w.heap.size w W1:=hbx.trans (hb1.mono (by simp <;> omega))
 have hs1:w.heap.size+4≤W1.heap.size:=by have:=e3.lt; omega
 clear hb1 hbx HIT
 have c0:=e0.cell
 have c1:=e1.cell
 cases hth:there rs n
 ·have hP:Hid (matchP rs n=match (ends (after n)).find? (there rs) with
    | some a=>((ofP rs (42 :: 46 :: a)).map (setOwner n),decide (0<(ofP rs (42 :: 46 :: a)).length))
    | none=>([],false)):=by unfold matchP; rw [hth]; rfl
  have HAN:=aH (ancestors_o n W1 ((aU HG).below hB1) (by omega))
  gi_wp2_with fail
  refine ⟨trivial,rfl,?_⟩
  refine (callsIn_wide.2 (aU HAN)).mono ?_
  rintro e W2 ⟨bn,rfl,hbn,hbn1,hb2,cbn⟩
  have CBN:=aH cbn
  have i0:=e0.below hb2 e0.lt
  have i1:=e1.below hb2 e1.lt
  have i2:=e2.below hb2 e2.lt
  have i3:=e3.below hb2 e3.lt
  have hB2:=hB1.trans (hb2.mono hB1.size)
  have hs2:w.heap.size+4≤W2.heap.size:=Nat.le_trans hs1 hb2.size
  clear e0 e1 e2 e3 c0 c1 cbn
  gi_wp2_with fail
  have hgrow : ∀ r,Below W2.heap.size W2 ((W2.alloc (.deferred (some []))).alloc (.loop r)):=fun r=>((Below.refl _ _).alloc (Nat.le_refl _) _).alloc (by simp) _
  refine It.rangeC (xs:=ends (after n)) (encs:=fun e:Str=>#[.string (B e)]) (St:=fun A B=>Below A.heap.size A B) (Kp:=fun A B=>A.heap.size≤B.heap.size∧B.heap[0]? = A.heap[0]?) (Kx:=fun _ _=>True)
   (gf:=241) (lb:=#[.pointer (some ⟨bn,0,none⟩)]) rfl (enters_of Tryz.func241 (by kernel_rfl) rfl) (fun _=>rfl) ?seq
   [0] (by simp; omega) (fun A B h=>h) (fun A B h h'=>⟨h'.1,h _ (by simp)⟩) (fun _ _ _=>trivial)
   (fun i W=>((ends (after n)).drop i).find? (there rs)=(ends (after n)).find? (there rs)∧Below w.heap.size w W∧It.Box W w.heap.size (.pointer (some ⟨zb,0,none⟩)) 110∧It.Box W (w.heap.size+1) (.string (B n)) 9∧It.Box W (w.heap.size+1+1) (.slice none 0 0) 41∧It.Box W (w.heap.size+1+1+1) (.bool false) 4)
   (fun c W=>c=.ret∧Below w.heap.size w W∧∃ v,OwnR W (W2.heap.size+2) v (matchP rs n).1∧It.Box W (w.heap.size+1+1) v 41∧It.Box W (w.heap.size+1+1+1) (.bool (matchP rs n).2) 4)
   (fun i A B h hA hk=>⟨h.1,h.2.1.trans (hk.below (by omega) (by omega)),h.2.2.1.below (hk.below (n:=W2.heap.size) (by omega) hA) (by omega),h.2.2.2.1.below (hk.below (n:=W2.heap.size) (by omega) hA) (by omega),h.2.2.2.2.1.below (hk.below (n:=W2.heap.size) (by omega) hA) (by omega),h.2.2.2.2.2.below (hk.below (n:=W2.heap.size) (by omega) hA) (by omega)⟩)
   (fun c A B h hA hk=>⟨h.1,h.2.1.trans (hk.below (by omega) (by omega)),by
    obtain ⟨v,h1,h2,h3⟩:=h.2.2
    exact ⟨v,h1.keeps hk (by omega),h2.below (hk.below (n:=W2.heap.size) (by omega) (by omega)) (by omega),h3.below (hk.below (n:=W2.heap.size) (by omega) (by omega)) (by omega)⟩⟩)
   ⟨rfl,hB2,i0,i1,i2,i3⟩
   ?round ?done ?stop
  case seq =>
   intro r
   have hg:=hgrow r
   exact ends_seq _ _ _ ((hg.cell (p:=⟨bn,0,none⟩) (by show bn<W2.heap.size; omega)).trans (aU CBN)) (((aU HG).below hB2).below hg) (by
    by_cases h:n = []
    ·subst h; decide
    ·have:=after_len n h; omega)
  case round =>
   intro l' i x V W hx hI hsz
   gi_wp2_with fail
   refine ⟨trivial,?_⟩
   obtain ⟨hf,hB,j0,j1,j2,j3⟩:=hI
   have hal:(after n).length≤n.length:=by
    by_cases h:n = []
    ·subst h; decide
    ·have:=after_len n h; omega
   have hxl:=ends_mem_len (List.mem_of_getElem? hx)
   have hzW:=(aU HZ).below hB
   have HZW:=aH hzW
   have cn:=j0.cell
   have cm:=j1.cell
   have hst:=find_stepS (p:=there rs) hx
   rw [hf] at hst
   have HS:=aH hst
   have J0:=aH j0
   have J1:=aH j1
   have J2:=aH j2
   have J3:=aH j3
   have hj3:=j3.lt
   have HIT:=aH (isThere_any zb b off cap o x rs W hzW hlen (by omega) (aU HO))
   clear hf hst hzW j0 j1 j2 j3 hx i0 i1 i2 i3
   cases ht:there rs x
   ·have HF:Hid (((ends (after n)).drop (i+1)).find? (there rs)=(ends (after n)).find? (there rs)):=by rw [Hid,aU HS,ht]; rfl
    gi_wp2_with fail
    refine ⟨trivial,rfl,?_⟩
    refine (CallsIn.inRound l' (callsIn_wide.2 (aU HIT))).mono ?_
    rintro e W4 ⟨rfl,hb4⟩
    have HE:Hid (It.Above W2.heap.size W W4∧(∀ k∈[0],W4.heap[k]? = W.heap[k]?)∧(((ends (after n)).drop (i+1)).find? (there rs)=(ends (after n)).find? (there rs)∧Below w.heap.size w W4∧It.Box W4 w.heap.size (.pointer (some ⟨zb,0,none⟩)) 110∧It.Box W4 (w.heap.size+1) (.string (B n)) 9∧It.Box W4 (w.heap.size+1+1) (.slice none 0 0) 41∧It.Box W4 (w.heap.size+1+1+1) (.bool false) 4)) :=
     ⟨It.Above.of_grown hb4,fun k hk=>hb4.block k (by simp at hk; omega),aU HF,hB.trans (hb4.mono hB.size),(aU J0).below hb4 (by omega),(aU J1).below hb4 (by omega),(aU J2).below hb4 (by omega),(aU J3).below hb4 (by omega)⟩
    gi_wp2_with fail
    exact aU HE
   ·have HM:Hid (matchP rs n=((ofP rs (42 :: 46 :: x)).map (setOwner n),decide (0<(ofP rs (42 :: 46 :: x)).length))):=by
     rw [Hid,aU hP,aU HS,ht]; rfl
    gi_wp2_with fail
    refine ⟨trivial,rfl,?_⟩
    refine (CallsIn.inRound l' (callsIn_wide.2 (aU HIT))).mono ?_
    rintro e W3 ⟨rfl,hb3⟩
    have hB3:=hB.trans (hb3.mono hB.size)
    have l0:=(aU J0).below hb3 (by omega)
    have l1:=(aU J1).below hb3 (by omega)
    have l2:=(aU J2).below hb3 (by omega)
    have l3:=(aU J3).below hb3 (by omega)
    have m0:=l0.cell
    have m1:=l1.cell
    have hs3:=hb3.size
    have hsx:(B x).size≤1000000:=by rw [size_B]; omega
    have HSTAR:Hid (∀ W',Calls Tryz.prog 273 #[.string (B x)] W' fun e w'=>e=.returned (.string (B (42 :: 46 :: x)))∧w'=W'):=fun W'=>star_any (B x) W' hsx
    have HOF:=aH (of_t zb b off cap o (42 :: 46 :: x) rs W3.drew (((aU HZ).below hB3).below (Below.refl _ _).drew) hlen)
    -- behind the records of the star
    have HAFT:Hid (∀ (W4:World) (v4:Value),Piece b off rs v4 (ofP rs (42 :: 46 :: x))→Below W3.drew.heap.size W3.drew W4 →
      W4.cell? ⟨w.heap.size+1,0,none⟩=some (.string (B n)) ∧
      Hid (Calls Tryz.prog 272 #[.string (B n),v4] W4 fun e w'=>∃ v',e=.returned v'∧OwnR w' W4.heap.size v' ((ofP rs (42 :: 46 :: x)).map (setOwner n))∧Below W4.heap.size W4 w') ∧
      (∀ (W5:World) (v5:Value),OwnR W5 W4.heap.size v5 ((ofP rs (42 :: 46 :: x)).map (setOwner n))→Below W4.heap.size W4 W5 →
       Hid ((W5.cell? ⟨w.heap.size+1+1,0,none⟩=some (.slice none 0 0)∧W5.frozen? ⟨w.heap.size+1+1,0,none⟩=false∧W5.cell? ⟨w.heap.size+1+1+1,0,none⟩=some (.bool false)∧W5.frozen? ⟨w.heap.size+1+1+1,0,none⟩=false) ∧
        (It.postA W2.heap.size [0] (fun W=>((ends (after n)).drop (i+1)).find? (there rs)=(ends (after n)).find? (there rs)∧Below w.heap.size w W∧It.Box W w.heap.size (.pointer (some ⟨zb,0,none⟩)) 110∧It.Box W (w.heap.size+1) (.string (B n)) 9∧It.Box W (w.heap.size+1+1) (.slice none 0 0) 41∧It.Box W (w.heap.size+1+1+1) (.bool false) 4)
         (fun c W=>c=.ret∧Below w.heap.size w W∧∃ v,OwnR W (W2.heap.size+2) v (matchP rs n).1∧It.Box W (w.heap.size+1+1) v 41∧It.Box W (w.heap.size+1+1+1) (.bool (matchP rs n).2) 4) W .ret { tmps:=#[],defers:=[] }
         ((W5.setCell ⟨w.heap.size+1+1,0,none⟩ v5).setCell ⟨w.heap.size+1+1+1,0,none⟩ (.bool (decide (0<(ofP rs (42 :: 46 :: x)).length)))))))):=by
     intro W4 v4 hv4 hb4
     have hb4':Below W3.heap.size W3 W4:=((Below.refl _ _).drew).trans hb4
     have hB4:=hB3.trans (hb4'.mono hB3.size)
     have hs4:=hb4'.size
     refine ⟨(l1.below hb4' l1.lt).cell,owned_any n v4 _ W4 (hv4.rv ((aU HZ).below hB4).2.2.2.2) (Nat.le_trans hv4.len hlen),fun W5 v5 ho5 hb5=>?_⟩
     have hB5:=hB4.trans (hb5.mono hB4.size)
     have k2:=(l2.below hb4' l2.lt).below hb5 (by have:=l2.lt; omega)
     have k3:=(l3.below hb4' l3.lt).below hb5 (by have:=l3.lt; omega)
     refine ⟨⟨k2.cell,k2.frozen,k3.cell,k3.frozen⟩,?_⟩
     have hs5:=hb5.size
     have hw45:=hb4'.trans (hb5.mono hb4'.size)
     refine ⟨?_,rfl,(hB5.setCell (by show w.heap.size≤w.heap.size+1+1; omega) _).setCell (by show w.heap.size≤w.heap.size+1+1+1; omega) _,v5,?_,?_,?_⟩
     ·exact ((It.Above.of_grown (hb3.trans (hw45.mono hs3))).trans (It.Above.setCell W5 _ _ (by omega))).trans (It.Above.setCell _ _ _ (by omega))
     ·rw [aU HM]
      exact ((ho5.set_other (k:=w.heap.size+1+1) (by omega) _).set_other (k:=w.heap.size+1+1+1) (by omega) _).base (by omega)
     ·exact (Below.heap_setCell _ _ _ _ (by show w.heap.size+1+1≠w.heap.size+1+1+1; omega)).trans (k2.set _)
     ·rw [aU HM]
      exact (show It.Box (W5.setCell ⟨w.heap.size+1+1,0,none⟩ v5) (w.heap.size+1+1+1) (.bool false) 4 from (Below.heap_setCell _ _ _ _ (by show w.heap.size+1+1+1≠w.heap.size+1+1; omega)).trans k3).set _
    clear HIT J0 J1 J2 J3 l0 l1 l2 l3 HS hP HM
    gi_wp2_with fail
    refine Ir.region_round hmx (Ir.noDefer_spec (by kernel_rfl)) ?_
    refine wpAnyIn_take (i:=2) (v:=?_) rfl rfl (by kernel_rfl) (by kernel_rfl) (by kernel_rfl) (fun _ _ _ h=>h) ⟨Or.inl ⟨by rfl,by intro w; go_simp; first | done | with_reducible rfl⟩,fun _=>rfl⟩ ?_
    refine wpAnyIn_ready (rs:=[0,1,3]) (by kernel_rfl) (by simp) ?_
    refine AllReadyIn.cons rfl (fun K hK=>?_) (AllReadyIn.cons rfl (fun K hK=>?_) (AllReadyIn.cons rfl (fun K hK=>?_) AllReadyIn.nil))
    ·go_simp
     refine hK _ _ ?_
     clear hK K
     refine wpAnyIn_ready (rs:=[1,3]) (by kernel_rfl) (by simp) ?_
     refine AllReadyIn.cons rfl (fun K hK=>?_) (AllReadyIn.cons rfl (fun K hK=>?_) AllReadyIn.nil)
     ·go_simp
      refine hK _ _ ?_
      clear hK K
      refine wpAnyIn_ready (rs:=[3]) (by kernel_rfl) (by simp) ?_
      refine AllReadyIn.cons rfl (fun K hK=>?_) AllReadyIn.nil
      go_simp
      refine ⟨trivial,rfl,?_⟩
      refine (callsIn_wide.2 (aU HSTAR _)).mono ?_
      rintro e D3 ⟨rfl,hD3⟩
      subst hD3
      refine hK _ _ ?_
      clear hK K
      refine wpAnyIn_ready (rs:=[4]) (by kernel_rfl) (by simp) ?_
      refine AllReadyIn.cons rfl (fun K hK=>?_) AllReadyIn.nil
      go_simp
      refine ⟨trivial,rfl,?_⟩
      refine (callsIn_wide.2 (aU HOF)).mono ?_
      rintro e W4 ⟨⟨v4,rfl,hv4⟩,hb4⟩
      obtain ⟨d3,HOWN,HGOON⟩:=aU HAFT W4 v4 hv4 hb4
      clear hv4
      refine hK _ _ ?_
      clear hK K
      refine wpAnyIn_ready (rs:=[5]) (by kernel_rfl) (by simp) ?_
      refine AllReadyIn.cons rfl (fun K hK=>?_) AllReadyIn.nil
      go_simp
      refine ⟨trivial,rfl,?_⟩
      refine (callsIn_wide.2 (aU HOWN)).mono ?_
      rintro e W5 ⟨v5,rfl,ho5,hb5⟩
      obtain ⟨a5,c5,rfl⟩:=ho5.slice
      have HG5:=HGOON W5 _ ho5 hb5
      rw [List.length_map] at HG5
      obtain ⟨k1,k2,k3,k4⟩:=(aU HG5).1
      clear ho5 HGOON HAFT
      refine hK _ _ ?_
      clear hK K
      refine wpAnyIn_ready (rs:=[6]) (by kernel_rfl) (by simp) ?_
      refine AllReadyIn.cons rfl (fun K hK=>?_) AllReadyIn.nil
      go_simp
      refine hK _ _ ?_
      clear hK K
      refine wpAnyIn_done (by kernel_rfl) ?_ _
      gi_wp2_with fail
      exact (aU HG5).2
     ·go_simp
      refine ⟨trivial,rfl,?_⟩
      refine (callsIn_wide.2 (aU HSTAR _)).mono ?_
      rintro e D3 ⟨rfl,hD3⟩
      subst hD3
      refine hK _ _ ?_
      clear hK K
      refine wpAnyIn_ready (rs:=[1]) (by kernel_rfl) (by simp) ?_
      refine AllReadyIn.cons rfl (fun K hK=>?_) AllReadyIn.nil
      go_simp
      refine hK _ _ ?_
      clear hK K
      refine wpAnyIn_ready (rs:=[4]) (by kernel_rfl) (by simp) ?_
      refine AllReadyIn.cons rfl (fun K hK=>?_) AllReadyIn.nil
      go_simp
      refine ⟨trivial,rfl,?_⟩
      refine (callsIn_wide.2 (aU HOF)).mono ?_
      rintro e W4 ⟨⟨v4,rfl,hv4⟩,hb4⟩
      obtain ⟨d3,HOWN,HGOON⟩:=aU HAFT W4 v4 hv4 hb4
      clear hv4
      refine hK _ _ ?_
      clear hK K
      refine wpAnyIn_ready (rs:=[5]) (by kernel_rfl) (by simp) ?_
      refine AllReadyIn.cons rfl (fun K hK=>?_) AllReadyIn.nil
      go_simp
      refine ⟨trivial,rfl,?_⟩
      refine (callsIn_wide.2 (aU HOWN)).mono ?_
      rintro e W5 ⟨v5,rfl,ho5,hb5⟩
      obtain ⟨a5,c5,rfl⟩:=ho5.slice
      have HG5:=HGOON W5 _ ho5 hb5
      rw [List.length_map] at HG5
      obtain ⟨k1,k2,k3,k4⟩:=(aU HG5).1
      clear ho5 HGOON HAFT
      refine hK _ _ ?_
      clear hK K
      refine wpAnyIn_ready (rs:=[6]) (by kernel_rfl) (by simp) ?_
      refine AllReadyIn.cons rfl (fun K hK=>?_) AllReadyIn.nil
      go_simp
      refine hK _ _ ?_
      clear hK K
      refine wpAnyIn_done (by kernel_rfl) ?_ _
      gi_wp2_with fail
      exact (aU HG5).2
    ·go_simp
     refine hK _ _ ?_
     clear hK K
     refine wpAnyIn_ready (rs:=[0,3]) (by kernel_rfl) (by simp) ?_
     refine AllReadyIn.cons rfl (fun K hK=>?_) (AllReadyIn.cons rfl (fun K hK=>?_) AllReadyIn.nil)
     ·go_simp
      refine hK _ _ ?_
      clear hK K
      refine wpAnyIn_ready (rs:=[3]) (by kernel_rfl) (by simp) ?_
      refine AllReadyIn.cons rfl (fun K hK=>?_) AllReadyIn.nil
      go_simp
      refine ⟨trivial,rfl,?_⟩
      refine (callsIn_wide.2 (aU HSTAR _)).mono ?_
      rintro e D3 ⟨rfl,hD3⟩
      subst hD3
      refine hK _ _ ?_
      clear hK K
      refine wpAnyIn_ready (rs:=[4]) (by kernel_rfl) (by simp) ?_
      refine AllReadyIn.cons rfl (fun K hK=>?_) AllReadyIn.nil
      go_simp
      refine ⟨trivial,rfl,?_⟩
      refine (callsIn_wide.2 (aU HOF)).mono ?_
      rintro e W4 ⟨⟨v4,rfl,hv4⟩,hb4⟩
      obtain ⟨d3,HOWN,HGOON⟩:=aU HAFT W4 v4 hv4 hb4
      clear hv4
      refine hK _ _ ?_
      clear hK K
      refine wpAnyIn_ready (rs:=[5]) (by kernel_rfl) (by simp) ?_
      refine AllReadyIn.cons rfl (fun K hK=>?_) AllReadyIn.nil
      go_simp
      refine ⟨trivial,rfl,?_⟩
      refine (callsIn_wide.2 (aU HOWN)).mono ?_
      rintro e W5 ⟨v5,rfl,ho5,hb5⟩
      obtain ⟨a5,c5,rfl⟩:=ho5.slice
      have HG5:=HGOON W5 _ ho5 hb5
      rw [List.length_map] at HG5
      obtain ⟨k1,k2,k3,k4⟩:=(aU HG5).1
      clear ho5 HGOON HAFT
      refine hK _ _ ?_
      clear hK K
      refine wpAnyIn_ready (rs:=[6]) (by kernel_rfl) (by simp) ?_
      refine AllReadyIn.cons rfl (fun K hK=>?_) AllReadyIn.nil
      go_simp
      refine hK _ _ ?_
      clear hK K
      refine wpAnyIn_done (by kernel_rfl) ?_ _
      gi_wp2_with fail
      exact (aU HG5).2
     ·go_simp
      refine ⟨trivial,rfl,?_⟩
      refine (callsIn_wide.2 (aU HSTAR _)).mono ?_
      rintro e D3 ⟨rfl,hD3⟩
      subst hD3
      refine hK _ _ ?_
      clear hK K
      refine wpAnyIn_ready (rs:=[0,4]) (by kernel_rfl) (by simp) ?_
      refine AllReadyIn.cons rfl (fun K hK=>?_) (AllReadyIn.cons rfl (fun K hK=>?_) AllReadyIn.nil)
      ·go_simp
       refine hK _ _ ?_
       clear hK K
       refine wpAnyIn_ready (rs:=[4]) (by kernel_rfl) (by simp) ?_
       refine AllReadyIn.cons rfl (fun K hK=>?_) AllReadyIn.nil
       go_simp
       refine ⟨trivial,rfl,?_⟩
       refine (callsIn_wide.2 (aU HOF)).mono ?_
       rintro e W4 ⟨⟨v4,rfl,hv4⟩,hb4⟩
       obtain ⟨d3,HOWN,HGOON⟩:=aU HAFT W4 v4 hv4 hb4
       clear hv4
       refine hK _ _ ?_
       clear hK K
       refine wpAnyIn_ready (rs:=[5]) (by kernel_rfl) (by simp) ?_
       refine AllReadyIn.cons rfl (fun K hK=>?_) AllReadyIn.nil
       go_simp
       refine ⟨trivial,rfl,?_⟩
       refine (callsIn_wide.2 (aU HOWN)).mono ?_
       rintro e W5 ⟨v5,rfl,ho5,hb5⟩
       obtain ⟨a5,c5,rfl⟩:=ho5.slice
       have HG5:=HGOON W5 _ ho5 hb5
       rw [List.length_map] at HG5
       obtain ⟨k1,k2,k3,k4⟩:=(aU HG5).1
       clear ho5 HGOON HAFT
       refine hK _ _ ?_
       clear hK K
       refine wpAnyIn_ready (rs:=[6]) (by kernel_rfl) (by simp) ?_
       refine AllReadyIn.cons rfl (fun K hK=>?_) AllReadyIn.nil
       go_simp
       refine hK _ _ ?_
       clear hK K
       refine wpAnyIn_done (by kernel_rfl) ?_ _
       gi_wp2_with fail
       exact (aU HG5).2
      ·go_simp
       refine ⟨trivial,rfl,?_⟩
       refine (callsIn_wide.2 (aU HOF)).mono ?_
       rintro e W4 ⟨⟨v4,rfl,hv4⟩,hb4⟩
       obtain ⟨d3,HOWN,HGOON⟩:=aU HAFT W4 v4 hv4 hb4
       clear hv4
       refine hK _ _ ?_
       clear hK K
       refine wpAnyIn_ready (rs:=[0]) (by kernel_rfl) (by simp) ?_
       refine AllReadyIn.cons rfl (fun K hK=>?_) AllReadyIn.nil
       go_simp
       refine hK _ _ ?_
       clear hK K
       refine wpAnyIn_ready (rs:=[5]) (by kernel_rfl) (by simp) ?_
       refine AllReadyIn.cons rfl (fun K hK=>?_) AllReadyIn.nil
       go_simp
       refine ⟨trivial,rfl,?_⟩
       refine (callsIn_wide.2 (aU HOWN)).mono ?_
       rintro e W5 ⟨v5,rfl,ho5,hb5⟩
       obtain ⟨a5,c5,rfl⟩:=ho5.slice
       have HG5:=HGOON W5 _ ho5 hb5
       rw [List.length_map] at HG5
       obtain ⟨k1,k2,k3,k4⟩:=(aU HG5).1
       clear ho5 HGOON HAFT
       refine hK _ _ ?_
       clear hK K
       refine wpAnyIn_ready (rs:=[6]) (by kernel_rfl) (by simp) ?_
       refine AllReadyIn.cons rfl (fun K hK=>?_) AllReadyIn.nil
       go_simp
       refine hK _ _ ?_
       clear hK K
       refine wpAnyIn_done (by kernel_rfl) ?_ _
       gi_wp2_with fail
       exact (aU HG5).2
    ·go_simp
     refine ⟨trivial,rfl,?_⟩
     refine (callsIn_wide.2 (aU HSTAR _)).mono ?_
     rintro e D3 ⟨rfl,hD3⟩
     subst hD3
     refine hK _ _ ?_
     clear hK K
     refine wpAnyIn_ready (rs:=[0,1]) (by kernel_rfl) (by simp) ?_
     refine AllReadyIn.cons rfl (fun K hK=>?_) (AllReadyIn.cons rfl (fun K hK=>?_) AllReadyIn.nil)
     ·go_simp
      refine hK _ _ ?_
      clear hK K
      refine wpAnyIn_ready (rs:=[1]) (by kernel_rfl) (by simp) ?_
      refine AllReadyIn.cons rfl (fun K hK=>?_) AllReadyIn.nil
      go_simp
      refine hK _ _ ?_
      clear hK K
      refine wpAnyIn_ready (rs:=[4]) (by kernel_rfl) (by simp) ?_
      refine AllReadyIn.cons rfl (fun K hK=>?_) AllReadyIn.nil
      go_simp
      refine ⟨trivial,rfl,?_⟩
      refine (callsIn_wide.2 (aU HOF)).mono ?_
      rintro e W4 ⟨⟨v4,rfl,hv4⟩,hb4⟩
      obtain ⟨d3,HOWN,HGOON⟩:=aU HAFT W4 v4 hv4 hb4
      clear hv4
      refine hK _ _ ?_
      clear hK K
      refine wpAnyIn_ready (rs:=[5]) (by kernel_rfl) (by simp) ?_
      refine AllReadyIn.cons rfl (fun K hK=>?_) AllReadyIn.nil
      go_simp
      refine ⟨trivial,rfl,?_⟩
      refine (callsIn_wide.2 (aU HOWN)).mono ?_
      rintro e W5 ⟨v5,rfl,ho5,hb5⟩
      obtain ⟨a5,c5,rfl⟩:=ho5.slice
      have HG5:=HGOON W5 _ ho5 hb5
      rw [List.length_map] at HG5
      obtain ⟨k1,k2,k3,k4⟩:=(aU HG5).1
      clear ho5 HGOON HAFT
      refine hK _ _ ?_
      clear hK K
      refine wpAnyIn_ready (rs:=[6]) (by kernel_rfl) (by simp) ?_
      refine AllReadyIn.cons rfl (fun K hK=>?_) AllReadyIn.nil
      go_simp
      refine hK _ _ ?_
      clear hK K
      refine wpAnyIn_done (by kernel_rfl) ?_ _
      gi_wp2_with fail
      exact (aU HG5).2
     ·go_simp
      refine hK _ _ ?_
      clear hK K
      refine wpAnyIn_ready (rs:=[0,4]) (by kernel_rfl) (by simp) ?_
      refine AllReadyIn.cons rfl (fun K hK=>?_) (AllReadyIn.cons rfl (fun K hK=>?_) AllReadyIn.nil)
      ·go_simp
       refine hK _ _ ?_
       clear hK K
       refine wpAnyIn_ready (rs:=[4]) (by kernel_rfl) (by simp) ?_
       refine AllReadyIn.cons rfl (fun K hK=>?_) AllReadyIn.nil
       go_simp
       refine ⟨trivial,rfl,?_⟩
       refine (callsIn_wide.2 (aU HOF)).mono ?_
       rintro e W4 ⟨⟨v4,rfl,hv4⟩,hb4⟩
       obtain ⟨d3,HOWN,HGOON⟩:=aU HAFT W4 v4 hv4 hb4
       clear hv4
       refine hK _ _ ?_
       clear hK K
       refine wpAnyIn_ready (rs:=[5]) (by kernel_rfl) (by simp) ?_
       refine AllReadyIn.cons rfl (fun K hK=>?_) AllReadyIn.nil
       go_simp
       refine ⟨trivial,rfl,?_⟩
       refine (callsIn_wide.2 (aU HOWN)).mono ?_
       rintro e W5 ⟨v5,rfl,ho5,hb5⟩
       obtain ⟨a5,c5,rfl⟩:=ho5.slice
       have HG5:=HGOON W5 _ ho5 hb5
       rw [List.length_map] at HG5
       obtain ⟨k1,k2,k3,k4⟩:=(aU HG5).1
       clear ho5 HGOON HAFT
       refine hK _ _ ?_
       clear hK K
       refine wpAnyIn_ready (rs:=[6]) (by kernel_rfl) (by simp) ?_
       refine AllReadyIn.cons rfl (fun K hK=>?_) AllReadyIn.nil
       go_simp
       refine hK _ _ ?_
       clear hK K
       refine wpAnyIn_done (by kernel_rfl) ?_ _
       gi_wp2_with fail
       exact (aU HG5).2
      ·go_simp
       refine ⟨trivial,rfl,?_⟩
       refine (callsIn_wide.2 (aU HOF)).mono ?_
       rintro e W4 ⟨⟨v4,rfl,hv4⟩,hb4⟩
       obtain ⟨d3,HOWN,HGOON⟩:=aU HAFT W4 v4 hv4 hb4
       clear hv4
       refine hK _ _ ?_
       clear hK K
       refine wpAnyIn_ready (rs:=[0]) (by kernel_rfl) (by simp) ?_
       refine AllReadyIn.cons rfl (fun K hK=>?_) AllReadyIn.nil
       go_simp
       refine hK _ _ ?_
       clear hK K
       refine wpAnyIn_ready (rs:=[5]) (by kernel_rfl) (by simp) ?_
       refine AllReadyIn.cons rfl (fun K hK=>?_) AllReadyIn.nil
       go_simp
       refine ⟨trivial,rfl,?_⟩
       refine (callsIn_wide.2 (aU HOWN)).mono ?_
       rintro e W5 ⟨v5,rfl,ho5,hb5⟩
       obtain ⟨a5,c5,rfl⟩:=ho5.slice
       have HG5:=HGOON W5 _ ho5 hb5
       rw [List.length_map] at HG5
       obtain ⟨k1,k2,k3,k4⟩:=(aU HG5).1
       clear ho5 HGOON HAFT
       refine hK _ _ ?_
       clear hK K
       refine wpAnyIn_ready (rs:=[6]) (by kernel_rfl) (by simp) ?_
       refine AllReadyIn.cons rfl (fun K hK=>?_) AllReadyIn.nil
       go_simp
       refine hK _ _ ?_
       clear hK K
       refine wpAnyIn_done (by kernel_rfl) ?_ _
       gi_wp2_with fail
       exact (aU HG5).2
  case done =>
   intro W hI hdef hsz
   obtain ⟨hf,hB,j0,j1,j2,j3⟩:=hI
   have HM:Hid (matchP rs n=([],false)):=by
    rw [Hid,aU hP,← hf,List.drop_of_length_le (Nat.le_refl _)]; rfl
   have k2:=j2.cell
   have f2:=j2.frozen
   have k3:=j3.cell
   have f3:=j3.frozen
   have J2:=aH j2
   have J3:=aH j3
   clear hf j0 j1 j2 j3
   gi_wp2_with fail
   have hd':=(Below.heap_setCell (W.setCell ⟨w.heap.size+1+1,0,none⟩ (.slice none 0 0)) ⟨w.heap.size+1+1+1,0,none⟩ (.bool false) W2.heap.size (by show W2.heap.size≠w.heap.size+1+1+1; omega)).trans ((Below.heap_setCell W ⟨w.heap.size+1+1,0,none⟩ (.slice none 0 0) W2.heap.size (by show W2.heap.size≠w.heap.size+1+1; omega)).trans hdef)
   refine ⟨by simp,.inl ⟨_,_,rfl,run_takeDeferred hd',?_⟩⟩
   have b2:It.Box ((W.setCell ⟨w.heap.size+1+1,0,none⟩ (.slice none 0 0)).setCell ⟨w.heap.size+1+1+1,0,none⟩ (.bool false)) (w.heap.size+1+1) (.slice none 0 0) 41:=(Below.heap_setCell _ _ _ _ (by show w.heap.size+1+1≠w.heap.size+1+1+1; omega)).trans ((aU J2).set _)
   have b3:It.Box ((W.setCell ⟨w.heap.size+1+1,0,none⟩ (.slice none 0 0)).setCell ⟨w.heap.size+1+1+1,0,none⟩ (.bool false)) (w.heap.size+1+1+1) (.bool false) 4 :=
    (show It.Box (W.setCell ⟨w.heap.size+1+1,0,none⟩ (.slice none 0 0)) (w.heap.size+1+1+1) (.bool false) 4 from (Below.heap_setCell _ _ _ _ (by show w.heap.size+1+1+1≠w.heap.size+1+1; omega)).trans (aU J3)).set _
   have cr2:=(b2.put (d:=W2.heap.size) (o:=.deferred none) (by omega)).cell
   have cr3:=(b3.put (d:=W2.heap.size) (o:=.deferred none) (by omega)).cell
   have hB':=((hB.setCell (p:=⟨w.heap.size+1+1,0,none⟩) (by show w.heap.size≤w.heap.size+1+1; omega) (.slice none 0 0)).setCell (p:=⟨w.heap.size+1+1+1,0,none⟩) (by show w.heap.size≤w.heap.size+1+1+1; omega) (.bool false)).trans (belowK_b (w:=W2) (show w.heap.size≤W2.heap.size by omega) _ _ _ (.deferred none) (Nat.le_refl _) hd' rfl rfl)
   refine ⟨.tuple #[.slice none 0 0,.bool false],by simp [results,Tryz.results244,go_sem,cr2,cr3],⟨_,by rw [aU HM],?_⟩,hB'⟩
   rw [aU HM]; exact ⟨b,off,.inl ⟨rfl,rfl⟩,⟨Nat.lt_of_lt_of_le hblt hB'.size,fun j hj=>by simp at hj⟩,.inl rfl⟩
  case stop =>
   intro c W hI hdef hsz
   obtain ⟨rfl,hB,v,hown,k2,k3⟩:=hI
   have HOW:=aH hown
   obtain ⟨va,vc,rfl⟩:=hown.slice
   have K2:=aH k2
   have K3:=aH k3
   clear hown k2 k3
   gi_wp2_with fail
   refine ⟨by simp,.inl ⟨_,_,rfl,run_takeDeferred hdef,?_⟩⟩
   have cr2:=((aU K2).put (d:=W2.heap.size) (o:=.deferred none) (by omega)).cell
   have cr3:=((aU K3).put (d:=W2.heap.size) (o:=.deferred none) (by omega)).cell
   have hB':=hB.trans (belowK_b (w:=W2) (show w.heap.size≤W2.heap.size by omega) W _ _ (.deferred none) (Nat.le_refl _) hdef rfl rfl)
   refine ⟨.tuple #[_,.bool (matchP rs n).2],by simp [results,Tryz.results244,go_sem,cr2,cr3]; rfl,⟨_,rfl,?_⟩,hB'⟩
   exact Near.own (OwnR.keeps (aU HOW) (It.Keeps.put (d:=W2.heap.size) W W2.heap.size (.deferred none)) (by omega)) (Nat.lt_of_lt_of_le hblt hB'.size) (by omega)
 ·have HM:Hid (matchP rs n=(ofP rs n,true)):=by unfold matchP; rw [Hid,hth]; rfl
  have HOF:=aH (of_t zb b off cap o n rs W1 ((aU HZ).below hB1) hlen)
  gi_wp2_with fail
  refine ⟨trivial,rfl,?_⟩
  refine (callsIn_wide.2 (aU HOF)).mono ?_
  rintro e W4 ⟨⟨v4,rfl,hv4⟩,hb4⟩
  obtain ⟨a4,c4,rfl⟩:=hv4.slice
  have HV4:=aH hv4
  have k2:=e2.below hb4 e2.lt
  have k3:=e3.below hb4 e3.lt
  have q2:=k2.cell
  have f2:=k2.frozen
  have q3:=k3.cell
  have f3:=k3.frozen
  have K2:=aH k2
  have K3:=aH k3
  clear hv4 k2 k3 e0 e1 e2 e3
  gi_wp2_with fail
  have b2:It.Box ((W4.setCell ⟨w.heap.size+1+1,0,none⟩ (.slice a4 (ofP rs n).length c4)).setCell ⟨w.heap.size+1+1+1,0,none⟩ (.bool true)) (w.heap.size+1+1) (.slice a4 (ofP rs n).length c4) 41:=(Below.heap_setCell _ _ _ _ (by show w.heap.size+1+1≠w.heap.size+1+1+1; omega)).trans ((aU K2).set _)
  have b3:It.Box ((W4.setCell ⟨w.heap.size+1+1,0,none⟩ (.slice a4 (ofP rs n).length c4)).setCell ⟨w.heap.size+1+1+1,0,none⟩ (.bool true)) (w.heap.size+1+1+1) (.bool true) 4 :=
   (show It.Box (W4.setCell ⟨w.heap.size+1+1,0,none⟩ (.slice a4 (ofP rs n).length c4)) (w.heap.size+1+1+1) (.bool false) 4 from (Below.heap_setCell _ _ _ _ (by show w.heap.size+1+1+1≠w.heap.size+1+1; omega)).trans (aU K3)).set _
  have cr2:=b2.cell
  have cr3:=b3.cell
  have hB':=(((hB1.trans (hb4.mono hB1.size)).setCell (p:=⟨w.heap.size+1+1,0,none⟩) (by show w.heap.size≤w.heap.size+1+1; omega) (.slice a4 (ofP rs n).length c4)).setCell (p:=⟨w.heap.size+1+1+1,0,none⟩) (by show w.heap.size≤w.heap.size+1+1+1; omega) (.bool true))
  refine ⟨.tuple #[_,.bool true],by simp [results,Tryz.results244,go_sem,cr2,cr3]; rfl,⟨_,by rw [aU HM],?_⟩,hB'⟩
  rw [aU HM]
  obtain ⟨o',h1,h2,_⟩:=(aU HV4).at ((aU HZ).below hB').2.2.2.2
  exact ⟨b,o',h2,h1,.inl rfl⟩
end Lf
end Go.Proofs.YtkkpahmoljiepaaGreatDoor

namespace Go.Proofs.YtkkpahmoljiepaaGreatDoor
open Go.RowKit
namespace Iq
variable {P:Program} {ops:Array Oper} {C:World→Prop} {l:Nat}
theorem opIn_of_quiet {o:Oper} {a:Act} {K:Act→Prop} {K':Act→World→Prop} {Q':Exit→Act→World→Prop} {w:World} (hw:C w) (h : ∀ a w',C w'→K a→K' a w') (hh:o.quiet P a C K):o.wpIn Fence.wide 0 P a w K' Q':=by
 obtain ⟨v,hv,hk⟩:=hh
 have h3:=hv w hw
 unfold Oper.quietAt at h3
 unfold Oper.wpIn
 refine ⟨fun _ _=>trivial,?_⟩
 rw [show Fence.wide.round=none from rfl,Oper.semAt_none]
 generalize (execOp a.eval o).run P w=r at *
 cases r with
 | ok x w' =>
  cases x <;> simp only [Oper.quietUpon] at h3
  ·obtain ⟨rfl,rfl⟩:=h3; exact h _ _ hw hk
  all_goals first
   | (obtain ⟨rfl,rfl⟩:=h3; exact h _ _ hw hk)
   | (obtain ⟨rfl,hc⟩:=h3
      refine ⟨fun h'=>by simp [Fence.wide] at h',callsIn_wide.2 (hc.mono fun e w'' he=>?_)⟩
      obtain ⟨rfl,hw''⟩:=he
      exact h _ _ hw'' hk)
   | exact h3.elim
 | halt x w'=>simp only [Oper.quietUpon] at h3
theorem opAt_of_qOp {i:Nat} {a:Act} {K:Act→Prop} {K':Act→World→Prop} {Q':Exit→Act→World→Prop} {w:World} (hC:C w) (h : ∀ a w',C w'→K a→K' a w') (hh:qOp P ops C i K a):wpOpIn Fence.wide 0 P ops Q' i K' a w:=by
 unfold qOp at hh
 unfold wpOpIn
 split
 ·rename_i ho; simp only [ho] at hh; exact h _ _ hC hh
 ·rename_i o ho
  simp only [ho] at hh
  split
  ·rename_i hw; simp only [hw,if_true] at hh; exact opIn_of_quiet hC h hh
  ·rename_i hw; simp only [hw] at hh; exact ⟨fun _ _=>trivial,h _ _ hC hh⟩
theorem anyIn_of_quiet {md:Region.Mode} {Q:Act→Prop} {Q':Exit→Act→World→Prop} (hQ : ∀ a w,C w→Q a→Q' .normal a w) : ∀ (fuel:Nat) (listed:Array Bool) (a:Act) (w:World),C w →
  wpAnyQ P md ops C Q fuel listed a→wpAnyIn Fence.wide 0 P md ops Q' fuel listed a w
 | 0,_,_,_,hw,h=>⟨h.1,hQ _ _ hw h.2⟩
 | fuel+1,_,_,_,hw,h=>⟨fun h0=>hQ _ _ hw (h.1 h0),fun i hi=>opAt_of_qOp hw (fun a' w' hw'=>anyIn_of_quiet hQ fuel _ a' w' hw') (h.2 i hi)⟩
theorem region_quiet {id:Nat} {Q:Exit→Act→World→Prop} {a:Act} {w:World} {ls:List Oper} (hm:P.follows .mixedOrders=true) (hnd : ∀ (i:Nat) (o:Oper),ls.toArray[i]? = some o→∀ c,o.op≠.defer c) (hB:Region.lexB .any ls.toArray=true)
  (h:wpQuiet P ls.toArray (fun w'=>∃ n,w'=w.drewN n) (fun a'=>∀ w',(∃ n,w'=w.drewN n)→Q .normal a' w') ls a):(Code.region id ls.toArray true).wpIn (Fence.wide.inRound l) 0 P Q a w:=by
 simp only [Region.lexB,Bool.and_eq_true] at hB
 refine Ir.region_round hm hnd (anyIn_of_quiet (C:=fun w'=>∃ n,w'=w.drewN n) (Q:=fun a'=>∀ w',(∃ n,w'=w.drewN n)→Q .normal a' w') (fun _ w' hw' h=>h w' hw') _ _ _ _ ⟨1,rfl⟩ ?_)
 have:=wpAnyQ_lex (C:=fun w'=>∃ n,w'=w.drewN n) (md:=.any) hB.1 ls 0 (Array.replicate ls.toArray.size false) a (by simp) (by simpa using hB.2) h
 simpa using this
end Iq
end Go.Proofs.YtkkpahmoljiepaaGreatDoor
