/- What records.runs gives, under one comparison. -/
import Derived.Test.YtkkpahmoljiepaaGreatDoorJ04
import Derived.OrdersIn
import Derived.TacticsIn
import Derived.RangeFuncCalls
set_option linter.unusedSimpArgs false
set_option linter.unusedVariables false
set_option maxRecDepth 1000000
set_option maxHeartbeats 12800000
namespace Go.Proofs.YtkkpahmoljiepaaGreatDoor
open Go.RowKit
open Pu (Str aH aU)
attribute [local go_sem] Oper.semAt_some
namespace Ic
open Ka Kd Rg Ia
theorem seq (b off cap bl bs:Nat) (rs:List Rec) (W0:World)
  (hl:W0.cell? ⟨bl,0,none⟩=some (.slice (some ⟨b,off,none⟩) rs.length cap)) (hs:W0.cell? ⟨bs,0,none⟩=some (.func (.func 180) #[] #[]))
  (hr:bE W0 b off rs) (h1:bl<W0.heap.size) (h2:bs<W0.heap.size) (hlen:rs.length≤3001) (hcap:rs.length≤cap) :
  It.Seq Tryz.prog 233 #[.pointer (some ⟨bl,0,none⟩),.pointer (some ⟨bs,0,none⟩)] (fun x:Nat×List Rec=>#[.slice (some ⟨b,off+x.1*4,none⟩) x.2.length x.2.length]) (runs aG rs)
   (fun A B=>Below A.heap.size A B) (It.Keep3 bl bs b) (fun _ _=>True) W0:=by
 have h3:b<W0.heap.size:=hr.1
 intro l J Jx hJ hJx hY h0
 have HY:=aH hY
 have HJ:=aH hJ
 clear hY hJ hJx
 refine callsIn_of_wp Tryz.func233 rfl trivial ?_
 simp only [Tryz.ntmps233,List.size_toArray,List.length_cons,List.length_nil,Nat.reduceAdd,Nat.reduceSub,Array.replicate_succ,Array.replicate_zero,List.push_toArray,List.append_toArray,List.nil_append,List.cons_append]
 gi_wp2
 gi_loopw [4] (fun s wr=>∃ i k:Nat,s=.int .i64 k∧k≤rs.length∧i≤(runs aG rs).length∧(runs aG rs).drop i=runsP aG (rs.drop k).length k (rs.drop k)∧J i wr∧It.Keep3 bl bs b W0 wr) (fun s _=>rs.length - (intOf s).toNat)
 case atStart=>exact ⟨0,0,rfl,Nat.zero_le _,Nat.zero_le _,by simp [runs],h0,It.Keep3.refl _ _ _ _⟩
 case round =>
  obtain ⟨i,k,rfl,hk,hi,hrun,hJi,hB⟩:=hrel
  have HR:=aH hrun
  have HJi:=aH hJi
  clear hrun hJi
  have cl:wr.cell? ⟨bl,0,none⟩=some (.slice (some ⟨b,off,none⟩) rs.length cap):=(World.cell?_of_block hB.2.1).trans hl
  have cs:wr.cell? ⟨bs,0,none⟩=some (.func (.func 180) #[] #[]):=(World.cell?_of_block hB.2.2.1).trans hs
  by_cases hlt:k<rs.length
  ·have hA:bE wr b off rs:=bE.kept hr hB.1 hB.2.2.2
   obtain ⟨q0,q1,q2,q3⟩:=hA.four k hlt
   have hrt:rs.drop k=rs[k] :: rs.drop (k+1):=List.drop_eq_getElem_cons hlt
   have hget : ∀ m (h:m<rs.length) (h0:k+1≤m),∃ h':m - (k+1)<(rs.drop (k+1)).length,(rs.drop (k+1))[m - (k+1)]=rs[m]:=fun m h h0=>⟨by rw [List.length_drop]; omega,by rw [List.getElem_drop]; congr 1; omega⟩
   have htl:(rs.drop (k+1)).length=rs.length - (k+1):=List.length_drop
   rw [hrt,runsP_cons] at HR
   have HG:=aH hget
   have HA0:=aH hr
   clear hrt hget hA
   obtain ⟨T,hT⟩ : ∃ T,T=((rs.drop (k+1)).takeWhile (aG rs[k])).length:=⟨_,rfl⟩
   have hTl:T≤rs.length - (k+1):=by
    rw [hT,← htl]; exact (List.takeWhile_sublist _).length_le
   have htake:=aH (takeWhile_get (p:=aG rs[k]) (rs.drop (k+1)))
   have hend:=aH (takeWhile_end (p:=aG rs[k]) (rs.drop (k+1)))
   rw [← hT] at htake
   have HT:=aH hT
   clear htl hT q0 q1 q2 q3
   generalize hx:rs[k]=r at *
   have HX:=aH hx
   clear hx
   have HIX:Hid ((runs aG rs)[i]? = some (k,r :: (rs.drop (k+1)).takeWhile (aG r))):=by
    have:=congrArg (fun l:List (Nat×List Rec)=>l[0]?) (aU HR)
    rw [Hid]
    simpa using this
   have HI1:Hid (i+1≤(runs aG rs).length):=(List.getElem?_eq_some_iff.1 (aU HIX)).1
   have HDW:Hid ((rs.drop (k+1)).dropWhile (aG r)=rs.drop (k+1+T)):=by
    have h1:rs.drop (k+1+T)=(rs.drop (k+1)).drop T:=by rw [List.drop_drop]
    rw [Hid,h1,aU HT]
    conv=>rhs; arg 2; rw [← List.takeWhile_append_dropWhile (p:=aG r) (l:=rs.drop (k+1))]
    rw [List.drop_left]
   gi_wp2_with fail
   gi_loopw [5] (fun e wr2=>∃ m:Nat,e=.int .i64 m∧k+1≤m∧m≤k+1+T∧J i wr2∧It.Keep3 bl bs b W0 wr2) (fun e _=>rs.length - (intOf e).toNat)
   case atStart=>exact ⟨k+1,by go_num,Nat.le_refl _,by omega,aU HJi,hB⟩
   case round =>
    clear HJi hB cl cs
    obtain ⟨m,rfl,hkm,hmT,hJ2,hB2⟩:=hrel
    have HJ2:=aH hJ2
    clear hJ2
    have cl:wr.cell? ⟨bl,0,none⟩=some (.slice (some ⟨b,off,none⟩) rs.length cap):=(World.cell?_of_block hB2.2.1).trans hl
    have cs:wr.cell? ⟨bs,0,none⟩=some (.func (.func 180) #[] #[]):=(World.cell?_of_block hB2.2.2.1).trans hs
    have hA:bE wr b off rs:=bE.kept hr hB2.1 hB2.2.2.2
    obtain ⟨q0,q1,q2,q3⟩:=hA.four k hlt
    rw [aU HX] at q0 q1 q2 q3
    by_cases hm:m<rs.length
    ·obtain ⟨p0,p1,p2,p3⟩:=hA.four m hm
     obtain ⟨hg',hg⟩:=aU HG m hm hkm
     clear hA
     by_cases hjT:m - (k+1)<T
     ·have hsm:aG r rs[m]=true:=by
       obtain ⟨h',e⟩:=aU htake (m - (k+1)) hjT
       rw [hg] at e; exact e
      clear hg hg'
      generalize rs[m]=s at *
      have hmI:(m:Int)<(rs.length:Int):=by omega
      have hkI:(k:Int)<(rs.length:Int):=by omega
      have hmD:decide ((m:Int)<(rs.length:Int))=true:=decide_eq_true hmI
      have hmx:Tryz.prog.follows .mixedOrders=true:=by kernel_rfl
      have hbw:W0.heap.size≤wr.heap.size:=hB2.1
      have gl : ∀ n os,(Sort.grow (wr.drewN n) os).cell? ⟨bl,0,none⟩=some (.slice (some ⟨b,off,none⟩) rs.length cap):=cell_grown (by show bl<_; omega) cl
      have gs : ∀ n os,(Sort.grow (wr.drewN n) os).cell? ⟨bs,0,none⟩=some (.func (.func 180) #[] #[]):=cell_grown (by show bs<_; omega) cs
      have g0 : ∀ n os,(Sort.grow (wr.drewN n) os).cell? ⟨b,off+k*4,none⟩=some (.string (B r.owner)):=cell_grown (by show b<_; omega) q0
      have g1 : ∀ n os,(Sort.grow (wr.drewN n) os).cell? ⟨b,off+k*4+1,none⟩=some (.int .i64 r.ttl):=cell_grown (by show b<_; omega) q1
      have g2 : ∀ n os,(Sort.grow (wr.drewN n) os).cell? ⟨b,off+k*4+2,none⟩=some (.int .i64 r.type):=cell_grown (by show b<_; omega) q2
      have g3 : ∀ n os,(Sort.grow (wr.drewN n) os).cell? ⟨b,off+k*4+3,none⟩=some (.string (B r.data)):=cell_grown (by show b<_; omega) q3
      have e0 : ∀ n os,(Sort.grow (wr.drewN n) os).cell? ⟨b,off+m*4,none⟩=some (.string (B s.owner)):=cell_grown (by show b<_; omega) p0
      have e1 : ∀ n os,(Sort.grow (wr.drewN n) os).cell? ⟨b,off+m*4+1,none⟩=some (.int .i64 s.ttl):=cell_grown (by show b<_; omega) p1
      have e2 : ∀ n os,(Sort.grow (wr.drewN n) os).cell? ⟨b,off+m*4+2,none⟩=some (.int .i64 s.type):=cell_grown (by show b<_; omega) p2
      have e3 : ∀ n os,(Sort.grow (wr.drewN n) os).cell? ⟨b,off+m*4+3,none⟩=some (.string (B s.data)):=cell_grown (by show b<_; omega) p3
      gi_wp2_with fail
      refine wpIn_wide.2 ?_
      go_quiet_grown ((go_at_call 180; exact Calls.grown_of (sameOwner_any r s _)))
      gi_wp2_with fail
      exact ⟨⟨m+1,by go_num,by omega,by omega,aU HJ i _ _ (aU HJ2) (below_grow _ _ _),hB2.trans (It.Keep3.of_below (below_grow _ _ _) (by omega) (by omega) (by omega))⟩,by simp [intOf]; omega⟩
     ·have hmk:m=k+1+T:=by omega
      have hsm:aG r rs[m]=false:=by
       have h':((rs.drop (k+1)).takeWhile (aG r)).length=m - (k+1):=by rw [← aU HT]; omega
       have:=aU hend (by rw [h']; exact hg')
       simp only [h'] at this
       rw [hg] at this; exact this
      clear hg hg'
      generalize rs[m]=s at *
      have hmI:(m:Int)<(rs.length:Int):=by omega
      have hkI:(k:Int)<(rs.length:Int):=by omega
      have hmD:decide ((m:Int)<(rs.length:Int))=true:=decide_eq_true hmI
      have HMK:=aH hmk
      clear hmk
      have HLN:Hid ((r :: (rs.drop (k+1)).takeWhile (aG r)).length=m - k):=by
       rw [Hid,List.length_cons,← aU HT,aU HMK]; omega
      have HNX:Hid ((runs aG rs).drop (i+1)=runsP aG (rs.drop m).length m (rs.drop m)):=by
       rw [Hid,← List.drop_drop,aU HR,List.drop_one,List.tail_cons,aU HDW,← aU HT,← aU HMK]
      have hmx:Tryz.prog.follows .mixedOrders=true:=by kernel_rfl
      have hbw:W0.heap.size≤wr.heap.size:=hB2.1
      have gl : ∀ n os,(Sort.grow (wr.drewN n) os).cell? ⟨bl,0,none⟩=some (.slice (some ⟨b,off,none⟩) rs.length cap):=cell_grown (by show bl<_; omega) cl
      have gs : ∀ n os,(Sort.grow (wr.drewN n) os).cell? ⟨bs,0,none⟩=some (.func (.func 180) #[] #[]):=cell_grown (by show bs<_; omega) cs
      have g0 : ∀ n os,(Sort.grow (wr.drewN n) os).cell? ⟨b,off+k*4,none⟩=some (.string (B r.owner)):=cell_grown (by show b<_; omega) q0
      have g1 : ∀ n os,(Sort.grow (wr.drewN n) os).cell? ⟨b,off+k*4+1,none⟩=some (.int .i64 r.ttl):=cell_grown (by show b<_; omega) q1
      have g2 : ∀ n os,(Sort.grow (wr.drewN n) os).cell? ⟨b,off+k*4+2,none⟩=some (.int .i64 r.type):=cell_grown (by show b<_; omega) q2
      have g3 : ∀ n os,(Sort.grow (wr.drewN n) os).cell? ⟨b,off+k*4+3,none⟩=some (.string (B r.data)):=cell_grown (by show b<_; omega) q3
      have e0 : ∀ n os,(Sort.grow (wr.drewN n) os).cell? ⟨b,off+m*4,none⟩=some (.string (B s.owner)):=cell_grown (by show b<_; omega) p0
      have e1 : ∀ n os,(Sort.grow (wr.drewN n) os).cell? ⟨b,off+m*4+1,none⟩=some (.int .i64 s.ttl):=cell_grown (by show b<_; omega) p1
      have e2 : ∀ n os,(Sort.grow (wr.drewN n) os).cell? ⟨b,off+m*4+2,none⟩=some (.int .i64 s.type):=cell_grown (by show b<_; omega) p2
      have e3 : ∀ n os,(Sort.grow (wr.drewN n) os).cell? ⟨b,off+m*4+3,none⟩=some (.string (B s.data)):=cell_grown (by show b<_; omega) p3
      gi_wp2_with fail
      refine wpIn_wide.2 ?_
      go_quiet_grown ((go_at_call 180; exact Calls.grown_of (sameOwner_any r s _)))
      have hJ3:=aU HJ i _ _ (aU HJ2) (below_grow wr nq osq)
      have hB3:=hB2.trans (It.Keep3.of_below (below_grow wr nq osq) (by omega) (by omega) (by omega))
      have hyi:=aU HY i (k,r :: (rs.drop (k+1)).takeWhile (aG r)) _ (aU HIX) hJ3
      dsimp only at hyi
      rw [aU HLN] at hyi
      obtain ⟨fn,tmps,assign,body,hy,hR⟩:=hyi
      gi_wp2_with fail
      refine ⟨rfl,hR.mono ?_⟩
      rintro e W3 (⟨rfl,hJ4,hk4⟩ | ⟨rfl,hJx4,_⟩)
      ·have HJ4:=aH hJ4
       have hB4:=hB3.trans hk4
       clear hJ4
       gi_wp2_with fail
       exact ⟨⟨i+1,m,by go_num,by omega,aU HI1,aU HNX,aU HJ4,hB4⟩,by simp [intOf]; omega⟩
      ·gi_wp2
       refine bodyPost_ret (results_none rfl _ _ _) rfl ?_
       exact ⟨⟨_,rfl⟩,.inr hJx4⟩
    ·have hmk:m=k+1+T:=by omega
     have HMK:=aH hmk
     clear hmk hA
     have hmD:decide ((m:Int)<(rs.length:Int))=false:=decide_eq_false (by omega)
     have hmk2:m≤rs.length:=by omega
     have hbw:W0.heap.size≤wr.heap.size:=hB2.1
     have HLN:Hid ((r :: (rs.drop (k+1)).takeWhile (aG r)).length=m - k):=by
      rw [Hid,List.length_cons,← aU HT,aU HMK]; omega
     have HNX:Hid ((runs aG rs).drop (i+1)=runsP aG (rs.drop m).length m (rs.drop m)):=by
      rw [Hid,← List.drop_drop,aU HR,List.drop_one,List.tail_cons,aU HDW,← aU HT,← aU HMK]
     gi_wp2_with fail
     refine wpIn_wide.2 ?_
     go_quiet (fail)
     have hJ3:=aU HJ i _ _ (aU HJ2) (Rg.below_drewN (Below.refl _ wr) nq)
     have hB3:=hB2.trans (It.Keep3.of_below (Rg.below_drewN (Below.refl wr.heap.size wr) nq) (by omega) (by omega) (by omega))
     have cl3:(wr.drewN nq).cell? ⟨bl,0,none⟩=some (.slice (some ⟨b,off,none⟩) rs.length cap):=cl
     have hyi:=aU HY i (k,r :: (rs.drop (k+1)).takeWhile (aG r)) _ (aU HIX) hJ3
     dsimp only at hyi
     rw [aU HLN] at hyi
     obtain ⟨fn,tmps,assign,body,hy,hR⟩:=hyi
     gi_wp2_with fail
     refine ⟨rfl,hR.mono ?_⟩
     rintro e W3 (⟨rfl,hJ4,hk4⟩ | ⟨rfl,hJx4,_⟩)
     ·have HJ4:=aH hJ4
      have hB4:=hB3.trans hk4
      clear hJ4
      gi_wp2_with fail
      exact ⟨⟨i+1,m,by go_num,by omega,aU HI1,aU HNX,aU HJ4,hB4⟩,by simp [intOf]; omega⟩
     ·gi_wp2
      refine bodyPost_ret (results_none rfl _ _ _) rfl ?_
      exact ⟨⟨_,rfl⟩,.inr hJx4⟩
  ·gi_wp2
   go_end0
   have hfin:i=(runs aG rs).length:=by
    have:=aU HR
    rw [List.drop_of_length_le (show rs.length≤k by omega)] at this
    have h':=congrArg List.length this
    rw [List.length_drop] at h'
    have e0:(runsP aG (List.length (α:=Rec) []) k []).length=0:=rfl
    rw [e0] at h'
    omega
   exact ⟨⟨_,rfl⟩,.inl (by rw [← hfin]; exact aU HJi)⟩
end Ic
end Go.Proofs.YtkkpahmoljiepaaGreatDoor

namespace Go.Proofs.YtkkpahmoljiepaaGreatDoor
open Go.RowKit
namespace Ir
variable {P:Program} {ops:Array Oper} {Q:Exit→Act→World→Prop} {l:Nat}
theorem upon_round (o:Oper) (a:Act) (next:Act→World→Prop) (r:Result Next):o.uponIn (Fence.wide.inRound l) 0 P a next Q r=o.uponIn Fence.wide 0 P a next Q r:=by
 cases r with
 | ok x w=>cases x <;> rfl
 | halt x w=>cases x <;> rfl
theorem op_round (hnd : ∀ (i:Nat) (o:Oper),ops[i]? = some o→∀ c,o.op≠.defer c) {i:Nat} {K K':Act→World→Prop} (hK : ∀ a w,K a w→K' a w) {a:Act} {w:World}
  (h:wpOpIn Fence.wide 0 P ops Q i K a w):wpOpIn (Fence.wide.inRound l) 0 P ops Q i K' a w:=by
 unfold wpOpIn at *
 cases ho:ops[i]? with
 | none=>simp only [ho] at h ⊢; exact hK a w h
 | some o =>
  simp only [ho] at h ⊢
  split
  ·rename_i hw
   simp only [hw,if_true] at h
   have h':=Oper.wpIn_mono hK h
   unfold Oper.wpIn at *
   refine ⟨h'.1,?_⟩
   have h2:=h'.2
   rw [Oper.semAt_eq _ _ _ (hnd i o ho)] at h2 ⊢
   rw [upon_round]
   exact h2
  ·rename_i hw
   simp only [hw] at h
   exact ⟨h.1,hK _ _ h.2⟩
theorem any_round (hnd : ∀ (i:Nat) (o:Oper),ops[i]? = some o→∀ c,o.op≠.defer c) (md:Region.Mode) : ∀ (fuel:Nat) (listed:Array Bool) (a:Act) (w:World),
  wpAnyIn Fence.wide 0 P md ops Q fuel listed a w→wpAnyIn (Fence.wide.inRound l) 0 P md ops Q fuel listed a w
 | 0,_,_,_,h=>h
 | fuel+1,listed,a,w,h=>⟨h.1,fun i hi=>op_round hnd (fun a w h'=>any_round hnd md fuel _ a w h') (h.2 i hi)⟩
theorem region_round {id:Nat} {a:Act} {w:World} (hm:P.follows .mixedOrders=true) (hnd : ∀ (i:Nat) (o:Oper),ops[i]? = some o→∀ c,o.op≠.defer c)
  (h:wpAnyIn Fence.wide 0 P .any ops Q ops.size (Array.replicate ops.size false) a w.drew):(Code.region id ops true).wpIn (Fence.wide.inRound l) 0 P Q a w :=
 wpIn_region_any hm (any_round hnd _ _ _ _ _ h)
def noDefer (ops:Array Oper):Bool:=ops.all fun o=>match o.op with
 | .defer _=>false
 | _=>true
theorem noDefer_spec (h:noDefer ops=true) : ∀ (i:Nat) (o:Oper),ops[i]? = some o→∀ c,o.op≠.defer c:=by
 intro i o ho c hc
 have hm:o∈ops:=Array.mem_of_getElem? ho
 have:=(Array.all_eq_true_iff_forall_mem.1 h) o hm
 rw [hc] at this
 cases this
end Ir
end Go.Proofs.YtkkpahmoljiepaaGreatDoor

set_option maxRecDepth 1000000
set_option maxHeartbeats 12800000
namespace Go.Proofs.YtkkpahmoljiepaaGreatDoor
open Go.RowKit
open Pu (Str aH aU)
attribute [local go_sem] Oper.semAt_some
def aI (x:Nat×List Rec):Str:=(x.2.headD Rec.zero).owner
namespace Iow
open Ka Kd Rg Ia
theorem owners_any (a:Option Addr) (n c:Nat) (w:World) :
  Calls Tryz.prog 109 #[.slice a n c] w fun e w'=>e=.returned (.func (.func 179) #[] #[.pointer (some ⟨w.heap.size,0,none⟩)])∧w'=w.alloc (.cells #[.slice a n c] 41):=by
 go_enter Tryz.func109,Tryz.ntmps109
 go_wp2
 go_ret
 exact ⟨rfl,rfl⟩
theorem runsP_piece (same:Rec→Rec→Bool) : ∀ (f k:Nat) (l:List Rec) (x:Nat×List Rec),x∈runsP same f k l→k≤x.1∧x.1+x.2.length≤k+l.length∧0<x.2.length∧x.2=(l.drop (x.1 - k)).take x.2.length
 | 0,k,l,x,h=>by simp [runsP] at h
 | f+1,k,[],x,h=>by simp [runsP] at h
 | f+1,k,r :: t,x,h=>by
  have hlen:=congrArg List.length (List.takeWhile_append_dropWhile (p:=same r) (l:=t))
  rw [List.length_append] at hlen
  rw [runsP,List.mem_cons] at h
  rcases h with rfl | h
  ·refine ⟨Nat.le_refl _,by simp; omega,by simp,?_⟩
   simp only [Nat.sub_self,List.drop_zero,List.length_cons,List.take_succ_cons]
   congr 1
   conv=>rhs; arg 2; rw [← List.takeWhile_append_dropWhile (p:=same r) (l:=t)]
   rw [List.take_left]
  ·obtain ⟨h1,h2,h3,h4⟩:=runsP_piece same f _ _ x h
   refine ⟨by omega,by simp; omega,h3,?_⟩
   have hd:(r :: t).drop (x.1 - k)=(t.dropWhile (same r)).drop (x.1 - (k+1+(t.takeWhile (same r)).length)):=by
    conv=>lhs; arg 2; arg 2; rw [← List.takeWhile_append_dropWhile (p:=same r) (l:=t)]
    rw [show x.1 - k=1+(t.takeWhile (same r)).length+(x.1 - (k+1+(t.takeWhile (same r)).length)) from by omega]
    rw [← List.drop_drop,show 1+(t.takeWhile (same r)).length=(r :: t.takeWhile (same r)).length from by simp; omega,← List.cons_append,List.drop_left]
   rw [hd]; exact h4
theorem runs_piece {same:Rec→Rec→Bool} {rs:List Rec} {x:Nat×List Rec} (h:x∈runs same rs):x.1+x.2.length≤rs.length∧0<x.2.length∧x.2=(rs.drop x.1).take x.2.length:=by
 obtain ⟨h1,h2,h3,h4⟩:=runsP_piece same _ _ _ _ h
 exact ⟨by omega,h3,by simpa using h4⟩
theorem bE.piece {w:World} {b off:Nat} {rs:List Rec} (h:bE w b off rs) {same:Rec→Rec→Bool} {x:Nat×List Rec} (hx:x∈runs same rs):bE w b (off+x.1*4) x.2:=by
 obtain ⟨_,_,h3⟩:=runs_piece hx
 rw [h3]
 exact (h.drop x.1).take _
theorem owner_head (x:Nat×List Rec) (h:0<x.2.length):x.2[0].owner=aI x:=by
 obtain ⟨k,l⟩:=x
 cases l with
 | nil=>simp at h
 | cons a t=>rfl
theorem owners_seq (b off cap bo:Nat) (rs:List Rec) (W0:World)
  (hl:W0.cell? ⟨bo,0,none⟩=some (.slice (some ⟨b,off,none⟩) rs.length cap)) (hr:bE W0 b off rs) (hbo':bo<W0.heap.size) (hlen:rs.length≤3001) (hcap:rs.length≤cap) :
  It.Seq Tryz.prog 179 #[.pointer (some ⟨bo,0,none⟩)] (fun x:Nat×List Rec=>#[.string (B (aI x)),.slice (some ⟨b,off+x.1*4,none⟩) x.2.length x.2.length]) (runs aG rs)
   (fun A B=>Below W0.heap.size A B) (fun A B=>B.heap[b]? = A.heap[b]?∧It.Above W0.heap.size A B) (fun A B=>It.Above W0.heap.size A B) W0:=by
 intro l J Jx hJ hJx hY h0
 have HY:=aH hY
 have HJ:=aH hJ
 have HJx:=aH hJx
 clear hY hJ hJx
 refine callsIn_of_wp_marks Tryz.func179 rfl trivial ?_
 simp only [Tryz.ntmps179,List.size_toArray,List.length_cons,List.length_nil,Nat.reduceAdd,Nat.reduceSub,Array.replicate_succ,Array.replicate_zero,List.push_toArray,List.append_toArray,List.nil_append,List.cons_append]
 have hb:b<W0.heap.size:=hr.1
 gi_wp2_with (refine ⟨trivial,rfl,?_⟩; gi_at_call 176; refine (callsIn_wide.2 (runs_any _ _ _ _ _)).mono ?_; rintro e w' ⟨rfl,rfl⟩)
 have e1:(((W0.alloc (.cells #[.func (.yield l) #[] #[]] 108)).alloc (.cells #[.slice (some ⟨b,off,none⟩) rs.length cap] 41)).alloc (.cells #[.func (.func 180) #[] #[]] 261)).cell? ⟨W0.heap.size,0,none⟩=some (.func (.yield l) #[] #[]):=by go_simp
 have e2:(((W0.alloc (.cells #[.func (.yield l) #[] #[]] 108)).alloc (.cells #[.slice (some ⟨b,off,none⟩) rs.length cap] 41)).alloc (.cells #[.func (.func 180) #[] #[]] 261)).cell? ⟨W0.heap.size+1,0,none⟩=some (.slice (some ⟨b,off,none⟩) rs.length cap):=by go_simp
 have e3:(((W0.alloc (.cells #[.func (.yield l) #[] #[]] 108)).alloc (.cells #[.slice (some ⟨b,off,none⟩) rs.length cap] 41)).alloc (.cells #[.func (.func 180) #[] #[]] 261)).cell? ⟨W0.heap.size+1+1,0,none⟩=some (.func (.func 180) #[] #[]):=by go_simp
 have e4:(((W0.alloc (.cells #[.func (.yield l) #[] #[]] 108)).alloc (.cells #[.slice (some ⟨b,off,none⟩) rs.length cap] 41)).alloc (.cells #[.func (.func 180) #[] #[]] 261)).heap.size=W0.heap.size+3:=by simp
 have e5:Below W0.heap.size W0 (((W0.alloc (.cells #[.func (.yield l) #[] #[]] 108)).alloc (.cells #[.slice (some ⟨b,off,none⟩) rs.length cap] 41)).alloc (.cells #[.func (.func 180) #[] #[]] 261)) :=
  (((Below.refl _ _).alloc (Nat.le_refl _) _).alloc (by simp) _).alloc (by simp; omega) _
 generalize ((W0.alloc (.cells #[.func (.yield l) #[] #[]] 108)).alloc (.cells #[.slice (some ⟨b,off,none⟩) rs.length cap] 41)).alloc (.cells #[.func (.func 180) #[] #[]] 261)=W2 at *
 have hgrow : ∀ r,Below W2.heap.size W2 ((W2.alloc (.deferred (some []))).alloc (.loop r)):=fun r=>((Below.refl _ _).alloc (Nat.le_refl _) _).alloc (by simp) _
 refine It.range (xs:=runs aG rs) (encs:=fun x:Nat×List Rec=>#[.slice (some ⟨b,off+x.1*4,none⟩) x.2.length x.2.length]) (St:=fun A B=>Below A.heap.size A B) (Kp:=It.Keep3 (W0.heap.size+1) (W0.heap.size+1+1) b) (Kx:=fun _ _=>True)
  (gf:=233) (lb:=#[.pointer (some ⟨W0.heap.size+1,0,none⟩),.pointer (some ⟨W0.heap.size+1+1,0,none⟩)]) rfl (enters_of Tryz.func233 (by kernel_rfl) rfl) (fun _=>rfl) ?seq
  (fun i W=>J i W∧W.heap[W0.heap.size]? = W2.heap[W0.heap.size]?∧W.heap[b]? = W2.heap[b]?∧W2.heap.size≤W.heap.size)
  (fun c W=>c=.ret∧Jx W∧W2.heap.size≤W.heap.size)
  ?hSt ?hI ?hIx ?hIp ?hIxp ?h0 (fun A B=>B.heap[b]? = A.heap[b]?∧It.Above W0.heap.size A B) ?hKp (fun _ _=>True) (fun _ _ _ _ _ _ _ _=>trivial)
  (fun x=>{ tmps:=#[.func (.yield l) #[] #[],.pointer (some ⟨bo,0,none⟩),.pointer (some ⟨W0.heap.size,0,none⟩),.func (.func 180) #[] #[],.slice (some ⟨b,off+x.1*4,none⟩) x.2.length x.2.length,
   .slice (some ⟨b,off,none⟩) rs.length cap,.func (.func 180) #[] #[],.func (.func 233) #[] #[.pointer (some ⟨W0.heap.size+1,0,none⟩),.pointer (some ⟨W0.heap.size+1+1,0,none⟩)],.slice (some ⟨b,off+x.1*4,none⟩) x.2.length x.2.length,undef,undef,undef,undef,undef,undef,undef,undef],defers:=[] })
  ?assign ?body ?done ?stop
 case seq =>
  intro r
  have hg:=hgrow r
  exact Ic.seq b off cap _ _ rs _ ((hg.cell (p:=⟨W0.heap.size+1,0,none⟩) (by show W0.heap.size+1<W2.heap.size; omega)).trans e2) ((hg.cell (p:=⟨W0.heap.size+1+1,0,none⟩) (by show W0.heap.size+1+1<W2.heap.size; omega)).trans e3) ((hr.below e5).below hg) (by have:=hg.size; omega) (by have:=hg.size; omega) hlen hcap
 case hSt=>exact fun A B hA hst=>⟨hst.size,hst.block _ (by omega),hst.block _ (by omega)⟩
 case hI=>exact fun i A B hA hst=>⟨aU HJ i A B hA.1 (hst.mono (by omega)),(hst.block _ (by omega)).trans hA.2.1,(hst.block _ (by omega)).trans hA.2.2.1,Nat.le_trans hA.2.2.2 hst.size⟩
 case hIx=>exact fun c A B hA hst=>⟨hA.1,aU HJx A B hA.2.1 (hst.mono (by omega)),Nat.le_trans hA.2.2 hst.size⟩
 case hIp =>
  intro i A r o hA hrec
  have hp:Below W0.heap.size A (A.putObj (W2.heap.size+1) o):=belowK_b (w:=W2) (by omega) A _ _ o (by omega) hrec rfl rfl
  exact ⟨aU HJ i A _ hA.1 hp,(World.putObj_heap_other (by omega)).trans hA.2.1,(World.putObj_heap_other (by omega)).trans hA.2.2.1,by rw [World.putObj_size]; exact hA.2.2.2⟩
 case hIxp =>
  intro c A r o hA hrec
  have hp:Below W0.heap.size A (A.putObj (W2.heap.size+1) o):=belowK_b (w:=W2) (by omega) A _ _ o (by omega) hrec rfl rfl
  exact ⟨hA.1,aU HJx A _ hA.2.1 hp,by rw [World.putObj_size]; exact hA.2.2⟩
 case h0 =>
  intro r
  have hg:=hgrow r
  exact ⟨aU HJ 0 _ _ h0 (e5.trans (hg.mono (by omega))),hg.block _ (by omega),hg.block _ (by omega),hg.size⟩
 case hKp =>
  intro W r r' r'' Wc hrec hk hL
  have hlt:W2.heap.size+1<W.heap.size:=(Array.getElem?_eq_some_iff.1 hrec).1
  have hs:=hk.2.1
  rw [World.putObj_size] at hs
  refine ⟨by rw [World.putObj_size]; exact hs,?_,?_,?_⟩
  ·rw [World.putObj_heap_other (by omega),hk.2.2 _ (by omega) (by rw [World.putObj_size]; omega),World.putObj_heap_other (by omega)]
  ·rw [World.putObj_heap_other (by omega),hk.2.2 _ (by omega) (by rw [World.putObj_size]; omega),World.putObj_heap_other (by omega)]
  ·rw [World.putObj_heap_other (by omega),hk.1,World.putObj_heap_other (by omega)]
 case assign =>
  intro l' x W K hK
  gi_wp2
  exact hK
 case body =>
  intro l' i x W hx hI hsz
  obtain ⟨hJi,hyb,hdb,hw2⟩:=hI
  have hmem:x∈runs aG rs:=List.mem_of_getElem? hx
  have hA:bE W b off rs:=Ia.bE.kept (hr.below e5) hw2 hdb
  have hP:=bE.piece hA hmem
  have hpos:=(runs_piece hmem).2.1
  obtain ⟨q0,q1,q2,q3⟩:=hP.four 0 hpos
  clear q1 q2 q3
  rw [Nat.zero_mul,Nat.add_zero,owner_head x hpos] at q0
  have cy:W.cell? ⟨W0.heap.size,0,none⟩=some (.func (.yield l) #[] #[]):=(World.cell?_of_block hyb).trans e1
  have hyi:=aU HY i x W.drew hx (aU HJ i _ _ hJi ((Below.refl _ _).drew))
  have hposI:(0:Int)<(x.2.length:Int):=by omega
  have hmx:Tryz.prog.follows .mixedOrders=true:=by kernel_rfl
  obtain ⟨fn,tmps,assign,body,hy,hR⟩:=hyi
  clear hA hP hmem
  have HL : ∀ W3,It.Above W0.heap.size W.drew W3→It.Loops W2.heap.size W W3:=fun W3 hk=>by
   have h2:It.Above W0.heap.size W W3:=hk
   exact ⟨h2.1,h2.2 _ (by omega) (by omega),h2.2 _ (by omega) (by omega)⟩
  have HN : ∀ W3,J (i+1) W3→W3.heap[b]? = W.drew.heap[b]?∧It.Above W0.heap.size W.drew W3→Hid (It.Loops W2.heap.size W W3∧(W3.heap[b]? = W.heap[b]?∧It.Above W0.heap.size W W3)∧(J (i+1) W3∧W3.heap[W0.heap.size]? = W2.heap[W0.heap.size]?∧W3.heap[b]? = W2.heap[b]?∧W2.heap.size≤W3.heap.size)):=fun W3 hj hk=>by
   have h1:=HL W3 hk.2
   have h2:W3.heap[b]? = W.heap[b]?∧It.Above W0.heap.size W W3:=hk
   exact ⟨h1,h2,hj,(h2.2.2 _ (Nat.le_refl _) (by omega)).trans hyb,h2.1.trans hdb,Nat.le_trans hw2 h1.1⟩
  have HX : ∀ W3,Jx W3→It.Above W0.heap.size W.drew W3→Hid (It.Loops W2.heap.size W W3∧(Jx W3∧W2.heap.size≤W3.heap.size)):=fun W3 hj hk=>by
   have h1:=HL W3 hk
   exact ⟨h1,hj,Nat.le_trans hw2 h1.1⟩
  clear HL
  gi_wp2_with fail
  refine Ir.region_round hmx (Ir.noDefer_spec (by kernel_rfl)) ?_
  refine wpAnyIn_take (i:=1) (v:=?_) rfl rfl (by kernel_rfl) (by kernel_rfl) (by kernel_rfl) (fun _ _ _ h=>h) ⟨Or.inl ⟨by rfl,by intro w; go_simp; first | done | with_reducible rfl⟩,fun _=>rfl⟩ ?_
  refine wpAnyIn_take (i:=2) (v:=?_) rfl rfl (by kernel_rfl) (by kernel_rfl) (by kernel_rfl) (fun _ _ _ h=>h) ⟨Or.inl ⟨by rfl,by intro w; go_simp; first | done | with_reducible rfl⟩,fun _=>rfl⟩ ?_
  refine wpAnyIn_take (i:=3) (v:=?_) rfl rfl (by kernel_rfl) (by kernel_rfl) (by kernel_rfl) (fun _ _ _ h=>h) ⟨Or.inl ⟨by rfl,by intro w; go_simp; first | done | with_reducible rfl⟩,fun _=>rfl⟩ ?_
  refine wpAnyIn_take (i:=5) (v:=?_) rfl rfl (by kernel_rfl) (by kernel_rfl) (by kernel_rfl) (fun _ _ _ h=>h) ⟨Or.inl ⟨by rfl,by intro w; go_simp; first | done | with_reducible rfl⟩,fun _=>rfl⟩ ?_
  refine wpAnyIn_ready (rs:=[0,4]) (by kernel_rfl) (by simp) ?_
  refine AllReadyIn.cons rfl (fun K hK=>?_) (AllReadyIn.cons rfl (fun K hK=>?_) AllReadyIn.nil)
  ·go_simp
   refine hK _ _ ?_
   clear hK K
   refine wpAnyIn_ready (rs:=[4]) (by kernel_rfl) (by simp) ?_
   refine AllReadyIn.cons rfl (fun K hK=>?_) AllReadyIn.nil
   go_simp
   refine hK _ _ ?_
   clear hK K
   refine wpAnyIn_ready (rs:=[6]) (by kernel_rfl) (by simp) ?_
   refine AllReadyIn.cons rfl (fun K hK=>?_) AllReadyIn.nil
   go_simp
   refine ⟨rfl,hR.mono ?_⟩
   rintro e W3 (⟨rfl,hJ4,hk4⟩ | ⟨rfl,hJx4,hk4⟩)
   ·refine hK _ _ ?_
    clear hK K
    refine wpAnyIn_ready (rs:=[7]) (by kernel_rfl) (by simp) ?_
    refine AllReadyIn.cons rfl (fun K hK=>?_) AllReadyIn.nil
    go_simp
    refine hK _ _ ?_
    clear hK K
    refine wpAnyIn_done (by kernel_rfl) ?_ _
    gi_wp2_with fail
    exact aU (HN W3 hJ4 hk4)
   ·refine hK _ _ ?_
    clear hK K
    refine wpAnyIn_ready (rs:=[7]) (by kernel_rfl) (by simp) ?_
    refine AllReadyIn.cons rfl (fun K hK=>?_) AllReadyIn.nil
    go_simp
    refine hK _ _ ?_
    clear hK K
    refine wpAnyIn_done (by kernel_rfl) ?_ _
    gi_wp2_with fail
    obtain ⟨r1,r3,r4⟩:=aU (HX W3 hJx4 hk4)
    exact ⟨r1,trivial,rfl,r3,r4⟩
  ·go_simp
   refine hK _ _ ?_
   clear hK K
   refine wpAnyIn_ready (rs:=[0]) (by kernel_rfl) (by simp) ?_
   refine AllReadyIn.cons rfl (fun K hK=>?_) AllReadyIn.nil
   go_simp
   refine hK _ _ ?_
   clear hK K
   refine wpAnyIn_ready (rs:=[6]) (by kernel_rfl) (by simp) ?_
   refine AllReadyIn.cons rfl (fun K hK=>?_) AllReadyIn.nil
   go_simp
   refine ⟨rfl,hR.mono ?_⟩
   rintro e W3 (⟨rfl,hJ4,hk4⟩ | ⟨rfl,hJx4,hk4⟩)
   ·refine hK _ _ ?_
    clear hK K
    refine wpAnyIn_ready (rs:=[7]) (by kernel_rfl) (by simp) ?_
    refine AllReadyIn.cons rfl (fun K hK=>?_) AllReadyIn.nil
    go_simp
    refine hK _ _ ?_
    clear hK K
    refine wpAnyIn_done (by kernel_rfl) ?_ _
    gi_wp2_with fail
    exact aU (HN W3 hJ4 hk4)
   ·refine hK _ _ ?_
    clear hK K
    refine wpAnyIn_ready (rs:=[7]) (by kernel_rfl) (by simp) ?_
    refine AllReadyIn.cons rfl (fun K hK=>?_) AllReadyIn.nil
    go_simp
    refine hK _ _ ?_
    clear hK K
    refine wpAnyIn_done (by kernel_rfl) ?_ _
    gi_wp2_with fail
    obtain ⟨r1,r3,r4⟩:=aU (HX W3 hJx4 hk4)
    exact ⟨r1,trivial,rfl,r3,r4⟩
 case done =>
  intro W hI hdef hsz
  gi_wp2
  refine ⟨by simp,.inl ⟨_,_,rfl,run_takeDeferred hdef,?_⟩⟩
  have hp:Below W0.heap.size W (W.putObj W2.heap.size (.deferred none)):=belowK_b (w:=W2) (by omega) W _ _ _ (Nat.le_refl _) hdef rfl rfl
  exact ⟨_,results_none rfl _ _ _,⟨_,rfl⟩,.inl (aU HJ _ _ _ hI.1 hp)⟩
 case stop =>
  intro c W hI hdef hsz
  obtain ⟨rfl,hJx',hw2⟩:=hI
  gi_wp2
  refine ⟨by simp,.inl ⟨_,_,rfl,run_takeDeferred hdef,?_⟩⟩
  have hp:Below W0.heap.size W (W.putObj W2.heap.size (.deferred none)):=belowK_b (w:=W2) (by omega) W _ _ _ (Nat.le_refl _) hdef rfl rfl
  exact ⟨_,results_none rfl _ _ _,⟨_,rfl⟩,.inr (aU HJx _ _ hJx' hp)⟩
end Iow
end Go.Proofs.YtkkpahmoljiepaaGreatDoor
