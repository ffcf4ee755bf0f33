/- Records in memory; contracts: zone.has. -/
import Derived.Test.YtkkpahmoljiepaaGreatDoorJ03
import Derived.Laws.StructEq
import Derived.Deep.RegionWith
import Derived.Deep.QuietTactic
import Derived.BigQuiet
import Derived.Test.YtkkpahmoljiepaaGreatDoorJ02
import Derived.RangeFuncNested
import Derived.RangeFuncBound
import Derived.RangeFuncCalls
import Derived.Shelf.RegionOpen
import Derived.OwnWalkIn
import Derived.TacticsInMore
import Derived.LoopNIn
import Derived.LoopIn
import Derived.Shelf.SlSortCmp.QuietGrown
set_option linter.unusedSimpArgs false
set_option linter.unusedVariables false
set_option maxRecDepth 1000000
set_option maxHeartbeats 12800000
namespace Go.Proofs.YtkkpahmoljiepaaGreatDoor
open Go.RowKit
open Pu (Str aH aU)
def bE (w:World) (b off:Nat) (rs:List Rec):Prop:=b<w.heap.size∧∀ j,j<rs.length→∀ i u,(Rec.enc rs[j]!)[i]? = some u→w.cell? ⟨b,off+j*4+i,none⟩=some u
theorem bE.below {w w':World} {b off:Nat} {rs:List Rec} (h:bE w b off rs) (hb:Below w.heap.size w w'):bE w' b off rs :=
 ⟨Nat.lt_of_lt_of_le h.1 hb.size,fun j hj i u hu=>(hb.cell (p:=⟨b,off+j*4+i,none⟩) h.1).trans (h.2 j hj i u hu)⟩
def RV (w:World) (v:Value) (rs:List Rec):Prop:=(v=.slice none 0 0∧rs = [])∨∃ b off cap,v=.slice (some ⟨b,off,none⟩) rs.length cap∧rs.length≤cap∧bE w b off rs
theorem encs_get (rs:List Rec) (j i:Nat) (hj:j<rs.length) (hi:i<4):(encs rs)[j*4+i]? = (Rec.enc rs[j]!)[i]?:=by
 induction rs generalizing j with
 | nil=>simp at hj
 | cons r t ih =>
  have e:encs (r :: t)=r.enc++encs t:=by simp [encs]
  have hl:r.enc.length=4:=rfl
  rw [e]
  cases j with
  | zero=>rw [List.getElem?_append_left (by omega)]; simp
  | succ j =>
   rw [List.getElem?_append_right (by omega),hl,show (j+1)*4+i - 4=j*4+i from by omega,ih j (by simpa using hj)]
   simp
theorem recsAt_of_encs {w:World} {b off:Nat} {rs:List Rec} (hb:b<w.heap.size) (h : ∀ j u,(encs rs)[j]? = some u→w.cell? ⟨b,off+j,none⟩=some u):bE w b off rs:=by
 refine ⟨hb,fun j hj i u hu=>?_⟩
 have hi:i<4:=by
  rcases Nat.lt_or_ge i 4 with h | h
  ·exact h
  ·rw [List.getElem?_eq_none (by simpa [Rec.enc] using h)] at hu; cases hu
 have:=h (j*4+i) u (by rw [encs_get rs j i hj hi]; exact hu)
 rwa [← Nat.add_assoc] at this
theorem RecsOwn.rv {w:World} {B:Nat} {v:Value} {rs:List Rec} (h:RecsOwn w B v rs):RV w v rs:=by
 obtain ⟨⟨hl,h | ⟨g,cap,cur,hv,hg,h1,h2,h3,h4,h5⟩⟩,hn⟩:=h
 ·exact .inl ⟨h.1,hn.1 h.1⟩
 ·refine .inr ⟨g,0,cap,hv,h2,recsAt_of_encs (Array.getElem?_eq_some_iff.1 h1).1 fun j u hu=>?_⟩
  have hj:cur[j]? = some u:=by
   rw [← h5] at hu
   have hjl:j<(cur.toList.take (rs.length*4)).length:=(List.getElem?_eq_some_iff.1 hu).1
   rw [List.getElem?_take] at hu
   split at hu
   ·simpa using hu
   ·cases hu
  simp [World.cell?,h1,hj]
theorem bE.drop {w:World} {b off:Nat} {rs:List Rec} (h:bE w b off rs) (k:Nat):bE w b (off+k*4) (rs.drop k):=by
 refine ⟨h.1,fun j hj i u hu=>?_⟩
 rw [List.length_drop] at hj
 have e:(rs.drop k)[j]! = rs[k+j]!:=by simp
 rw [e] at hu
 have:=h.2 (k+j) (by omega) i u hu
 rwa [show off+(k+j)*4+i=off+k*4+j*4+i from by omega] at this
theorem bE.take {w:World} {b off:Nat} {rs:List Rec} (h:bE w b off rs) (k:Nat):bE w b off (rs.take k):=by
 refine ⟨h.1,fun j hj i u hu=>?_⟩
 rw [List.length_take] at hj
 have e:(rs.take k)[j]! = rs[j]!:=by
  rw [List.getElem!_eq_getElem?_getD,List.getElem!_eq_getElem?_getD,List.getElem?_take,if_pos (by omega)]
 rw [e] at hu
 exact h.2 j (by omega) i u hu
theorem bE.four {w:World} {b off:Nat} {rs:List Rec} (h:bE w b off rs) (j:Nat) (hj:j<rs.length) :
  w.cell? ⟨b,off+j*4,none⟩=some (.string (B rs[j].owner))∧w.cell? ⟨b,off+j*4+1,none⟩=some (.int .i64 rs[j].ttl) ∧
  w.cell? ⟨b,off+j*4+2,none⟩=some (.int .i64 rs[j].type)∧w.cell? ⟨b,off+j*4+3,none⟩=some (.string (B rs[j].data)):=by
 have e:rs[j]! = rs[j]:=getElem!_pos rs j hj
 have:=h.2 j hj
 rw [e] at this
 exact ⟨this 0 _ rfl,this 1 _ rfl,this 2 _ rfl,this 3 _ rfl⟩
namespace Rf
open Ka Kb Kd Ke Kf Rc Rd Re
def hasP (k:Int) (r:Rec):Bool:=r.type == k
theorem has1_any (r:Rec) (k:Int) (bk:Nat) (W:World) (hc:W.cell? ⟨bk,0,none⟩=some (.int .i64 k)) (hb:bk<W.heap.size) :
  Calls Tryz.prog 172 #[.agg #[.string (B r.owner),.int .i64 r.ttl,.int .i64 r.type,.string (B r.data)],.pointer (some ⟨bk,0,none⟩)] W fun e w'=>e=.returned (.bool (hasP k r))∧Below W.heap.size W w':=by
 go_enter Tryz.func172,Tryz.ntmps172
 go_wp2
 go_ret
 exact ⟨rfl,(Below.refl _ _).alloc (Nat.le_refl _) _⟩
theorem hasPred (k:Int) (bk:Nat) (w:World) (hc:w.cell? ⟨bk,0,none⟩=some (.int .i64 k)) (hb:bk<w.heap.size) :
  PredBelow Tryz.prog 172 #[.pointer (some ⟨bk,0,none⟩)] (fun x=>.agg (Rec.enc x).toArray) (hasP k) w:=by
 intro W r hB
 refine (has1_any r k bk W ((hB.cell (p:=⟨bk,0,none⟩) hb).trans hc) (Nat.lt_of_lt_of_le hb hB.size)).mono ?_
 rintro e w' ⟨rfl,hb'⟩
 exact ⟨rfl,hB.trans (hb'.mono hB.size)⟩
theorem containsFunc_some (k:Int) (bk b off cap:Nat) (rs:List Rec) (w:World) (hc:w.cell? ⟨bk,0,none⟩=some (.int .i64 k)) (hb:bk<w.heap.size) (hr:bE w b off rs) (hl:rs.length≤3001) :
  Calls Tryz.prog 171 #[.slice (some ⟨b,off,none⟩) rs.length cap,.func (.func 172) #[] #[.pointer (some ⟨bk,0,none⟩)]] w fun e w' =>
   e=.returned (.bool (rs.any (hasP k)))∧Below w.heap.size w w':=by
 have:=AnyQ.slices_ContainsFunc Tryz.lContainsFunc 4 Tryz.isAgg47 Tryz.sizeOf47 Rec.enc (fun _=>rfl) (hasP k) 172 #[.pointer (some ⟨bk,0,none⟩)] (enters_of Tryz.func172 (by kernel_rfl) rfl) b off rs.length cap rs w (hasPred k bk w hc hb) (Nat.le_refl _) (by omega) hr.1 hr.2
 rw [List.take_length] at this
 exact this
theorem has_some (k:Int) (b off cap:Nat) (rs:List Rec) (w:World) (hr:bE w b off rs) (hl:rs.length≤3001) :
  Calls Tryz.prog 101 #[.slice (some ⟨b,off,none⟩) rs.length cap,.int .i64 k] w fun e w'=>e=.returned (.bool (rs.any (hasP k)))∧Below w.heap.size w w':=by
 have hb0:Below w.heap.size w (w.alloc (.cells #[.int .i64 k] 3)):=(Below.refl _ _).alloc (Nat.le_refl _) _
 have HC:=aH (containsFunc_some k w.heap.size b off cap rs (w.alloc (.cells #[.int .i64 k] 3)) (by simp) (by simp) (hr.below hb0) hl)
 clear hr
 go_enter Tryz.func101,Tryz.ntmps101
 go_wp2_with fail
 refine (aU HC).mono ?_
 rintro e w' ⟨rfl,hb'⟩
 go_wp2_with fail
 go_ret
 exact ⟨rfl,hb0.trans (hb'.mono (by simp))⟩
theorem indexFunc_nil (f:Value) (w:World) :
  Calls Tryz.prog 230 #[.slice none 0 0,f] w fun e w'=>e=.returned (.int .i64 (-1))∧w'=w:=by
 go_enter Tryz.func230,Tryz.ntmps230
 go_wp2_with fail
 go_loop [8] (fun i=>i=.int .i64 0) (fun _=>0)
 case atStart=>rfl
 case round =>
  obtain rfl:=hrel
  go_wp2
  go_ret
  exact ⟨rfl,rfl⟩
theorem has_nil (k:Int) (w:World) :
  Calls Tryz.prog 101 #[.slice none 0 0,.int .i64 k] w fun e w'=>e=.returned (.bool false)∧Below w.heap.size w w':=by
 have HC:Hid (∀ f w,Calls Tryz.prog 171 #[.slice none 0 0,f] w fun e w'=>e=.returned (.bool false)∧w'=w):=by
  intro f w
  go_enter Tryz.func171,Tryz.ntmps171
  go_wp2_with (go_at_call 230; refine (indexFunc_nil _ _).mono ?_; rintro e w' ⟨rfl,rfl⟩)
  go_ret
  exact ⟨rfl,rfl⟩
 go_enter Tryz.func101,Tryz.ntmps101
 go_wp2_with fail
 refine (aU HC _ _).mono ?_
 rintro e w' ⟨rfl,rfl⟩
 go_wp2_with fail
 go_ret
 exact ⟨rfl,(Below.refl _ _).alloc (Nat.le_refl _) _⟩
theorem has_any (k:Int) (v:Value) (rs:List Rec) (w:World) (hv:RV w v rs) (hl:rs.length≤3001) :
  Calls Tryz.prog 101 #[v,.int .i64 k] w fun e w'=>e=.returned (.bool (rs.any (hasP k)))∧Below w.heap.size w w':=by
 rcases hv with ⟨rfl,rfl⟩ | ⟨b,off,cap,rfl,_,hr⟩
 ·exact has_nil k w
 ·exact has_some k b off cap rs w hr hl
def startsR (o:Str) (rs:List Rec):Bool :=
 match rs with
 | []=>false
 | r :: t=>decide (rs.length≤60) && (r.owner == o && r.type == 6 && !t.any (hasP 6))
theorem startsRight_any (o:Str) (v:Value) (rs:List Rec) (w:World) (hv:RV w v rs) (hl:rs.length≤3001) :
  Calls Tryz.prog 58 #[.string (B o),v] w fun e w'=>e=.returned (.bool (startsR o rs))∧Below w.heap.size w w':=by
 rcases hv with ⟨rfl,rfl⟩ | ⟨b,off,cap,rfl,hcap,hr⟩
 ·go_enter Tryz.func58,Tryz.ntmps58
  go_wp2
  go_ret
  exact ⟨rfl,Below.refl _ _⟩
 cases rs with
 | nil =>
  go_enter Tryz.func58,Tryz.ntmps58
  go_wp2
  go_ret
  exact ⟨rfl,Below.refl _ _⟩
 | cons r t =>
  rw [List.length_cons] at hcap hl ⊢
  obtain ⟨c0,_,c2,_⟩:=hr.four 0 (by simp)
  have hd:=hr.drop 1
  have he:bE w b off []:=⟨hr.1,fun j hj=>by simp at hj⟩
  simp only [Nat.zero_mul,Nat.add_zero,List.getElem_cons_zero,Nat.one_mul,List.drop_succ_cons,List.drop_zero] at c0 c2 hd
  have HD:=aH hd
  have HE:=aH he
  have hb:=hr.1
  clear hd he hr
  by_cases h60:(60:Int)<(t.length:Int)+1
  ·have hfin:Hid (startsR o (r :: t)=false):=by
    unfold startsR; rw [Hid,List.length_cons,decide_eq_false (by omega)]; rfl
   go_enter Tryz.func58,Tryz.ntmps58
   go_wp2
   go_ret
   exact ⟨ret_bool (aU hfin).symm,Below.refl _ _⟩
  have hfin:Hid (startsR o (r :: t)=(r.owner == o && r.type == 6 && !t.any (hasP 6))):=by
   unfold startsR; rw [Hid,List.length_cons,decide_eq_true (by omega)]; rfl
  have hBB:((B r.owner).toList == (B o).toList)=(r.owner == o):=by rw [str_eq]; rfl
  cases ho:r.owner == o
  ·rw [ho] at hBB
   go_enter Tryz.func58,Tryz.ntmps58
   go_wp2
   go_ret
   exact ⟨ret_bool (by rw [aU hfin,ho]; rfl),Below.refl _ _⟩
  rw [ho] at hBB
  cases ht:r.type == 6
  ·go_enter Tryz.func58,Tryz.ntmps58
   go_wp2
   go_ret
   exact ⟨ret_bool (by rw [aU hfin,ho,ht]; rfl),Below.refl _ _⟩
  by_cases hc1:cap=1
  ·subst hc1
   obtain rfl:t = []:=List.eq_nil_of_length_eq_zero (by omega)
   go_enter Tryz.func58,Tryz.ntmps58
   go_wp2_with fail
   refine (has_some 6 b off 0 [] w (aU HE) (by simp)).mono ?_
   rintro e w' ⟨rfl,hb'⟩
   go_wp2_with fail
   go_ret
   exact ⟨ret_bool (by rw [aU hfin,ho,ht]; rfl),hb'⟩
  ·have hcap2:2≤cap:=by omega
   go_enter Tryz.func58,Tryz.ntmps58
   go_wp2_with fail
   refine (has_some 6 b (off+4) _ t w (aU HD) (by omega)).mono ?_
   rintro e w' ⟨rfl,hb'⟩
   go_wp2_with fail
   go_ret
   exact ⟨ret_bool (by rw [aU hfin,ho,ht]; rfl),hb'⟩
end Rf
namespace Rg
open Ka Kb Kd Ke Kf Rc Rd Re Rf
theorem B_inj {a b:Str} : ((B a).toList == (B b).toList)=(a == b):=by rw [str_eq]; rfl
theorem eqR:EqlAt Tryz.prog 47 (fun x:Rec=>.agg (Rec.enc x).toArray) (fun x y=>x == y):=by
 refine ⟨fun x y w=>?_,GuardAt.agg _ (by kernel_rfl)⟩
 have u3:=Tryz.underlying3
 have a3:=Tryz.isAgg3
 have z3:=Tryz.sizeOf3
 have u9:=Tryz.underlying9
 have a9:=Tryz.isAgg9
 have z9:=Tryz.sizeOf9
 have hS:Tryz.prog.underlying 47=some (.struct (Tryz.prog.fieldsOf 47)):=by kernel_rfl
 have hp:Tryz.prog.stoodInHeld 47=false:=by kernel_rfl
 simp only [Rec.enc]
 rw [run_eql_struct,show (10000:Nat)=9999+1 from rfl,run_equalIn_agg w 9999 47 _ _ hS hp]
 simp only [Program.fieldsOf,Tryz.underlying47]
 obtain ⟨x0,x1,x2,x3⟩:=x
 obtain ⟨y0,y1,y2,y3⟩:=y
 simp only [Rec.owner,Rec.ttl,Rec.type,Rec.data]
 have e1 : ∀ a:Str,(B a).toList=a:=fun a=>by rw [ByteArray.toList_eq]; rfl
 have e2:((x1:Int)=(y1:Int))=(x1=y1):=by apply propext; omega
 go_simp
 by_cases h0:x0=y0 <;> by_cases h1:x1=y1 <;> by_cases h2:x2=y2 <;> by_cases h3:x3=y3 <;> simp [e1,e2,h0,h1,h2,h3]
theorem contains_some (x:Rec) (b off cap:Nat) (rs:List Rec) (w:World) (hr:bE w b off rs) (hl:rs.length≤3001) :
  Calls Tryz.prog 178 #[.slice (some ⟨b,off,none⟩) rs.length cap,.agg #[.string (B x.owner),.int .i64 x.ttl,.int .i64 x.type,.string (B x.data)]] w fun e w' =>
   e=.returned (.bool (rs.any (x == ·)))∧Below w.heap.size w w':=by
 have:=AnyQ.slices_Contains Tryz.lContains 4 Tryz.isAgg47 Tryz.sizeOf47 Rec.enc (fun _=>rfl) (fun x y=>x == y) eqR b off rs.length cap rs x w (Nat.le_refl _) (by omega) hr.2
 rw [List.take_length] at this
 exact this
theorem below_drewN {B:Nat} {a w:World} (h:Below B a w) (n:Nat):Below B a (w.drewN n):=⟨h.os,h.tape,h.output,h.size,h.block⟩
theorem below_drew {B:Nat} {a w:World} (h:Below B a w):Below B a w.drew:=h.drew
def setOk (t0:Nat):List Rec→List Rec→Bool
 | _,[]=>true
 | pre,r :: t=>r.ttl == t0 && !pre.any (r == ·) && setOk t0 (pre++[r]) t
def rightSet (rs:List Rec):Bool :=
 match rs with
 | []=>true
 | r :: _=>setOk r.ttl [] rs
theorem isRightSet_any (r0:Rec) (t:List Rec) (b off cap:Nat) (w:World) (hr:bE w b off (r0 :: t)) (hl:(r0 :: t).length≤3001) (hcap:(r0 :: t).length≤cap) :
  Calls Tryz.prog 108 #[.slice (some ⟨b,off,none⟩) (r0 :: t).length cap] w fun e w'=>e=.returned (.bool (rightSet (r0 :: t)))∧Below w.heap.size w w':=by
 have hfin:Hid (rightSet (r0 :: t)=setOk r0.ttl [] (r0 :: t)):=rfl
 obtain ⟨q0,q1,q2,q3⟩:=hr.four 0 (by simp)
 clear q2 q3
 simp only [Nat.zero_mul,Nat.add_zero,List.getElem_cons_zero] at q0 q1
 have hrl:0<(r0 :: t).length:=by simp
 generalize htl:r0.ttl=t0 at *
 generalize r0 :: t=rs at *
 have HA:=aH hr
 have hb:=hr.1
 clear hr htl
 go_enter Tryz.func108,Tryz.ntmps108
 go_wp2_with fail
 go_loopw [7] (fun i wr=>∃ k:Nat,k≤rs.length∧i=.int .i64 k∧setOk t0 (rs.take k) (rs.drop k)=setOk t0 [] rs∧Below w.heap.size w wr) (fun i _=>rs.length - (intOf i).toNat)
 case atStart=>exact ⟨0,Nat.zero_le _,rfl,by simp,Below.refl _ _⟩
 case round =>
  obtain ⟨k,hk,rfl,hok,hbr⟩:=hrel
  have H:=aH hok
  clear hok
  have hA:=(aU HA).below hbr
  have c1:wr.cell? ⟨b,off+1,none⟩=some (.int .i64 t0):=(hbr.cell (p:=⟨b,off+1,none⟩) hb).trans q1
  have hsz:=hbr.size
  have hbw:b<wr.heap.size:=by omega
  have hbne : ¬ b=wr.heap.size:=by omega
  have hrl':(0:Int)<(rs.length:Int):=by omega
  by_cases hlt:k<rs.length
  ·obtain ⟨k0,k1,k2,k3⟩:=hA.four k hlt
   have hltI:(k:Int)<(rs.length:Int):=by omega
   have hdr:Hid (rs.drop k=rs[k] :: rs.drop (k+1)):=List.drop_eq_getElem_cons hlt
   have htk:Hid (rs.take (k+1)=rs.take k++[rs[k]]):=List.take_succ_eq_append_getElem hlt
   have htake:=hA.take k
   have HT:=aH htake
   have hlk:(rs.take k).length=k:=by rw [List.length_take]; omega
   have HL:=aH hlk
   clear htake hlk hA
   generalize rs[k]=x at *
   have hcallC : ∀ W,Below wr.heap.size wr W→∀ c,Calls Tryz.prog 178 #[.slice (some ⟨b,off,none⟩) k c,.agg #[.string (B x.owner),.int .i64 x.ttl,.int .i64 x.type,.string (B x.data)]] W fun e w'=>e=.returned (.bool ((rs.take k).any (x == ·)))∧Below W.heap.size W w':=by
    intro W hW c
    have:=contains_some x b off c (rs.take k) W ((aU HT).below hW) (by rw [aU HL]; omega)
    rw [aU HL] at this
    exact this
   have HCC:=aH hcallC
   clear hcallC
   by_cases htt:x.ttl=t0
   ·subst htt
    have htt':((x.ttl:Int) != (x.ttl:Int))=false:=by simp
    cases hany:(rs.take k).any (x == ·)
    ·have hstep:Hid (setOk x.ttl (rs.take (k+1)) (rs.drop (k+1))=setOk x.ttl [] rs):=by
      rw [Hid,← aU H,aU hdr,setOk,hany,aU htk]; simp
     go_wp2_with fail
     go_region_with (go_at_call 178; refine ((aU HCC) _ (by exact below_drew ((Below.refl _ _).alloc (Nat.le_refl _) _)) _).mono ?_; rintro e w2 ⟨rfl,hb2⟩)
     all_goals
      have hB2:Below w.heap.size w w2:=(below_drew (hbr.alloc hsz _)).trans (hb2.mono (by simp; omega))
      have HB2:=aH hB2
      clear hB2 hb2
      go_wp2_with fail
      go_roundw
      case rel=>exact ⟨k+1,by omega,by go_num,aU hstep,aU HB2⟩
      case measure=>simp [intOf]; omega
    ·have hfin2:Hid (rightSet rs=false):=by
      rw [Hid,aU hfin,← aU H,aU hdr,setOk,hany]; simp
     go_wp2_with fail
     go_region_with (go_at_call 178; refine ((aU HCC) _ (by exact below_drew ((Below.refl _ _).alloc (Nat.le_refl _) _)) _).mono ?_; rintro e w2 ⟨rfl,hb2⟩)
     all_goals
      have hB2:Below w.heap.size w w2:=(below_drew (hbr.alloc hsz _)).trans (hb2.mono (by simp; omega))
      have HB2:=aH hB2
      clear hB2 hb2
      go_wp2_with fail
      go_ret
      exact ⟨ret_bool (aU hfin2).symm,aU HB2⟩
   ·have htt':((x.ttl:Int) != (t0:Int))=true:=by rw [bne_iff_ne]; omega
    have hfin2:Hid (rightSet rs=false):=by
     have hb0:(x.ttl == t0)=false:=beq_eq_false_iff_ne.2 htt
     rw [Hid,aU hfin,← aU H,aU hdr,setOk,hb0]; rfl
    clear htt
    go_wp2_with fail
    go_quiet (fail)
    go_wp2_with fail
    go_ret
    exact ⟨ret_bool (aU hfin2).symm,below_drewN (hbr.alloc hsz _) _⟩
  ·have hfin2:Hid (rightSet rs=true):=by
    rw [Hid,aU hfin,← aU H,List.drop_of_length_le (by omega)]; rfl
   go_wp2
   go_ret
   exact ⟨ret_bool (aU hfin2).symm,hbr⟩
end Rg
def aD (r s:Rec):Bool:=r.owner == s.owner && r.type == s.type
def aG (r s:Rec):Bool:=r.owner == s.owner
def runsP (same:Rec→Rec→Bool):Nat→Nat→List Rec→List (Nat×List Rec)
 | 0,_,_=>[]
 | _+1,_,[]=>[]
 | f+1,k,r :: t=>(k,r :: t.takeWhile (same r)) :: runsP same f (k+1+(t.takeWhile (same r)).length) (t.dropWhile (same r))
def runs (same:Rec→Rec→Bool) (rs:List Rec):List (Nat×List Rec):=runsP same rs.length 0 rs
namespace Ia
open Ka Kd Rg
theorem sameSet_any (r s:Rec) (w:World) :
  Calls Tryz.prog 177 #[.agg #[.string (B r.owner),.int .i64 r.ttl,.int .i64 r.type,.string (B r.data)],.agg #[.string (B s.owner),.int .i64 s.ttl,.int .i64 s.type,.string (B s.data)]] w fun e w' =>
   e=.returned (.bool (aD r s))∧∃ q os',w'=Sort.grow (w.drewN q) os':=by
 have hBB:((B r.owner).toList == (B s.owner).toList)=(r.owner == s.owner):=B_inj
 cases ho:r.owner == s.owner
 ·have hfin:Hid (aD r s=false):=by unfold aD; rw [ho]; rfl
  rw [ho] at hBB
  go_enter Tryz.func177,Tryz.ntmps177
  go_wp2
  go_ret
  exact ⟨ret_bool (aU hfin).symm,0,_,by rw [Sort.alloc_eq_grow,Sort.alloc_eq_grow,Sort.grow_grow]; rfl⟩
 ·have hfin:Hid (aD r s=(r.type == s.type)):=by unfold aD; rw [ho]; rfl
  rw [ho] at hBB
  go_enter Tryz.func177,Tryz.ntmps177
  go_wp2
  go_ret
  exact ⟨ret_bool (aU hfin).symm,0,_,by rw [Sort.alloc_eq_grow,Sort.alloc_eq_grow,Sort.grow_grow]; rfl⟩
theorem sameOwner_any (r s:Rec) (w:World) :
  Calls Tryz.prog 180 #[.agg #[.string (B r.owner),.int .i64 r.ttl,.int .i64 r.type,.string (B r.data)],.agg #[.string (B s.owner),.int .i64 s.ttl,.int .i64 s.type,.string (B s.data)]] w fun e w' =>
   e=.returned (.bool (aG r s))∧∃ q os',w'=Sort.grow (w.drewN q) os':=by
 have hBB:((B r.owner).toList == (B s.owner).toList)=(r.owner == s.owner):=B_inj
 go_enter Tryz.func180,Tryz.ntmps180
 go_wp2
 go_ret
 exact ⟨rfl,0,_,by rw [Sort.alloc_eq_grow,Sort.alloc_eq_grow,Sort.grow_grow]; rfl⟩
theorem runsP_fuel (same:Rec→Rec→Bool) : ∀ (f k:Nat) (l:List Rec),l.length≤f→runsP same f k l=runsP same l.length k l
 | 0,k,l,h=>by
  obtain rfl:l = []:=List.eq_nil_of_length_eq_zero (by omega)
  rfl
 | f+1,k,[],h=>rfl
 | f+1,k,r :: t,h=>by
  have hd:(t.dropWhile (same r)).length≤t.length:=by
   have:=congrArg List.length (List.takeWhile_append_dropWhile (p:=same r) (l:=t))
   rw [List.length_append] at this; omega
  rw [runsP,List.length_cons,runsP,runsP_fuel same f _ _ (by simp at h; omega),runsP_fuel same t.length _ _ hd]
theorem runsP_cons (same:Rec→Rec→Bool) (k:Nat) (r:Rec) (t:List Rec) :
  runsP same (r :: t).length k (r :: t)=(k,r :: t.takeWhile (same r)) :: runsP same (t.dropWhile (same r)).length (k+1+(t.takeWhile (same r)).length) (t.dropWhile (same r)):=by
 have hd:(t.dropWhile (same r)).length≤t.length:=by
  have:=congrArg List.length (List.takeWhile_append_dropWhile (p:=same r) (l:=t))
  rw [List.length_append] at this; omega
 rw [List.length_cons,runsP,runsP_fuel same t.length _ _ hd]
theorem takeWhile_get {p:Rec→Bool} : ∀ (l:List Rec) (j:Nat) (h:j<(l.takeWhile p).length),∃ h':j<l.length,p l[j]=true
 | [],j,h=>by simp at h
 | x :: l,j,h=>by
  by_cases hp:p x=true
  ·rw [List.takeWhile_cons_of_pos hp] at h
   cases j with
   | zero=>exact ⟨by simp,hp⟩
   | succ j =>
    obtain ⟨h',e⟩:=takeWhile_get l j (by simpa using h)
    exact ⟨by simpa using h',by simpa using e⟩
  ·rw [List.takeWhile_cons_of_neg hp] at h; simp at h
theorem takeWhile_end {p:Rec→Bool} : ∀ (l:List Rec) (h:(l.takeWhile p).length<l.length),p l[(l.takeWhile p).length]=false
 | [],h=>by simp at h
 | x :: l,h=>by
  by_cases hp:p x=true
  ·have e:((x :: l).takeWhile p).length=(l.takeWhile p).length+1:=by rw [List.takeWhile_cons_of_pos hp]; rfl
   have:=takeWhile_end l (by rw [e] at h; simpa using h)
   simpa [e] using this
  ·have e:((x :: l).takeWhile p).length=0:=by rw [List.takeWhile_cons_of_neg hp]; rfl
   simpa [e] using hp
theorem below_grow (w:World) (n:Nat) (os:Array Obj):Below w.heap.size w (Sort.grow (w.drewN n) os) :=
 ⟨rfl,rfl,rfl,by simp [Sort.grow,World.drewN],fun k hk=>by
  show (w.heap++os)[k]? = w.heap[k]?
  rw [Array.getElem?_append_left hk]⟩
theorem bE.kept {w w':World} {b off:Nat} {rs:List Rec} (h:bE w b off rs) (hs:w.heap.size≤w'.heap.size) (hb:w'.heap[b]? = w.heap[b]?):bE w' b off rs :=
 ⟨Nat.lt_of_lt_of_le h.1 hs,fun j hj i u hu=>(World.cell?_of_block hb).trans (h.2 j hj i u hu)⟩
theorem runs_any (a:Option Addr) (n c gs:Nat) (w:World) :
  Calls Tryz.prog 176 #[.slice a n c,.func (.func gs) #[] #[]] w fun e w'=>e=.returned (.func (.func 233) #[] #[.pointer (some ⟨w.heap.size,0,none⟩),.pointer (some ⟨w.heap.size+1,0,none⟩)])∧w'=(w.alloc (.cells #[.slice a n c] 41)).alloc (.cells #[.func (.func gs) #[] #[]] 261):=by
 go_enter Tryz.func176,Tryz.ntmps176
 go_wp2
 go_ret
 exact ⟨rfl,rfl⟩
end Ia
attribute [local go_sem] Oper.semAt_some
namespace Ib
open Ka Kd Rg Ia
theorem seq (b off cap bl bs:Nat) (rs:List Rec) (W0:World)
  (hl:W0.cell? ⟨bl,0,none⟩=some (.slice (some ⟨b,off,none⟩) rs.length cap)) (hs:W0.cell? ⟨bs,0,none⟩=some (.func (.func 177) #[] #[]))
  (hr:bE W0 b off rs) (h1:bl<W0.heap.size) (h2:bs<W0.heap.size) (hlen:rs.length≤3001) (hcap:rs.length≤cap) :
  It.Seq Tryz.prog 233 #[.pointer (some ⟨bl,0,none⟩),.pointer (some ⟨bs,0,none⟩)] (fun x:Nat×List Rec=>#[.slice (some ⟨b,off+x.1*4,none⟩) x.2.length x.2.length]) (runs aD rs)
   (fun A B=>Below A.heap.size A B) (It.Keep3 bl bs b) (fun _ _=>True) W0:=by
 have h3:b<W0.heap.size:=hr.1
 intro l J Jx hJ hJx hY h0
 have HY:=aH hY
 have HJ:=aH hJ
 clear hY hJ hJx
 refine callsIn_of_wp Tryz.func233 rfl trivial ?_
 simp only [Tryz.ntmps233,List.size_toArray,List.length_cons,List.length_nil,Nat.reduceAdd,Nat.reduceSub,Array.replicate_succ,Array.replicate_zero,List.push_toArray,List.append_toArray,List.nil_append,List.cons_append]
 gi_wp2
 gi_loopw [4] (fun s wr=>∃ i k:Nat,s=.int .i64 k∧k≤rs.length∧i≤(runs aD rs).length∧(runs aD rs).drop i=runsP aD (rs.drop k).length k (rs.drop k)∧J i wr∧It.Keep3 bl bs b W0 wr) (fun s _=>rs.length - (intOf s).toNat)
 case atStart=>exact ⟨0,0,rfl,Nat.zero_le _,Nat.zero_le _,by simp [runs],h0,It.Keep3.refl _ _ _ _⟩
 case round =>
  obtain ⟨i,k,rfl,hk,hi,hrun,hJi,hB⟩:=hrel
  have HR:=aH hrun
  have HJi:=aH hJi
  clear hrun hJi
  have cl:wr.cell? ⟨bl,0,none⟩=some (.slice (some ⟨b,off,none⟩) rs.length cap):=(World.cell?_of_block hB.2.1).trans hl
  have cs:wr.cell? ⟨bs,0,none⟩=some (.func (.func 177) #[] #[]):=(World.cell?_of_block hB.2.2.1).trans hs
  by_cases hlt:k<rs.length
  ·have hA:bE wr b off rs:=bE.kept hr hB.1 hB.2.2.2
   obtain ⟨q0,q1,q2,q3⟩:=hA.four k hlt
   have hrt:rs.drop k=rs[k] :: rs.drop (k+1):=List.drop_eq_getElem_cons hlt
   have hget : ∀ m (h:m<rs.length) (h0:k+1≤m),∃ h':m - (k+1)<(rs.drop (k+1)).length,(rs.drop (k+1))[m - (k+1)]=rs[m]:=fun m h h0=>⟨by rw [List.length_drop]; omega,by rw [List.getElem_drop]; congr 1; omega⟩
   have htl:(rs.drop (k+1)).length=rs.length - (k+1):=List.length_drop
   rw [hrt,runsP_cons] at HR
   have HG:=aH hget
   have HA0:=aH hr
   clear hrt hget hA
   obtain ⟨T,hT⟩ : ∃ T,T=((rs.drop (k+1)).takeWhile (aD rs[k])).length:=⟨_,rfl⟩
   have hTl:T≤rs.length - (k+1):=by
    rw [hT,← htl]; exact (List.takeWhile_sublist _).length_le
   have htake:=aH (takeWhile_get (p:=aD rs[k]) (rs.drop (k+1)))
   have hend:=aH (takeWhile_end (p:=aD rs[k]) (rs.drop (k+1)))
   rw [← hT] at htake
   have HT:=aH hT
   clear htl hT q0 q1 q2 q3
   generalize hx:rs[k]=r at *
   have HX:=aH hx
   clear hx
   have HIX:Hid ((runs aD rs)[i]? = some (k,r :: (rs.drop (k+1)).takeWhile (aD r))):=by
    have:=congrArg (fun l:List (Nat×List Rec)=>l[0]?) (aU HR)
    rw [Hid]
    simpa using this
   have HI1:Hid (i+1≤(runs aD rs).length):=(List.getElem?_eq_some_iff.1 (aU HIX)).1
   have HDW:Hid ((rs.drop (k+1)).dropWhile (aD r)=rs.drop (k+1+T)):=by
    have h1:rs.drop (k+1+T)=(rs.drop (k+1)).drop T:=by rw [List.drop_drop]
    rw [Hid,h1,aU HT]
    conv=>rhs; arg 2; rw [← List.takeWhile_append_dropWhile (p:=aD r) (l:=rs.drop (k+1))]
    rw [List.drop_left]
   gi_wp2_with fail
   gi_loopw [5] (fun e wr2=>∃ m:Nat,e=.int .i64 m∧k+1≤m∧m≤k+1+T∧J i wr2∧It.Keep3 bl bs b W0 wr2) (fun e _=>rs.length - (intOf e).toNat)
   case atStart=>exact ⟨k+1,by go_num,Nat.le_refl _,by omega,aU HJi,hB⟩
   case round =>
    clear HJi hB cl cs
    obtain ⟨m,rfl,hkm,hmT,hJ2,hB2⟩:=hrel
    have HJ2:=aH hJ2
    clear hJ2
    have cl:wr.cell? ⟨bl,0,none⟩=some (.slice (some ⟨b,off,none⟩) rs.length cap):=(World.cell?_of_block hB2.2.1).trans hl
    have cs:wr.cell? ⟨bs,0,none⟩=some (.func (.func 177) #[] #[]):=(World.cell?_of_block hB2.2.2.1).trans hs
    have hA:bE wr b off rs:=bE.kept hr hB2.1 hB2.2.2.2
    obtain ⟨q0,q1,q2,q3⟩:=hA.four k hlt
    rw [aU HX] at q0 q1 q2 q3
    by_cases hm:m<rs.length
    ·obtain ⟨p0,p1,p2,p3⟩:=hA.four m hm
     obtain ⟨hg',hg⟩:=aU HG m hm hkm
     clear hA
     by_cases hjT:m - (k+1)<T
     ·have hsm:aD r rs[m]=true:=by
       obtain ⟨h',e⟩:=aU htake (m - (k+1)) hjT
       rw [hg] at e; exact e
      clear hg hg'
      generalize rs[m]=s at *
      have hmI:(m:Int)<(rs.length:Int):=by omega
      have hkI:(k:Int)<(rs.length:Int):=by omega
      have hmD:decide ((m:Int)<(rs.length:Int))=true:=decide_eq_true hmI
      have hmx:Tryz.prog.follows .mixedOrders=true:=by kernel_rfl
      have hbw:W0.heap.size≤wr.heap.size:=hB2.1
      have gl : ∀ n os,(Sort.grow (wr.drewN n) os).cell? ⟨bl,0,none⟩=some (.slice (some ⟨b,off,none⟩) rs.length cap):=cell_grown (by show bl<_; omega) cl
      have gs : ∀ n os,(Sort.grow (wr.drewN n) os).cell? ⟨bs,0,none⟩=some (.func (.func 177) #[] #[]):=cell_grown (by show bs<_; omega) cs
      have g0 : ∀ n os,(Sort.grow (wr.drewN n) os).cell? ⟨b,off+k*4,none⟩=some (.string (B r.owner)):=cell_grown (by show b<_; omega) q0
      have g1 : ∀ n os,(Sort.grow (wr.drewN n) os).cell? ⟨b,off+k*4+1,none⟩=some (.int .i64 r.ttl):=cell_grown (by show b<_; omega) q1
      have g2 : ∀ n os,(Sort.grow (wr.drewN n) os).cell? ⟨b,off+k*4+2,none⟩=some (.int .i64 r.type):=cell_grown (by show b<_; omega) q2
      have g3 : ∀ n os,(Sort.grow (wr.drewN n) os).cell? ⟨b,off+k*4+3,none⟩=some (.string (B r.data)):=cell_grown (by show b<_; omega) q3
      have e0 : ∀ n os,(Sort.grow (wr.drewN n) os).cell? ⟨b,off+m*4,none⟩=some (.string (B s.owner)):=cell_grown (by show b<_; omega) p0
      have e1 : ∀ n os,(Sort.grow (wr.drewN n) os).cell? ⟨b,off+m*4+1,none⟩=some (.int .i64 s.ttl):=cell_grown (by show b<_; omega) p1
      have e2 : ∀ n os,(Sort.grow (wr.drewN n) os).cell? ⟨b,off+m*4+2,none⟩=some (.int .i64 s.type):=cell_grown (by show b<_; omega) p2
      have e3 : ∀ n os,(Sort.grow (wr.drewN n) os).cell? ⟨b,off+m*4+3,none⟩=some (.string (B s.data)):=cell_grown (by show b<_; omega) p3
      gi_wp2_with fail
      refine wpIn_wide.2 ?_
      go_quiet_grown ((go_at_call 177; exact Calls.grown_of (sameSet_any r s _)))
      gi_wp2_with fail
      exact ⟨⟨m+1,by go_num,by omega,by omega,aU HJ i _ _ (aU HJ2) (below_grow _ _ _),hB2.trans (It.Keep3.of_below (below_grow _ _ _) (by omega) (by omega) (by omega))⟩,by simp [intOf]; omega⟩
     ·have hmk:m=k+1+T:=by omega
      have hsm:aD r rs[m]=false:=by
       have h':((rs.drop (k+1)).takeWhile (aD r)).length=m - (k+1):=by rw [← aU HT]; omega
       have:=aU hend (by rw [h']; exact hg')
       simp only [h'] at this
       rw [hg] at this; exact this
      clear hg hg'
      generalize rs[m]=s at *
      have hmI:(m:Int)<(rs.length:Int):=by omega
      have hkI:(k:Int)<(rs.length:Int):=by omega
      have hmD:decide ((m:Int)<(rs.length:Int))=true:=decide_eq_true hmI
      have HMK:=aH hmk
      clear hmk
      have HLN:Hid ((r :: (rs.drop (k+1)).takeWhile (aD r)).length=m - k):=by
       rw [Hid,List.length_cons,← aU HT,aU HMK]; omega
      have HNX:Hid ((runs aD rs).drop (i+1)=runsP aD (rs.drop m).length m (rs.drop m)):=by
       rw [Hid,← List.drop_drop,aU HR,List.drop_one,List.tail_cons,aU HDW,← aU HT,← aU HMK]
      have hmx:Tryz.prog.follows .mixedOrders=true:=by kernel_rfl
      have hbw:W0.heap.size≤wr.heap.size:=hB2.1
      have gl : ∀ n os,(Sort.grow (wr.drewN n) os).cell? ⟨bl,0,none⟩=some (.slice (some ⟨b,off,none⟩) rs.length cap):=cell_grown (by show bl<_; omega) cl
      have gs : ∀ n os,(Sort.grow (wr.drewN n) os).cell? ⟨bs,0,none⟩=some (.func (.func 177) #[] #[]):=cell_grown (by show bs<_; omega) cs
      have g0 : ∀ n os,(Sort.grow (wr.drewN n) os).cell? ⟨b,off+k*4,none⟩=some (.string (B r.owner)):=cell_grown (by show b<_; omega) q0
      have g1 : ∀ n os,(Sort.grow (wr.drewN n) os).cell? ⟨b,off+k*4+1,none⟩=some (.int .i64 r.ttl):=cell_grown (by show b<_; omega) q1
      have g2 : ∀ n os,(Sort.grow (wr.drewN n) os).cell? ⟨b,off+k*4+2,none⟩=some (.int .i64 r.type):=cell_grown (by show b<_; omega) q2
      have g3 : ∀ n os,(Sort.grow (wr.drewN n) os).cell? ⟨b,off+k*4+3,none⟩=some (.string (B r.data)):=cell_grown (by show b<_; omega) q3
      have e0 : ∀ n os,(Sort.grow (wr.drewN n) os).cell? ⟨b,off+m*4,none⟩=some (.string (B s.owner)):=cell_grown (by show b<_; omega) p0
      have e1 : ∀ n os,(Sort.grow (wr.drewN n) os).cell? ⟨b,off+m*4+1,none⟩=some (.int .i64 s.ttl):=cell_grown (by show b<_; omega) p1
      have e2 : ∀ n os,(Sort.grow (wr.drewN n) os).cell? ⟨b,off+m*4+2,none⟩=some (.int .i64 s.type):=cell_grown (by show b<_; omega) p2
      have e3 : ∀ n os,(Sort.grow (wr.drewN n) os).cell? ⟨b,off+m*4+3,none⟩=some (.string (B s.data)):=cell_grown (by show b<_; omega) p3
      gi_wp2_with fail
      refine wpIn_wide.2 ?_
      go_quiet_grown ((go_at_call 177; exact Calls.grown_of (sameSet_any r s _)))
      have hJ3:=aU HJ i _ _ (aU HJ2) (below_grow wr nq osq)
      have hB3:=hB2.trans (It.Keep3.of_below (below_grow wr nq osq) (by omega) (by omega) (by omega))
      have hyi:=aU HY i (k,r :: (rs.drop (k+1)).takeWhile (aD r)) _ (aU HIX) hJ3
      dsimp only at hyi
      rw [aU HLN] at hyi
      obtain ⟨fn,tmps,assign,body,hy,hR⟩:=hyi
      gi_wp2_with fail
      refine ⟨rfl,hR.mono ?_⟩
      rintro e W3 (⟨rfl,hJ4,hk4⟩ | ⟨rfl,hJx4,_⟩)
      ·have HJ4:=aH hJ4
       have hB4:=hB3.trans hk4
       clear hJ4
       gi_wp2_with fail
       exact ⟨⟨i+1,m,by go_num,by omega,aU HI1,aU HNX,aU HJ4,hB4⟩,by simp [intOf]; omega⟩
      ·gi_wp2
       refine bodyPost_ret (results_none rfl _ _ _) rfl ?_
       exact ⟨⟨_,rfl⟩,.inr hJx4⟩
    ·have hmk:m=k+1+T:=by omega
     have HMK:=aH hmk
     clear hmk hA
     have hmD:decide ((m:Int)<(rs.length:Int))=false:=decide_eq_false (by omega)
     have hmk2:m≤rs.length:=by omega
     have hbw:W0.heap.size≤wr.heap.size:=hB2.1
     have HLN:Hid ((r :: (rs.drop (k+1)).takeWhile (aD r)).length=m - k):=by
      rw [Hid,List.length_cons,← aU HT,aU HMK]; omega
     have HNX:Hid ((runs aD rs).drop (i+1)=runsP aD (rs.drop m).length m (rs.drop m)):=by
      rw [Hid,← List.drop_drop,aU HR,List.drop_one,List.tail_cons,aU HDW,← aU HT,← aU HMK]
     gi_wp2_with fail
     refine wpIn_wide.2 ?_
     go_quiet (fail)
     have hJ3:=aU HJ i _ _ (aU HJ2) (Rg.below_drewN (Below.refl _ wr) nq)
     have hB3:=hB2.trans (It.Keep3.of_below (Rg.below_drewN (Below.refl wr.heap.size wr) nq) (by omega) (by omega) (by omega))
     have cl3:(wr.drewN nq).cell? ⟨bl,0,none⟩=some (.slice (some ⟨b,off,none⟩) rs.length cap):=cl
     have hyi:=aU HY i (k,r :: (rs.drop (k+1)).takeWhile (aD r)) _ (aU HIX) hJ3
     dsimp only at hyi
     rw [aU HLN] at hyi
     obtain ⟨fn,tmps,assign,body,hy,hR⟩:=hyi
     gi_wp2_with fail
     refine ⟨rfl,hR.mono ?_⟩
     rintro e W3 (⟨rfl,hJ4,hk4⟩ | ⟨rfl,hJx4,_⟩)
     ·have HJ4:=aH hJ4
      have hB4:=hB3.trans hk4
      clear hJ4
      gi_wp2_with fail
      exact ⟨⟨i+1,m,by go_num,by omega,aU HI1,aU HNX,aU HJ4,hB4⟩,by simp [intOf]; omega⟩
     ·gi_wp2
      refine bodyPost_ret (results_none rfl _ _ _) rfl ?_
      exact ⟨⟨_,rfl⟩,.inr hJx4⟩
  ·gi_wp2
   go_end0
   have hfin:i=(runs aD rs).length:=by
    have:=aU HR
    rw [List.drop_of_length_le (show rs.length≤k by omega)] at this
    have h':=congrArg List.length this
    rw [List.length_drop] at h'
    have e0:(runsP aD (List.length (α:=Rec) []) k []).length=0:=rfl
    rw [e0] at h'
    omega
   exact ⟨⟨_,rfl⟩,.inl (by rw [← hfin]; exact aU HJi)⟩
theorem seq_nil (b off bl bs:Nat) (W0:World) (hl:W0.cell? ⟨bl,0,none⟩=some (.slice none 0 0)) (Kp:World→World→Prop) :
  It.Seq Tryz.prog 233 #[.pointer (some ⟨bl,0,none⟩),.pointer (some ⟨bs,0,none⟩)] (fun x:Nat×List Rec=>#[.slice (some ⟨b,off+x.1*4,none⟩) x.2.length x.2.length]) (runs aD [])
   (fun A B=>Below A.heap.size A B) Kp (fun _ _=>True) W0:=by
 intro l J Jx hJ hJx hY h0
 have HY:=aH hY
 have HJ:=aH hJ
 clear hY hJ hJx
 refine callsIn_of_wp Tryz.func233 rfl trivial ?_
 simp only [Tryz.ntmps233,List.size_toArray,List.length_cons,List.length_nil,Nat.reduceAdd,Nat.reduceSub,Array.replicate_succ,Array.replicate_zero,List.push_toArray,List.append_toArray,List.nil_append,List.cons_append]
 gi_wp2
 gi_loopw [4] (fun s wr=>s=.int .i64 0∧wr=W0) (fun _ _=>0)
 case atStart=>exact ⟨rfl,rfl⟩
 case round =>
  obtain ⟨rfl,rfl⟩:=hrel
  gi_wp2
  go_end0
  exact ⟨⟨_,rfl⟩,.inl h0⟩
end Ib
end Go.Proofs.YtkkpahmoljiepaaGreatDoor
