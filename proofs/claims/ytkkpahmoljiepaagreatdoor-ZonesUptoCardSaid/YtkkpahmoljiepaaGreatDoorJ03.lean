/- The contracts of library functions that the proof uses, laid at this program: tables of numbers and closed facts. -/
import Derived.Shelf.SlicesQ.Contains
import Derived.Shelf.SlicesQ.IndexFunc
import Derived.Shelf.SlicesE.Clone
import Derived.Shelf.SlSortCmp.InsertionK
import Derived.Ground.SlgqProg
import Derived.Ground.SlgfProg
import Derived.Ground.SlsfProg
import Derived.Ground.SlgnProg
import Derived.Test.YtkkpahmoljiepaaGreatDoorProg
import Derived.Test.YtkkpahmoljiepaaGreatDoorJ02
import Derived.Laws.StructEq
import Derived.Deep.RegionWith
import Derived.Deep.QuietTactic
import Derived.BigQuiet
import Derived.RangeFuncLeaves
import Derived.RangeFuncOwn
import Derived.Below
import Derived.RangeFuncNested
import Derived.RangeFuncBound
import Derived.RangeFuncCalls
import Derived.Shelf.RegionOpen
import Derived.OwnWalkIn
import Derived.TacticsInMore
import Derived.LoopNIn
import Derived.LoopIn
import Derived.Shelf.SlSortCmp.QuietGrown
set_option linter.unusedSimpArgs false
set_option linter.unusedVariables false
namespace Go.Proofs
open Go.Shelf
def Tryz.lContainsFunc_ren : Go.Shelf.Ren := ⟨fun | 8 => 171 | 6 => 230 | n => n, fun | 22 => 41 | 23 => 47 | 25 => 258 | 4 => 4 | 3 => 3 | 0 => 0 | n => n, fun | n => n⟩
theorem Tryz.lContainsFunc : Go.Proofs.SlLaysH0.n8 Tryz.prog Tryz.lContainsFunc_ren := {
  mixed := by kernel_rfl
  f6 := ⟨Tryz.f230.name, by decide, Tryz.func230.trans (congrArg some (by kernel_rfl))⟩
  f8 := ⟨Tryz.f171.name, by decide, Tryz.func171.trans (congrArg some (by kernel_rfl))⟩
  t0 := Tryz.underlying0
  a0 := Tryz.isAgg0
  z0 := Tryz.sizeOf0
  v0 := Tryz.zeroValue0
  t3 := Tryz.underlying3
  a3 := Tryz.isAgg3
  z3 := Tryz.sizeOf3
  v3 := Tryz.zeroValue3
  t4 := Tryz.underlying4
  a4 := Tryz.isAgg4
  z4 := Tryz.sizeOf4
  v4 := Tryz.zeroValue4
  t22 := Tryz.underlying41
  a22 := Tryz.isAgg41
  z22 := Tryz.sizeOf41
  v22 := Tryz.zeroValue41
  t25 := Tryz.underlying258
  a25 := Tryz.isAgg258
  z25 := Tryz.sizeOf258
  v25 := Tryz.zeroValue258 }
def Tryz.lContains_ren : Go.Shelf.Ren := ⟨fun | 7 => 178 | 6 => 234 | n => n, fun | 22 => 41 | 24 => 47 | 4 => 4 | 0 => 0 | 3 => 3 | n => n, fun | n => n⟩
theorem Tryz.lContains : Go.Proofs.SlLaysQ.n7 Tryz.prog Tryz.lContains_ren := {
  mixed := by kernel_rfl
  f6 := ⟨Tryz.f234.name, by decide, Tryz.func234.trans (congrArg some (by kernel_rfl))⟩
  f7 := ⟨Tryz.f178.name, by decide, Tryz.func178.trans (congrArg some (by kernel_rfl))⟩
  t0 := Tryz.underlying0
  a0 := Tryz.isAgg0
  z0 := Tryz.sizeOf0
  v0 := Tryz.zeroValue0
  t3 := Tryz.underlying3
  a3 := Tryz.isAgg3
  z3 := Tryz.sizeOf3
  v3 := Tryz.zeroValue3
  t4 := Tryz.underlying4
  a4 := Tryz.isAgg4
  z4 := Tryz.sizeOf4
  v4 := Tryz.zeroValue4
  t22 := Tryz.underlying41
  a22 := Tryz.isAgg41
  z22 := Tryz.sizeOf41
  v22 := Tryz.zeroValue41 }
def Tryz.lClone_ren : Go.Shelf.Ren := ⟨fun | 41 => 243 | n => n, fun | 22 => 41 | 23 => 47 | 4 => 4 | n => n, fun | n => n⟩
theorem Tryz.lClone : Go.Proofs.SlLaysE0.n41 Tryz.prog Tryz.lClone_ren := {
  mixed := by kernel_rfl
  f41 := ⟨Tryz.f243.name, by decide, Tryz.func243.trans (congrArg some (by kernel_rfl))⟩
  t4 := Tryz.underlying4
  a4 := Tryz.isAgg4
  z4 := Tryz.sizeOf4
  v4 := Tryz.zeroValue4
  t22 := Tryz.underlying41
  a22 := Tryz.isAgg41
  z22 := Tryz.sizeOf41
  v22 := Tryz.zeroValue41 }
def Tryz.lInsertion_ren : Go.Shelf.Ren := ⟨fun | 20 => 231 | n => n, fun | 24 => 47 | 22 => 41 | 3 => 3 | 25 => 186 | 4 => 4 | 0 => 0 | n => n, fun | n => n⟩
theorem Tryz.lInsertion : Go.Proofs.SlLaysF0.n20 Tryz.prog Tryz.lInsertion_ren := {
  mixed := by kernel_rfl
  f20 := ⟨Tryz.f231.name, by decide, Tryz.func231.trans (congrArg some (by kernel_rfl))⟩
  t0 := Tryz.underlying0
  a0 := Tryz.isAgg0
  z0 := Tryz.sizeOf0
  v0 := Tryz.zeroValue0
  t3 := Tryz.underlying3
  a3 := Tryz.isAgg3
  z3 := Tryz.sizeOf3
  v3 := Tryz.zeroValue3
  t4 := Tryz.underlying4
  a4 := Tryz.isAgg4
  z4 := Tryz.sizeOf4
  v4 := Tryz.zeroValue4
  t22 := Tryz.underlying41
  a22 := Tryz.isAgg41
  z22 := Tryz.sizeOf41
  v22 := Tryz.zeroValue41
  t25 := Tryz.underlying186
  a25 := Tryz.isAgg186
  z25 := Tryz.sizeOf186
  v25 := Tryz.zeroValue186 }
end Go.Proofs

set_option maxRecDepth 1000000
set_option maxHeartbeats 12800000
namespace Go.Proofs.YtkkpahmoljiepaaGreatDoor
open Go.RowKit
open Pu (Str aH aU)
def bE (w:World) (b off:Nat) (rs:List Rec):Prop:=b<w.heap.size∧∀ j,j<rs.length→∀ i u,(Rec.enc rs[j]!)[i]? = some u→w.cell? ⟨b,off+j*4+i,none⟩=some u
theorem bE.below {w w':World} {b off:Nat} {rs:List Rec} (h:bE w b off rs) (hb:Below w.heap.size w w'):bE w' b off rs :=
 ⟨Nat.lt_of_lt_of_le h.1 hb.size,fun j hj i u hu=>(hb.cell (p:=⟨b,off+j*4+i,none⟩) h.1).trans (h.2 j hj i u hu)⟩
def RV (w:World) (v:Value) (rs:List Rec):Prop:=(v=.slice none 0 0∧rs = [])∨∃ b off cap,v=.slice (some ⟨b,off,none⟩) rs.length cap∧rs.length≤cap∧bE w b off rs
theorem RV.below {w w':World} {v:Value} {rs:List Rec} (h:RV w v rs) (hb:Below w.heap.size w w'):RV w' v rs:=by
 rcases h with h | ⟨b,off,cap,hv,hc,hr⟩
 ·exact .inl h
 ·exact .inr ⟨b,off,cap,hv,hc,hr.below hb⟩
theorem encs_get (rs:List Rec) (j i:Nat) (hj:j<rs.length) (hi:i<4):(encs rs)[j*4+i]? = (Rec.enc rs[j]!)[i]?:=by
 induction rs generalizing j with
 | nil=>simp at hj
 | cons r t ih =>
  have e:encs (r :: t)=r.enc++encs t:=by simp [encs]
  have hl:r.enc.length=4:=rfl
  rw [e]
  cases j with
  | zero=>rw [List.getElem?_append_left (by omega)]; simp
  | succ j =>
   rw [List.getElem?_append_right (by omega),hl,show (j+1)*4+i - 4=j*4+i from by omega,ih j (by simpa using hj)]
   simp
theorem recsAt_of_encs {w:World} {b off:Nat} {rs:List Rec} (hb:b<w.heap.size) (h : ∀ j u,(encs rs)[j]? = some u→w.cell? ⟨b,off+j,none⟩=some u):bE w b off rs:=by
 refine ⟨hb,fun j hj i u hu=>?_⟩
 have hi:i<4:=by
  rcases Nat.lt_or_ge i 4 with h | h
  ·exact h
  ·rw [List.getElem?_eq_none (by simpa [Rec.enc] using h)] at hu; cases hu
 have:=h (j*4+i) u (by rw [encs_get rs j i hj hi]; exact hu)
 rwa [← Nat.add_assoc] at this
theorem RecsOwn.rv {w:World} {B:Nat} {v:Value} {rs:List Rec} (h:RecsOwn w B v rs):RV w v rs:=by
 obtain ⟨⟨hl,h | ⟨g,cap,cur,hv,hg,h1,h2,h3,h4,h5⟩⟩,hn⟩:=h
 ·exact .inl ⟨h.1,hn.1 h.1⟩
 ·refine .inr ⟨g,0,cap,hv,h2,recsAt_of_encs (Array.getElem?_eq_some_iff.1 h1).1 fun j u hu=>?_⟩
  have hj:cur[j]? = some u:=by
   rw [← h5] at hu
   have hjl:j<(cur.toList.take (rs.length*4)).length:=(List.getElem?_eq_some_iff.1 hu).1
   rw [List.getElem?_take] at hu
   split at hu
   ·simpa using hu
   ·cases hu
  simp [World.cell?,h1,hj]
theorem bE.drop {w:World} {b off:Nat} {rs:List Rec} (h:bE w b off rs) (k:Nat):bE w b (off+k*4) (rs.drop k):=by
 refine ⟨h.1,fun j hj i u hu=>?_⟩
 rw [List.length_drop] at hj
 have e:(rs.drop k)[j]! = rs[k+j]!:=by simp
 rw [e] at hu
 have:=h.2 (k+j) (by omega) i u hu
 rwa [show off+(k+j)*4+i=off+k*4+j*4+i from by omega] at this
theorem bE.take {w:World} {b off:Nat} {rs:List Rec} (h:bE w b off rs) (k:Nat):bE w b off (rs.take k):=by
 refine ⟨h.1,fun j hj i u hu=>?_⟩
 rw [List.length_take] at hj
 have e:(rs.take k)[j]! = rs[j]!:=by
  rw [List.getElem!_eq_getElem?_getD,List.getElem!_eq_getElem?_getD,List.getElem?_take,if_pos (by omega)]
 rw [e] at hu
 exact h.2 j (by omega) i u hu
theorem bE.four {w:World} {b off:Nat} {rs:List Rec} (h:bE w b off rs) (j:Nat) (hj:j<rs.length) :
  w.cell? ⟨b,off+j*4,none⟩=some (.string (B rs[j].owner))∧w.cell? ⟨b,off+j*4+1,none⟩=some (.int .i64 rs[j].ttl) ∧
  w.cell? ⟨b,off+j*4+2,none⟩=some (.int .i64 rs[j].type)∧w.cell? ⟨b,off+j*4+3,none⟩=some (.string (B rs[j].data)):=by
 have e:rs[j]! = rs[j]:=getElem!_pos rs j hj
 have:=h.2 j hj
 rw [e] at this
 exact ⟨this 0 _ rfl,this 1 _ rfl,this 2 _ rfl,this 3 _ rfl⟩
namespace Rf
open Ka Kb Kd Ke Kf Rc Rd Re
def hasP (k:Int) (r:Rec):Bool:=r.type == k
theorem has1_any (r:Rec) (k:Int) (bk:Nat) (W:World) (hc:W.cell? ⟨bk,0,none⟩=some (.int .i64 k)) (hb:bk<W.heap.size) :
  Calls Tryz.prog 172 #[.agg #[.string (B r.owner),.int .i64 r.ttl,.int .i64 r.type,.string (B r.data)],.pointer (some ⟨bk,0,none⟩)] W fun e w'=>e=.returned (.bool (hasP k r))∧Below W.heap.size W w':=by
 go_enter Tryz.func172,Tryz.ntmps172
 go_wp2
 go_ret
 exact ⟨rfl,(Below.refl _ _).alloc (Nat.le_refl _) _⟩
theorem hasPred (k:Int) (bk:Nat) (w:World) (hc:w.cell? ⟨bk,0,none⟩=some (.int .i64 k)) (hb:bk<w.heap.size) :
  PredBelow Tryz.prog 172 #[.pointer (some ⟨bk,0,none⟩)] (fun x=>.agg (Rec.enc x).toArray) (hasP k) w:=by
 intro W r hB
 refine (has1_any r k bk W ((hB.cell (p:=⟨bk,0,none⟩) hb).trans hc) (Nat.lt_of_lt_of_le hb hB.size)).mono ?_
 rintro e w' ⟨rfl,hb'⟩
 exact ⟨rfl,hB.trans (hb'.mono hB.size)⟩
theorem containsFunc_some (k:Int) (bk b off cap:Nat) (rs:List Rec) (w:World) (hc:w.cell? ⟨bk,0,none⟩=some (.int .i64 k)) (hb:bk<w.heap.size) (hr:bE w b off rs) (hl:rs.length≤3001) :
  Calls Tryz.prog 171 #[.slice (some ⟨b,off,none⟩) rs.length cap,.func (.func 172) #[] #[.pointer (some ⟨bk,0,none⟩)]] w fun e w' =>
   e=.returned (.bool (rs.any (hasP k)))∧Below w.heap.size w w':=by
 have:=AnyQ.slices_ContainsFunc Tryz.lContainsFunc 4 Tryz.isAgg47 Tryz.sizeOf47 Rec.enc (fun _=>rfl) (hasP k) 172 #[.pointer (some ⟨bk,0,none⟩)] (enters_of Tryz.func172 (by kernel_rfl) rfl) b off rs.length cap rs w (hasPred k bk w hc hb) (Nat.le_refl _) (by omega) hr.1 hr.2
 rw [List.take_length] at this
 exact this
theorem has_some (k:Int) (b off cap:Nat) (rs:List Rec) (w:World) (hr:bE w b off rs) (hl:rs.length≤3001) :
  Calls Tryz.prog 101 #[.slice (some ⟨b,off,none⟩) rs.length cap,.int .i64 k] w fun e w'=>e=.returned (.bool (rs.any (hasP k)))∧Below w.heap.size w w':=by
 have hb0:Below w.heap.size w (w.alloc (.cells #[.int .i64 k] 3)):=(Below.refl _ _).alloc (Nat.le_refl _) _
 have HC:=aH (containsFunc_some k w.heap.size b off cap rs (w.alloc (.cells #[.int .i64 k] 3)) (by simp) (by simp) (hr.below hb0) hl)
 clear hr
 go_enter Tryz.func101,Tryz.ntmps101
 go_wp2_with fail
 refine (aU HC).mono ?_
 rintro e w' ⟨rfl,hb'⟩
 go_wp2_with fail
 go_ret
 exact ⟨rfl,hb0.trans (hb'.mono (by simp))⟩
theorem indexFunc_nil (f:Value) (w:World) :
  Calls Tryz.prog 230 #[.slice none 0 0,f] w fun e w'=>e=.returned (.int .i64 (-1))∧w'=w:=by
 go_enter Tryz.func230,Tryz.ntmps230
 go_wp2_with fail
 go_loop [8] (fun i=>i=.int .i64 0) (fun _=>0)
 case atStart=>rfl
 case round =>
  obtain rfl:=hrel
  go_wp2
  go_ret
  exact ⟨rfl,rfl⟩
theorem has_nil (k:Int) (w:World) :
  Calls Tryz.prog 101 #[.slice none 0 0,.int .i64 k] w fun e w'=>e=.returned (.bool false)∧Below w.heap.size w w':=by
 have HC:Hid (∀ f w,Calls Tryz.prog 171 #[.slice none 0 0,f] w fun e w'=>e=.returned (.bool false)∧w'=w):=by
  intro f w
  go_enter Tryz.func171,Tryz.ntmps171
  go_wp2_with (go_at_call 230; refine (indexFunc_nil _ _).mono ?_; rintro e w' ⟨rfl,rfl⟩)
  go_ret
  exact ⟨rfl,rfl⟩
 go_enter Tryz.func101,Tryz.ntmps101
 go_wp2_with fail
 refine (aU HC _ _).mono ?_
 rintro e w' ⟨rfl,rfl⟩
 go_wp2_with fail
 go_ret
 exact ⟨rfl,(Below.refl _ _).alloc (Nat.le_refl _) _⟩
theorem has_any (k:Int) (v:Value) (rs:List Rec) (w:World) (hv:RV w v rs) (hl:rs.length≤3001) :
  Calls Tryz.prog 101 #[v,.int .i64 k] w fun e w'=>e=.returned (.bool (rs.any (hasP k)))∧Below w.heap.size w w':=by
 rcases hv with ⟨rfl,rfl⟩ | ⟨b,off,cap,rfl,_,hr⟩
 ·exact has_nil k w
 ·exact has_some k b off cap rs w hr hl
def startsR (o:Str) (rs:List Rec):Bool :=
 match rs with
 | []=>false
 | r :: t=>decide (rs.length≤60) && (r.owner == o && r.type == 6 && !t.any (hasP 6))
theorem startsRight_any (o:Str) (v:Value) (rs:List Rec) (w:World) (hv:RV w v rs) (hl:rs.length≤3001) :
  Calls Tryz.prog 58 #[.string (B o),v] w fun e w'=>e=.returned (.bool (startsR o rs))∧Below w.heap.size w w':=by
 rcases hv with ⟨rfl,rfl⟩ | ⟨b,off,cap,rfl,hcap,hr⟩
 ·go_enter Tryz.func58,Tryz.ntmps58
  go_wp2
  go_ret
  exact ⟨rfl,Below.refl _ _⟩
 cases rs with
 | nil =>
  go_enter Tryz.func58,Tryz.ntmps58
  go_wp2
  go_ret
  exact ⟨rfl,Below.refl _ _⟩
 | cons r t =>
  rw [List.length_cons] at hcap hl ⊢
  obtain ⟨c0,_,c2,_⟩:=hr.four 0 (by simp)
  have hd:=hr.drop 1
  have he:bE w b off []:=⟨hr.1,fun j hj=>by simp at hj⟩
  simp only [Nat.zero_mul,Nat.add_zero,List.getElem_cons_zero,Nat.one_mul,List.drop_succ_cons,List.drop_zero] at c0 c2 hd
  have HD:=aH hd
  have HE:=aH he
  have hb:=hr.1
  clear hd he hr
  by_cases h60:(60:Int)<(t.length:Int)+1
  ·have hfin:Hid (startsR o (r :: t)=false):=by
    unfold startsR; rw [Hid,List.length_cons,decide_eq_false (by omega)]; rfl
   go_enter Tryz.func58,Tryz.ntmps58
   go_wp2
   go_ret
   exact ⟨ret_bool (aU hfin).symm,Below.refl _ _⟩
  have hfin:Hid (startsR o (r :: t)=(r.owner == o && r.type == 6 && !t.any (hasP 6))):=by
   unfold startsR; rw [Hid,List.length_cons,decide_eq_true (by omega)]; rfl
  have hBB:((B r.owner).toList == (B o).toList)=(r.owner == o):=by rw [str_eq]; rfl
  cases ho:r.owner == o
  ·rw [ho] at hBB
   go_enter Tryz.func58,Tryz.ntmps58
   go_wp2
   go_ret
   exact ⟨ret_bool (by rw [aU hfin,ho]; rfl),Below.refl _ _⟩
  rw [ho] at hBB
  cases ht:r.type == 6
  ·go_enter Tryz.func58,Tryz.ntmps58
   go_wp2
   go_ret
   exact ⟨ret_bool (by rw [aU hfin,ho,ht]; rfl),Below.refl _ _⟩
  by_cases hc1:cap=1
  ·subst hc1
   obtain rfl:t = []:=List.eq_nil_of_length_eq_zero (by omega)
   go_enter Tryz.func58,Tryz.ntmps58
   go_wp2_with fail
   refine (has_some 6 b off 0 [] w (aU HE) (by simp)).mono ?_
   rintro e w' ⟨rfl,hb'⟩
   go_wp2_with fail
   go_ret
   exact ⟨ret_bool (by rw [aU hfin,ho,ht]; rfl),hb'⟩
  ·have hcap2:2≤cap:=by omega
   go_enter Tryz.func58,Tryz.ntmps58
   go_wp2_with fail
   refine (has_some 6 b (off+4) _ t w (aU HD) (by omega)).mono ?_
   rintro e w' ⟨rfl,hb'⟩
   go_wp2_with fail
   go_ret
   exact ⟨ret_bool (by rw [aU hfin,ho,ht]; rfl),hb'⟩
end Rf
namespace Rg
open Ka Kb Kd Ke Kf Rc Rd Re Rf
theorem B_inj {a b:Str} : ((B a).toList == (B b).toList)=(a == b):=by rw [str_eq]; rfl
theorem eqR:EqlAt Tryz.prog 47 (fun x:Rec=>.agg (Rec.enc x).toArray) (fun x y=>x == y):=by
 refine ⟨fun x y w=>?_,GuardAt.agg _ (by kernel_rfl)⟩
 have u3:=Tryz.underlying3
 have a3:=Tryz.isAgg3
 have z3:=Tryz.sizeOf3
 have u9:=Tryz.underlying9
 have a9:=Tryz.isAgg9
 have z9:=Tryz.sizeOf9
 have hS:Tryz.prog.underlying 47=some (.struct (Tryz.prog.fieldsOf 47)):=by kernel_rfl
 have hp:Tryz.prog.stoodInHeld 47=false:=by kernel_rfl
 simp only [Rec.enc]
 rw [run_eql_struct,show (10000:Nat)=9999+1 from rfl,run_equalIn_agg w 9999 47 _ _ hS hp]
 simp only [Program.fieldsOf,Tryz.underlying47]
 obtain ⟨x0,x1,x2,x3⟩:=x
 obtain ⟨y0,y1,y2,y3⟩:=y
 simp only [Rec.owner,Rec.ttl,Rec.type,Rec.data]
 have e1 : ∀ a:Str,(B a).toList=a:=fun a=>by rw [ByteArray.toList_eq]; rfl
 have e2:((x1:Int)=(y1:Int))=(x1=y1):=by apply propext; omega
 go_simp
 by_cases h0:x0=y0 <;> by_cases h1:x1=y1 <;> by_cases h2:x2=y2 <;> by_cases h3:x3=y3 <;> simp [e1,e2,h0,h1,h2,h3]
theorem contains_some (x:Rec) (b off cap:Nat) (rs:List Rec) (w:World) (hr:bE w b off rs) (hl:rs.length≤3001) :
  Calls Tryz.prog 178 #[.slice (some ⟨b,off,none⟩) rs.length cap,.agg #[.string (B x.owner),.int .i64 x.ttl,.int .i64 x.type,.string (B x.data)]] w fun e w' =>
   e=.returned (.bool (rs.any (x == ·)))∧Below w.heap.size w w':=by
 have:=AnyQ.slices_Contains Tryz.lContains 4 Tryz.isAgg47 Tryz.sizeOf47 Rec.enc (fun _=>rfl) (fun x y=>x == y) eqR b off rs.length cap rs x w (Nat.le_refl _) (by omega) hr.2
 rw [List.take_length] at this
 exact this
theorem below_drewN {B:Nat} {a w:World} (h:Below B a w) (n:Nat):Below B a (w.drewN n):=⟨h.os,h.tape,h.output,h.size,h.block⟩
theorem below_drew {B:Nat} {a w:World} (h:Below B a w):Below B a w.drew:=h.drew
def setOk (t0:Nat):List Rec→List Rec→Bool
 | _,[]=>true
 | pre,r :: t=>r.ttl == t0 && !pre.any (r == ·) && setOk t0 (pre++[r]) t
def rightSet (rs:List Rec):Bool :=
 match rs with
 | []=>true
 | r :: _=>setOk r.ttl [] rs
theorem isRightSet_any (r0:Rec) (t:List Rec) (b off cap:Nat) (w:World) (hr:bE w b off (r0 :: t)) (hl:(r0 :: t).length≤3001) (hcap:(r0 :: t).length≤cap) :
  Calls Tryz.prog 108 #[.slice (some ⟨b,off,none⟩) (r0 :: t).length cap] w fun e w'=>e=.returned (.bool (rightSet (r0 :: t)))∧Below w.heap.size w w':=by
 have hfin:Hid (rightSet (r0 :: t)=setOk r0.ttl [] (r0 :: t)):=rfl
 obtain ⟨q0,q1,q2,q3⟩:=hr.four 0 (by simp)
 clear q2 q3
 simp only [Nat.zero_mul,Nat.add_zero,List.getElem_cons_zero] at q0 q1
 have hrl:0<(r0 :: t).length:=by simp
 generalize htl:r0.ttl=t0 at *
 generalize r0 :: t=rs at *
 have HA:=aH hr
 have hb:=hr.1
 clear hr htl
 go_enter Tryz.func108,Tryz.ntmps108
 go_wp2_with fail
 go_loopw [7] (fun i wr=>∃ k:Nat,k≤rs.length∧i=.int .i64 k∧setOk t0 (rs.take k) (rs.drop k)=setOk t0 [] rs∧Below w.heap.size w wr) (fun i _=>rs.length - (intOf i).toNat)
 case atStart=>exact ⟨0,Nat.zero_le _,rfl,by simp,Below.refl _ _⟩
 case round =>
  obtain ⟨k,hk,rfl,hok,hbr⟩:=hrel
  have H:=aH hok
  clear hok
  have hA:=(aU HA).below hbr
  have c1:wr.cell? ⟨b,off+1,none⟩=some (.int .i64 t0):=(hbr.cell (p:=⟨b,off+1,none⟩) hb).trans q1
  have hsz:=hbr.size
  have hbw:b<wr.heap.size:=by omega
  have hbne : ¬ b=wr.heap.size:=by omega
  have hrl':(0:Int)<(rs.length:Int):=by omega
  by_cases hlt:k<rs.length
  ·obtain ⟨k0,k1,k2,k3⟩:=hA.four k hlt
   have hltI:(k:Int)<(rs.length:Int):=by omega
   have hdr:Hid (rs.drop k=rs[k] :: rs.drop (k+1)):=List.drop_eq_getElem_cons hlt
   have htk:Hid (rs.take (k+1)=rs.take k++[rs[k]]):=List.take_succ_eq_append_getElem hlt
   have htake:=hA.take k
   have HT:=aH htake
   have hlk:(rs.take k).length=k:=by rw [List.length_take]; omega
   have HL:=aH hlk
   clear htake hlk hA
   generalize rs[k]=x at *
   have hcallC : ∀ W,Below wr.heap.size wr W→∀ c,Calls Tryz.prog 178 #[.slice (some ⟨b,off,none⟩) k c,.agg #[.string (B x.owner),.int .i64 x.ttl,.int .i64 x.type,.string (B x.data)]] W fun e w'=>e=.returned (.bool ((rs.take k).any (x == ·)))∧Below W.heap.size W w':=by
    intro W hW c
    have:=contains_some x b off c (rs.take k) W ((aU HT).below hW) (by rw [aU HL]; omega)
    rw [aU HL] at this
    exact this
   have HCC:=aH hcallC
   clear hcallC
   by_cases htt:x.ttl=t0
   ·subst htt
    have htt':((x.ttl:Int) != (x.ttl:Int))=false:=by simp
    cases hany:(rs.take k).any (x == ·)
    ·have hstep:Hid (setOk x.ttl (rs.take (k+1)) (rs.drop (k+1))=setOk x.ttl [] rs):=by
      rw [Hid,← aU H,aU hdr,setOk,hany,aU htk]; simp
     go_wp2_with fail
     go_region_with (go_at_call 178; refine ((aU HCC) _ (by exact below_drew ((Below.refl _ _).alloc (Nat.le_refl _) _)) _).mono ?_; rintro e w2 ⟨rfl,hb2⟩)
     all_goals
      have hB2:Below w.heap.size w w2:=(below_drew (hbr.alloc hsz _)).trans (hb2.mono (by simp; omega))
      have HB2:=aH hB2
      clear hB2 hb2
      go_wp2_with fail
      go_roundw
      case rel=>exact ⟨k+1,by omega,by go_num,aU hstep,aU HB2⟩
      case measure=>simp [intOf]; omega
    ·have hfin2:Hid (rightSet rs=false):=by
      rw [Hid,aU hfin,← aU H,aU hdr,setOk,hany]; simp
     go_wp2_with fail
     go_region_with (go_at_call 178; refine ((aU HCC) _ (by exact below_drew ((Below.refl _ _).alloc (Nat.le_refl _) _)) _).mono ?_; rintro e w2 ⟨rfl,hb2⟩)
     all_goals
      have hB2:Below w.heap.size w w2:=(below_drew (hbr.alloc hsz _)).trans (hb2.mono (by simp; omega))
      have HB2:=aH hB2
      clear hB2 hb2
      go_wp2_with fail
      go_ret
      exact ⟨ret_bool (aU hfin2).symm,aU HB2⟩
   ·have htt':((x.ttl:Int) != (t0:Int))=true:=by rw [bne_iff_ne]; omega
    have hfin2:Hid (rightSet rs=false):=by
     have hb0:(x.ttl == t0)=false:=beq_eq_false_iff_ne.2 htt
     rw [Hid,aU hfin,← aU H,aU hdr,setOk,hb0]; rfl
    clear htt
    go_wp2_with fail
    go_quiet (fail)
    go_wp2_with fail
    go_ret
    exact ⟨ret_bool (aU hfin2).symm,below_drewN (hbr.alloc hsz _) _⟩
  ·have hfin2:Hid (rightSet rs=true):=by
    rw [Hid,aU hfin,← aU H,List.drop_of_length_le (by omega)]; rfl
   go_wp2
   go_ret
   exact ⟨ret_bool (aU hfin2).symm,hbr⟩
end Rg
end Go.Proofs.YtkkpahmoljiepaaGreatDoor

namespace Go.Proofs.YtkkpahmoljiepaaGreatDoor
open Go.RowKit
namespace It
variable {P:Program} {α:Type}
def Seq (P:Program) (g:Nat) (lb:Array Value) (encs:α→Array Value) (xs:List α) (St Kp Kx:World→World→Prop) (W0:World):Prop :=
 ∀ (l:Nat) (J:Nat→World→Prop) (Jx:World→Prop),
  (∀ i A B,J i A→St A B→J i B)→(∀ A B,Jx A→St A B→Jx B) →
  (∀ i x W,xs[i]? = some x→J i W→YieldAt Fence.wide 0 P l (encs x) W fun e W' =>
   (e=.returned (.bool true)∧J (i+1) W'∧Kp W W')∨(e=.returned (.bool false)∧Jx W'∧Kx W W')) →
  J 0 W0 →
  CallsIn Fence.wide 0 P g (#[.func (.yield l) #[] #[]]++lb) W0 fun e W'=>(∃ v,e=.returned v)∧(J xs.length W'∨Jx W')
def Loops (d:Nat) (A B:World):Prop:=A.heap.size≤B.heap.size∧B.heap[d]? = A.heap[d]?∧B.heap[d+1]? = A.heap[d+1]?
def post (d:Nat) (Kb Kbx:World→World→Prop) (I:World→Prop) (Ix:Code→World→Prop) (W:World):Exit→Act→World→Prop
 | .normal,_,W'=>Loops d W W'∧Kb W W'∧I W'
 | .ret,_,W'=>Loops d W W'∧Kbx W W'∧Ix .ret W'
 | .exit id,_,W'=>Loops d W W'∧Kbx W W'∧Ix (.exit id) W'
 | .goto t,_,W'=>Loops d W W'∧Kbx W W'∧Ix (.goto t) W'
 | .panic _,_,_=>False
 | .outgrown,_,_=>False
theorem rangeW {g:Operand} {ps:Array Tmp} {assign body:Code} {Q:Exit→Act→World→Prop} {a:Act} {w:World}
  {gf:Nat} {lb:Array Value} (hg:a.eval g=.func (.func gf) #[] lb) (eg : ∀ args w,(callFunc gf args).run P w=.ok (.enter gf args) w)
  {encs:α→Array Value} {xs:List α} {St Kp Kx:World→World→Prop} (hps : ∀ x,(encs x).size=ps.size)
  (hseq : ∀ r,Seq P gf lb encs xs St Kp Kx ((w.alloc (.deferred (some []))).alloc (.loop r)))
  (I:Nat→World→Prop) (Ix:Code→World→Prop)
  (hSt : ∀ A B,w.heap.size+2≤A.heap.size→St A B→Loops w.heap.size A B)
  (hI : ∀ i A B,I i A→St A B→I i B) (hIx : ∀ c A B,Ix c A→St A B→Ix c B)
  (hIp : ∀ i A r o,I i A→A.heap[w.heap.size+1]? = some (.loop r)→I i (A.putObj (w.heap.size+1) o))
  (hIxp : ∀ c A r o,Ix c A→A.heap[w.heap.size+1]? = some (.loop r)→Ix c (A.putObj (w.heap.size+1) o))
  (h0 : ∀ r,I 0 ((w.alloc (.deferred (some []))).alloc (.loop r)))
  (Kb:World→World→Prop)
  (hKp : ∀ W r r' r'' Wc,W.heap[w.heap.size+1]? = some (.loop r)→Kb (W.putObj (w.heap.size+1) (.loop r')) Wc→Loops w.heap.size (W.putObj (w.heap.size+1) (.loop r')) Wc→Kp W (Wc.putObj (w.heap.size+1) (.loop r'')))
  (Kbx:World→World→Prop)
  (hKx : ∀ W r r' r'' Wc,W.heap[w.heap.size+1]? = some (.loop r)→Kbx (W.putObj (w.heap.size+1) (.loop r')) Wc→Loops w.heap.size (W.putObj (w.heap.size+1) (.loop r')) Wc→Kx W (Wc.putObj (w.heap.size+1) (.loop r'')))
  (hround : ∀ (l i:Nat) (x:α) (V W:World),xs[i]? = some x→I i W→w.heap.size+2≤W.heap.size →
   assign.wpIn (Fence.wide.inRound l) 0 P (Exit.then (fun a₁ V'=>V'=V∧body.wpIn (Fence.wide.inRound l) 0 P (post w.heap.size Kb Kbx (I (i+1)) Ix W) a₁ W) (fun _ _ _=>False)) { tmps:=(ps.zip (encs x)).foldl (fun t (p,v)=>t.setIfInBounds p v) a.tmps,defers:=[] } V)
  (hdone : ∀ W,I xs.length W→W.heap[w.heap.size]? = some (.deferred (some []))→w.heap.size+2≤W.heap.size→Q .normal { a with defers:={ target:=.collected w.heap.size,args:=#[] } :: a.defers } W)
  (hstop : ∀ c W,Ix c W→W.heap[w.heap.size]? = some (.deferred (some []))→w.heap.size+2≤W.heap.size→c.wpIn Fence.wide 0 P Q { a with defers:={ target:=.collected w.heap.size,args:=#[] } :: a.defers } W) :
  (Code.rangeFunc g ps assign body).wpIn Fence.wide 0 P Q a w:=by
 refine wpIn_rangeFunc fun fn hfn=>?_
 obtain ⟨D,hD⟩ : ∃ D,D=w.heap.size:=⟨_,rfl⟩
 obtain ⟨rec,hrec⟩ : ∃ rec:LoopState→Option Code→Loop,rec=fun st pe=>{ state:=st,pending:=pe,fn,tmps:=a.tmps,params:=ps,assign,body,defers:=w.heap.size }:=⟨_,rfl⟩
 have henter:=run_enterLoop_outer (P:=P) (w:=w) fn a.tmps ps assign body
 refine ⟨w.heap.size+1,[{ target:=.collected w.heap.size,args:=#[] }],(w.alloc (.deferred (some []))).alloc (.loop (rec .ready none)),
  { target:=.fn (.func gf) lb,args:=#[.func (.yield (w.heap.size+1)) #[] #[]] },(w.alloc (.deferred (some []))).alloc (.loop (rec .ready none)),gf,
  #[.func (.yield (w.heap.size+1)) #[] #[]]++lb,(w.alloc (.deferred (some []))).alloc (.loop (rec .ready none)),?_,?_,fun _ _=>trivial,?_,fun h=>by simp [Fence.wide] at h,?_⟩
 ·rw [hrec]; exact henter
 ·simp only [resolve,hg]
  simp [go_sem]
 ·simp [invoke,go_sem,eg]
 ·obtain ⟨W1,hW1⟩ : ∃ W1,(w.alloc (.deferred (some []))).alloc (.loop (rec .ready none))=W1:=⟨_,rfl⟩
  have hl1:W1.heap[w.heap.size+1]? = some (.loop (rec .ready none)):=by
   rw [← hW1]; have:=World.alloc_heap_new (w.alloc (.deferred (some []))) (.loop (rec .ready none)); rwa [World.size_alloc] at this
  have hd1:W1.heap[w.heap.size]? = some (.deferred (some [])):=by
   rw [← hW1]; exact (Below.heap_alloc _ _ _ (by simp)).trans (World.alloc_heap_new w _)
  have hsz : ∀ W:World,(∃ o,W.heap[w.heap.size+1]? = some o)→w.heap.size+2≤W.heap.size:=fun W ⟨o,h⟩=>by
   have:=(Array.getElem?_eq_some_iff.1 h).1; omega
  have hs:=hseq (rec .ready none) (w.heap.size+1)
   (fun i W=>I i W∧W.heap[w.heap.size+1]? = some (.loop (rec .ready none))∧W.heap[w.heap.size]? = some (.deferred (some [])))
   (fun W=>∃ c,Ix c W∧W.heap[w.heap.size+1]? = some (.loop (rec .done (some c)))∧W.heap[w.heap.size]? = some (.deferred (some [])))
   (fun i A B hA hst=>by
    obtain ⟨h1,h2,h3⟩:=hA
    have hL:=hSt A B (hsz A ⟨_,h2⟩) hst
    exact ⟨hI i A B h1 hst,hL.2.2.trans h2,hL.2.1.trans h3⟩)
   (fun A B hA hst=>by
    obtain ⟨c,h1,h2,h3⟩:=hA
    have hL:=hSt A B (hsz A ⟨_,h2⟩) hst
    exact ⟨c,hIx c A B h1 hst,hL.2.2.trans h2,hL.2.1.trans h3⟩)
   (fun i x W hx hj=>by
    obtain ⟨h1,h2,h3⟩:=hj
    have hy:=run_yield (P:=P) (args:=encs x) h2 (by rw [hrec]; exact hps x)
    rw [hrec] at hy
    have hlt:w.heap.size+1<W.heap.size:=(Array.getElem?_eq_some_iff.1 h2).1
    have e2:(W.putObj (w.heap.size+1) (.loop { rec .ready none with state:=.busy })).heap[w.heap.size+1]? = some (.loop { rec .ready none with state:=.busy }):=World.putObj_heap_same hlt
    have e3:(W.putObj (w.heap.size+1) (.loop { rec .ready none with state:=.busy })).heap[w.heap.size]? = some (.deferred (some [])):=(World.putObj_heap_other (by omega)).trans h3
    refine ⟨fn,_,assign,body,hy,roundIn_of_wpIn hfn (wpIn_mono (hround _ i x W (W.putObj (w.heap.size+1) (.loop { rec .ready none with state:=.busy })) hx (hIp i W _ _ h1 h2) (by rw [World.putObj_size]; omega)) ?_)⟩
    rintro e0 a0 V0 hp0
    have hn0:e0=.normal:=by cases e0 <;> first | rfl | exact hp0.elim
    subst hn0
    obtain ⟨hV0,hbd⟩:=hp0
    replace hV0:=hV0.symm
    subst hV0
    refine ⟨_,run_beginRound h2 (by rw [hrec]),wpIn_mono hbd ?_⟩
    have fin : ∀ (jump:Option Code) (W3:World),Loops w.heap.size (W.putObj (w.heap.size+1) (.loop { rec .ready none with state:=.busy })) W3 →
      (Instr.endRound (w.heap.size+1) jump).run P W3=.ok (.bool jump.isNone) (W3.putObj (w.heap.size+1) (.loop (rec (if jump.isNone then .ready else .done) jump))) ∧
      W3.heap[w.heap.size+1]? = some (.loop { rec .ready none with state:=.busy }) ∧
      (W3.putObj (w.heap.size+1) (.loop (rec (if jump.isNone then .ready else .done) jump))).heap[w.heap.size+1]? = some (.loop (rec (if jump.isNone then .ready else .done) jump)) ∧
      (W3.putObj (w.heap.size+1) (.loop (rec (if jump.isNone then .ready else .done) jump))).heap[w.heap.size]? = some (.deferred (some [])):=fun jump W3 hL=>by
     have l3:=hL.2.2.trans e2
     have hr:=run_endRound (P:=P) jump l3
     refine ⟨?_,l3,World.putObj_heap_same (Array.getElem?_eq_some_iff.1 l3).1,(World.putObj_heap_other (by omega)).trans (hL.2.1.trans e3)⟩
     rw [hr,hrec]
    rintro e a3 W3 hp
    cases e with
    | normal =>
     obtain ⟨hL,hk,hi⟩:=hp
     obtain ⟨f1,f2,f3,f4⟩:=fin none W3 hL
     exact ⟨_,_,f1,.inl ⟨rfl,⟨hIp _ _ _ _ hi f2,f3,f4⟩,hKp W _ _ _ W3 h2 hk hL⟩⟩
    | ret =>
     obtain ⟨hL,hk,hi⟩:=hp
     obtain ⟨f1,f2,f3,f4⟩:=fin (some .ret) W3 hL
     exact ⟨_,_,f1,.inr ⟨rfl,⟨.ret,hIxp _ _ _ _ hi f2,f3,f4⟩,hKx W _ _ _ W3 h2 hk hL⟩⟩
    | exit id =>
     obtain ⟨hL,hk,hi⟩:=hp
     obtain ⟨f1,f2,f3,f4⟩:=fin (some (.exit id)) W3 hL
     exact ⟨_,_,f1,.inr ⟨rfl,⟨.exit id,hIxp _ _ _ _ hi f2,f3,f4⟩,hKx W _ _ _ W3 h2 hk hL⟩⟩
    | goto t =>
     obtain ⟨hL,hk,hi⟩:=hp
     obtain ⟨f1,f2,f3,f4⟩:=fin (some (.goto t)) W3 hL
     exact ⟨_,_,f1,.inr ⟨rfl,⟨.goto t,hIxp _ _ _ _ hi f2,f3,f4⟩,hKx W _ _ _ W3 h2 hk hL⟩⟩
    | panic ch=>exact hp.elim
    | outgrown=>exact hp.elim)
   (by rw [hW1]; exact ⟨by rw [← hW1]; exact h0 _,hl1,hd1⟩)
  refine hs.mono ?_
  rintro e W2 ⟨⟨v,rfl⟩,⟨hi,hl,hk⟩ | ⟨c,hi,hl,hk⟩⟩
  ·have:=run_endLoop (P:=P) hl (by rw [hrec]; simp)
   exact ⟨none,_,by rw [this,hrec],hdone _ (hIp _ _ _ _ hi hl) ((World.putObj_heap_other (by omega)).trans hk) (by rw [World.putObj_size]; exact hsz _ ⟨_,hl⟩)⟩
  ·have:=run_endLoop (P:=P) hl (by rw [hrec]; simp)
   exact ⟨some c,_,by rw [this,hrec],hstop c _ (hIxp _ _ _ _ hi hl) ((World.putObj_heap_other (by omega)).trans hk) (by rw [World.putObj_size]; exact hsz _ ⟨_,hl⟩)⟩
theorem range {g:Operand} {ps:Array Tmp} {assign body:Code} {Q:Exit→Act→World→Prop} {a:Act} {w:World}
  {gf:Nat} {lb:Array Value} (hg:a.eval g=.func (.func gf) #[] lb) (eg : ∀ args w,(callFunc gf args).run P w=.ok (.enter gf args) w)
  {encs:α→Array Value} {xs:List α} {St Kp Kx:World→World→Prop} (hps : ∀ x,(encs x).size=ps.size)
  (hseq : ∀ r,Seq P gf lb encs xs St Kp Kx ((w.alloc (.deferred (some []))).alloc (.loop r)))
  (I:Nat→World→Prop) (Ix:Code→World→Prop)
  (hSt : ∀ A B,w.heap.size+2≤A.heap.size→St A B→Loops w.heap.size A B)
  (hI : ∀ i A B,I i A→St A B→I i B) (hIx : ∀ c A B,Ix c A→St A B→Ix c B)
  (hIp : ∀ i A r o,I i A→A.heap[w.heap.size+1]? = some (.loop r)→I i (A.putObj (w.heap.size+1) o))
  (hIxp : ∀ c A r o,Ix c A→A.heap[w.heap.size+1]? = some (.loop r)→Ix c (A.putObj (w.heap.size+1) o))
  (h0 : ∀ r,I 0 ((w.alloc (.deferred (some []))).alloc (.loop r)))
  (Kb:World→World→Prop)
  (hKp : ∀ W r r' r'' Wc,W.heap[w.heap.size+1]? = some (.loop r)→Kb (W.putObj (w.heap.size+1) (.loop r')) Wc→Loops w.heap.size (W.putObj (w.heap.size+1) (.loop r')) Wc→Kp W (Wc.putObj (w.heap.size+1) (.loop r'')))
  (Kbx:World→World→Prop)
  (hKx : ∀ W r r' r'' Wc,W.heap[w.heap.size+1]? = some (.loop r)→Kbx (W.putObj (w.heap.size+1) (.loop r')) Wc→Loops w.heap.size (W.putObj (w.heap.size+1) (.loop r')) Wc→Kx W (Wc.putObj (w.heap.size+1) (.loop r'')))
  (a₁:α→Act)
  (hassign : ∀ (l:Nat) (x:α) (W:World) (K:Act→World→Prop),K (a₁ x) W →
   assign.wpIn (Fence.wide.inRound l) 0 P (Exit.then K (fun _ _ _=>False)) { tmps:=(ps.zip (encs x)).foldl (fun t (p,v)=>t.setIfInBounds p v) a.tmps,defers:=[] } W)
  (hbody : ∀ (l i:Nat) (x:α) (W:World),xs[i]? = some x→I i W→w.heap.size+2≤W.heap.size→body.wpIn (Fence.wide.inRound l) 0 P (post w.heap.size Kb Kbx (I (i+1)) Ix W) (a₁ x) W)
  (hdone : ∀ W,I xs.length W→W.heap[w.heap.size]? = some (.deferred (some []))→w.heap.size+2≤W.heap.size→Q .normal { a with defers:={ target:=.collected w.heap.size,args:=#[] } :: a.defers } W)
  (hstop : ∀ c W,Ix c W→W.heap[w.heap.size]? = some (.deferred (some []))→w.heap.size+2≤W.heap.size→c.wpIn Fence.wide 0 P Q { a with defers:={ target:=.collected w.heap.size,args:=#[] } :: a.defers } W) :
  (Code.rangeFunc g ps assign body).wpIn Fence.wide 0 P Q a w :=
 rangeW hg eg hps hseq I Ix hSt hI hIx hIp hIxp h0 Kb hKp Kbx hKx (fun l i x V W hx hi hs=>hassign l x V _ ⟨rfl,hbody l i x W hx hi hs⟩) hdone hstop
def Keep3 (x y z:Nat) (A B:World):Prop:=A.heap.size≤B.heap.size∧B.heap[x]? = A.heap[x]?∧B.heap[y]? = A.heap[y]?∧B.heap[z]? = A.heap[z]?
theorem Keep3.refl (x y z:Nat) (A:World):Keep3 x y z A A:=⟨Nat.le_refl _,rfl,rfl,rfl⟩
theorem Keep3.trans {x y z:Nat} {A B C:World} (h:Keep3 x y z A B) (k:Keep3 x y z B C):Keep3 x y z A C :=
 ⟨Nat.le_trans h.1 k.1,k.2.1.trans h.2.1,k.2.2.1.trans h.2.2.1,k.2.2.2.trans h.2.2.2⟩
theorem Keep3.of_below {x y z nb:Nat} {A B:World} (h:Below nb A B) (hx:x<nb) (hy:y<nb) (hz:z<nb):Keep3 x y z A B :=
 ⟨h.size,h.block x hx,h.block y hy,h.block z hz⟩
def Above (hs:Nat) (A B:World):Prop:=A.heap.size≤B.heap.size∧∀ k,hs≤k→k<A.heap.size→B.heap[k]? = A.heap[k]?
theorem Above.refl (hs:Nat) (A:World):Above hs A A:=⟨Nat.le_refl _,fun _ _ _=>rfl⟩
theorem Above.trans {hs:Nat} {A B C:World} (h:Above hs A B) (k:Above hs B C):Above hs A C :=
 ⟨Nat.le_trans h.1 k.1,fun i hi hl=>(k.2 i hi (Nat.lt_of_lt_of_le hl h.1)).trans (h.2 i hi hl)⟩
theorem Above.of_grown {hs:Nat} {A B:World} (h:Below A.heap.size A B):Above hs A B:=⟨h.size,fun k _ hl=>h.block k hl⟩
end It
end Go.Proofs.YtkkpahmoljiepaaGreatDoor

set_option maxRecDepth 1000000
set_option maxHeartbeats 12800000
namespace Go.Proofs.YtkkpahmoljiepaaGreatDoor
open Go.RowKit
open Pu (Str aH aU)
def aD (r s:Rec):Bool:=r.owner == s.owner && r.type == s.type
def aG (r s:Rec):Bool:=r.owner == s.owner
def runsP (same:Rec→Rec→Bool):Nat→Nat→List Rec→List (Nat×List Rec)
 | 0,_,_=>[]
 | _+1,_,[]=>[]
 | f+1,k,r :: t=>(k,r :: t.takeWhile (same r)) :: runsP same f (k+1+(t.takeWhile (same r)).length) (t.dropWhile (same r))
def runs (same:Rec→Rec→Bool) (rs:List Rec):List (Nat×List Rec):=runsP same rs.length 0 rs
namespace Ia
open Ka Kd Rg
theorem sameSet_any (r s:Rec) (w:World) :
  Calls Tryz.prog 177 #[.agg #[.string (B r.owner),.int .i64 r.ttl,.int .i64 r.type,.string (B r.data)],.agg #[.string (B s.owner),.int .i64 s.ttl,.int .i64 s.type,.string (B s.data)]] w fun e w' =>
   e=.returned (.bool (aD r s))∧∃ q os',w'=Sort.grow (w.drewN q) os':=by
 have hBB:((B r.owner).toList == (B s.owner).toList)=(r.owner == s.owner):=B_inj
 cases ho:r.owner == s.owner
 ·have hfin:Hid (aD r s=false):=by unfold aD; rw [ho]; rfl
  rw [ho] at hBB
  go_enter Tryz.func177,Tryz.ntmps177
  go_wp2
  go_ret
  exact ⟨ret_bool (aU hfin).symm,0,_,by rw [Sort.alloc_eq_grow,Sort.alloc_eq_grow,Sort.grow_grow]; rfl⟩
 ·have hfin:Hid (aD r s=(r.type == s.type)):=by unfold aD; rw [ho]; rfl
  rw [ho] at hBB
  go_enter Tryz.func177,Tryz.ntmps177
  go_wp2
  go_ret
  exact ⟨ret_bool (aU hfin).symm,0,_,by rw [Sort.alloc_eq_grow,Sort.alloc_eq_grow,Sort.grow_grow]; rfl⟩
theorem sameOwner_any (r s:Rec) (w:World) :
  Calls Tryz.prog 180 #[.agg #[.string (B r.owner),.int .i64 r.ttl,.int .i64 r.type,.string (B r.data)],.agg #[.string (B s.owner),.int .i64 s.ttl,.int .i64 s.type,.string (B s.data)]] w fun e w' =>
   e=.returned (.bool (aG r s))∧∃ q os',w'=Sort.grow (w.drewN q) os':=by
 have hBB:((B r.owner).toList == (B s.owner).toList)=(r.owner == s.owner):=B_inj
 go_enter Tryz.func180,Tryz.ntmps180
 go_wp2
 go_ret
 exact ⟨rfl,0,_,by rw [Sort.alloc_eq_grow,Sort.alloc_eq_grow,Sort.grow_grow]; rfl⟩
theorem runsP_fuel (same:Rec→Rec→Bool) : ∀ (f k:Nat) (l:List Rec),l.length≤f→runsP same f k l=runsP same l.length k l
 | 0,k,l,h=>by
  obtain rfl:l = []:=List.eq_nil_of_length_eq_zero (by omega)
  rfl
 | f+1,k,[],h=>rfl
 | f+1,k,r :: t,h=>by
  have hd:(t.dropWhile (same r)).length≤t.length:=by
   have:=congrArg List.length (List.takeWhile_append_dropWhile (p:=same r) (l:=t))
   rw [List.length_append] at this; omega
  rw [runsP,List.length_cons,runsP,runsP_fuel same f _ _ (by simp at h; omega),runsP_fuel same t.length _ _ hd]
theorem runsP_cons (same:Rec→Rec→Bool) (k:Nat) (r:Rec) (t:List Rec) :
  runsP same (r :: t).length k (r :: t)=(k,r :: t.takeWhile (same r)) :: runsP same (t.dropWhile (same r)).length (k+1+(t.takeWhile (same r)).length) (t.dropWhile (same r)):=by
 have hd:(t.dropWhile (same r)).length≤t.length:=by
  have:=congrArg List.length (List.takeWhile_append_dropWhile (p:=same r) (l:=t))
  rw [List.length_append] at this; omega
 rw [List.length_cons,runsP,runsP_fuel same t.length _ _ hd]
theorem takeWhile_get {p:Rec→Bool} : ∀ (l:List Rec) (j:Nat) (h:j<(l.takeWhile p).length),∃ h':j<l.length,p l[j]=true
 | [],j,h=>by simp at h
 | x :: l,j,h=>by
  by_cases hp:p x=true
  ·rw [List.takeWhile_cons_of_pos hp] at h
   cases j with
   | zero=>exact ⟨by simp,hp⟩
   | succ j =>
    obtain ⟨h',e⟩:=takeWhile_get l j (by simpa using h)
    exact ⟨by simpa using h',by simpa using e⟩
  ·rw [List.takeWhile_cons_of_neg hp] at h; simp at h
theorem takeWhile_end {p:Rec→Bool} : ∀ (l:List Rec) (h:(l.takeWhile p).length<l.length),p l[(l.takeWhile p).length]=false
 | [],h=>by simp at h
 | x :: l,h=>by
  by_cases hp:p x=true
  ·have e:((x :: l).takeWhile p).length=(l.takeWhile p).length+1:=by rw [List.takeWhile_cons_of_pos hp]; rfl
   have:=takeWhile_end l (by rw [e] at h; simpa using h)
   simpa [e] using this
  ·have e:((x :: l).takeWhile p).length=0:=by rw [List.takeWhile_cons_of_neg hp]; rfl
   simpa [e] using hp
theorem below_grow (w:World) (n:Nat) (os:Array Obj):Below w.heap.size w (Sort.grow (w.drewN n) os) :=
 ⟨rfl,rfl,rfl,by simp [Sort.grow,World.drewN],fun k hk=>by
  show (w.heap++os)[k]? = w.heap[k]?
  rw [Array.getElem?_append_left hk]⟩
theorem bE.kept {w w':World} {b off:Nat} {rs:List Rec} (h:bE w b off rs) (hs:w.heap.size≤w'.heap.size) (hb:w'.heap[b]? = w.heap[b]?):bE w' b off rs :=
 ⟨Nat.lt_of_lt_of_le h.1 hs,fun j hj i u hu=>(World.cell?_of_block hb).trans (h.2 j hj i u hu)⟩
theorem bE.low {w w':World} {b off nb:Nat} {rs:List Rec} (h:bE w b off rs) (hb:Below nb w w') (hlt:b<nb):bE w' b off rs :=
 ⟨Nat.lt_of_lt_of_le h.1 hb.size,fun j hj i u hu=>(hb.cell (p:=⟨b,off+j*4+i,none⟩) hlt).trans (h.2 j hj i u hu)⟩
theorem runs_any (a:Option Addr) (n c gs:Nat) (w:World) :
  Calls Tryz.prog 176 #[.slice a n c,.func (.func gs) #[] #[]] w fun e w'=>e=.returned (.func (.func 233) #[] #[.pointer (some ⟨w.heap.size,0,none⟩),.pointer (some ⟨w.heap.size+1,0,none⟩)])∧w'=(w.alloc (.cells #[.slice a n c] 41)).alloc (.cells #[.func (.func gs) #[] #[]] 261):=by
 go_enter Tryz.func176,Tryz.ntmps176
 go_wp2
 go_ret
 exact ⟨rfl,rfl⟩
end Ia
end Go.Proofs.YtkkpahmoljiepaaGreatDoor
