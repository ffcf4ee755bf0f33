/- Chained: line(99), made, Lookup, at its zones. -/
import Derived.Test.YtkkpahmoljiepaaGreatDoorJ15
import Derived.Deep.CutRange
import Derived.Deep.RegionWith
import Derived.Test.YtkkpahmoljiepaaGreatDoorJ01
import Derived.WalkKit
import Derived.ProofKit
import Derived.OpenShut
import Derived.HandedShaped
import Derived.Lay
import Derived.Stop.Joined
import Derived.MakeChecks
import Derived.Shelf.Vars
set_option linter.unusedSimpArgs false
set_option linter.unusedVariables false
set_option maxRecDepth 1000000
set_option maxHeartbeats 12800000
namespace Go.Proofs.YtkkpahmoljiepaaGreatDoor
open Go.RowKit
open Pu (Str aH aU)
namespace Cb
open Ka Kc Ta Ca Vb Lc Lj Ln Lo
theorem dig99:digitsI 99 = [57,57]:=by rw [digitsI_great 99 (by omega),digitsI_small _ (by omega)]; rfl
theorem dig_two (i:Nat) (h:i<100):digitsI i=dg2 i:=by
 unfold dg2
 split
 ·exact digitsI_small _ ‹_›
 ·rename_i hn
  rw [digitsI_great i hn,digitsI_small _ (by omega)]; rfl
theorem line_99 (w:World) :
  Calls Tryz.prog 23 #[.int .i64 99] w fun e w'=>e=.returned (.string (B l99))∧Below w.heap.size w w':=by
 have HD:Hid (∀ (b:Nat) (n:Nat) (l:Str),n≤1000000→digitsI n=l→∀ W,(W.cell? ⟨b,0,none⟩=some (.int .i64 10)∧W.cell? ⟨b,1,none⟩=some (.int .i64 0)∧W.cell? ⟨b,2,none⟩=some (.int .i64 99)∧W.cell? ⟨b,3,none⟩=some (.int .i64 7)∧Below w.heap.size w W)→Calls Tryz.prog 21 #[.int .i64 n] W fun e w'=>e=.returned (.string ⟨l.toArray⟩)∧(w'.cell? ⟨b,0,none⟩=some (.int .i64 10)∧w'.cell? ⟨b,1,none⟩=some (.int .i64 0)∧w'.cell? ⟨b,2,none⟩=some (.int .i64 99)∧w'.cell? ⟨b,3,none⟩=some (.int .i64 7)∧Below w.heap.size w w')):=fun b n l hn hl W hS=>by
  refine (digits_any n W hn).mono ?_
  rintro e w' ⟨rfl,hb⟩
  rw [hl]
  exact ⟨rfl,s_below hS (World.block_lt_of_cell? W ⟨b,0,none⟩ hS.1) hb hS.2.2.2.2.size⟩
 have HH:Hid (∀ (b:Nat),∀ W,(W.cell? ⟨b,0,none⟩=some (.int .i64 10)∧W.cell? ⟨b,1,none⟩=some (.int .i64 0)∧W.cell? ⟨b,2,none⟩=some (.int .i64 99)∧W.cell? ⟨b,3,none⟩=some (.int .i64 7)∧Below w.heap.size w W)→Calls Tryz.prog 25 #[.int .i64 99] W fun e w'=>e=.returned (.string ⟨#[104,57,57]⟩)∧(w'.cell? ⟨b,0,none⟩=some (.int .i64 10)∧w'.cell? ⟨b,1,none⟩=some (.int .i64 0)∧w'.cell? ⟨b,2,none⟩=some (.int .i64 99)∧w'.cell? ⟨b,3,none⟩=some (.int .i64 7)∧Below w.heap.size w w')):=fun b W hS=>by
  refine (host_any 99 W (by omega)).mono ?_
  rintro e w' ⟨rfl,hb⟩
  rw [dig99]
  exact ⟨rfl,s_below hS (World.block_lt_of_cell? W ⟨b,0,none⟩ hS.1) hb hS.2.2.2.2.size⟩
 have HA:=aH (address_any 99 w (by omega))
 go_enter Tryz.func23,Tryz.ntmps23
 go_wp2_with fail
 refine (aU HA).mono ?_
 rintro e w1 ⟨rfl,had,hsz,hb1⟩
 obtain ⟨b,hbe⟩ : ∃ b,b=w.heap.size:=⟨_,rfl⟩
 have hS0:(w1.drew.cell? ⟨b,0,none⟩=some (.int .i64 10)∧w1.drew.cell? ⟨b,1,none⟩=some (.int .i64 0)∧w1.drew.cell? ⟨b,2,none⟩=some (.int .i64 99)∧w1.drew.cell? ⟨b,3,none⟩=some (.int .i64 7)∧Below w.heap.size w w1.drew):=by
  rw [hbe]
  exact ⟨had.cells.1,had.cells.2.1,had.cells.2.2.1,had.cells.2.2.2,hb1.drew⟩
 rw [← hbe]
 have HBE:=aH hbe
 have HS0:=aH hS0
 have H10:=aH (aU HD b 10 _ (by omega) dig10)
 have H0:=aH (aU HD b 0 _ (by omega) dig0)
 have H7:=aH (aU HD b 7 _ (by omega) dig7)
 have HK:=aH (aU HD b 99 [57,57] (by omega) dig99)
 have HHB:=aH (aU HH b)
 clear HA had hsz hbe hS0 HD HH hb1
 obtain ⟨hS1,hS2,hS3,hS4,hS5⟩:=aU HS0
 go_wp2_with fail
 go_region_held (fun w'=>w'.cell? ⟨b,0,none⟩=some (.int .i64 10)∧w'.cell? ⟨b,1,none⟩=some (.int .i64 0)∧w'.cell? ⟨b,2,none⟩=some (.int .i64 99)∧w'.cell? ⟨b,3,none⟩=some (.int .i64 7)∧Below w.heap.size w w') (first | assumption | go_keep)
  (first
   | (go_at_call 25; go_loud (refine (aU HHB _ ?_).mono ?_; assumption; rintro e w' ⟨rfl,hq⟩))
   | (go_at_call_of 21 (Value.int IntKind.i64 10); go_loud (refine (aU H10 _ ?_).mono ?_; assumption; rintro e w' ⟨rfl,hq⟩))
   | (go_at_call_of 21 (Value.int IntKind.i64 0); go_loud (refine (aU H0 _ ?_).mono ?_; assumption; rintro e w' ⟨rfl,hq⟩))
   | (go_at_call_of 21 (Value.int IntKind.i64 7); go_loud (refine (aU H7 _ ?_).mono ?_; assumption; rintro e w' ⟨rfl,hq⟩))
   | (go_at_call_of 21 (Value.int IntKind.i64 99); go_loud (refine (aU HK _ ?_).mono ?_; assumption; rintro e w' ⟨rfl,hq⟩)))
 rename_i hH
 have HFIN:=aH hH.2.2.2.2
 clear hH hq
 go_wp2_with fail
 go_ret
 refine ⟨congrArg (fun x=>Ending.returned (.string x)) (ba_ext (by simp [B,l99])),aU HFIN⟩
section
variable {n e:Nat}
theorem of_all {f:Nat→Nat→Bool} (h:(List.range 20).all (fun n=>(List.range 3).all (f n))=true) (hn:n<20) (he:e<3):f n e=true:=by
 rw [List.all_eq_true] at h
 have:=h n (List.mem_range.2 hn)
 rw [List.all_eq_true] at this
 exact this e (List.mem_range.2 he)
theorem read_c (hn:n<20) (he:e<3):readZ (headS++txtC n e)=some (zz,recsC0 n e)∧readZ (headS++txtC n e++[10])=none:=by
 have h:=of_all allR hn he
 unfold okR at h
 rw [Bool.and_eq_true] at h
 refine ⟨?_,?_⟩
 ·have:=h.1
  split at this
  ·rename_i o rs heq
   rw [Bool.and_eq_true,decide_eq_true_eq,decide_eq_true_eq] at this
   rw [heq,this.1,this.2]
  ·cases this
 ·have:=h.2
  split at this
  ·cases this
  ·assumption
theorem zone_c (hn:n<20) (he:e<3):Rf.startsR zz (recsC0 n e)=true∧rightP zz (recsC n e)=true∧Fit zz (recsC0 n e)∧Fit zz (recsC n e)∧setP (ofP (recsC n e) zz) 6 = [soaC]:=by
 have h:=of_all allZ hn he
 unfold okZ at h
 simp only [Bool.and_eq_true,decide_eq_true_eq,List.all_eq_true] at h
 obtain ⟨⟨⟨⟨⟨⟨h1,h2⟩,h3⟩,h4⟩,h5⟩,h6⟩,h7⟩:=h
 refine ⟨h1,h2,⟨by omega,by decide,fun r hr=>?_⟩,⟨by omega,by decide,fun r hr=>?_⟩,h7⟩
 ·have:=h4 r hr; omega
 ·have:=h6 r hr; omega
theorem parse_c (hn:n<20) (he:e<3):parseP (headS++txtC n e)=some (zz,recsC n e)∧parseP (headS++txtC n e++[10])=none:=by
 obtain ⟨r1,r2⟩:=read_c hn he
 obtain ⟨z1,z2,_⟩:=zone_c hn he
 constructor
 ·unfold parseP
  rw [r1]
  show (if Rf.startsR zz (recsC0 n e) && rightP zz (sortL (recsC0 n e)) then some (zz,sortL (recsC0 n e)) else none)=_
  rw [sortC,z1,z2]; rfl
 ·unfold parseP
  rw [r2]; rfl
theorem chase_c (hn:n<20) (he:e<3):Chase (fun x=>x∈namesC n) zz (recsC n e) 1:=by
 obtain ⟨_,_,_,hf,hs⟩:=zone_c hn he
 have h:=of_all allN hn he
 unfold okN at h
 rw [List.all_eq_true] at h
 refine ⟨hf,?_,rfl,rfl,fun x hx=>?_,fun x r hx hl=>?_,fun x hx hl=>?_⟩
 ·rw [hs]
  intro r hr
  simp only [List.mem_cons,List.mem_nil_iff,or_false] at hr
  subst hr
  refine ⟨⟨?_,40,?_,by omega⟩,by decide,by decide⟩
  ·have:(lastW (Rec.data soaC)).length=2:=by kernel_rfl
   omega
  ·kernel_rfl
 ·have:=h x hx
  rw [Bool.and_eq_true,decide_eq_true_eq] at this
  omega
 ·have:=h x hx
  rw [hl,Bool.and_eq_true,Bool.and_eq_true,decide_eq_true_eq,decide_eq_true_eq,decide_eq_true_eq] at this
  exact ⟨by omega,this.2.2⟩
 ·have:=h x hx
  rw [hl,Bool.and_eq_true] at this
  simpa using this.2
theorem found_c (hn:n<20) (he:e<3):(chase zz (recsC n e) 8 (nmC 0)=if isLong n e then none else some (linksC n,some (nmC n)))∧(cutP zz (recsC n e) (nmC 0)).length=0∧(isLong n e=false→finRc zz (recsC n e) (some (nmC n))=(if e=0 then 0 else 3)∧finAns zz (recsC n e) 1 (some (nmC n))=(if e=0 then [(nmC n,5,1,adr)] else [])∧finAuth zz (recsC n e) 1 (some (nmC n))=(if e=0 then [] else [soaN])):=by
 have h:=of_all allF hn he
 unfold okF at h
 rw [Bool.and_eq_true,Bool.and_eq_true] at h
 obtain ⟨⟨h1,h2⟩,h3⟩:=h
 refine ⟨?_,of_decide_eq_true h2,fun hl=>?_⟩
 ·split at h1
  ·rename_i heq
   rw [heq,h1]; rfl
  ·rename_i heq
   rw [Bool.and_eq_true,Bool.and_eq_true,decide_eq_true_eq,decide_eq_true_eq] at h1
   rw [heq,h1.1.2,h1.2]
   have:isLong n e=false:=by simpa using h1.1.1
   rw [this]; rfl
  ·cases h1
 ·rw [hl,Bool.false_or,Bool.and_eq_true,Bool.and_eq_true,decide_eq_true_eq,decide_eq_true_eq,decide_eq_true_eq] at h3
  exact ⟨h3.1.1,h3.1.2,h3.2⟩
theorem fin_c (hn:n<20) (he:e<3) : ∀ ls fin,chase zz (recsC n e) 8 (nmC 0)=some (ls,fin)→FinOk zz (recsC n e) 1 ls fin:=by
 intro ls fin hc
 obtain ⟨h1,_,h3⟩:=found_c hn he
 rw [h1] at hc
 cases hl:isLong n e
 ·rw [hl] at hc
  simp only [Bool.false_eq_true,if_false,Option.some.injEq,Prod.mk.injEq] at hc
  obtain ⟨rfl,rfl⟩:=hc
  obtain ⟨_,ha,hb⟩:=h3 hl
  have hm : ∀ r∈linksC n,(r.type != 2)=true∧(r.type != 15)=true∧r.data.length≤3000:=fun r hr=>by
   unfold linksC at hr
   obtain ⟨i,hi,rfl⟩:=List.mem_map.1 hr
   refine ⟨rfl,rfl,?_⟩
   have hi':=List.mem_range.1 hi
   show (nmC (i+1)).length≤3000
   unfold nmC dg2
   split <;> simp
  have hll:(linksC n).length=n:=by simp [linksC]
  refine ⟨fun r hr=>?_,?_,?_⟩
  ·rw [ha,hb] at hr
   rcases List.mem_append.1 hr with hr | hr
   ·rcases List.mem_append.1 hr with hr | hr
    ·exact hm r hr
    ·split at hr
     ·obtain rfl:r=(nmC n,5,1,adr):=by simpa using hr
      exact ⟨rfl,rfl,by show adr.length≤3000; decide⟩
     ·cases hr
   ·split at hr
    ·cases hr
    ·obtain rfl:r=soaN:=by simpa using hr
     exact ⟨rfl,rfl,by decide⟩
  ·rw [ha,List.length_append,hll]; split <;> simp <;> omega
  ·rw [hb]; split <;> simp
 ·rw [hl] at hc; cases hc
end
end Cb
namespace Cc
open Ka Kc Ta Ca Cb Vb Lc Lj Ln Lo
theorem dg2_len (i:Nat):(dg2 i).length≤2:=by unfold dg2; split <;> simp
theorem lnC_len (n e i:Nat):(lnC n e i).length≤24:=by
 have h1:=dg2_len i
 have h2:=dg2_len (toC n e i)
 unfold lnC
 simp only [List.length_cons,List.length_append,List.length_nil]
 omega
theorem lnsC_len (n e:Nat) : ∀ i,(lnsC n e i).length≤24*i
 | 0=>by simp [lnsC]
 | i+1=>by
  have h1:=lnsC_len n e i
  have h2:=lnC_len n e i
  rw [lnsC,List.length_append]; omega
theorem txtC_len (n e:Nat) (hn:n<20):(txtC n e).length≤600:=by
 have h1:=lnsC_len n e n
 have h2:=dg2_len n
 unfold txtC
 rw [List.length_append,List.length_append]
 have h3:(if e=0 then aC n else []).length≤20:=by
  split
  ·unfold aC; simp only [List.length_cons,List.length_append,List.length_nil]; omega
  ·simp
 have h4:l99.length=22:=rfl
 omega
theorem made_c (n e:Nat) (hn:n<20) (he:e<3) (w:World) (hg:G w) :
  Calls Tryz.prog 22 #[.string (B (txtC n e))] w fun e' w'=>∃ zb g cap,e'=.returned (.pointer (some ⟨zb,0,none⟩))∧aN w' zb zz g 0 cap (recsC n e)∧Below w.heap.size w w':=by
 have hss:(B (txtC n e)).size≤600:=by rw [size_B]; exact txtC_len n e hn
 obtain ⟨s,hs⟩ : ∃ s,B (txtC n e)=s:=⟨_,rfl⟩
 have hd:s.data.toList=txtC n e:=by rw [← hs,data_B]
 rw [hs] at hss ⊢
 obtain ⟨hB,hhB⟩ : ∃ hB:ByteArray,hB=⟨headS.toArray⟩:=⟨_,rfl⟩
 have hhs:hB.size=49:=by rw [hhB]; rfl
 have e1:(hB++s).data.toList=headS++txtC n e:=by rw [hhB,← hd]; simp
 have e2:(hB++s++⟨#[10]⟩).data.toList=headS++txtC n e++[10]:=by
  rw [show (hB++s++⟨#[10]⟩:ByteArray).data.toList=(hB++s).data.toList++[10] by simp,e1]
 have HP1:=aH (Pb.parse_all (hB++s) w hg (by simp; omega) (by
  rw [e1,(read_c hn he).1]
  rintro o rs ⟨⟩
  exact (zone_c hn he).2.2.1))
 have HP2:=aH (fun W (hb:Below w.heap.size w W)=>Pb.parse_all (hB++s++⟨#[10]⟩) W (hg.below hb) (by have h1:(⟨#[10]⟩:ByteArray).size=1:=rfl; simp; omega) (by
  rw [e2,(read_c hn he).2]
  rintro o rs ⟨⟩))
 rw [e1,(parse_c hn he).1] at HP1
 rw [e2,(parse_c hn he).2] at HP2
 clear e1 e2 hd hg hs
 have hhd:(⟨#[111,114,105,103,105,110,32,122,122,10,122,122,32,53,48,32,83,79,65,32,97,46,122,122,32,98,46,122,122,32,57,32,52,48,10,122,122,32,53,48,32,78,83,32,97,46,122,122,10]⟩:ByteArray)=hB:=by rw [hhB]; rfl
 clear hhB
 go_enter Tryz.func22,Tryz.ntmps22
 go_wp2_with fail
 refine (aU HP1).mono ?_
 rintro e w1 ⟨⟨zb,g,cap,rfl,hzb,hgb,ht1⟩,hb1⟩
 have HT1:=aH ht1
 clear ht1
 go_wp2_with fail
 refine (aU HP2 w1 hb1).mono ?_
 rintro e w2 ⟨he,hb2⟩
 obtain rfl:e=.returned (.tuple #[.pointer none,.int .i64 1]):=he
 go_wp2_with fail
 go_ret
 exact ⟨zb,g,cap,rfl,(aU HT1).below hb2,hb1.trans (hb2.mono hb1.size)⟩
def rcC (e:Nat):Int:=if e=0 then 0 else 3
def ansC (n e:Nat):List Rec:=linksC n++(if e=0 then [(nmC n,5,1,adr)] else [])
def authC (e:Nat):List Rec:=if e=0 then [] else [soaN]
theorem look_c (n e:Nat) (hn:n<20) (he:e<3) (zb g cap:Nat) (w:World) (hz:aN w zb zz g 0 cap (recsC n e)) (hg:G w) :
  Calls Tryz.prog 24 #[.pointer (some ⟨zb,0,none⟩),.string (B (nmC 0)),.int .i64 1] w fun e' w' =>
   ((isLong n e=true∧e'=.returned (.tuple #[.agg #[.int .i64 2,.bool true,.slice none 0 0,.slice none 0 0,.slice none 0 0],.int .i64 0])) ∨
   (isLong n e=false∧∃ (a:Option Addr) (c:Nat) (b:Option Addr) (d:Nat),e'=.returned (.tuple #[.agg #[.int .i64 (rcC e),.bool true,.slice a (ansC n e).length c,.slice b (authC e).length d,.slice none 0 0],.int .i64 0])∧RV w' (.slice a (ansC n e).length c) (ansC n e)∧RV w' (.slice b (authC e).length d) (authC e)))∧Below w.heap.size w w':=by
 obtain ⟨h1,h2,h3⟩:=found_c hn he
 refine (lookup_any (fun x=>x∈namesC n) zb g 0 cap 1 zz (nmC 0) (recsC n e) w hz hg (by decide) (by kernel_rfl) (by unfold namesC; exact List.mem_map.2 ⟨0,List.mem_range.2 (by omega),rfl⟩) (chase_c hn he) (fin_c hn he) (by kernel_rfl) (by omega) (by omega)).mono ?_
 rintro e' w' ⟨⟨hc,rfl⟩ | ⟨ls,fin,va,vb,hc,rfl,ha,hb⟩,hB⟩
 ·rw [h1] at hc
  refine ⟨.inl ⟨?_,rfl⟩,hB⟩
  cases hl:isLong n e
  ·rw [hl] at hc; cases hc
  ·rfl
 ·rw [h1] at hc
  cases hl:isLong n e
  ·rw [hl] at hc
   simp only [Bool.false_eq_true,if_false,Option.some.injEq,Prod.mk.injEq] at hc
   obtain ⟨rfl,rfl⟩:=hc
   obtain ⟨k1,k2,k3⟩:=h3 hl
   rw [k2] at ha
   rw [k3] at hb
   have ra:=ha.rv
   have rb:=hb.rv
   obtain ⟨a,c,rfl⟩:=ha.slice
   obtain ⟨b,d,rfl⟩:=hb.slice
   refine ⟨.inr ⟨rfl,a,c,b,d,?_,ra,rb⟩,hB⟩
   rw [k1,h2]; rfl
  ·rw [hl] at hc; cases hc
end Cc
namespace Cd
open Ka Kc Ta Ca Cb Cc Vb Lc Lj Ln Lo
theorem pick_nat (c:Int) (m:Nat) (hm:0<m) : ∃ k:Nat,Pu.pick c m=k∧k<m:=by
 have h:0≤Pu.pick c m∧Pu.pick c m<m:=by
  unfold Pu.pick
  split
  ·exact ⟨Int.emod_nonneg _ (by omega),Int.emod_lt_of_pos _ (by omega)⟩
  ·exact ⟨Int.emod_nonneg _ (by omega),Int.emod_lt_of_pos _ (by omega)⟩
 exact ⟨(Pu.pick c m).toNat,by omega,by omega⟩
theorem recs_cell {w:World} {b off:Nat} {rs:List Rec} {k:Nat} {r:Rec} (h:bE w b off rs) (hk:rs[k]? = some r) :
  w.cell? ⟨b,off+k*4,none⟩=some (.string (B r.owner))∧w.cell? ⟨b,off+k*4+1,none⟩=some (.int .i64 r.ttl)∧w.cell? ⟨b,off+k*4+2,none⟩=some (.int .i64 r.type)∧w.cell? ⟨b,off+k*4+3,none⟩=some (.string (B r.data)):=by
 obtain ⟨h1,rfl⟩:=List.getElem?_eq_some_iff.1 hk
 exact h.four k h1
theorem ans_len (i e:Nat):(ansC i e).length=i+(if e=0 then 1 else 0):=by
 unfold ansC linksC
 split <;> simp
theorem ans_get (i e k:Nat) (h:k<i):(ansC i e)[k]? = some (nmC k,5,5,nmC (k+1)):=by
 unfold ansC linksC
 rw [List.getElem?_append_left (by simpa using h),List.getElem?_map,List.getElem?_range h]; rfl
theorem ans_last (i:Nat):(ansC i 0)[i]? = some (nmC i,5,1,adr):=by
 unfold ansC linksC
 rw [List.getElem?_append_right (by simp)]; simp
def KeepC (w:World) (ab i e L M vc vd:Nat) (va vb:Option Addr) (wr:World):Prop :=
 aL wr ab (.int .i64 (rcC e)) (.bool true) (.slice va L vc) (.slice vb M vd) (.slice none 0 0)∧RV wr (.slice va L vc) (ansC i e)∧RV wr (.slice vb M vd) (authC e)∧Below w.heap.size w wr
theorem KeepC.below {w:World} {ab i e L M vc vd:Nat} {va vb:Option Addr} {A B:World} (h:KeepC w ab i e L M vc vd va vb A) (hb:Below A.heap.size A B):KeepC w ab i e L M vc vd va vb B :=
 ⟨(hb.block ab (Array.getElem?_eq_some_iff.1 h.1).1).trans h.1,h.2.1.below hb,h.2.2.1.below hb,h.2.2.2.trans (hb.mono h.2.2.2.size)⟩
theorem chained_any (length end':Int) (w:World) (hg:G w) (h1 : -9223372036854775808≤length) (h2:length≤9223372036854775807) (h3 : -9223372036854775808≤end') (h4:end'≤9223372036854775807) :
  Calls Tryz.prog 4 #[.int .i64 length,.int .i64 end'] w fun e w'=>e=.returned (.bool true)∧Below w.heap.size w w':=by
 have HG:=aH hg
 clear hg
 obtain ⟨n,hn,hnl⟩:=pick_nat length 20 (by decide)
 obtain ⟨e,he,hel⟩:=pick_nat end' 3 (by decide)
 have HN:=aH (fun W=>pick_any length 20 W h1 h2 (by decide) (by decide))
 have HE:=aH (fun W=>pick_any end' 3 W h3 h4 (by decide) (by decide))
 have hn':Pu.pick length 20=n:=hn
 have he':Pu.pick end' 3=e:=he
 rw [hn'] at HN
 rw [he'] at HE
 have HD:Hid (∀ (k:Nat) W,k<100→Calls Tryz.prog 21 #[.int .i64 k] W fun e w'=>e=.returned (.string (B (dg2 k)))∧Below W.heap.size W w'):=fun k W hk=>by
  have:=digits_any k W (by omega)
  rw [dig_two k hk] at this
  exact this
 clear hn he hn' he' h1 h2 h3 h4
 go_enter Tryz.func4,Tryz.ntmps4
 go_wp2_with fail
 refine (aU HN w).mono ?_
 rintro e1 w ⟨rfl,rfl⟩
 have hnlI:(n:Int)<20:=by omega
 go_wp2_with fail
 go_loopg [6,7] n (fun g1 vs vi wr=>∃ (i:Nat),vs=.string (B (lnsC n e i))∧vi=.int .i64 i∧i+g1=n∧Hid (Below w.heap.size w wr))
 case atStart=>exact ⟨0,rfl,rfl,by omega,Below.refl _ _⟩
 case round =>
  obtain ⟨i,rfl,rfl,hig,hbr⟩:=hrel
  by_cases hin:i<n
  ·have hinI:(i:Int)<(n:Int):=by omega
   have HBT:=aU hbr
   go_upto_region 7 with fail
   obtain ⟨cb,hcb⟩ : ∃ c:Bool,c=decide (i+1=n∧e=2):=⟨_,rfl⟩
   have HCB:=aH hcb
   clear hcb
   go_cut [31] from 16 to 41 (fun v wx=>v=.bool cb∧wx=wr)
   case first =>
    by_cases c1:i+1=n
    ·have c1I:((i:Int) == (n:Int) - 1)=true:=by rw [beq_iff_eq]; omega
     have C1:=aH c1
     clear c1
     by_cases c2:e=2
     ·have c2I:((e:Int) == 2)=true:=by rw [beq_iff_eq]; omega
      have C2:=aH c2
      clear c2
      go_wp2_with (go_at_call 20; refine (aU HE _).mono ?_; rintro e1 wx ⟨rfl,rfl⟩)
      go_meet
      case rel=>exact ⟨congrArg Value.bool ((aU HCB).trans (decide_eq_true (And.intro (aU C1) (aU C2)))).symm,rfl⟩
     ·have c2I:((e:Int) == 2)=false:=by rw [beq_eq_false_iff_ne]; omega
      go_wp2_with (go_at_call 20; refine (aU HE _).mono ?_; rintro e1 wx ⟨rfl,rfl⟩)
      go_meet
      case rel=>exact ⟨congrArg Value.bool ((aU HCB).trans (decide_eq_false (fun h=>c2 h.2))).symm,rfl⟩
    ·have c1I:((i:Int) == (n:Int) - 1)=false:=by rw [beq_eq_false_iff_ne]; omega
     go_wp2_with fail
     go_meet
     case rel=>exact ⟨congrArg Value.bool ((aU HCB).trans (decide_eq_false (fun h=>c1 h.1))).symm,rfl⟩
   case rest =>
    obtain ⟨rfl,rfl⟩:=hcut
    obtain ⟨t,ht⟩ : ∃ t,t=toC n e i:=⟨_,rfl⟩
    have htl:t<100:=by rw [ht]; unfold toC; split <;> omega
    have HT:=aH ht
    clear ht
    go_upto_if 31 with fail
    go_cut [8] from 16 to 41 (fun v wx=>v=.int .i64 t∧wx=wc)
    case first =>
     by_cases hc:i+1=n∧e=2
     ·have ht0:t=0:=by rw [aU HT]; unfold toC; rw [if_pos hc]
      have HT0:=aH ht0
      obtain rfl:cb=true:=(aU HCB).trans (decide_eq_true hc)
      clear hc ht0
      go_wp2_with fail
      go_meet
      case rel=>exact ⟨by rw [aU HT0]; rfl,rfl⟩
     ·obtain rfl:cb=false:=(aU HCB).trans (decide_eq_false hc)
      have ht0:t=i+1:=by rw [aU HT]; unfold toC; rw [if_neg hc]
      have HT0:=aH ht0
      clear hc ht0
      go_wp2_with fail
      go_meet
      case rel=>exact ⟨by rw [aU HT0]; first | rfl | go_num,rfl⟩
    case rest =>
     obtain ⟨rfl,rfl⟩:=hcut
     have hsS:(B (lnsC n e i)).size≤480:=by rw [size_B]; have:=lnsC_len n e i; omega
     have hsD:(B (dg2 i)).size≤2:=by rw [size_B]; exact dg2_len i
     have hsT:(B (dg2 t)).size≤2:=by rw [size_B]; exact dg2_len t
     have HDI:=aH (fun W=>aU HD i W (by omega))
     have HDT:=aH (fun W=>aU HD t W htl)
     have HFIN:Hid (B (lnsC n e i)++⟨#[99]⟩++B (dg2 i)++⟨#[46,122,122,32,53,32,67,78,65,77,69,32,99]⟩++B (dg2 t)++⟨#[46,122,122,10]⟩=B (lnsC n e (i+1))):=by
      rw [aU HT]
      exact ba_ext (by simp [B,lnsC,lnC])
     generalize B (lnsC n e i)=S at *
     generalize B (dg2 i)=D1 at *
     generalize B (dg2 t)=D2 at *
     go_wp2_with fail
     refine (aU HDI _).mono ?_
     rintro e1 w2 ⟨rfl,hb2⟩
     go_wp2_with fail
     refine (aU HDT _).mono ?_
     rintro e1 w3 ⟨rfl,hb3⟩
     have HB3:=aH ((HBT.trans (hb2.mono HBT.size)).trans (hb3.mono (Nat.le_trans HBT.size hb2.size)))
     clear hb2 hb3
     go_wp2_with fail
     go_roundg (n - (i+1))
     case measure=>omega
     case rel=>exact ⟨i+1,congrArg Value.string (aU HFIN),by first | rfl | go_num,by omega,HB3⟩
  ·have hinI : ¬ (i:Int)<(n:Int):=by omega
   obtain rfl:i=n:=by omega
   have HBT:=aU hbr
   go_upto_region 10 with fail
   obtain ⟨ring,hring⟩ : ∃ c:Bool,c=(decide (0<i) && decide (e=2)):=⟨_,rfl⟩
   have HRING:=aH hring
   clear hring
   go_cut [9] from 42 (fun v wx=>v=.bool ring∧wx=wr)
   case first =>
    by_cases c1:0<i
    ·have c1I:(0:Int)<(i:Int):=by omega
     have e1:decide (0<i)=true:=decide_eq_true c1
     have C1:=aH e1
     clear c1 e1
     by_cases c2:e=2
     ·have c2I:((e:Int) == 2)=true:=by rw [beq_iff_eq]; omega
      have C2:Hid (decide (e=2)=true):=decide_eq_true c2
      clear c2
      go_wp2_with (go_at_call 20; refine (aU HE _).mono ?_; rintro e1 wx ⟨rfl,rfl⟩)
      go_meet
      case rel=>exact ⟨congrArg Value.bool ((aU HRING).trans (by rw [aU C1,aU C2]; rfl)).symm,rfl⟩
     ·have c2I:((e:Int) == 2)=false:=by rw [beq_eq_false_iff_ne]; omega
      have C2:Hid (decide (e=2)=false):=decide_eq_false c2
      clear c2
      go_wp2_with (go_at_call 20; refine (aU HE _).mono ?_; rintro e1 wx ⟨rfl,rfl⟩)
      go_meet
      case rel=>exact ⟨congrArg Value.bool ((aU HRING).trans (by rw [aU C1,aU C2]; rfl)).symm,rfl⟩
    ·have c1I : ¬ (0:Int)<(i:Int):=by omega
     have C1:Hid (decide (0<i)=false):=decide_eq_false c1
     clear c1
     go_wp2_with fail
     go_meet
     case rel=>exact ⟨congrArg Value.bool ((aU HRING).trans (by rw [aU C1]; rfl)).symm,rfl⟩
   case rest =>
    obtain ⟨rfl,rfl⟩:=hcut
    have hsS:(B (lnsC i e i)).size≤480:=by rw [size_B]; have:=lnsC_len i e i; omega
    have hsD:(B (dg2 i)).size≤2:=by rw [size_B]; exact dg2_len i
    have HDI:=aH (fun W=>aU HD i W (by omega))
    obtain ⟨S2,hS2⟩ : ∃ S2,S2=B (lnsC i e i++(if e=0 then aC i else [])):=⟨_,rfl⟩
    have hsS2:S2.size≤500:=by
     rw [hS2,size_B,List.length_append]
     have:=lnsC_len i e i
     have:=dg2_len i
     split
     ·unfold aC; simp only [List.length_cons,List.length_append,List.length_nil]; omega
     ·simp; omega
    have HF1:Hid (e=0→B (lnsC i e i)++⟨#[99]⟩++B (dg2 i)++⟨#[46,122,122,32,53,32,65,32,49,46,50,46,51,46,52,10]⟩=S2):=fun h=>by
     rw [hS2,if_pos h]
     exact ba_ext (by simp [B,aC])
    have HF2:Hid (e≠0→B (lnsC i e i)=S2):=fun h=>by rw [hS2,if_neg h,List.append_nil]
    have HF3:Hid (S2++B l99=B (txtC i e)):=by
     rw [hS2]
     exact ba_ext (by simp [B,txtC])
    clear hS2
    generalize B (lnsC i e i)=S at *
    generalize B (dg2 i)=D1 at *
    go_upto_region 11 with fail
    go_upto_if 51 with (go_at_call 20; refine (aU HE _).mono ?_; rintro e1 wx ⟨rfl,rfl⟩)
    go_cut [6] from 42 (fun v wx=>v=.string S2∧Hid (Below w.heap.size w wx))
    case first =>
     by_cases c2:e=0
     ·have c2I:((e:Int) == 0)=true:=by rw [beq_iff_eq]; omega
      have C2:=aH c2
      clear c2
      go_wp2_with fail
      refine (aU HDI _).mono ?_
      rintro e1 w2 ⟨rfl,hb2⟩
      have HB2:=aH (HBT.trans (hb2.mono HBT.size))
      clear hb2
      go_wp2_with fail
      go_meet
      case rel=>exact ⟨congrArg Value.string (aU HF1 (aU C2)),HB2⟩
     ·have c2I:((e:Int) == 0)=false:=by rw [beq_eq_false_iff_ne]; omega
      have C2:=aH c2
      clear c2
      go_wp2_with fail
      go_meet
      case rel=>exact ⟨congrArg Value.string (aU HF2 (aU C2)),HBT⟩
    case rest =>
     obtain ⟨rfl,hbc⟩:=hcut
     have hf3:=aU HF3
     have hl9:(B l99).size=22:=rfl
     have HBC:=aU hbc
     have hnm:B (nmC 0)=⟨#[99,48,46,122,122]⟩:=rfl
     clear HF1 HF2 HF3 HDI hbr hbc HBT HN
     go_wp2_with fail
     refine (line_99 wc).mono ?_
     rintro e1 w2 ⟨rfl,hb2⟩
     have hB2:=HBC.trans (hb2.mono HBC.size)
     have HM:=aH (made_c i e hnl hel w2 ((aU HG).below hB2))
     clear hb2
     generalize B l99=L9 at *
     go_wp2_with fail
     refine (aU HM).mono ?_
     rintro e1 w3 ⟨zb,g,cap,rfl,ht3,hb3⟩
     have hB3:=hB2.trans (hb3.mono hB2.size)
     have HL:=aH (look_c i e hnl hel zb g cap w3 ht3 ((aU HG).below hB3))
     rw [hnm] at HL
     clear ht3 hb3 hnm HM hf3
     go_wp2_with fail
     refine (aU HL).mono ?_
     rintro e1 w4 ⟨⟨hlong,rfl⟩ | ⟨hshort,va,vc,vb,vd,rfl,hra,hrb⟩,hb4⟩
     ·have hB4:=hB3.trans (hb4.mono hB3.size)
      have HB4:Hid (Below w.heap.size w w4):=hB4
      have hlt:w.heap.size≤w4.heap.size:=hB4.size
      clear hB2 hB3 hB4 hb4 HBC
      by_cases h8:8<i
      ·have h8I:(8:Int)<(i:Int):=by omega
       go_wp2_with fail
       go_ret
       exact ⟨rfl,(aU HB4).alloc hlt _⟩
      ·have h8I : ¬ (8:Int)<(i:Int):=by omega
       obtain rfl:ring=true:=by
        have:=aU HRING
        unfold isLong at hlong
        rw [decide_eq_false h8,Bool.false_or] at hlong
        rw [this,hlong]
       go_wp2_with fail
       go_ret
       exact ⟨rfl,(aU HB4).alloc hlt _⟩
     ·have hB4:=hB3.trans (hb4.mono hB3.size)
      have HB4:Hid (Below w.heap.size w w4):=hB4
      have hlt:w.heap.size≤w4.heap.size:=hB4.size
      have h8 : ¬ 8<i:=fun h=>by
       unfold isLong at hshort
       rw [decide_eq_true h] at hshort
       cases hshort
      obtain rfl:ring=false:=by
       have:=aU HRING
       unfold isLong at hshort
       rw [decide_eq_false h8,Bool.false_or] at hshort
       rw [this,hshort]
      have h8I : ¬ (8:Int)<(i:Int):=by omega
      have HRA:=aH hra
      have HRB:=aH hrb
      obtain ⟨L,hL⟩ : ∃ L,(ansC i e).length=L:=⟨_,rfl⟩
      obtain ⟨M,hM⟩ : ∃ M,(authC e).length=M:=⟨_,rfl⟩
      rw [hL] at HRA ⊢
      rw [hM] at HRB ⊢
      have HLM:=aH (And.intro hL hM)
      clear hB2 hB3 hB4 hb4 HBC hra hrb hL hM hshort
      go_wp2_with fail
      go_loopg [13] i (fun g1 vk wr=>∃ (k:Nat),vk=.int .i64 k∧k+g1=i∧Hid (KeepC w w4.heap.size i e L M vc vd va vb wr))
      case atStart =>
       have hba:Below w4.heap.size w4 (w4.alloc (.cells #[.int .i64 (rcC e),.bool true,.slice va L vc,.slice vb M vd,.slice none 0 0] 43)):=(Below.refl _ _).alloc (Nat.le_refl _) _
       exact ⟨0,rfl,by omega,World.alloc_heap_new w4 _,(aU HRA).below hba,(aU HRB).below hba,(aU HB4).alloc hlt _⟩
      case round =>
       obtain ⟨k,rfl,hkg,hkp⟩:=hrel
       obtain ⟨hans,hra,hrb,hbw⟩:=aU hkp
       obtain ⟨y0,y1,y2,y3,y4⟩:=hans.cells
       have hLM:=aU HLM
       have hall:=ans_len i e
       by_cases hki:k<i
       ·have hkiI:(k:Int)<(i:Int):=by omega
        rcases hra with ⟨h,h0⟩ | ⟨b',off',cap',h,hcp,hr⟩
        ·rw [h0] at hall; simp at hall; omega
        ·obtain ⟨rfl,hLe,rfl⟩:va=some ⟨b',off',none⟩∧L=(ansC i e).length∧vc=cap':=by simpa using h
         obtain ⟨k1,hk1⟩ : ∃ k1,k1=k+1:=⟨_,rfl⟩
         have hk1I:(k:Int)+1=(k1:Int):=by omega
         obtain ⟨q0,q1,q2,q3⟩:=recs_cell hr (ans_get i e k hki)
         have hkL:(k:Int)<(L:Int):=by rw [hLe,hall]; split <;> omega
         have hkN:decide (L≤k)=false:=decide_eq_false (by omega)
         have wK:IntKind.i64.wrap (k1:Int)=(k1:Int):=by rw [IntKind.wrap_i64]; omega
         obtain ⟨N0,hN0⟩ : ∃ x,x=B (nmC k):=⟨_,rfl⟩
         obtain ⟨N1,hN1⟩ : ∃ x,x=B (nmC k1):=⟨_,rfl⟩
         obtain ⟨D0,hD0⟩ : ∃ x,x=B (dg2 k):=⟨_,rfl⟩
         obtain ⟨D1',hD1⟩ : ∃ x,x=B (dg2 k1):=⟨_,rfl⟩
         have z0:wr.cell? ⟨b',off'+k*4,none⟩=some (.string N0):=by rw [hN0]; exact q0
         have z1:wr.cell? ⟨b',off'+k*4+1,none⟩=some (.int .i64 5):=q1
         have z2:wr.cell? ⟨b',off'+k*4+2,none⟩=some (.int .i64 5):=q2
         have z3:wr.cell? ⟨b',off'+k*4+3,none⟩=some (.string N1):=by rw [hN1,hk1]; exact q3
         have f0:(⟨#[99]⟩++D0++⟨#[46,122,122]⟩:ByteArray)=N0:=by rw [hN0,hD0]; exact ba_ext (by simp [B,nmC])
         have f1:(⟨#[99]⟩++D1'++⟨#[46,122,122]⟩:ByteArray)=N1:=by rw [hN1,hD1]; exact ba_ext (by simp [B,nmC])
         have g0:D0.size≤2:=by rw [hD0,size_B]; exact dg2_len k
         have g1:D1'.size≤2:=by rw [hD1,size_B]; exact dg2_len k1
         have o0 : ¬ 9223372036854775807<1+D0.size:=by omega
         have o1 : ¬ 9223372036854775807<1+D0.size+3:=by omega
         have o2 : ¬ 9223372036854775807<1+D1'.size:=by omega
         have o3 : ¬ 9223372036854775807<1+D1'.size+3:=by omega
         have hab:w4.heap.size<wr.heap.size:=(Array.getElem?_eq_some_iff.1 hans).1
         have hbb:b'<wr.heap.size:=hr.1
         have HDS:Hid (∀ (m:Nat) (D:ByteArray),m<100→D=B (dg2 m)→∀ W,(W.cell? ⟨w4.heap.size,2,none⟩=some (.slice (some ⟨b',off',none⟩) L vc)∧W.cell? ⟨b',off'+k*4,none⟩=some (.string N0)∧W.cell? ⟨b',off'+k*4+1,none⟩=some (.int .i64 5)∧W.cell? ⟨b',off'+k*4+2,none⟩=some (.int .i64 5)∧W.cell? ⟨b',off'+k*4+3,none⟩=some (.string N1)∧Below wr.heap.size wr W)→Calls Tryz.prog 21 #[.int .i64 m] W fun e w'=>e=.returned (.string D)∧(w'.cell? ⟨w4.heap.size,2,none⟩=some (.slice (some ⟨b',off',none⟩) L vc)∧w'.cell? ⟨b',off'+k*4,none⟩=some (.string N0)∧w'.cell? ⟨b',off'+k*4+1,none⟩=some (.int .i64 5)∧w'.cell? ⟨b',off'+k*4+2,none⟩=some (.int .i64 5)∧w'.cell? ⟨b',off'+k*4+3,none⟩=some (.string N1)∧Below wr.heap.size wr w')):=fun m D hm hD W hS=>by
          refine (aU HD m W hm).mono ?_
          rintro e1 w' ⟨rfl,hb⟩
          obtain ⟨t0,t1,t2,t3,t4,t5⟩:=hS
          have hs:=t5.size
          exact ⟨by rw [hD],(hb.cell (p:=⟨w4.heap.size,2,none⟩) (by show w4.heap.size<_; omega)).trans t0,(hb.cell (p:=⟨b',off'+k*4,none⟩) (by show b'<_; omega)).trans t1,(hb.cell (p:=⟨b',off'+k*4+1,none⟩) (by show b'<_; omega)).trans t2,(hb.cell (p:=⟨b',off'+k*4+2,none⟩) (by show b'<_; omega)).trans t3,(hb.cell (p:=⟨b',off'+k*4+3,none⟩) (by show b'<_; omega)).trans t4,t5.trans (hb.mono hs)⟩
         have HD0:=aH (aU HDS k D0 (by omega) hD0)
         have HD1:=aH (aU HDS k1 D1' (by omega) hD1)
         have hBd:Below wr.heap.size wr wr.drew:=(Below.refl _ _).drew
         have HK1:Hid (k1=k+1∧k<i):=⟨hk1,hki⟩
         have x0:wr.drew.cell? ⟨w4.heap.size,2,none⟩=some (.slice (some ⟨b',off',none⟩) L vc):=y2
         have x1:wr.drew.cell? ⟨b',off'+k*4,none⟩=some (.string N0):=z0
         have x2:wr.drew.cell? ⟨b',off'+k*4+1,none⟩=some (.int .i64 5):=z1
         have x3:wr.drew.cell? ⟨b',off'+k*4+2,none⟩=some (.int .i64 5):=z2
         have x4:wr.drew.cell? ⟨b',off'+k*4+3,none⟩=some (.string N1):=z3
         clear HG HRING HLM HRA HRB HB4 HE hsS2 hsS hsD hl9 h8I hlt HD
         clear HDS h q0 q1 q2 q3 z0 z1 z2 z3 y0 y1 y2 y3 y4 hans hrb hbw hr hcp hLM hall hLe hN0 hN1 hD0 hD1 hk1 hki
         go_wp2_with fail
         go_region_held (fun w'=>w'.cell? ⟨w4.heap.size,2,none⟩=some (.slice (some ⟨b',off',none⟩) L vc)∧w'.cell? ⟨b',off'+k*4,none⟩=some (.string N0)∧w'.cell? ⟨b',off'+k*4+1,none⟩=some (.int .i64 5)∧w'.cell? ⟨b',off'+k*4+2,none⟩=some (.int .i64 5)∧w'.cell? ⟨b',off'+k*4+3,none⟩=some (.string N1)∧Below wr.heap.size wr w') (first | assumption | go_keep)
          (first
           | (go_at_call_of 21 (Value.int IntKind.i64 (k:Int)); go_loud (refine (aU HD0 _ ?_).mono ?_; assumption; rintro e1 w' ⟨rfl,hq⟩))
           | (go_at_call_of 21 (Value.int IntKind.i64 (k1:Int)); go_loud (refine (aU HD1 _ ?_).mono ?_; assumption; rintro e1 w' ⟨rfl,hq⟩)))
         rename_i hH
         have r5:=hH.2.2.2.2.2
         clear hH hq
         all_goals
          have HKB:=aH ((aU hkp).below r5)
          clear r5 x0 x1 x2 x3 x4
          go_wp2_with fail
          go_roundg (i - (k+1))
          case measure=>have:=(aU HK1).2; omega
          case rel =>
           have hk2:=(aU HK1).1
           have hk3:=(aU HK1).2
           exact ⟨k+1,by first | rfl | (rw [← hk2]) | go_num,by omega,HKB⟩
       ·obtain rfl:k=i:=by omega
        have hkiI : ¬ (k:Int)<(k:Int):=by omega
        by_cases c2:e=0
        ·have c2I:((e:Int) == 0)=true:=by rw [beq_iff_eq]; omega
         have hrc:rcC e=0:=by unfold rcC; rw [if_pos c2]
         rw [hrc] at y0
         have hLb:((L:Int) == (k:Int)+1)=true:=by rw [beq_iff_eq]; have:=hLM.1; rw [if_pos c2] at hall; omega
         have hMb:((M:Int) == 0)=true:=by rw [beq_iff_eq]; have:=hLM.2; unfold authC at this; rw [if_pos c2] at this; simp at this; omega
         have hkL:(k:Int)<(L:Int):=by have:=hLM.1; rw [if_pos c2] at hall; omega
         rcases hra with ⟨h,h0⟩ | ⟨b',off',cap',h,hcp,hr⟩
         ·rw [h0,if_pos c2] at hall; simp at hall
         ·obtain ⟨rfl,hLe,rfl⟩:va=some ⟨b',off',none⟩∧L=(ansC k e).length∧vc=cap':=by simpa using h
          have hq:(ansC k e)[k]? = some (nmC k,5,1,adr):=by rw [c2]; exact ans_last k
          have q3:wr.cell? ⟨b',off'+k*4+3,none⟩=some (.string ⟨#[49,46,50,46,51,46,52]⟩):=(recs_cell hr hq).2.2.2
          have HBW:=aH hbw
          clear h hq hr hcp hans hrb hbw hLM hall hLe c2
          go_wp2_with (go_at_call 20; refine (aU HE _).mono ?_; rintro e1 wx ⟨rfl,rfl⟩)
          go_ret
          exact ⟨rfl,aU HBW⟩
        ·have c2I:((e:Int) == 0)=false:=by rw [beq_eq_false_iff_ne]; omega
         have hrc:rcC e=3:=by unfold rcC; rw [if_neg c2]
         rw [hrc] at y0
         have hLb:((L:Int) == (k:Int))=true:=by rw [beq_iff_eq]; have:=hLM.1; rw [if_neg c2] at hall; omega
         have hau:authC e = [soaN]:=by unfold authC; rw [if_neg c2]
         have hM1:M=1:=by have:=hLM.2; rw [hau] at this; simp at this; omega
         subst hM1
         rcases hrb with ⟨h,h0⟩ | ⟨b',off',cap',h,hcp,hr⟩
         ·rw [hau] at h0; cases h0
         ·obtain ⟨rfl,hLe,rfl⟩:vb=some ⟨b',off',none⟩∧1=(authC e).length∧vd=cap':=by simpa using h
          rw [hau] at hr
          obtain ⟨_,q1,q2,_⟩:=recs_cell hr (k:=0) (r:=soaN) rfl
          rw [Nat.zero_mul,Nat.add_zero] at q1 q2
          have q1':wr.cell? ⟨b',off'+1,none⟩=some (.int .i64 40):=q1
          have q2':wr.cell? ⟨b',off'+2,none⟩=some (.int .i64 6):=q2
          have HBW:=aH hbw
          clear h hr hcp hans hra hbw hLM hall hLe c2 q1 q2 hau
          go_wp2_with (go_at_call 20; refine (aU HE _).mono ?_; rintro e1 wx ⟨rfl,rfl⟩)
          go_ret
          exact ⟨rfl,aU HBW⟩
end Cd
end Go.Proofs.YtkkpahmoljiepaaGreatDoor

namespace Go.Proofs.YtkkpahmoljiepaaGreatDoor
open Go.ChangeShapes Go.WideShapes Go.ChangeAt Go.RowKit
namespace Uw
variable {H:Type} {enc:TypeId×Value→H}
theorem wrap {a:Assume} {C:Checked} {os:Os} {f:FuncId} {fn:Func} {s:ChangeSpec} {conds:List PathCond} {apart fresh handsOn again:Bool} {X:World→Array Value→Prop}
  (hX : ∀ (w w':World) (args:Array Value),w.heap=w'.heap→X w args→X w' args)
  (own:ownKnob C.prog.godebug=none) (started:os.Started) (noInit:C.prog.inits.idxOf? f=none) (hfn:C.prog.funcs[f]? = some fn)
  (witness : ∃ (w:World) (tape:Tape) (i:Input),w.os=os∧(w.forCall tape i).Shaped C.prog∧i.vars = []∧Input.okWide C.prog (w.forCall tape i) .any w.heap.size f i ∧
   ((s.pre enc C.prog fn conds apart (w.forCall tape i).memory i.args∧X (w.forCall tape i).memory i.args)∧sizedMet enc C.prog fn (OpenSpec.ofChange s) apart (w.forCall tape i).memory i.args)∧a.holds C.prog (lone (Frame.enter C.prog f i.args .normal) [] (w.forCall tape i)))
  (contract : ∀ (W:World) (base:Nat) (args:Array Value) (ds gs:List (DataW H)) (before:List MemPlace),
   (∀ (j:Nat) t v,fn.params[j]? = some t→args[j]? = some v→Value.okWide C.prog W .any base t v) →
   DataW.Whole enc C.prog fn.params.toList s.vars apart W args.toList ds gs before →
   W.ShapedOpen C.prog→X W args →
   Calls C.prog f args W fun e W'=>∃ v,e=.returned v∧s.post enc C.prog fn apart fresh handsOn again W args v W') :
  ReturnsInHanded a C os f .any (fun w args=>(s.pre enc C.prog fn conds apart w args∧X w args)∧sizedMet enc C.prog fn (OpenSpec.ofChange s) apart w args) (s.post enc C.prog fn apart fresh handsOn again):=by
 refine returnsInHanded_of_calls own started noInit witness ?_
 intro w tape i _ hsh _ hok hpre hholds
 obtain ⟨_,_,_,fn',hfn',_,_,_,_,hval⟩:=hok
 have e:fn'=fn:=Option.some.inj (hfn'.symm.trans hfn)
 subst e
 obtain ⟨⟨⟨ds,gs,before,hw,hc⟩,hx⟩,hz⟩:=hpre
 have hw':=DataW.Whole.of_heap (w':=w.forCall tape i) (by rfl) hw
 refine (contract (w.forCall tape i) w.heap.size i.args ds gs before hval hw' hsh (hX _ _ _ (by rfl) hx)).mono fun e W' ⟨v,he,hp⟩=>?_
 subst he
 exact ChangeSpec.post_blind hp
theorem own:ownKnob Tryz.prog.godebug=none:=by kernel_rfl
theorem g_of_shaped {W:World} (h:W.ShapedOpen Tryz.prog):G W:=by
 have hc : ∃ m,W.cell? ⟨0,0,none⟩=some (.int .i64 m) :=
  cell_of_shapedOpen_int (zero:=#[.int .i64 0]) (t:=3) h (of_decide_eq_true (by kernel_rfl)) (by kernel_rfl) rfl (by kernel_rfl) (by kernel_rfl) Tryz.underlying3
 refine ⟨?_,hc⟩
 obtain ⟨m,hm⟩:=hc
 rcases Nat.eq_zero_or_pos W.heap.size with h0 | h0
 ·simp [World.cell?,Array.getElem?_eq_none (show W.heap.size≤0 by omega)] at hm
 ·exact h0
end Uw
end Go.Proofs.YtkkpahmoljiepaaGreatDoor
