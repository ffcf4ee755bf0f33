/- The document's answer (beaconref): label, number, kind. -/
import Derived.Test.YtkkpahmoljiepaaGreatDoorJ13
import Derived.Test.YtkkpahmoljiepaaGreatDoorJ01
import Derived.Test.YtkkpahmoljiepaaGreatDoorJ04
import Derived.BigQuiet
set_option linter.unusedSimpArgs false
set_option linter.unusedVariables false
set_option maxRecDepth 1000000
set_option maxHeartbeats 12800000
namespace Go.Proofs.YtkkpahmoljiepaaGreatDoor
open Go.RowKit
open Pu (Str aH aU)
namespace Eb
open Ka Kb Re Wa Wb Ea
theorem take_snoc (s:Str) (k:Nat) (h:k<s.length):s.take (k+1)=s.take k++[s[k]]:=List.take_succ_eq_append_getElem h
theorem sign_cases (x:UInt8):(Pu.sign x=true∧((97≤(x.toNat:Int)∧(x.toNat:Int)≤122)∨(48≤(x.toNat:Int)∧(x.toNat:Int)≤57)∨(x.toNat:Int)=45∨(x.toNat:Int)=95)) ∨
  (Pu.sign x=false∧(((x.toNat:Int)<45)∨(45<(x.toNat:Int)∧(x.toNat:Int)<48)∨(57<(x.toNat:Int)∧(x.toNat:Int)<95)∨((x.toNat:Int)=96)∨(122<(x.toNat:Int)))):=by
 unfold Pu.sign Pu.signI
 generalize (x.toNat:Int)=n
 by_cases h1:97≤n∧n≤122
 ·left; simp [h1]
 by_cases h2:48≤n∧n≤57
 ·left; simp [h2]
 by_cases h3:n=45
 ·left; simp [h3]
 by_cases h4:n=95
 ·left; simp [h4]
 right
 refine ⟨?_,by omega⟩
 rw [Bool.eq_false_iff]
 simp only [ne_eq,Bool.or_eq_true,Bool.and_eq_true,decide_eq_true_eq,beq_iff_eq]
 omega
theorem label_any (s:Str) (w:World) (hl:s.length≤2000000) :
  Calls Tryz.prog 113 #[.string (B s)] w fun e w'=>e=.returned (.bool (Pu.label s))∧w'=w:=by
 have hs:(B s).size=s.length:=size_B s
 go_enter Tryz.func113,Tryz.ntmps113
 go_wp2_with fail
 go_loopw [3] (fun i wr=>∃ k:Nat,k≤s.length∧i=.int .i64 k∧(s.take k).all Pu.sign=true∧wr=w) (fun i _=>s.length - (intOf i).toNat)
 case atStart=>exact ⟨0,Nat.zero_le _,rfl,rfl,rfl⟩
 case round =>
  obtain ⟨k,hk,rfl,hall,rfl⟩:=hrel
  have H:=aH hall
  clear hall
  by_cases hlt:k<s.length
  ·have hltI:(k:Int)<(s.length:Int):=by omega
   have hts:=aH (take_snoc s k hlt)
   obtain ⟨x,hx⟩ : ∃ x,x=s[k]:=⟨_,rfl⟩
   have g1 : ∀ h:k<(B s).size,(B s)[k]=x:=fun h=>hx.symm
   have HX:=aH hx
   clear hx
   rcases sign_cases x with ⟨hb,h⟩ | ⟨hb,h⟩
   ·have HS:=aH hb
    clear hb
    have fin : ∀ v:Value,v=.int .i64 ((k:Int)+1)→∃ k':Nat,k'≤s.length∧v=.int .i64 k'∧(s.take k').all Pu.sign=true:=fun v hv=>⟨k+1,by omega,by rw [hv]; go_num,by rw [aU hts,List.all_append,aU H,← aU HX]; simp [aU HS]⟩
    have HFIN:=aH fin
    clear fin
    rcases h with h | h | h | h
    case' inr.inr.inl=>have n1:((x.toNat:Int) != 45)=false:=by rw [h]; rfl
    case' inr.inr.inr =>
     have n1:((x.toNat:Int) != 45)=true:=by rw [h]; rfl
     have n2:((x.toNat:Int) != 95)=false:=by rw [h]; rfl
    all_goals
     go_wp2_with fail
     obtain ⟨k',k1,k2,k3⟩:=aU HFIN _ rfl
     exact ⟨⟨k',k1,k2,k3,by first | rfl | trivial⟩,by simp [intOf]; omega⟩
   ·have HS:=aH hb
    clear hb
    have n1:((x.toNat:Int) != 45)=true:=by rw [bne_iff_ne]; omega
    have n2:((x.toNat:Int) != 95)=true:=by rw [bne_iff_ne]; omega
    rcases h with h | h | h | h | h
    all_goals
     go_wp2_with fail
     go_ret
     refine ⟨ret_bool ?_,rfl⟩
     have hmem:s[k]∈s:=List.getElem_mem hlt
     symm
     unfold Pu.label
     rw [Bool.and_eq_false_iff]
     right
     rw [List.all_eq_false]
     exact ⟨_,hmem,by rw [← aU HX,aU HS]; simp⟩
  ·have hltI : ¬ (k:Int)<(s.length:Int):=by omega
   have hks:k=s.length:=by omega
   have hfull:=aU H
   rw [hks,List.take_length] at hfull
   have HF:=aH hfull
   clear hfull
   by_cases z1:(0:Int)<(s.length:Int)
   ·by_cases z2:(s.length:Int)≤20
    ·go_wp2_with fail
     go_ret
     refine ⟨ret_bool ?_,rfl⟩
     unfold Pu.label
     rw [aU HF]; simp; omega
    ·go_wp2_with fail
     go_ret
     refine ⟨ret_bool ?_,rfl⟩
     unfold Pu.label
     rw [aU HF]; simp; omega
   ·go_wp2_with fail
    go_ret
    refine ⟨ret_bool ?_,rfl⟩
    unfold Pu.label
    rw [aU HF]; simp; omega
def dgs:Nat→Str→Option Nat
 | n,[]=>some n
 | n,c :: r=>if Pu.digitI c.toNat then dgs (10*n+(c.toNat - 48)) r else none
theorem dgs_ge : ∀ (l:Str) (n v:Nat),dgs n l=some v→n*10 ^ l.length≤v
 | [],n,v,h=>by simp [dgs] at h; simp [h]
 | c :: r,n,v,h=>by
  unfold dgs at h
  split at h
  ·have:=dgs_ge r _ v h
   rw [List.length_cons,Nat.pow_succ]
   calc n*(10 ^ r.length*10)=(10*n)*10 ^ r.length:=by rw [Nat.mul_comm (10 ^ r.length) 10,← Nat.mul_assoc,Nat.mul_comm n 10]
    _≤(10*n+(c.toNat - 48))*10 ^ r.length:=Nat.mul_le_mul_right _ (by omega)
    _≤v:=this
  ·cases h
theorem numFrom_dgs (most:Nat) : ∀ (l:Str) (n:Nat),n≤most→Pu.numFrom most n l=(match dgs n l with
  | some v=>if v≤most then some v else none
  | none=>none)
 | [],n,hn=>by simp [Pu.numFrom,dgs,hn]
 | c :: r,n,hn=>by
  unfold Pu.numFrom dgs
  split
  ·split
   ·exact numFrom_dgs most r _ ‹_›
   ·rename_i hgt
    cases hd:dgs (10*n+(c.toNat - 48)) r with
    | none=>rfl
    | some v =>
     have:=dgs_ge r _ v hd
     have h1:1≤10 ^ r.length:=Nat.one_le_pow _ _ (by omega)
     have:10*n+(c.toNat - 48)≤v:=Nat.le_trans (Nat.le_mul_of_pos_right _ (by omega)) this
     simp; omega
  ·rfl
def frm (s:Str):Option Nat:=if 1≤s.length∧s.length≤10∧¬ (s.head? = some 48∧1<s.length) then dgs 0 s else none
theorem num_frm (most:Nat) (hm:most<10000000000) (s:Str):Pu.num most s=(match frm s with
  | some v=>if v≤most then some v else none
  | none=>none):=by
 unfold frm
 cases s with
 | nil=>simp [Pu.num]
 | cons c r =>
  show (if c.toNat=48∧r≠[] then none else Pu.numFrom most 0 (c :: r))=_
  by_cases hz:c.toNat=48∧r≠[]
  ·have hc:c=48:=UInt8.toNat_inj.1 hz.1
   have hr:1<(c :: r).length:=by
    rcases r with _ | ⟨x,t⟩
    ·exact absurd rfl hz.2
    ·simp
   rw [if_pos hz,if_neg (fun h=>h.2.2 ⟨by rw [hc]; rfl,hr⟩)]
  ·rw [if_neg hz]
   have hnz : ¬ ((c :: r).head? = some 48∧1<(c :: r).length):=by
    rintro ⟨h1,h2⟩
    refine hz ⟨?_,?_⟩
    ·have:c=48:=by simpa using h1
     rw [this]; rfl
    ·rintro rfl; simp at h2
   by_cases hl:(c :: r).length≤10
   ·rw [if_pos ⟨by simp,hl,hnz⟩]
    exact numFrom_dgs most _ 0 (Nat.zero_le _)
   ·rw [if_neg (fun h=>hl h.2.1),numFrom_dgs most _ 0 (Nat.zero_le _)]
    cases hd:dgs 0 (c :: r) with
    | none=>rfl
    | some v =>
     unfold dgs at hd
     split at hd
     ·rename_i hdig
      have:=dgs_ge r _ v hd
      have hr10:10≤r.length:=by simp at hl; omega
      have hp:10000000000≤10 ^ r.length:=by
       calc 10000000000=10 ^ 10:=rfl
        _≤10 ^ r.length:=Nat.pow_le_pow_right (by omega) hr10
      have hc:1≤c.toNat - 48:=by
       unfold Pu.digitI at hdig
       simp at hdig
       have:c.toNat≠48:=fun h=>hz ⟨h,by rintro rfl; simp at hr10⟩
       omega
      have:10 ^ r.length≤v:=Nat.le_trans (by
       calc 10 ^ r.length=1*10 ^ r.length:=(Nat.one_mul _).symm
        _≤(10*0+(c.toNat - 48))*10 ^ r.length:=Nat.mul_le_mul_right _ (by omega)) this
      simp; omega
     ·cases hd
theorem numB_frm (most:Nat) (hm:most<10000000000) (s:Str):numB most s=(match frm s with
  | some v=>decide (v≤most)
  | none=>false):=by
 unfold numB
 rw [num_frm most hm]
 cases frm s with
 | none=>rfl
 | some v=>by_cases h:v≤most <;> simp [h]
theorem numV_frm (most:Nat) (hm:most<10000000000) (s:Str) (v:Nat) (h:frm s=some v) (hv:v≤most):numV most s=v:=by
 unfold numV
 rw [num_frm most hm,h]; simp [hv]
theorem number_any (s:Str) (most:Nat) (w:World) (hl:s.length≤1000000) (hm:most<10000000000) :
  Calls Tryz.prog 115 #[.string (B s),.int .i64 most] w fun e w'=>(∃ v:Nat,e=.returned (.tuple #[.int .i64 v,.bool (numB most s)])∧(numB most s=true→v=numV most s))∧w'=w:=by
 have hs:(B s).size=s.length:=size_B s
 have HNB:=aH (numB_frm most hm s)
 have HNV:=aH (numV_frm most hm s)
 have none_end:frm s=none→∃ v:Nat,Ending.returned (.tuple #[.int .i64 0,.bool false])=.returned (.tuple #[.int .i64 v,.bool (numB most s)])∧(numB most s=true→v=numV most s):=fun h=>by
  have hb:=aU HNB
  rw [h] at hb
  refine ⟨0,by rw [hb]; rfl,fun h2=>?_⟩
  rw [hb] at h2; cases h2
 have HNE:=aH none_end
 clear none_end
 by_cases z1:(s.length:Int)<1
 ·have hf:Hid (frm s=none):=if_neg (fun h=>by omega)
  go_enter Tryz.func115,Tryz.ntmps115
  go_wp2_with fail
  go_ret2
  exact ⟨aU HNE (aU hf),rfl⟩
 by_cases z2:(10:Int)<(s.length:Int)
 ·have hf:Hid (frm s=none):=if_neg (fun h=>by omega)
  go_enter Tryz.func115,Tryz.ntmps115
  go_wp2_with fail
  go_ret2
  exact ⟨aU HNE (aU hf),rfl⟩
 have h0:0<s.length:=by omega
 obtain ⟨x0,hx0⟩ : ∃ x,x=s[0]:=⟨_,rfl⟩
 have g0 : ∀ h:0<(B s).size,(B s)[0]=x0:=fun h=>hx0.symm
 have hhead:s.head? = some x0:=by rw [hx0,List.head?_eq_getElem?,List.getElem?_eq_getElem h0]
 by_cases z3:(x0.toNat:Int)=48∧(1:Int)<(s.length:Int)
 ·have hf:Hid (frm s=none):=if_neg (fun h=>h.2.2 ⟨by rw [hhead]; exact congrArg some (UInt8.toNat_inj.1 (by show x0.toNat=48; omega)),by omega⟩)
  obtain ⟨y1,y2⟩:=z3
  clear hhead hx0
  go_enter Tryz.func115,Tryz.ntmps115
  go_wp2_with fail
  go_ret2
  exact ⟨aU HNE (aU hf),rfl⟩
 have hf:Hid (frm s=dgs 0 s):=if_pos ⟨by omega,by omega,fun h=>z3 ⟨by
  have h1:=h.1
  rw [hhead] at h1
  have:x0=48:=by simpa using h1
  rw [this]; rfl,by omega⟩⟩
 have z4:((x0.toNat:Int)=48∧(s.length:Int)≤1)∨¬ (x0.toNat:Int)=48:=by omega
 clear z3 hhead hx0
 rcases z4 with ⟨y1,y2⟩ | y1
 all_goals
  go_enter Tryz.func115,Tryz.ntmps115
  go_wp2_with fail
  go_loopw [6,7] (fun vn vi wr=>∃ k m:Nat,k≤s.length∧vi=.int .i64 k∧vn=.int .i64 m∧m<10 ^ k∧dgs m (s.drop k)=dgs 0 s∧wr=w) (fun _ i _=>s.length - (intOf i).toNat)
  case atStart=>exact ⟨0,0,Nat.zero_le _,rfl,rfl,by simp,by rw [List.drop_zero],rfl⟩
  case round =>
   obtain ⟨k,m,hk,rfl,rfl,hmk,hd,rfl⟩:=hrel
   have hp10:10 ^ k≤10 ^ 10:=Nat.pow_le_pow_right (by omega) (by omega)
   have hpe:(10:Nat) ^ 10=10000000000:=rfl
   have hm10:m<10000000000:=by omega
   clear hp10 hpe
   have HD:=aH hd
   have HMK:=aH hmk
   clear hd hmk g0
   by_cases hlt:k<s.length
   ·have hltI:(k:Int)<(s.length:Int):=by omega
    obtain ⟨x,hx⟩ : ∃ x,x=s[k]:=⟨_,rfl⟩
    have g1 : ∀ h:k<(B s).size,(B s)[k]=x:=fun h=>hx.symm
    have HC:Hid (s.drop k=x :: s.drop (k+1)):=by rw [Hid,hx]; exact List.drop_eq_getElem_cons hlt
    clear hx
    by_cases c1:(x.toNat:Int)<48
    ·have hn:Hid (frm s=none):=by
      rw [Hid,aU hf,← aU HD,aU HC,dgs,if_neg (by unfold Pu.digitI; simp; omega)]
     go_wp2_with fail
     go_ret2
     exact ⟨aU HNE (aU hn),rfl⟩
    by_cases c2:(57:Int)<(x.toNat:Int)
    ·have hn:Hid (frm s=none):=by
      rw [Hid,aU hf,← aU HD,aU HC,dgs,if_neg (by unfold Pu.digitI; simp; omega)]
     go_wp2_with fail
     go_ret2
     exact ⟨aU HNE (aU hn),rfl⟩
    have hsub:IntKind.u8.wrap ((x.toNat:Int) - 48)=((x.toNat - 48:Nat):Int):=by rw [IntKind.wrap_u8]; omega
    have HN:Hid (dgs (10*m+(x.toNat - 48)) (s.drop (k+1))=dgs 0 s):=by
     rw [Hid,← aU HD,aU HC,dgs,if_pos (by unfold Pu.digitI; simp; omega)]
    have HM2:Hid (10*m+(x.toNat - 48)<10 ^ (k+1)):=by
     have:=aU HMK
     rw [Hid,Nat.pow_succ]; omega
    have HV:Hid ((10:Int)*(m:Int)+((x.toNat:Int) - 48)=((10*m+(x.toNat - 48):Nat):Int)):=by rw [Hid]; omega
    go_wp2_with fail
    refine ⟨⟨k+1,10*m+(x.toNat - 48),by omega,by go_num,?_,aU HM2,aU HN,by first | rfl | trivial⟩,by simp [intOf]; omega⟩
    first | exact congrArg (Value.int .i64) (aU HV) | exact congrArg (Value.int .i64) (by omega) | (rw [← aU HV]) | trace_state
   ·have hltI : ¬ (k:Int)<(s.length:Int):=by omega
    have hks:k=s.length:=by omega
    have hfr:frm s=some m:=by
     have:=aU HD
     rw [hks,List.drop_length] at this
     rw [aU hf,← this]; rfl
    have HFR:=aH hfr
    have hb:=aU HNB
    rw [hfr] at hb
    have hv:=aU HNV m hfr
    have HB:=aH hb
    have HV:=aH hv
    clear hb hv hfr
    go_wp2_with fail
    all_goals
     go_ret2
     refine ⟨⟨m,by rw [aU HB]; first | rfl | simp [*],fun h=>?_⟩,rfl⟩
     have h1:=aU HB
     rw [h] at h1
     exact (aU HV (by simpa using h1.symm)).symm
theorem kind_any (s:Str) (w:World) :
  Calls Tryz.prog 114 #[.string (B s)] w fun e w'=>e=.returned (.int .i64 (Pu.kindOf s))∧w'=w:=by
 go_enter Tryz.func114,Tryz.ntmps114
 go_wp2
 all_goals
  go_ret
  refine ⟨ret_int ?_,rfl⟩
  unfold Pu.kindOf
  simp only [ByteArray.toList_eq,data_B,beq_iff_eq,beq_eq_false_iff_ne,ne_eq] at *
  simp [*]
end Eb
namespace Ec
open Ka Kb Re Wa Wb Ea Eb
def okS (star:Bool) (i:Nat) (l:Str):Bool:=Pu.label l || (i == 0 && l == [42] && star)
def okSs (star:Bool):Nat→List Str→Bool
 | _,[]=>true
 | i,h :: t=>okS star i h && okSs star (i+1) t
theorem okSs_snoc (star:Bool) (x:Str) : ∀ (l:List Str) (i:Nat),okSs star i (l++[x])=(okSs star i l && okS star (i+l.length) x)
 | [],i=>by simp [okSs]
 | h :: t,i=>by
  rw [List.cons_append,okSs,okSs_snoc star x t (i+1),okSs,List.length_cons,Bool.and_assoc,show i+1+t.length=i+(t.length+1) by omega]
theorem okSs_bad (star:Bool) : ∀ (l:List Str) (i k:Nat) (h:k<l.length),okS star (i+k) l[k]=false→okSs star i l=false
 | h :: t,i,0,_,hb=>by rw [okSs]; simp at hb; rw [hb]; rfl
 | h :: t,i,k+1,hk,hb=>by
  rw [okSs,okSs_bad star t (i+1) k (by simpa using hk) (by simpa [show i+1+k=i+(k+1) by omega] using hb),Bool.and_false]
def nmR (star:Bool) (s:Str):Option (List Str):=if s.length≤60∧okSs star 0 (Sp.spl 46 s)=true then some (Sp.spl 46 s) else none
def TxAt (w:World) (g off:Nat) (ls:List Str):Prop:=g<w.heap.size∧∀ j (h:j<ls.length),w.cell? ⟨g,off+j,none⟩=some (.string (B ls[j]))
theorem TxAt.below {w w':World} {g off:Nat} {ls:List Str} (h:TxAt w g off ls) (hb:Below w.heap.size w w'):TxAt w' g off ls :=
 ⟨Nat.lt_of_lt_of_le h.1 hb.size,fun j hj=>(hb.cell (p:=⟨g,off+j,none⟩) h.1).trans (h.2 j hj)⟩
def NmV (w:World) (v:Value) (ls:List Str):Prop:=∃ g off cap,v=.slice (some ⟨g,off,none⟩) ls.length cap∧ls.length≤cap∧TxAt w g off ls
theorem NmV.below {w w':World} {v:Value} {ls:List Str} (h:NmV w v ls) (hb:Below w.heap.size w w'):NmV w' v ls:=by
 obtain ⟨g,off,cap,h1,h2,h3⟩:=h
 exact ⟨g,off,cap,h1,h2,h3.below hb⟩
theorem own_name {w:World} {base:Nat} {v:Value} {ls:List Str} (h:StrsOwn w base v ls) (hne:ls≠[]) : ∃ g cap,v=.slice (some ⟨g,0,none⟩) ls.length cap∧ls.length≤cap∧base≤g∧TxAt w g 0 ls:=by
 have h0:=h.1
 obtain ⟨_,⟨_,hz⟩ | ⟨g,cap,cur,rfl,hb,hcur,hc,_⟩⟩:=h.1
 ·exact absurd (List.eq_nil_of_length_eq_zero hz) hne
 ·refine ⟨g,cap,rfl,hc,hb,(Array.getElem?_eq_some_iff.1 hcur).1,fun j hj=>?_⟩
  rw [Nat.zero_add,World.ownsRow.cellAt h0 j (by omega),List.getElem?_map,List.getElem?_eq_getElem hj]; rfl
def NmR (w:World) (base:Nat) (v:Value) (o:Option (List Str)):Prop:=match o with
 | none=>v=.slice none 0 0
 | some l=>l≠[]∧∃ g cap,v=.slice (some ⟨g,0,none⟩) l.length cap∧l.length≤cap∧base≤g∧TxAt w g 0 l
theorem str_eq (x:Str):((B x).toList == [42])=(x == [42]):=by rw [ByteArray.toList_eq]; rfl
theorem readName_any (s:Str) (star:Bool) (w:World) (hl:s.length≤2000000) :
  Calls Tryz.prog 63 #[.string (B s),.bool star] w fun e w'=>(∃ v,e=.returned v∧NmR w' w.heap.size v (nmR star s))∧Below w.heap.size w w':=by
 have hs:(B s).size=s.length:=size_B s
 by_cases h60:(60:Int)<(s.length:Int)
 ·have hn:Hid (nmR star s=none):=if_neg (fun h=>by omega)
  go_enter Tryz.func63,Tryz.ntmps63
  go_wp2_with fail
  go_ret
  rw [aU hn]
  exact ⟨⟨_,rfl,rfl⟩,Below.refl _ _⟩
 have HSP:=aH (Ea.split_any s 46 w hl)
 have hlen:(Sp.spl 46 s).length≤61:=by have:=Sp.spl_len_le 46 s; omega
 have hmem : ∀ x∈Sp.spl 46 s,x.length≤60:=fun x hx=>by have:=Sp.spl_mem_len 46 s.length s (Nat.le_refl _) x hx; omega
 have HNN:Hid (∀ b,okSs star 0 (Sp.spl 46 s)=b→nmR star s=if b then some (Sp.spl 46 s) else none):=fun b hb=>by
  unfold nmR
  rw [hb]
  cases b
  ·exact if_neg (fun h=>by cases h.2)
  ·exact if_pos ⟨by omega,rfl⟩
 have HME:=aH hmem
 have HNE:Hid (Sp.spl 46 s≠[]):=Sp.spl_ne 46 s
 clear hmem
 generalize Sp.spl 46 s=L at *
 go_enter Tryz.func63,Tryz.ntmps63
 go_wp2_with fail
 refine (aU HSP).mono ?_
 rintro e w1 ⟨⟨v,rfl,hown⟩,hb1⟩
 obtain ⟨g,cap,rfl,hcap,hbg,htx⟩:=own_name hown (aU HNE)
 have HO:=aH (And.intro hbg (And.intro htx hb1))
 have hglt:=htx.1
 clear hown hb1 HSP hbg htx
 go_wp2_with fail
 go_loopw [6] (fun i wr=>∃ k:Nat,k≤L.length∧i=.int .i64 k∧okSs star 0 (L.take k)=true∧wr=w1) (fun i _=>L.length - (intOf i).toNat)
 case atStart=>exact ⟨0,Nat.zero_le _,rfl,rfl,rfl⟩
 case round =>
  obtain ⟨k,hk,rfl,hall,rfl⟩:=hrel
  have H:=aH hall
  clear hall
  by_cases hlt:k<L.length
  ·have hltI:(k:Int)<(L.length:Int):=by omega
   have hts:=aH (List.take_succ_eq_append_getElem hlt)
   obtain ⟨x,hx⟩ : ∃ x,x=L[k]:=⟨_,rfl⟩
   have hxl:x.length≤60:=by rw [hx]; exact aU HME _ (List.getElem_mem hlt)
   have hcell:wr.cell? ⟨g,k,none⟩=some (.string (B x)):=by
    have:=(aU HO).2.1.2 k hlt
    rw [Nat.zero_add] at this
    rw [hx]; exact this
   have HX:=aH hx
   clear hx
   have HLB:=aH (fun W=>Eb.label_any x W (by omega))
   have hse:=str_eq x
   have HON:Hid (okS star k x=true→okSs star 0 (L.take (k+1))=true):=fun h=>by
    rw [aU hts,okSs_snoc,aU H,List.length_take,Nat.min_eq_left hk,Nat.zero_add,← aU HX,h]; rfl
   have HOFF:Hid (okS star k x=false→nmR star s=none):=fun h=>by
    have:=okSs_bad star L 0 k hlt (by rw [Nat.zero_add,← aU HX]; exact h)
    rw [aU HNN false this]; rfl
   have HOK:Hid (okS star k x=(Pu.label x || (k == 0 && x == [42] && star))):=rfl
   cases hlb:Pu.label x
   ·have HLV:=aH hlb
    rw [hlb] at HLB HOK
    clear hlb
    have hbad:Hid ((k == 0 && x == [42] && star)=false→∃ v,Ending.returned (.slice none 0 0)=.returned v∧NmR wr w.heap.size v (nmR star s)):=fun h=>by
     rw [aU HOFF (by rw [aU HOK,h]; rfl)]
     exact ⟨_,rfl,rfl⟩
    by_cases hk0:k=0
    ·subst hk0
     cases hst:(x == [42])
     ·have HST:=aH hst
      rw [hst] at hse
      clear hst
      go_wp2_with fail
      refine (aU HLB _).mono ?_
      rintro e w2 ⟨rfl,rfl⟩
      go_wp2_with fail
      go_ret
      exact ⟨aU hbad (by rw [aU HST]; rfl),(aU HO).2.2⟩
     ·have HST:=aH hst
      rw [hst] at hse
      clear hst
      cases star
      ·go_wp2_with fail
       refine (aU HLB _).mono ?_
       rintro e w2 ⟨rfl,rfl⟩
       go_wp2_with fail
       go_ret
       exact ⟨aU hbad (by rw [aU HST]; rfl),(aU HO).2.2⟩
      ·have hgood:=aU HON (by rw [aU HOK,aU HST]; rfl)
       have HGD:=aH hgood
       clear hgood
       go_wp2_with fail
       refine (aU HLB _).mono ?_
       rintro e w2 ⟨rfl,rfl⟩
       go_wp2_with fail
       exact ⟨⟨0+1,by omega,by first | rfl | go_num,aU HGD,by first | rfl | trivial⟩,by simp [intOf]; omega⟩
    ·have hkI:(0:Int)<(k:Int):=by omega
     go_wp2_with fail
     refine (aU HLB _).mono ?_
     rintro e w2 ⟨rfl,rfl⟩
     go_wp2_with fail
     go_ret
     exact ⟨aU hbad (by rw [show (k == 0)=false by simpa using hk0]; rfl),(aU HO).2.2⟩
   ·rw [hlb] at HLB HOK
    clear hlb
    have hgood:=aU HON (by rw [aU HOK]; rfl)
    have HGD:=aH hgood
    clear hgood
    go_wp2_with fail
    refine (aU HLB _).mono ?_
    rintro e w2 ⟨rfl,rfl⟩
    go_wp2_with fail
    exact ⟨⟨k+1,by omega,by first | rfl | go_num,aU HGD,by first | rfl | trivial⟩,by simp [intOf]; omega⟩
  ·have hltI : ¬ (k:Int)<(L.length:Int):=by omega
   have hks:k=L.length:=by omega
   have hfull:=aU H
   rw [hks,List.take_length] at hfull
   have HF:=aH (aU HNN true hfull)
   clear hfull
   go_wp2_with fail
   go_ret
   rw [aU HF]
   exact ⟨⟨_,rfl,aU HNE,g,cap,rfl,hcap,(aU HO).1,(aU HO).2.1⟩,(aU HO).2.2⟩
end Ec
namespace Ed
open Ka Kb Re Wa Wb Ea Eb Ec
theorem str_ne (x y:Str):((B x).toList == (B y).toList)=(x == y):=by rw [ByteArray.toList_eq,ByteArray.toList_eq]; rfl
theorem take_eq {ls ms:List Str} {k:Nat} (h1:k<ls.length) (h2:k<ms.length) (h:ls.take k=ms.take k) (hx:ls[k]=ms[k]):ls.take (k+1)=ms.take (k+1):=by
 rw [List.take_succ_eq_append_getElem h1,List.take_succ_eq_append_getElem h2,h,hx]
theorem same_any (v u:Value) (ls ms:List Str) (w:World) (h1:NmV w v ls) (h2:NmV w u ms) (hl:ls.length≤1000) (hm:ms.length≤1000) :
  Calls Tryz.prog 117 #[v,u] w fun e w'=>e=.returned (.bool (decide (ls=ms)))∧Below w.heap.size w w':=by
 obtain ⟨g,off,cap,rfl,hc1,ht1⟩:=h1
 obtain ⟨g',off',cap',rfl,hc2,ht2⟩:=h2
 have hg1:=ht1.1
 have hg2:=ht2.1
 by_cases hne:ls.length=ms.length
 ·have hneI:((ls.length:Int) != (ms.length:Int))=false:=by rw [bne_eq_false_iff_eq]; omega
  have HT1:=aH ht1
  have HT2:=aH ht2
  have HE:=aH hne
  clear hne ht1 ht2
  go_enter Tryz.func117,Tryz.ntmps117
  go_wp2_with fail
  go_loopw [5] (fun i wr=>∃ k:Nat,k≤ls.length∧i=.int .i64 k∧ls.take k=ms.take k∧Below w.heap.size w wr) (fun i _=>ls.length - (intOf i).toNat)
  case atStart=>exact ⟨0,Nat.zero_le _,rfl,rfl,Below.refl _ _⟩
  case round =>
   obtain ⟨k,hk,rfl,heq,hb⟩:=hrel
   have HQ:=aH heq
   have HB:=aH hb
   by_cases hlt:k<ls.length
   ·have hltI:(k:Int)<(ls.length:Int):=by omega
    have hlt2:k<ms.length:=by have:=aU HE; omega
    have hlt2I:(k:Int)<(ms.length:Int):=by omega
    have c1:=((aU HT1).below hb).2 k hlt
    have c2:=((aU HT2).below hb).2 k hlt2
    obtain ⟨x,hx⟩ : ∃ x,x=ls[k]:=⟨_,rfl⟩
    obtain ⟨y,hy⟩ : ∃ y,y=ms[k]:=⟨_,rfl⟩
    rw [← hx] at c1
    rw [← hy] at c2
    have hse:=str_ne x y
    have HXY:=aH (And.intro hx hy)
    clear hx hy heq hb
    cases hxy:(x == y)
    ·have HN:=aH hxy
     rw [hxy] at hse
     clear hxy
     go_wp2_with fail
     go_quiet (fail)
     go_wp2_with fail
     go_ret
     refine ⟨ret_bool ?_,Rg.below_drewN (aU HB) nq⟩
     rw [decide_eq_false]
     rintro rfl
     have h:=aU HN
     rw [(aU HXY).1,(aU HXY).2] at h
     simp at h
    ·have HN:=aH hxy
     rw [hxy] at hse
     clear hxy
     go_wp2_with fail
     go_quiet (fail)
     go_wp2_with fail
     refine ⟨⟨k+1,by omega,by go_num,take_eq hlt hlt2 (aU HQ) ?_,Rg.below_drewN (aU HB) nq⟩,by simp [intOf]; omega⟩
     have h:=aU HN
     rw [(aU HXY).1,(aU HXY).2] at h
     simpa using h
   ·have hltI : ¬ (k:Int)<(ls.length:Int):=by omega
    have hk2:k=ls.length:=by omega
    have HALL:Hid (ls=ms):=by
     have h:=aU HQ
     rw [hk2,List.take_length,aU HE,List.take_length] at h
     exact h
    clear heq hb
    go_wp2_with fail
    go_ret
    exact ⟨ret_bool (by rw [decide_eq_true (aU HALL)]),aU HB⟩
 ·have hneI:((ls.length:Int) != (ms.length:Int))=true:=by rw [bne_iff_ne]; omega
  go_enter Tryz.func117,Tryz.ntmps117
  go_wp2_with fail
  go_ret
  exact ⟨ret_bool (by rw [decide_eq_false (fun h=>hne (by rw [h]))]),Below.refl _ _⟩
def undP (ls ms:List Str):Bool:=decide (ms.length≤ls.length) && decide (ls.drop (ls.length - ms.length)=ms)
theorem nm_drop {w:World} {g off cap:Nat} {ls:List Str} (h:TxAt w g off ls) (hc:ls.length≤cap) (k:Nat) (hk:k≤ls.length):NmV w (.slice (some ⟨g,off+k,none⟩) (ls.length - k) (cap - k)) (ls.drop k):=by
 refine ⟨g,off+k,cap - k,by rw [List.length_drop],by rw [List.length_drop]; omega,h.1,fun j hj=>?_⟩
 rw [List.length_drop] at hj
 rw [Nat.add_assoc,h.2 (k+j) (by omega),List.getElem_drop]
theorem under_any (v u:Value) (ls ms:List Str) (w:World) (h1:NmV w v ls) (h2:NmV w u ms) (hl:ls.length≤1000) (hm:ms.length≤1000) (hnm:0<ms.length) :
  Calls Tryz.prog 119 #[v,u] w fun e w'=>e=.returned (.bool (undP ls ms))∧Below w.heap.size w w':=by
 have HV2:=aH h2
 obtain ⟨g,off,cap,rfl,hc1,ht1⟩:=h1
 obtain ⟨g',off',cap',rfl,hc2,_⟩:=h2
 have hg1:=ht1.1
 by_cases hne:ms.length≤ls.length
 ·have hneI : ¬ (ls.length:Int)<(ms.length:Int):=by omega
  have HS:=aH (same_any _ _ _ ms w (nm_drop ht1 hc1 (ls.length - ms.length) (by omega)) (aU HV2) (by rw [List.length_drop]; omega) hm)
  have HU:Hid (undP ls ms=decide (ls.drop (ls.length - ms.length)=ms)):=by unfold undP; rw [Hid,decide_eq_true hne]; rfl
  obtain ⟨d,hd⟩ : ∃ d,d=ls.length - ms.length:=⟨_,rfl⟩
  rw [← hd] at HS HU
  have hdI:(ls.length:Int) - (ms.length:Int)=(d:Int):=by omega
  have hdl:d≤ls.length:=by omega
  clear ht1 hd hne
  go_enter Tryz.func119,Tryz.ntmps119
  have hcd : ¬ cap=d:=by omega
  go_wp2_with fail
  refine (aU HS).mono ?_
  rintro e w1 ⟨rfl,hb1⟩
  go_wp2_with fail
  go_ret
  exact ⟨ret_bool (aU HU).symm,hb1⟩
 ·have hneI:(ls.length:Int)<(ms.length:Int):=by omega
  go_enter Tryz.func119,Tryz.ntmps119
  go_wp2_with fail
  go_ret
  exact ⟨ret_bool (by unfold undP; rw [decide_eq_false hne]; rfl),Below.refl _ _⟩
def joinN:List Str→Str
 | []=>[]
 | [x]=>x
 | x :: y :: t=>x++46 :: joinN (y :: t)
theorem join_spl (c:Str):joinN (Sp.spl 46 c)=c:=by
 have key : ∀ (n:Nat) (c:Str),c.length≤n→joinN (Sp.spl 46 c)=c:=by
  intro n
  induction n with
  | zero=>intro c h; obtain rfl:c = []:=List.eq_nil_of_length_eq_zero (by omega); rfl
  | succ n ih =>
   intro c h
   cases c with
   | nil=>rfl
   | cons x r =>
    have hr:=ih r (by simp at h; omega)
    unfold Sp.spl
    split
    ·rename_i hx
     subst hx
     have hne:=Sp.spl_ne 46 r
     cases hs:Sp.spl 46 r with
     | nil=>exact absurd hs hne
     | cons a t =>
      rw [hs] at hr
      rw [joinN,hr]; rfl
    ·cases hs:Sp.spl 46 r with
     | nil=>exact absurd hs (Sp.spl_ne 46 r)
     | cons a t =>
      rw [hs] at hr
      cases t with
      | nil=>simp only [joinN] at hr ⊢; rw [hr]
      | cons b t=>simp only [joinN] at hr ⊢; rw [List.cons_append,hr]
 exact key c.length c (Nat.le_refl _)
end Ed
namespace Ee
open Ka Kb Re Wa Wb Ea Eb Ec Ed
theorem okT : ∀ (l:List Str) (i:Nat),okSs true i l=Sp.okAll i l
 | [],_=>rfl
 | h :: t,i=>by
  rw [okSs,Sp.okAll,okT t (i+1)]
  unfold okS Sp.okAt
  rw [Bool.and_true]
theorem okF : ∀ (l:List Str) (i:Nat),okSs false i l=l.all Pu.label
 | [],_=>rfl
 | h :: t,i=>by
  rw [okSs,okF t (i+1)]
  unfold okS
  rw [Bool.and_false,Bool.or_false,List.all_cons]
theorem okAll_all : ∀ (l:List Str) (i:Nat),0<i→Sp.okAll i l=l.all Pu.label
 | [],_,_=>rfl
 | h :: t,i,hi=>by
  rw [Sp.okAll,okAll_all t (i+1) (by omega),List.all_cons]
  unfold Sp.okAt
  rw [show (i == 0)=false by simp; omega]; simp
theorem nmT (s:Str):(nmR true s).isSome=Sp.valid s:=by
 unfold nmR Sp.valid
 rw [okT]
 by_cases h1:s.length≤60 <;> cases h2:Sp.okAll 0 (Sp.spl 46 s) <;> simp [h1]
theorem spl_first {a:Str} {t:List Str} {s:Str} (h:Sp.spl 46 s=a :: t) (ha:a≠[]):s.head? = a.head?:=by
 have:=join_spl s
 rw [h] at this
 rw [← this]
 cases t with
 | nil=>rfl
 | cons b t =>
  rw [joinN]
  cases a with
  | nil=>exact absurd rfl ha
  | cons x r=>rfl
theorem nmF (s:Str):(nmR false s).isSome=Sp.plain s:=by
 unfold nmR Sp.plain Sp.valid Sp.starred Lib.hasPrefix
 rw [okF]
 by_cases h1:s.length≤60
 ·have hne:=Sp.spl_ne 46 s
  cases hs:Sp.spl 46 s with
  | nil=>exact absurd hs hne
  | cons a t =>
   rw [Sp.okAll,okAll_all t 1 (by omega),List.all_cons]
   unfold Sp.okAt
   cases hl:Pu.label a
   · -- no label: a name only where it is the star
    simp only [Bool.false_and,Bool.false_or]
    by_cases hst:a = [42]
    ·have:=spl_first hs (by rw [hst]; simp)
     rw [hst] at this
     have hp:([42]:Str).isPrefixOf s=true:=by
      cases s with
      | nil=>simp at this
      | cons x r=>simp at this; subst this; simp [List.isPrefixOf]
     rw [hp]; simp
    ·rw [show (a == [42])=false by simpa using hst]; simp
   ·have hp:([42]:Str).isPrefixOf s=false:=by
     have ha:a≠[]:=by rintro rfl; simp [Pu.label] at hl
     have:=spl_first hs ha
     cases a with
     | nil=>exact absurd rfl ha
     | cons x r =>
      cases s with
      | nil=>rfl
      | cons y q =>
       simp at this
       subst this
       unfold Pu.label at hl
       simp only [Bool.and_eq_true,List.all_cons] at hl
       have hx:Pu.sign y=true:=hl.2.1
       have:y≠42:=by rintro rfl; revert hx; decide
       simp [List.isPrefixOf,Ne.symm this]
    rw [hp]
    cases t.all Pu.label <;> simp [h1]
 ·simp [h1]
theorem plain_any (s:Str) (w:World) (hl:s.length≤1000000) :
  Calls Tryz.prog 63 #[.string (B s),.bool false] w fun e w'=>((Sp.plain s=true∧∃ g n c,e=.returned (.slice (some ⟨g,0,none⟩) n c))∨(Sp.plain s=false∧e=.returned (.slice none 0 0)))∧Below w.heap.size w w':=by
 refine (readName_any s false w (by omega)).mono ?_
 rintro e w' ⟨⟨v,rfl,hv⟩,hb⟩
 refine ⟨?_,hb⟩
 have hn:=nmF s
 cases ho:nmR false s with
 | none =>
  rw [ho] at hv hn
  obtain rfl:v=.slice none 0 0:=hv
  exact .inr ⟨hn.symm,rfl⟩
 | some l =>
  rw [ho] at hv hn
  obtain ⟨_,g,cap,rfl,_⟩:=hv
  exact .inl ⟨hn.symm,g,_,cap,rfl⟩
def one1 (f:Str→Bool):List Str→Bool
 | [a]=>f a
 | _=>false
def two2 (f g:Str→Bool):List Str→Bool
 | [a,b]=>f a && g b
 | _=>false
def four4 (f:Str→Str→Str→Str→Bool):List Str→Bool
 | [a,b,c,d]=>f a b c d
 | _=>false
theorem one1_no {f:Str→Bool} {ls:List Str} (h:ls.length≠1):one1 f ls=false:=by
 match ls,h with
 | [],_=>rfl
 | [x],h=>exact absurd rfl h
 | x :: y :: t,_=>rfl
theorem two2_no {f g:Str→Bool} {ls:List Str} (h:ls.length≠2):two2 f g ls=false:=by
 match ls,h with
 | [],_=>rfl
 | [x],_=>rfl
 | [x,y],h=>exact absurd rfl h
 | x :: y :: z :: t,_=>rfl
theorem four4_no {f:Str→Str→Str→Str→Bool} {ls:List Str} (h:ls.length≠4):four4 f ls=false:=by
 match ls,h with
 | [],_=>rfl
 | [x],_=>rfl
 | [x,y],_=>rfl
 | [x,y,z],_=>rfl
 | [x,y,z,u],h=>exact absurd rfl h
 | x :: y :: z :: u :: v :: t,_=>rfl
theorem isD_name (k:Int) (hk:k=2∨k=5) (ls:List Str):Ke.isData k ls=one1 Sp.plain ls:=by
 rcases hk with rfl | rfl
 all_goals
  match ls with
  | []=>rfl
  | [x]=>rfl
  | x :: y :: t=>rfl
theorem isD_A (ls:List Str):Ke.isData 1 ls=one1 Ke.address ls:=by
 match ls with
 | []=>rfl
 | [x]=>rfl
 | x :: y :: t=>rfl
theorem isD_TXT (ls:List Str):Ke.isData 16 ls=one1 Pu.word ls:=by
 match ls with
 | []=>rfl
 | [x]=>rfl
 | x :: y :: t=>rfl
theorem isD_MX (ls:List Str):Ke.isData 15 ls=two2 (numB 65535) Sp.plain ls:=by
 match ls with
 | []=>rfl
 | [x]=>rfl
 | [x,y]=>rfl
 | x :: y :: z :: t=>rfl
theorem isD_SOA (ls:List Str):Ke.isData 6 ls=four4 (fun a b c d=>Sp.plain a && Sp.plain b && numB 4294967295 c && numB 86400 d) ls:=by
 match ls with
 | []=>rfl
 | [x]=>rfl
 | [x,y]=>rfl
 | [x,y,z]=>rfl
 | [x,y,z,u]=>rfl
 | x :: y :: z :: u :: v :: t=>rfl
theorem word_at {w:World} {g off:Nat} {ls:List Str} (h:TxAt w g off ls) (k:Nat) (x:Str) (hx:ls[k]? = some x):w.cell? ⟨g,off+k,none⟩=some (.string (B x)):=by
 obtain ⟨hk,rfl⟩:=List.getElem?_eq_some_iff.1 hx
 exact h.2 k hk
theorem data_name (k:Int) (hk:k=2∨k=5) (g off cap:Nat) (ls:List Str) (w:World) (h:TxAt w g off ls) (hl:ls.length≤3001) (hc:ls.length≤cap) (hw : ∀ x∈ls,x.length≤3000) :
  Calls Tryz.prog 116 #[.int .i64 k,.slice (some ⟨g,off,none⟩) ls.length cap] w fun e w'=>e=.returned (.bool (Ke.isData k ls))∧Below w.heap.size w w':=by
 have hg:=h.1
 have H:=aH h
 have HW:=aH hw
 clear h hw
 have HD:=aH (isD_name k hk ls)
 by_cases h1:ls.length=1
 ·obtain ⟨x,rfl⟩ : ∃ x,ls = [x]:=by
   match ls,h1 with
   | [x],_=>exact ⟨x,rfl⟩
  have c0:=word_at (aU H) 0 x rfl
  rw [Nat.add_zero] at c0
  have HP:=aH (plain_any x w (by have:=aU HW x (by simp); omega))
  have hlen:([x]:List Str).length=1:=rfl
  rw [hlen] at hc ⊢
  clear h1 hl hlen
  rcases hk with rfl | rfl
  all_goals
   go_enter Tryz.func116,Tryz.ntmps116
   go_wp2_with fail
   refine (aU HP).mono ?_
   rintro e w1 ⟨⟨hp,g',n',c',rfl⟩ | ⟨hp,rfl⟩,hb1⟩
   ·have HPP:=aH hp
    clear hp
    go_wp2_with fail
    go_ret
    exact ⟨ret_bool (by rw [aU HD]; exact (aU HPP).symm),hb1⟩
   ·have HPP:=aH hp
    clear hp
    go_wp2_with fail
    go_ret
    exact ⟨ret_bool (by rw [aU HD]; exact (aU HPP).symm),hb1⟩
 ·have h1I:((ls.length:Int) == 1)=false:=by rw [beq_eq_false_iff_ne]; omega
  have HDF:Hid (Ke.isData k ls=false):=(aU HD).trans (one1_no h1)
  clear h1
  rcases hk with rfl | rfl
  all_goals
   go_enter Tryz.func116,Tryz.ntmps116
   go_wp2_with fail
   go_ret
   exact ⟨ret_bool (aU HDF).symm,Below.refl _ _⟩
theorem data_MX (g off cap:Nat) (ls:List Str) (w:World) (h:TxAt w g off ls) (hl:ls.length≤3001) (hc:ls.length≤cap) (hw : ∀ x∈ls,x.length≤3000) :
  Calls Tryz.prog 116 #[.int .i64 15,.slice (some ⟨g,off,none⟩) ls.length cap] w fun e w'=>e=.returned (.bool (Ke.isData 15 ls))∧Below w.heap.size w w':=by
 have hg:=h.1
 have H:=aH h
 have HW:=aH hw
 clear h hw
 have HD:=aH (isD_MX ls)
 by_cases h1:ls.length=2
 ·obtain ⟨x,y,rfl⟩ : ∃ x y,ls = [x,y]:=by
   match ls,h1 with
   | [x,y],_=>exact ⟨x,y,rfl⟩
  have c0:=word_at (aU H) 0 x rfl
  have c1:=word_at (aU H) 1 y rfl
  rw [Nat.add_zero] at c0
  have HP:=aH (plain_any y w (by have:=aU HW y (by simp); omega))
  have HN:=aH (number_any x 65535 w (by have:=aU HW x (by simp); omega) (by omega))
  have hlen:([x,y]:List Str).length=2:=rfl
  rw [hlen] at hc ⊢
  have HDD:Hid (Ke.isData 15 [x,y]=(numB 65535 x && Sp.plain y)):=aU HD
  clear h1 hl hlen
  go_enter Tryz.func116,Tryz.ntmps116
  go_wp2_with fail
  refine (aU HN).mono ?_
  rintro e w1 ⟨⟨v,rfl,_⟩,hw1⟩
  subst hw1
  cases hn:numB 65535 x
  ·have HNN:=aH hn
   clear hn
   go_wp2_with fail
   go_ret
   exact ⟨ret_bool (by rw [aU HDD,aU HNN]; rfl),Below.refl _ _⟩
  ·have HNN:=aH hn
   clear hn
   go_wp2_with fail
   refine (aU HP).mono ?_
   rintro e w2 ⟨⟨hp,g',n',c',rfl⟩ | ⟨hp,rfl⟩,hb2⟩
   ·have HPP:=aH hp
    clear hp
    go_wp2_with fail
    go_ret
    exact ⟨ret_bool (by rw [aU HDD,aU HNN,aU HPP]; rfl),hb2⟩
   ·have HPP:=aH hp
    clear hp
    go_wp2_with fail
    go_ret
    exact ⟨ret_bool (by rw [aU HDD,aU HNN,aU HPP]; rfl),hb2⟩
 ·have h1I:((ls.length:Int) != 2)=true:=by rw [bne_iff_ne]; omega
  have HDF:Hid (Ke.isData 15 ls=false):=(aU HD).trans (two2_no h1)
  clear h1
  go_enter Tryz.func116,Tryz.ntmps116
  go_wp2_with fail
  go_ret
  exact ⟨ret_bool (aU HDF).symm,Below.refl _ _⟩
theorem data_SOA (g off cap:Nat) (ls:List Str) (w:World) (h:TxAt w g off ls) (hl:ls.length≤3001) (hc:ls.length≤cap) (hw : ∀ x∈ls,x.length≤3000) :
  Calls Tryz.prog 116 #[.int .i64 6,.slice (some ⟨g,off,none⟩) ls.length cap] w fun e w'=>e=.returned (.bool (Ke.isData 6 ls))∧Below w.heap.size w w':=by
 have hg:=h.1
 have H:=aH h
 have HW:=aH hw
 clear h hw
 have HD:=aH (isD_SOA ls)
 by_cases h1:ls.length=4
 ·obtain ⟨x,y,z,u,rfl⟩ : ∃ x y z u,ls = [x,y,z,u]:=by
   match ls,h1 with
   | [x,y,z,u],_=>exact ⟨x,y,z,u,rfl⟩
  have c0:=word_at (aU H) 0 x rfl
  have c1:=word_at (aU H) 1 y rfl
  have c2:=word_at (aU H) 2 z rfl
  have c3:=word_at (aU H) 3 u rfl
  rw [Nat.add_zero] at c0
  have HP0:=aH (plain_any x w (by have:=aU HW x (by simp); omega))
  have HP1:=aH (fun W=>plain_any y W (by have:=aU HW y (by simp); omega))
  have HN2:=aH (number_any z 4294967295 w (by have:=aU HW z (by simp); omega) (by omega))
  have HN3:=aH (number_any u 86400 w (by have:=aU HW u (by simp); omega) (by omega))
  have hlen:([x,y,z,u]:List Str).length=4:=rfl
  rw [hlen] at hc ⊢
  have HDD:Hid (Ke.isData 6 [x,y,z,u]=(Sp.plain x && Sp.plain y && numB 4294967295 z && numB 86400 u)):=aU HD
  clear h1 hl hlen
  go_enter Tryz.func116,Tryz.ntmps116
  go_wp2_with fail
  refine (aU HN2).mono ?_
  rintro e w1 ⟨⟨v,rfl,_⟩,hw1⟩
  subst hw1
  go_wp2_with fail
  refine (aU HN3).mono ?_
  rintro e w1 ⟨⟨v2,rfl,_⟩,hw1⟩
  subst hw1
  cases hn2:numB 4294967295 z
  ·have HNN:=aH hn2
   clear hn2
   go_wp2_with fail
   go_ret
   exact ⟨ret_bool (by rw [aU HDD,aU HNN]; simp),Below.refl _ _⟩
  cases hn3:numB 86400 u
  ·have HNN:=aH hn3
   clear hn3 hn2
   go_wp2_with fail
   go_ret
   exact ⟨ret_bool (by rw [aU HDD,aU HNN]; simp),Below.refl _ _⟩
  have HNN2:=aH hn2
  have HNN3:=aH hn3
  clear hn2 hn3
  go_wp2_with fail
  refine (aU HP0).mono ?_
  rintro e w2 ⟨⟨hp,g',n',c',rfl⟩ | ⟨hp,rfl⟩,hb2⟩
  ·have HPP:=aH hp
   have c1':=(hb2.cell (p:=⟨g,off+1,none⟩) hg).trans c1
   clear hp
   go_wp2_with fail
   refine (aU HP1 _).mono ?_
   rintro e w3 ⟨⟨hp,g2,n2,c2',rfl⟩ | ⟨hp,rfl⟩,hb3⟩
   ·have HPP2:=aH hp
    clear hp
    go_wp2_with fail
    go_ret
    exact ⟨ret_bool (by rw [aU HDD,aU HNN2,aU HNN3,aU HPP,aU HPP2]; rfl),hb2.trans (hb3.mono hb2.size)⟩
   ·have HPP2:=aH hp
    clear hp
    go_wp2_with fail
    go_ret
    exact ⟨ret_bool (by rw [aU HDD,aU HNN2,aU HNN3,aU HPP,aU HPP2]; rfl),hb2.trans (hb3.mono hb2.size)⟩
  ·have HPP:=aH hp
   clear hp
   go_wp2_with fail
   go_ret
   exact ⟨ret_bool (by rw [aU HDD,aU HPP]; rfl),hb2⟩
 ·have h1I:((ls.length:Int) != 4)=true:=by rw [bne_iff_ne]; omega
  have HDF:Hid (Ke.isData 6 ls=false):=(aU HD).trans (four4_no h1)
  clear h1
  go_enter Tryz.func116,Tryz.ntmps116
  go_wp2_with fail
  go_ret
  exact ⟨ret_bool (aU HDF).symm,Below.refl _ _⟩
end Ee
end Go.Proofs.YtkkpahmoljiepaaGreatDoor
