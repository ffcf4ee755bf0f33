/- The document's answer (beaconref): data of TXT and A; data of any kind. -/
import Derived.Test.YtkkpahmoljiepaaGreatDoorJ14
import Derived.Test.YtkkpahmoljiepaaGreatDoorJ03
import Derived.Test.YtkkpahmoljiepaaGreatDoorJ08
import Derived.Test.YtkkpahmoljiepaaGreatDoorJ09
import Derived.BigRegion
set_option linter.unusedSimpArgs false
set_option linter.unusedVariables false
set_option maxRecDepth 1000000
set_option maxHeartbeats 12800000
namespace Go.Proofs.YtkkpahmoljiepaaGreatDoor
open Go.RowKit
open Pu (Str aH aU)
namespace Ef
open Ka Kb Re Wa Wb Ea Eb Ec Ed Ee
theorem word_cases (x:UInt8):(Pu.wordI x.toNat=true∧33≤(x.toNat:Int)∧(x.toNat:Int)≤126)∨(Pu.wordI x.toNat=false∧((x.toNat:Int)<33∨126<(x.toNat:Int))):=by
 unfold Pu.wordI
 by_cases h:33≤(x.toNat:Int)∧(x.toNat:Int)≤126
 ·left; exact ⟨by simp; omega,h⟩
 ·right
  refine ⟨?_,by omega⟩
  rw [Bool.and_eq_false_iff,decide_eq_false_iff_not,decide_eq_false_iff_not]
  omega
theorem data_TXT (g off cap:Nat) (ls:List Str) (w:World) (h:TxAt w g off ls) (hl:ls.length≤3001) (hc:ls.length≤cap) (hw : ∀ x∈ls,x.length≤3000) :
  Calls Tryz.prog 116 #[.int .i64 16,.slice (some ⟨g,off,none⟩) ls.length cap] w fun e w'=>e=.returned (.bool (Ke.isData 16 ls))∧Below w.heap.size w w':=by
 have hg:=h.1
 have H:=aH h
 have HW:=aH hw
 clear h hw
 have HD:=aH (isD_TXT ls)
 by_cases h1:ls.length=1
 ·obtain ⟨x,rfl⟩ : ∃ x,ls = [x]:=by
   match ls,h1 with
   | [x],_=>exact ⟨x,rfl⟩
  have c0:=word_at (aU H) 0 x rfl
  rw [Nat.add_zero] at c0
  have hxl:=aU HW x (by simp)
  have hxs:(B x).size=x.length:=size_B x
  have hlen:([x]:List Str).length=1:=rfl
  rw [hlen] at hc ⊢
  have HDD:Hid (Ke.isData 16 [x]=Pu.word x):=aU HD
  clear h1 hl hlen HD HW H
  by_cases z1:(x.length:Int)<1
  ·have HF:Hid (Pu.word x=false):=by unfold Pu.word; rw [Hid]; simp; omega
   go_enter Tryz.func116,Tryz.ntmps116
   go_wp2_with fail
   go_ret
   exact ⟨ret_bool (by rw [aU HDD,aU HF]),Below.refl _ _⟩
  by_cases z2:(40:Int)<(x.length:Int)
  ·have HF:Hid (Pu.word x=false):=by unfold Pu.word; rw [Hid]; simp; omega
   go_enter Tryz.func116,Tryz.ntmps116
   go_wp2_with fail
   go_ret
   exact ⟨ret_bool (by rw [aU HDD,aU HF]),Below.refl _ _⟩
  go_enter Tryz.func116,Tryz.ntmps116
  go_wp2_with fail
  go_loopw [11] (fun i wr=>∃ k:Nat,k≤x.length∧i=.int .i64 k∧(x.take k).all (fun c=>Pu.wordI c.toNat)=true∧wr=w) (fun i _=>x.length - (intOf i).toNat)
  case atStart=>exact ⟨0,Nat.zero_le _,rfl,rfl,rfl⟩
  case round =>
   obtain ⟨k,hk,rfl,hall,rfl⟩:=hrel
   have HA:=aH hall
   clear hall
   by_cases hlt:k<x.length
   ·have hltI:(k:Int)<(x.length:Int):=by omega
    have hts:=aH (take_snoc x k hlt)
    obtain ⟨y,hy⟩ : ∃ y,y=x[k]:=⟨_,rfl⟩
    have g1 : ∀ h:k<(B x).size,(B x)[k]=y:=fun h=>hy.symm
    have HY:=aH hy
    clear hy
    rcases word_cases y with ⟨hb,h⟩ | ⟨hb,h⟩
    ·have HS:=aH hb
     clear hb
     go_wp2_with fail
     exact ⟨⟨k+1,by omega,by go_num,by rw [aU hts,List.all_append,aU HA,← aU HY]; simp [aU HS],by first | rfl | trivial⟩,by simp [intOf]; omega⟩
    ·have HS:=aH hb
     clear hb
     have HF:Hid (Pu.word x=false):=by
      have hmem:x[k]∈x:=List.getElem_mem hlt
      rw [Hid]
      unfold Pu.word
      have:x.all (fun c=>Pu.wordI c.toNat)=false:=by
       rw [List.all_eq_false]
       exact ⟨_,hmem,by rw [← aU HY,aU HS]; simp⟩
      rw [this]; rfl
     rcases h with h | h
     all_goals
      go_wp2_with fail
      go_ret
      exact ⟨ret_bool (by rw [aU HDD,aU HF]),Below.refl _ _⟩
   ·have hltI : ¬ (k:Int)<(x.length:Int):=by omega
    have hks:k=x.length:=by omega
    have HF:Hid (Pu.word x=true):=by
     have:=aU HA
     rw [hks,List.take_length] at this
     rw [Hid]
     unfold Pu.word
     rw [this]; simp; omega
    go_wp2_with fail
    go_ret
    exact ⟨ret_bool (by rw [aU HDD,aU HF]),Below.refl _ _⟩
 ·have h1I:((ls.length:Int) != 1)=true:=by rw [bne_iff_ne]; omega
  have HDF:Hid (Ke.isData 16 ls=false):=(aU HD).trans (one1_no h1)
  clear h1
  go_enter Tryz.func116,Tryz.ntmps116
  go_wp2_with fail
  go_ret
  exact ⟨ret_bool (aU HDF).symm,Below.refl _ _⟩
theorem data_A (g off cap:Nat) (ls:List Str) (w:World) (h:TxAt w g off ls) (hl:ls.length≤3001) (hc:ls.length≤cap) (hw : ∀ x∈ls,x.length≤3000) :
  Calls Tryz.prog 116 #[.int .i64 1,.slice (some ⟨g,off,none⟩) ls.length cap] w fun e w'=>e=.returned (.bool (Ke.isData 1 ls))∧Below w.heap.size w w':=by
 have hg:=h.1
 have H:=aH h
 have HW:=aH hw
 clear h hw
 have HD:=aH (isD_A ls)
 by_cases h1:ls.length=1
 ·obtain ⟨x,rfl⟩ : ∃ x,ls = [x]:=by
   match ls,h1 with
   | [x],_=>exact ⟨x,rfl⟩
  have c0:=word_at (aU H) 0 x rfl
  rw [Nat.add_zero] at c0
  have hxl:=aU HW x (by simp)
  have HSP:Hid (Calls Tryz.prog 62 #[.string (B x),.int .u8 46] w fun e w'=>(∃ v,e=.returned v∧StrsOwn w' w.heap.size v (Sp.spl 46 x))∧Below w.heap.size w w'):=Ea.split_any x 46 w (by omega)
  have hll:(Sp.spl 46 x).length≤3001:=by have:=Sp.spl_len_le 46 x; omega
  have HME:Hid (∀ y∈Sp.spl 46 x,y.length≤3000):=fun y hy=>by have:=Sp.spl_mem_len 46 x.length x (Nat.le_refl _) y hy; omega
  have HNE:Hid (Sp.spl 46 x≠[]):=Sp.spl_ne 46 x
  have hlen:([x]:List Str).length=1:=rfl
  rw [hlen] at hc ⊢
  have HDD:Hid (Ke.isData 1 [x]=((Sp.spl 46 x).all (numB 255) && (Sp.spl 46 x).length == 4)):=aU HD
  clear h1 hl hlen HD HW H
  generalize Sp.spl 46 x=L at *
  go_enter Tryz.func116,Tryz.ntmps116
  go_wp2_with fail
  refine (aU HSP).mono ?_
  rintro e w1 ⟨⟨v,rfl,hown⟩,hb1⟩
  obtain ⟨g2,cap2,rfl,hcap2,_,htx⟩:=own_name hown (aU HNE)
  have HTX:=aH htx
  have HB1:=aH hb1
  have hg2:=htx.1
  clear hown hb1 htx HSP c0
  go_wp2_with fail
  go_loopw [13] (fun i wr=>∃ k:Nat,k≤L.length∧i=.int .i64 k∧(L.take k).all (numB 255)=true∧wr=w1) (fun i _=>L.length - (intOf i).toNat)
  case atStart=>exact ⟨0,Nat.zero_le _,rfl,rfl,rfl⟩
  case round =>
   obtain ⟨k,hk,rfl,hall,rfl⟩:=hrel
   have HA:=aH hall
   clear hall
   by_cases hlt:k<L.length
   ·have hltI:(k:Int)<(L.length:Int):=by omega
    have hts:=aH (List.take_succ_eq_append_getElem hlt)
    obtain ⟨y,hy⟩ : ∃ y,y=L[k]:=⟨_,rfl⟩
    have c1:wr.cell? ⟨g2,k,none⟩=some (.string (B y)):=by
     have:=(aU HTX).2 k hlt
     rw [Nat.zero_add] at this
     rw [hy]; exact this
    have hyl:y.length≤3000:=by rw [hy]; exact aU HME _ (List.getElem_mem hlt)
    have HN:=aH (fun W=>number_any y 255 W (by omega) (by omega))
    have HY:=aH hy
    clear hy
    go_wp2_with fail
    refine (aU HN _).mono ?_
    rintro e w2 ⟨⟨v,rfl,_⟩,hw2⟩
    subst hw2
    cases hn:numB 255 y
    ·have HF:Hid (Ke.isData 1 [x]=false):=by
      rw [Hid,aU HDD]
      have:L.all (numB 255)=false:=by
       rw [List.all_eq_false]
       exact ⟨L[k],List.getElem_mem hlt,by rw [← aU HY,hn]; simp⟩
      rw [this]; rfl
     clear hn
     go_wp2_with fail
     go_ret
     exact ⟨ret_bool (aU HF).symm,aU HB1⟩
    ·have HG2:Hid ((L.take (k+1)).all (numB 255)=true):=by rw [Hid,aU hts,List.all_append,aU HA,← aU HY]; simp [hn]
     clear hn
     go_wp2_with fail
     exact ⟨⟨k+1,by omega,by go_num,aU HG2,by first | rfl | trivial⟩,by simp [intOf]; omega⟩
   ·have hltI : ¬ (k:Int)<(L.length:Int):=by omega
    have hks:k=L.length:=by omega
    have HF:Hid (Ke.isData 1 [x]=(L.length == 4)):=by
     have:=aU HA
     rw [hks,List.take_length] at this
     rw [Hid,aU HDD,this]; rfl
    by_cases h4:L.length=4
    ·have h4I:((L.length:Int) == 4)=true:=by rw [beq_iff_eq]; omega
     have H4:=aH h4
     clear h4
     go_wp2_with fail
     go_ret
     exact ⟨ret_bool (by rw [aU HF,aU H4]; rfl),aU HB1⟩
    ·have h4I:((L.length:Int) == 4)=false:=by rw [beq_eq_false_iff_ne]; omega
     have H4:=aH h4
     clear h4
     go_wp2_with fail
     go_ret
     exact ⟨ret_bool (by rw [aU HF]; exact (beq_eq_false_iff_ne.2 (aU H4)).symm),aU HB1⟩
 ·have h1I:((ls.length:Int) != 1)=true:=by rw [bne_iff_ne]; omega
  have HDF:Hid (Ke.isData 1 ls=false):=(aU HD).trans (one1_no h1)
  clear h1
  go_enter Tryz.func116,Tryz.ntmps116
  go_wp2_with fail
  go_ret
  exact ⟨ret_bool (aU HDF).symm,Below.refl _ _⟩
theorem kind_cases (l:Str):Pu.kindOf l=0∨Pu.kindOf l=1∨Pu.kindOf l=2∨Pu.kindOf l=5∨Pu.kindOf l=6∨Pu.kindOf l=15∨Pu.kindOf l=16:=by
 unfold Pu.kindOf
 split
 ·simp
 split
 ·simp
 split
 ·simp
 split
 ·simp
 split
 ·simp
 split
 ·simp
 ·simp
theorem data_any (kd:Str) (hk:0<Pu.kindOf kd) (g off cap:Nat) (ls:List Str) (w:World) (h:TxAt w g off ls) (hl:ls.length≤3001) (hc:ls.length≤cap) (hw : ∀ x∈ls,x.length≤3000) :
  Calls Tryz.prog 116 #[.int .i64 (Pu.kindOf kd),.slice (some ⟨g,off,none⟩) ls.length cap] w fun e w'=>e=.returned (.bool (Ke.isData (Pu.kindOf kd) ls))∧Below w.heap.size w w':=by
 rcases kind_cases kd with e | e | e | e | e | e | e
 ·omega
 ·rw [e]; exact data_A g off cap ls w h hl hc hw
 ·rw [e]; exact data_name 2 (.inl rfl) g off cap ls w h hl hc hw
 ·rw [e]; exact data_name 5 (.inr rfl) g off cap ls w h hl hc hw
 ·rw [e]; exact data_SOA g off cap ls w h hl hc hw
 ·rw [e]; exact data_MX g off cap ls w h hl hc hw
 ·rw [e]; exact data_TXT g off cap ls w h hl hc hw
theorem isD_zero (ls:List Str):Ke.isData 0 ls=false:=by
 unfold Ke.isData
 rw [if_neg (by decide),if_neg (by decide),if_neg (by decide),if_neg (by decide),if_neg (by decide)]
end Ef
namespace Ek
open Ka Ed
theorem cut_first (c:UInt8) : ∀ (l:Str),(c ∉ l∧Sp.spl c l = [l])∨∃ a b,l=a++c :: b∧c ∉ a∧Sp.spl c l=a :: Sp.spl c b
 | []=>.inl ⟨by simp,rfl⟩
 | x :: r=>by
  by_cases hx:x=c
  ·subst hx
   exact .inr ⟨[],r,rfl,by simp,Sp.spl_some x [] r (by simp)⟩
  ·rcases cut_first c r with ⟨h1,_⟩ | ⟨a,b,h1,h2,_⟩
   ·have hn:c ∉ x :: r:=by simp only [List.mem_cons,not_or]; exact ⟨fun e=>hx e.symm,h1⟩
    exact .inl ⟨hn,Sp.spl_none c _ hn⟩
   ·have hn:c ∉ x :: a:=by simp only [List.mem_cons,not_or]; exact ⟨fun e=>hx e.symm,h2⟩
    refine .inr ⟨x :: a,b,by rw [h1]; rfl,hn,?_⟩
    rw [h1]
    exact Sp.spl_some c (x :: a) b hn
def joinC (c:UInt8):List Str→Str
 | []=>[]
 | [x]=>x
 | x :: y :: t=>x++c :: joinC c (y :: t)
theorem joinC_spl (c:UInt8) (s:Str):joinC c (Sp.spl c s)=s:=by
 have key : ∀ (n:Nat) (s:Str),s.length≤n→joinC c (Sp.spl c s)=s:=by
  intro n
  induction n with
  | zero=>intro s h; obtain rfl:s = []:=List.eq_nil_of_length_eq_zero (by omega); rfl
  | succ n ih =>
   intro s h
   rcases cut_first c s with ⟨_,e⟩ | ⟨a,b,e1,_,e⟩
   ·rw [e]; rfl
   ·have hb:=ih b (by rw [e1] at h; simp at h; omega)
    rw [e]
    cases hs:Sp.spl c b with
    | nil=>exact absurd hs (Sp.spl_ne c b)
    | cons y t =>
     rw [hs] at hb
     rw [joinC,hb,e1]
 exact key s.length s (Nat.le_refl _)
theorem joinC_snoc (c:UInt8) (x:Str) : ∀ (l:List Str),l≠[]→joinC c (l++[x])=joinC c l++c :: x
 | [],h=>absurd rfl h
 | [y],_=>rfl
 | y :: z :: t,_=>by
  rw [List.cons_append,List.cons_append,joinC,← List.cons_append,joinC_snoc c x (z :: t) (by simp),joinC]
  simp
def recP:List Str→Option Rec
 | x0 :: x1 :: x2 :: y :: t=>if Sp.valid x0 && numB 86400 x1 && Ke.isData (Pu.kindOf x2) (y :: t) then some (x0,numV 86400 x1,Pu.kindOf x2,joinC 32 (y :: t)) else none
 | _=>none
theorem readRec_spl (s:Str):readRec s=recP (Sp.spl 32 s):=by
 unfold readRec Lib.splitN
 rcases cut_first 32 s with ⟨h0,e0⟩ | ⟨a,b,r0,h0,e0⟩
 ·rw [Sp.splitK_none 32 _ s h0,e0]; rfl
 have l0:s.length=a.length+1+b.length:=by rw [r0]; simp; omega
 obtain ⟨k0,hk0⟩ : ∃ k,min 4 (s.length+1) - 1=k+1:=⟨min 4 (s.length+1) - 2,by omega⟩
 rw [hk0,e0]
 conv=>lhs; rw [r0]
 rw [Sp.splitK_some 32 k0 a b h0]
 rcases cut_first 32 b with ⟨h1,e1⟩ | ⟨a1,b1,r1,h1,e1⟩
 ·rw [Sp.splitK_none 32 _ b h1,e1]; rfl
 have l1:b.length=a1.length+1+b1.length:=by rw [r1]; simp; omega
 obtain ⟨k1,hk1⟩ : ∃ k,k0=k+1:=⟨k0 - 1,by omega⟩
 rw [hk1,e1]
 conv=>lhs; rw [r1]
 rw [Sp.splitK_some 32 k1 a1 b1 h1]
 rcases cut_first 32 b1 with ⟨h2,e2⟩ | ⟨a2,b2,r2,h2,e2⟩
 ·rw [Sp.splitK_none 32 _ b1 h2,e2]; rfl
 have l2:b1.length=a2.length+1+b2.length:=by rw [r2]; simp; omega
 obtain rfl:k1=1:=by omega
 rw [e2]
 conv=>lhs; rw [r2]
 rw [Sp.splitK_some 32 0 a2 b2 h2]
 have hj:=joinC_spl 32 b2
 cases hs:Sp.spl 32 b2 with
 | nil=>exact absurd hs (Sp.spl_ne 32 b2)
 | cons y t =>
  rw [hs] at hj
  show (if Sp.valid a && numB 86400 a1 && Ke.isData (Pu.kindOf a2) (Sp.spl 32 b2) then some (a,numV 86400 a1,Pu.kindOf a2,b2) else none)=recP (a :: a1 :: a2 :: y :: t)
  rw [hs,recP,hj]
end Ek
namespace Em
open Ka Ed Ek Ia
theorem spl_app (c:UInt8) (b:Str) : ∀ (a:Str),Sp.spl c (a++c :: b)=Sp.spl c a++Sp.spl c b:=by
 intro a
 have key : ∀ (n:Nat) (a:Str),a.length≤n→Sp.spl c (a++c :: b)=Sp.spl c a++Sp.spl c b:=by
  intro n
  induction n with
  | zero=>intro a h; obtain rfl:a = []:=List.eq_nil_of_length_eq_zero (by omega); exact Sp.spl_some c [] b (by simp)
  | succ n ih =>
   intro a h
   rcases cut_first c a with ⟨h1,e⟩ | ⟨x,y,e1,h1,e⟩
   ·rw [e,Sp.spl_some c a b h1]; rfl
   ·rw [e,e1,List.append_assoc,List.cons_append,Sp.spl_some c x _ h1,ih y (by rw [e1] at h; simp at h; omega)]; rfl
 exact key a.length a (Nat.le_refl _)
theorem spl_inj {c:UInt8} {a b:Str} (h:Sp.spl c a=Sp.spl c b):a=b:=by
 rw [← joinC_spl c a,h,joinC_spl]
theorem joinC_app (c:UInt8) : ∀ (a b:List Str),a≠[]→b≠[]→joinC c (a++b)=joinC c a++c :: joinC c b
 | [],_,h,_=>absurd rfl h
 | [x],b,_,hb=>by
  cases b with
  | nil=>exact absurd rfl hb
  | cons y t=>rfl
 | x :: y :: t,b,_,hb=>by
  rw [List.cons_append,List.cons_append,joinC,← List.cons_append,joinC_app c (y :: t) b (by simp) hb,joinC]
  simp
theorem und_text (l o:Str):undP (Sp.spl 46 l) (Sp.spl 46 o)=Sp.under l o:=by
 have hne:=Sp.spl_ne 46 o
 unfold undP Sp.under Lib.hasSuffix
 rw [Bool.eq_iff_iff]
 simp only [Bool.and_eq_true,decide_eq_true_eq,Bool.or_eq_true,beq_iff_eq,List.isSuffixOf_iff_suffix]
 constructor
 ·rintro ⟨h1,h2⟩
  have hd:=List.take_append_drop ((Sp.spl 46 l).length - (Sp.spl 46 o).length) (Sp.spl 46 l)
  rw [h2] at hd
  cases hp:(Sp.spl 46 l).take ((Sp.spl 46 l).length - (Sp.spl 46 o).length) with
  | nil =>
   rw [hp,List.nil_append] at hd
   exact .inl (spl_inj hd.symm)
  | cons a t =>
   rw [hp] at hd
   refine .inr ⟨joinC 46 (a :: t),?_⟩
   have:=joinC_app 46 (a :: t) (Sp.spl 46 o) (by simp) hne
   rw [hd,joinC_spl,joinC_spl] at this
   exact this.symm
 ·rintro (rfl | ⟨a,ha⟩)
  ·exact ⟨Nat.le_refl _,by simp⟩
  ·rw [← ha,spl_app]
   exact ⟨by simp,by simp⟩
section
variable {κ:Type}
def Grp (k:Rec→κ):List Rec→Prop
 | []=>True
 | r :: t=>(∀ a b,t=a++b→(∃ x∈a,k x≠k r)→∀ y∈b,k y≠k r)∧Grp k t
theorem Grp.drop {k:Rec→κ} : ∀ (l:List Rec) (n:Nat),Grp k l→Grp k (l.drop n)
 | [],n,h=>by simp; trivial
 | r :: t,0,h=>h
 | r :: t,n+1,h=>by
  rw [List.drop_succ_cons]
  exact Grp.drop t n h.2
theorem drop_of {a b t:List Rec} (h:a++b=t):b=t.drop a.length:=by subst h; simp
theorem filter_of {a b t:List Rec} (h:a++b=t) (p:Rec→Bool):t.filter p=a.filter p++b.filter p:=by subst h; simp
theorem drop_while {k:Rec→κ} {r:Rec} {t:List Rec} (h:Grp k (r :: t)) (same:Rec→Rec→Bool) (hs : ∀ a b,same a b=true ↔ k a=k b) : ∀ y∈t.dropWhile (same r),k y≠k r:=by
 intro y hy
 cases hd:t.dropWhile (same r) with
 | nil=>rw [hd] at hy; cases hy
 | cons z u =>
  have hz:same r z=false:=by
   have:=List.head?_dropWhile_not (same r) t
   rw [hd] at this
   simpa using this
  have hzk:k z≠k r:=fun e=>by
   have:=(hs r z).2 e.symm
   rw [hz] at this; cases this
  rw [hd] at hy
  rcases List.mem_cons.1 hy with rfl | hy
  ·exact hzk
  ·have e:t=(t.takeWhile (same r)++[z])++u:=by
    have:=(List.takeWhile_append_dropWhile (p:=same r) (l:=t)).symm
    rw [hd] at this
    simpa using this
   exact h.1 _ _ e ⟨z,by simp,hzk⟩ y hy
theorem runs_grp {k:Rec→κ} (same:Rec→Rec→Bool) (hs : ∀ a b,same a b=true ↔ k a=k b) : ∀ (f n:Nat) (l:List Rec),l.length≤f→Grp k l →
  (∀ x∈runsP same f n l,∃ r∈l,x.2.head? = some r∧x.2=l.filter (same r))∧(∀ r∈l,∃ x∈runsP same f n l,x.2=l.filter (same r))
 | 0,n,l,hl,_=>by
  obtain rfl:l = []:=List.eq_nil_of_length_eq_zero (by omega)
  exact ⟨fun x hx=>(by cases hx),fun r hr=>(by cases hr)⟩
 | f+1,n,[],_,_=>⟨fun x hx=>(by cases hx),fun r hr=>(by cases hr)⟩
 | f+1,n,r :: t,hl,hg=>by
  have hrr:same r r=true:=(hs r r).2 rfl
  have hdw:=drop_while hg same hs
  have htd:=List.takeWhile_append_dropWhile (p:=same r) (l:=t)
  have hrest:Grp k (t.dropWhile (same r)):=by
   have e:t.dropWhile (same r)=t.drop (t.takeWhile (same r)).length:=drop_of htd
   rw [e]; exact Grp.drop t _ hg.2
  have hlen:(t.dropWhile (same r)).length≤f:=by
   have:=congrArg List.length htd
   rw [List.length_append] at this
   simp at hl; omega
  obtain ⟨i1,i2⟩:=runs_grp same hs f (n+1+(t.takeWhile (same r)).length) (t.dropWhile (same r)) hlen hrest
  have hft : ∀ y∈t.takeWhile (same r),same r y=true:=fun y hy=>by
   have:=List.all_takeWhile (p:=same r) (l:=t)
   exact List.all_eq_true.1 this y hy
  have hrun:(r :: t).filter (same r)=r :: t.takeWhile (same r):=by
   rw [List.filter_cons_of_pos hrr]
   congr 1
   rw [filter_of htd,List.filter_eq_self.2 hft,List.filter_eq_nil_iff.2 (fun y hy hc=>hdw y hy ((hs r y).1 hc).symm),List.append_nil]
  have hother : ∀ s∈t.dropWhile (same r),(r :: t).filter (same s)=(t.dropWhile (same r)).filter (same s):=fun s hsm=>by
   have hsr:=hdw s hsm
   have hn:same s r=false:=by
    rw [← Bool.not_eq_true,hs]; exact hsr
   rw [List.filter_cons_of_neg (by rw [hn]; simp)]
   rw [filter_of htd,List.filter_eq_nil_iff.2 (fun y hy hc=>?_),List.nil_append]
   have e1:=(hs r y).1 (hft y hy)
   have e2:=(hs s y).1 hc
   exact hsr (e2.trans e1.symm)
  have hmem : ∀ s∈t.dropWhile (same r),s∈t:=fun s hsm=>by rw [← htd]; exact List.mem_append_right _ hsm
  refine ⟨fun x hx=>?_,fun s hsm=>?_⟩
  ·rw [runsP] at hx
   rcases List.mem_cons.1 hx with rfl | hx
   ·exact ⟨r,by simp,rfl,hrun.symm⟩
   ·obtain ⟨s,h1,h2,h3⟩:=i1 x hx
    exact ⟨s,by simp [hmem s h1],h2,by rw [h3,hother s h1]⟩
  ·rw [runsP]
   rcases List.mem_cons.1 hsm with rfl | hsm
   ·exact ⟨_,List.mem_cons_self,hrun.symm⟩
   ·rw [← htd] at hsm
    rcases List.mem_append.1 hsm with h | h
    ·refine ⟨_,List.mem_cons_self,?_⟩
     have e:same s=same r:=by
      funext y
      have hk:=(hs r s).1 (hft s h)
      rw [Bool.eq_iff_iff,hs,hs,hk]
     rw [e]; exact hrun.symm
    ·obtain ⟨x,hx,e⟩:=i2 s h
     exact ⟨x,List.mem_cons_of_mem _ hx,by rw [e,hother s h]⟩
end
end Em
end Go.Proofs.YtkkpahmoljiepaaGreatDoor

namespace Go.Proofs.YtkkpahmoljiepaaGreatDoor
open Go.RowKit Go.Sort
open Pu (Str aH aU)
namespace Sc
section
variable {α:Type} (lt:α→α→Bool)
def mg:List α→List α→List α
 | [],ys=>ys
 | a :: xs,[]=>a :: xs
 | a :: xs,b :: ys=>if lt b a then b :: mg (a :: xs) ys else a :: mg xs (b :: ys)
termination_by xs ys=>xs.length+ys.length
structure Wk:Prop where
 tr : ∀ x y z,lt x y=true→lt y z=true→lt x z=true
 nt : ∀ x y z,lt x y=false→lt y z=false→lt x z=false
def Srt (l:List α):Prop:=l.Pairwise fun x y=>lt y x=false
@[simp] theorem mg_nil (l:List α):mg lt [] l=l:=by unfold mg; rfl
@[simp] theorem mg_nil' (l:List α):mg lt l []=l:=by cases l <;> simp [mg]
theorem mg_cons (a b:α) (xs ys:List α):mg lt (a :: xs) (b :: ys)=if lt b a then b :: mg lt (a :: xs) ys else a :: mg lt xs (b :: ys):=by
 conv=>lhs; unfold mg
theorem mg_lt {a b:α} (xs ys:List α) (h:lt b a=true):mg lt (a :: xs) (b :: ys)=b :: mg lt (a :: xs) ys:=by rw [mg_cons,if_pos h]
theorem mg_ge {a b:α} (xs ys:List α) (h:lt b a=false):mg lt (a :: xs) (b :: ys)=a :: mg lt xs (b :: ys):=by rw [mg_cons,if_neg (by simp [h])]
theorem mg_split (A2 B2:List α) : ∀ (A1 B1:List α),(∀ b∈B1,∀ a∈A2,lt b a=true)→(∀ a∈A1,∀ b∈B2,lt b a=false)→mg lt (A1++A2) (B1++B2)=mg lt A1 B1++mg lt A2 B2
 | [],[],_,_=>by simp
 | [],b :: B1,h,k=>by
  have ih:=mg_split A2 B2 [] B1 (fun b hb=>h b (by simp [hb])) k
  cases A2 with
  | nil=>simp
  | cons a A2 =>
   simp only [List.nil_append,mg_nil,List.cons_append] at ih ⊢
   rw [mg_lt lt _ _ (h b (by simp) a (by simp)),ih]
 | a :: A1,[],h,k=>by
  have ih:=mg_split A2 B2 A1 [] h (fun a ha=>k a (by simp [ha]))
  cases B2 with
  | nil=>simp
  | cons b B2 =>
   simp only [List.nil_append,mg_nil',List.cons_append] at ih ⊢
   rw [mg_ge lt _ _ (k a (by simp) b (by simp)),ih]
 | a :: A1,b :: B1,h,k=>by
  cases e:lt b a
  ·have ih:=mg_split A2 B2 A1 (b :: B1) h (fun a ha=>k a (by simp [ha]))
   simp only [List.cons_append] at ih ⊢
   rw [mg_ge lt _ _ e,mg_ge lt _ _ e,ih,List.cons_append]
  ·have ih:=mg_split A2 B2 (a :: A1) B1 (fun b hb=>h b (by simp [hb])) k
   simp only [List.cons_append] at ih ⊢
   rw [mg_lt lt _ _ e,mg_lt lt _ _ e,ih,List.cons_append]
termination_by A1 B1=>A1.length+B1.length
theorem mg_assoc (hw:Wk lt) : ∀ (A B C:List α),mg lt (mg lt A B) C=mg lt A (mg lt B C)
 | [],B,C=>by simp
 | a :: A,[],C=>by simp
 | a :: A,b :: B,[]=>by simp
 | a :: A,b :: B,c :: C=>by
  cases hba:lt b a
  ·cases hca:lt c a
   ·have ih:=mg_assoc hw A (b :: B) (c :: C)
    rw [mg_ge lt _ _ hba,mg_ge lt _ _ hca,ih]
    cases hcb:lt c b
    ·rw [mg_ge lt _ _ hcb,mg_ge lt _ _ hba]
    ·rw [mg_lt lt _ _ hcb,mg_ge lt _ _ hca]
   ·have hcb:lt c b=true:=by
     cases e:lt c b
     ·have:=hw.nt _ _ _ e hba; rw [hca] at this; cases this
     ·rfl
    have ih:=mg_assoc hw (a :: A) (b :: B) C
    rw [mg_lt lt _ _ hcb,mg_lt lt _ _ hca,← ih,mg_ge lt _ _ hba,mg_lt lt _ _ hca]
  ·cases hcb:lt c b
   ·have ih:=mg_assoc hw (a :: A) B (c :: C)
    rw [mg_lt lt _ _ hba,mg_ge lt _ _ hcb,mg_ge lt _ _ hcb,mg_lt lt _ _ hba,ih]
   ·have hca:=hw.tr _ _ _ hcb hba
    have ih:=mg_assoc hw (a :: A) (b :: B) C
    rw [mg_lt lt _ _ hcb,mg_lt lt _ _ hca,← ih,mg_lt lt _ _ hba,mg_lt lt _ _ hcb]
termination_by A B C=>A.length+B.length+C.length
def iso (l:List α):List α:=l.foldl (fun s x=>mg lt s [x]) []
theorem iso_snoc (l:List α) (x:α):iso lt (l++[x])=mg lt (iso lt l) [x]:=by simp [iso]
theorem iso_app (hw:Wk lt) (A B:List α):iso lt (A++B)=mg lt (iso lt A) (iso lt B):=by
 obtain ⟨n,hn⟩ : ∃ n,n=B.length:=⟨_,rfl⟩
 induction n generalizing B with
 | zero=>have:B = []:=List.length_eq_zero_iff.1 hn.symm; subst this; simp [iso]
 | succ n ih =>
  rcases List.eq_nil_or_concat B with rfl | ⟨B',x,rfl⟩
  ·simp at hn
  ·rw [List.concat_eq_append] at hn ⊢
   rw [← List.append_assoc,iso_snoc,iso_snoc,ih B' (by simp at hn; omega),mg_assoc lt hw]
theorem mg_len : ∀ (A B:List α),(mg lt A B).length=A.length+B.length
 | [],B=>by simp
 | a :: A,[]=>by simp
 | a :: A,b :: B=>by
  cases e:lt b a
  ·rw [mg_ge lt _ _ e,List.length_cons,mg_len A (b :: B)]; simp; omega
  ·rw [mg_lt lt _ _ e,List.length_cons,mg_len (a :: A) B]; simp; omega
termination_by A B=>A.length+B.length
theorem iso_len (l:List α):(iso lt l).length=l.length:=by
 obtain ⟨n,hn⟩ : ∃ n,n=l.length:=⟨_,rfl⟩
 induction n generalizing l with
 | zero=>have:l = []:=List.length_eq_zero_iff.1 hn.symm; subst this; simp [iso]
 | succ n ih =>
  rcases List.eq_nil_or_concat l with rfl | ⟨l',x,rfl⟩
  ·simp at hn
  ·rw [List.concat_eq_append] at hn ⊢
   rw [iso_snoc,mg_len,ih l' (by simp at hn; omega)]; simp
theorem mg_mem (z:α) : ∀ (A B:List α),z∈mg lt A B→z∈A∨z∈B
 | [],B,h=>by simpa using h
 | a :: A,[],h=>by simpa using h
 | a :: A,b :: B,h=>by
  cases e:lt b a
  ·rw [mg_ge lt _ _ e] at h
   rcases List.mem_cons.1 h with h | h
   ·exact .inl (by simp [h])
   ·exact (mg_mem z A (b :: B) h).imp (fun h=>List.mem_cons_of_mem _ h) id
  ·rw [mg_lt lt _ _ e] at h
   rcases List.mem_cons.1 h with h | h
   ·exact .inr (by simp [h])
   ·exact (mg_mem z (a :: A) B h).imp id (fun h=>List.mem_cons_of_mem _ h)
termination_by A B=>A.length+B.length
theorem as_of (hw:Wk lt) {x y:α} (h:lt x y=true) (hxx:lt x x=false):lt y x=false:=by
 cases e:lt y x
 ·rfl
 ·have:=hw.tr _ _ _ h e; rw [hxx] at this; cases this
theorem mg_srt (hw:Wk lt) (ir : ∀ x,lt x x=false) : ∀ (A B:List α),Srt lt A→Srt lt B→Srt lt (mg lt A B)
 | [],B,_,h=>by simpa using h
 | a :: A,[],h,_=>by simpa using h
 | a :: A,b :: B,hA,hB=>by
  have hA':=List.pairwise_cons.1 hA
  have hB':=List.pairwise_cons.1 hB
  cases e:lt b a
  ·rw [mg_ge lt _ _ e]
   refine List.pairwise_cons.2 ⟨fun z hz=>?_,mg_srt hw ir A (b :: B) hA'.2 hB⟩
   rcases mg_mem lt z _ _ hz with h | h
   ·exact hA'.1 z h
   ·rcases List.mem_cons.1 h with rfl | h
    ·exact e
    ·exact hw.nt _ _ _ (hB'.1 z h) e
  ·rw [mg_lt lt _ _ e]
   refine List.pairwise_cons.2 ⟨fun z hz=>?_,mg_srt hw ir (a :: A) B hA hB'.2⟩
   have hab:=as_of lt hw e (ir b)
   rcases mg_mem lt z _ _ hz with h | h
   ·rcases List.mem_cons.1 h with rfl | h
    ·exact hab
    ·exact hw.nt _ _ _ (hA'.1 z h) hab
   ·exact hB'.1 z h
termination_by A B=>A.length+B.length
theorem iso_srt (hw:Wk lt) (ir : ∀ x,lt x x=false) (l:List α):Srt lt (iso lt l):=by
 obtain ⟨n,hn⟩ : ∃ n,n=l.length:=⟨_,rfl⟩
 induction n generalizing l with
 | zero=>have:l = []:=List.length_eq_zero_iff.1 hn.symm; subst this; simp [iso,Srt]
 | succ n ih =>
  rcases List.eq_nil_or_concat l with rfl | ⟨l',x,rfl⟩
  ·simp at hn
  ·rw [List.concat_eq_append] at hn ⊢
   rw [iso_snoc]
   exact mg_srt lt hw ir _ _ (ih l' (by simp at hn; omega)) (by simp [Srt])
theorem mg_last (hw:Wk lt) {S:List α} {x y:α} (hs:Srt lt (S++[y])) (h:lt x y=false):mg lt (S++[y]) [x]=S++[y]++[x]:=by
 have:=mg_split lt [] [x] (S++[y]) [] (by simp) (fun a ha b hb=>by
  obtain rfl:b=x:=by simpa using hb
  rcases List.mem_append.1 ha with ha | ha
  ·exact hw.nt _ _ _ h ((List.pairwise_append.1 hs).2.2 a ha y (by simp))
  ·obtain rfl:a=y:=by simpa using ha
   exact h)
 simpa using this
theorem mg_one_lt {S:List α} {x y:α} (h:lt x y=true):mg lt (S++[y]) [x]=mg lt S [x]++[y]:=by
 have:=mg_split lt [y] [] S [x] (fun b hb a ha=>by
  obtain rfl:b=x:=by simpa using hb
  obtain rfl:a=y:=by simpa using ha
  exact h) (by simp)
 simpa using this
end
section
variable {α:Type} [Inhabited α] (lt:α→α→Bool)
theorem at_list {d:Array α} {X Z:List α} {u:α} (h:d.toList=X++u :: Z):d[X.length]! = u:=by
 obtain rfl:d=(X++u :: Z).toArray:=by rw [← h]
 simp
theorem swp_list {d:Array α} {X Y Z:List α} {u v:α} (h:d.toList=X++u :: (Y++v :: Z)):(swp d X.length (X.length+1+Y.length)).toList=X++v :: (Y++u :: Z):=by
 have hu:d[X.length]! = u:=at_list h
 have hv:d[X.length+1+Y.length]! = v:=by
  have:=at_list (d:=d) (X:=X++u :: Y) (u:=v) (Z:=Z) (by rw [h]; simp)
  rw [← this]; congr 1; simp; omega
 unfold swp
 rw [hu,hv,Array.toList_setIfInBounds,Array.toList_setIfInBounds,h]
 rw [List.set_append_right _ _ (by omega),Nat.sub_self,List.set_cons_zero]
 rw [List.set_append_right _ _ (by omega),show X.length+1+Y.length - X.length=Y.length+1 from by omega,List.set_cons_succ,List.set_append_right _ _ (by omega),Nat.sub_self,List.set_cons_zero]
theorem swp_comm (d:Array α) (i j:Nat) (h:i≠j):swp d i j=swp d j i:=by
 unfold swp
 rw [Array.setIfInBounds_comm _ _ h]
def swR:Nat→Nat→Nat→Array α→Array α
 | _,_,0,d=>d
 | a,b,n+1,d=>swR (a+1) (b+1) n (swp d a b)
theorem swR_list : ∀ (A B:List α) (d:Array α) (X Y Z:List α),A.length=B.length→d.toList=X++(A++(Y++(B++Z)))→(swR X.length (X.length+A.length+Y.length) A.length d).toList=X++(B++(Y++(A++Z)))
 | [],[],d,X,Y,Z,_,h=>by simpa [swR] using h
 | [],b :: B,_,_,_,_,h,_=>by simp at h
 | a :: A,[],_,_,_,_,h,_=>by simp at h
 | a :: A,b :: B,d,X,Y,Z,hl,h=>by
  have h1:d.toList=X++a :: ((A++Y)++b :: (B++Z)):=by rw [h]; simp
  have h2:=swp_list h1
  have ih:=swR_list A B (swp d X.length (X.length+1+(A++Y).length)) (X++[b]) (Y++[a]) Z (by simpa using hl) (by rw [h2]; simp)
  rw [List.length_cons,swR]
  rw [show X.length+(A.length+1)+Y.length=X.length+1+(A++Y).length from by simp; omega]
  have e1:(X++[b]).length=X.length+1:=by simp
  have e2:(X++[b]).length+A.length+(Y++[a]).length=X.length+1+(A++Y).length+1:=by simp; omega
  rw [e1] at ih e2
  rw [e2] at ih
  rw [ih]; simp
theorem ins_list (hw:Wk lt) : ∀ (n:Nat) (S:List α) (d:Array α) (P Q:List α) (x:α),S.length=n→Srt lt S→d.toList=P++(S++x :: Q)→(insInner lt P.length (P.length+n) d).toList=P++(mg lt S [x]++Q)
 | 0,S,d,P,Q,x,hn,_,h=>by
  obtain rfl:S = []:=List.length_eq_zero_iff.1 hn
  have:insInner lt P.length (P.length+0) d=d:=by
   cases e:P.length with
   | zero=>rfl
   | succ k=>rw [Nat.add_zero,insInner,if_neg (by simp)]
  rw [this,h]; simp
 | n+1,S,d,P,Q,x,hn,hs,h=>by
  rcases List.eq_nil_or_concat S with rfl | ⟨S',y,rfl⟩
  ·simp at hn
  ·rw [List.concat_eq_append] at *
   have hn':S'.length=n:=by simpa using hn
   have hy:d[P.length+n]! = y:=by
    have:=at_list (d:=d) (X:=P++S') (u:=y) (Z:=x :: Q) (by rw [h]; simp)
    rw [← this]; congr 1; simp; omega
   have hx:d[P.length+n+1]! = x:=by
    have:=at_list (d:=d) (X:=P++S'++[y]) (u:=x) (Z:=Q) (by rw [h]; simp)
    rw [← this]; congr 1; simp; omega
   rw [← Nat.add_assoc,insInner,hx,hy]
   cases e:lt x y
   ·rw [if_neg (by simp),mg_last lt hw hs e,h]; simp
   ·rw [if_pos (by simp; omega),mg_one_lt lt e,swp_comm _ _ _ (by omega)]
    have h2:=swp_list (d:=d) (X:=P++S') (Y:=[]) (Z:=Q) (u:=y) (v:=x) (by rw [h]; simp)
    rw [show (P++S').length=P.length+n from by simp; omega,show P.length+n+1+([]:List α).length=P.length+n+1 from rfl] at h2
    have:=ins_list hw n S' _ P (y :: Q) x hn' (List.pairwise_append.1 hs).1 (by rw [h2]; simp)
    rw [this]; simp
theorem out_list (hw:Wk lt) (ir : ∀ x,lt x x=false) (P Q:List α) : ∀ (f:Nat) (S1 S2:List α) (d:Array α),S2.length=f→d.toList=P++(iso lt S1++(S2++Q))→(insOuter lt P.length (P.length+S1.length+S2.length) (P.length+S1.length) d).toList=P++(iso lt (S1++S2)++Q)
 | 0,S1,S2,d,hf,h=>by
  obtain rfl:S2 = []:=List.length_eq_zero_iff.1 hf
  rw [insOuter,if_neg (by simp),h]; simp
 | f+1,S1,[],d,hf,h=>by simp at hf
 | f+1,S1,x :: S2,d,hf,h=>by
  rw [insOuter,if_pos (by simp)]
  have h2:=ins_list lt hw S1.length (iso lt S1) d P (S2++Q) x (iso_len lt _) (iso_srt lt hw ir _) (by rw [h]; simp)
  rw [← iso_snoc] at h2
  have ih:=out_list hw ir P Q f (S1++[x]) S2 _ (by simpa using hf) h2
  rw [show P.length+(S1++[x]).length=P.length+S1.length+1 from by simp; omega] at ih
  rw [show P.length+S1.length+(x :: S2).length=P.length+S1.length+1+S2.length from by simp; omega,ih]
  simp
theorem sort_list (hw:Wk lt) (ir : ∀ x,lt x x=false) (P S Q:List α) (d:Array α) (h:d.toList=P++(S++Q)):(insertionSort lt d P.length (P.length+S.length)).toList=P++(iso lt S++Q):=by
 unfold insertionSort
 cases S with
 | nil=>rw [insOuter,if_neg (by simp),h]; simp [iso]
 | cons x S =>
  have:=out_list lt hw ir P Q S.length [x] S d rfl (by rw [h]; simp [iso])
  rw [show P.length + [x].length=P.length+1 from rfl,show P.length+1+S.length=P.length+(x :: S).length from by simp; omega] at this
  rw [this]; simp
end
end Sc
end Go.Proofs.YtkkpahmoljiepaaGreatDoor

set_option maxRecDepth 1000000
set_option maxHeartbeats 12800000
namespace Go.Proofs.YtkkpahmoljiepaaGreatDoor
open Go.RowKit Go.Sort Go.Shelf
open Pu (Str aH aU)
namespace Sd
open Ka Kd Sa Sb Sc
theorem swR_size : ∀ (n a b:Nat) (d:Array Rec),(swR a b n d).size=d.size
 | 0,_,_,_=>rfl
 | n+1,a,b,d=>by rw [swR,swR_size n,size_swp]
theorem one_enc (x:Rec) : ∀ v∈Rec.enc x,v.oneCell'=true:=fun v hv=>by simp [Rec.enc] at hv; rcases hv with rfl | rfl | rfl | rfl <;> rfl
theorem swapRange_k (off k g cap a b n:Nat) (hk : ∀ x,(Rec.enc x).length=k) (zE : ∀ w,Sem.run Tryz.prog (Go.sizeOf 47) w=.ok k w) (d:Array Rec) (w:World) (hH:HoldsK Rec.enc k w g off d) (hg:g<w.heap.size) (ha:a+n≤b) (hb:b+n≤d.size) (hd:d.size≤3001) :
  Calls Tryz.prog 288 #[.slice (some ⟨g,off,none⟩) d.size cap,.int .i64 a,.int .i64 b,.int .i64 n,.func (.func 103) #[] #[]] w fun e w' =>
   e=.returned (.tuple #[])∧∃ q,w'=sortWorldK Rec.enc k w g off q (swR a b n d) #[]:=by
 have mixed:Tryz.prog.follows Departure.mixedOrders=true:=by kernel_rfl
 have aE:=Tryz.isAgg47
 have HK:Hid (∀ x,(Rec.enc x).length=k):=hk
 clear hk
 have HST:Hid (w=sortWorldK Rec.enc k w g off 0 d #[]):=by show w=_; unfold sortWorldK; rw [grow_empty]; exact (putRowK_self Rec.enc k w g off d hH).symm
 have HH:=aH hH
 have HG:=aH hg
 clear hH
 go_enter Tryz.func288,Tryz.ntmps288
 go_wp2
 go_loopg [10] n (fun g1 vi wr=>∃ (i q:Nat) (dk:Array Rec),vi=.int .i64 i∧i+g1=n∧dk.size=d.size∧wr=sortWorldK Rec.enc k w g off q dk #[]∧Hid (swR (a+i) (b+i) g1 dk=swR a b n d))
 case atStart=>exact ⟨0,0,d,rfl,by omega,rfl,aU HST,rfl⟩
 case round =>
  obtain ⟨i,q,dk,rfl,hi,hsk,rfl,HO⟩:=hrel
  by_cases hlt:i<n
  ·have hltz:(i:Int)<(n:Int):=by omega
   obtain ⟨gp,rfl⟩ : ∃ gp,gk=gp+1:=⟨gk - 1,by omega⟩
   obtain ⟨p,hp⟩ : ∃ p,p=a+i:=⟨_,rfl⟩
   obtain ⟨r,hr⟩ : ∃ r,r=b+i:=⟨_,rfl⟩
   have ep:(a:Int)+i=p:=by omega
   have er:(b:Int)+i=r:=by omega
   have hpz:(p:Int)<(d.size:Int):=by omega
   have hrz:(r:Int)<(d.size:Int):=by omega
   obtain ⟨xp,hxp⟩ : ∃ x,dk[p]! = x:=⟨_,rfl⟩
   obtain ⟨xr,hxr⟩ : ∃ x,dk[r]! = x:=⟨_,rfl⟩
   have hHd:HoldsK Rec.enc k (sortWorldK Rec.enc k w g off q dk #[]).drew g off dk:=holdsK_sortWorldK_c Rec.enc k w g off d dk _ _ (aU HH) hg hsk
   obtain ⟨wq,hwq⟩ : ∃ wq,wq=sortWorldK Rec.enc k w g off q dk #[]:=⟨_,rfl⟩
   rw [← hwq] at hHd ⊢
   have lp:Sem.run Tryz.prog (loadCellsFrom ⟨g,off+p*k,none⟩ 0 k #[]) wq.drew=.ok (Rec.enc xp).toArray wq.drew:=by rw [← hxp]; exact run_loadCellsFrom_list _ _ _ _ k (HK.out _) (HoldsK.cells hHd HK.out (by omega))
   have lr:Sem.run Tryz.prog (loadCellsFrom ⟨g,off+r*k,none⟩ 0 k #[]) wq.drew=.ok (Rec.enc xr).toArray wq.drew:=by rw [← hxr]; exact run_loadCellsFrom_list _ _ _ _ k (HK.out _) (HoldsK.cells hHd HK.out (by omega))
   have bnd : ∀ x,x<dk.size→x*k+k≤dk.size*k:=fun x hx=>by
    have:=Nat.mul_le_mul_right k (show x+1≤dk.size from hx); rwa [Nat.add_mul,Nat.one_mul] at this
   have s1:Sem.run Tryz.prog (storeCells ⟨g,off+p*k,none⟩ (Rec.enc xr) 0) wq.drew=.ok () (wq.drew.setCells g (off+p*k) (Rec.enc xr)):=stores_of_holds _ hHd (p*k) _ (by rw [HK.out,size_flatK]; exact bnd p (by omega)) (one_enc _)
   have s2:Sem.run Tryz.prog (storeCells ⟨g,off+r*k,none⟩ (Rec.enc xp) 0) (wq.drew.setCells g (off+p*k) (Rec.enc xr))=.ok () ((wq.drew.setCells g (off+p*k) (Rec.enc xr)).setCells g (off+r*k) (Rec.enc xp)) :=
    stores_of_holds _ (holds_setCells_c hHd (p*k) _ (by rw [HK.out,size_flatK]; exact bnd p (by omega))) (r*k) _ (by rw [HK.out,size_setMany,size_flatK]; exact bnd r (by omega)) (one_enc _)
   have HWQ:=aH hwq
   clear hHd hwq bnd
   obtain ⟨cP,hcP⟩ : ∃ c,c=Rec.enc xp:=⟨_,rfl⟩
   obtain ⟨cR,hcR⟩ : ∃ c,c=Rec.enc xr:=⟨_,rfl⟩
   have hsP:cP.length=k:=by rw [hcP]; exact HK.out _
   have hsR:cR.length=k:=by rw [hcR]; exact HK.out _
   rw [← hcR] at s1 lr
   rw [← hcP] at lp
   rw [← hcP,← hcR] at s2
   have CC:Hid (cP=Rec.enc xp∧cR=Rec.enc xr):=⟨hcP,hcR⟩
   clear hcP hcR
   have wP:IntKind.i64.wrap (p:Int)=(p:Int):=by rw [IntKind.wrap_i64]; omega
   have wR:IntKind.i64.wrap (r:Int)=(r:Int):=by rw [IntKind.wrap_i64]; omega
   have p0:(0:Int)≤(p:Int):=by omega
   have r0:(0:Int)≤(r:Int):=by omega
   have HE:Hid (i+(gp+1)=n∧p=a+i∧r=b+i∧dk[p]! = xp∧dk[r]! = xr∧dk.size=d.size∧i<n∧a+n≤b∧b+n≤d.size∧d.size≤3001):=⟨hi,hp,hr,hxp,hxr,hsk,hlt,ha,hb,hd⟩
   go_wp2_with fail
   clear hi hp hr hxp hxr hsk hlt ha hb hd hltz hg
   go_big_region_o
   all_goals
    clear lp lr s1 s2 aE zE mixed wP wR p0 r0 ep er hpz hrz
    have hib:i≤3001:=by obtain ⟨hi,hp,hr,hxp,hxr,hsk,hlt,ha,hb,hd⟩:=aU HE; omega
    go_wp2
    go_roundg gp
    case measure=>omega
    case rel =>
     obtain ⟨hi,hp,hr,hxp,hxr,hsk,hlt,ha,hb,hd⟩:=aU HE
     refine ⟨i+1,q+1,swp dk p r,by go_num,by omega,by rw [size_swp]; exact hsk,?_,(show Hid _ from ?_)⟩
     ·rw [CC.out.1,CC.out.2,aU HWQ,← hxp,← hxr]
      exact sortWorldK_swp_c Rec.enc k w g off HK.out q dk #[] (aU HG) p r (by omega) (by omega)
     ·show _=_
      rw [← aU HO,hp,hr,swR]
      rfl
  ·have hltz : ¬ (i:Int)<(n:Int):=by omega
   obtain rfl:gk=0:=by omega
   go_wp2
   go_end0
   exact ⟨rfl,q,by rw [← aU HO]; rfl⟩
theorem swapRange_any (g cap a b n:Nat) (d:Array Rec) (w:World) (hH:HoldsK Rec.enc 4 w g 0 d) (hg:g<w.heap.size) (ha:a+n≤b) (hb:b+n≤d.size) (hd:d.size≤3001) :
  Calls Tryz.prog 288 #[.slice (some ⟨g,0,none⟩) d.size cap,.int .i64 a,.int .i64 b,.int .i64 n,.func (.func 103) #[] #[]] w fun e w' =>
   e=.returned (.tuple #[])∧∃ q,w'=sortWorldK Rec.enc 4 w g 0 q (swR a b n d) #[] :=
 swapRange_k 0 4 g cap a b n (fun _=>rfl) Tryz.sizeOf47 d w hH hg ha hb hd
end Sd
end Go.Proofs.YtkkpahmoljiepaaGreatDoor
