/- The document's answer (beaconref): names: same, under, text. -/
import Derived.Test.YtkkpahmoljiepaaGreatDoorJ13
import Derived.Test.YtkkpahmoljiepaaGreatDoorJ03
import Derived.BigQuiet
import Derived.Test.YtkkpahmoljiepaaGreatDoorJ01
import Derived.Test.YtkkpahmoljiepaaGreatDoorJ02
set_option linter.unusedSimpArgs false
set_option linter.unusedVariables false
set_option maxRecDepth 1000000
set_option maxHeartbeats 12800000
namespace Go.Proofs.YtkkpahmoljiepaaGreatDoor
open Go.RowKit
open Pu (Str aH aU)
namespace Ed
open Ka Kb Re Wa Wb Ea Eb Ec
theorem str_ne (x y:Str):((B x).toList == (B y).toList)=(x == y):=by rw [ByteArray.toList_eq,ByteArray.toList_eq]; rfl
theorem take_eq {ls ms:List Str} {k:Nat} (h1:k<ls.length) (h2:k<ms.length) (h:ls.take k=ms.take k) (hx:ls[k]=ms[k]):ls.take (k+1)=ms.take (k+1):=by
 rw [List.take_succ_eq_append_getElem h1,List.take_succ_eq_append_getElem h2,h,hx]
theorem same_any (v u:Value) (ls ms:List Str) (w:World) (h1:NmV w v ls) (h2:NmV w u ms) (hl:ls.length≤1000) (hm:ms.length≤1000) :
  Calls Tryz.prog 117 #[v,u] w fun e w'=>e=.returned (.bool (decide (ls=ms)))∧Below w.heap.size w w':=by
 obtain ⟨g,off,cap,rfl,hc1,ht1⟩:=h1
 obtain ⟨g',off',cap',rfl,hc2,ht2⟩:=h2
 have hg1:=ht1.1
 have hg2:=ht2.1
 by_cases hne:ls.length=ms.length
 ·have hneI:((ls.length:Int) != (ms.length:Int))=false:=by rw [bne_eq_false_iff_eq]; omega
  have HT1:=aH ht1
  have HT2:=aH ht2
  have HE:=aH hne
  clear hne ht1 ht2
  go_enter Tryz.func117,Tryz.ntmps117
  go_wp2_with fail
  go_loopw [5] (fun i wr=>∃ k:Nat,k≤ls.length∧i=.int .i64 k∧ls.take k=ms.take k∧Below w.heap.size w wr) (fun i _=>ls.length - (intOf i).toNat)
  case atStart=>exact ⟨0,Nat.zero_le _,rfl,rfl,Below.refl _ _⟩
  case round =>
   obtain ⟨k,hk,rfl,heq,hb⟩:=hrel
   have HQ:=aH heq
   have HB:=aH hb
   by_cases hlt:k<ls.length
   ·have hltI:(k:Int)<(ls.length:Int):=by omega
    have hlt2:k<ms.length:=by have:=aU HE; omega
    have hlt2I:(k:Int)<(ms.length:Int):=by omega
    have c1:=((aU HT1).below hb).2 k hlt
    have c2:=((aU HT2).below hb).2 k hlt2
    obtain ⟨x,hx⟩ : ∃ x,x=ls[k]:=⟨_,rfl⟩
    obtain ⟨y,hy⟩ : ∃ y,y=ms[k]:=⟨_,rfl⟩
    rw [← hx] at c1
    rw [← hy] at c2
    have hse:=str_ne x y
    have HXY:=aH (And.intro hx hy)
    clear hx hy heq hb
    cases hxy:(x == y)
    ·have HN:=aH hxy
     rw [hxy] at hse
     clear hxy
     go_wp2_with fail
     go_quiet (fail)
     go_wp2_with fail
     go_ret
     refine ⟨ret_bool ?_,Rg.below_drewN (aU HB) nq⟩
     rw [decide_eq_false]
     rintro rfl
     have h:=aU HN
     rw [(aU HXY).1,(aU HXY).2] at h
     simp at h
    ·have HN:=aH hxy
     rw [hxy] at hse
     clear hxy
     go_wp2_with fail
     go_quiet (fail)
     go_wp2_with fail
     refine ⟨⟨k+1,by omega,by go_num,take_eq hlt hlt2 (aU HQ) ?_,Rg.below_drewN (aU HB) nq⟩,by simp [intOf]; omega⟩
     have h:=aU HN
     rw [(aU HXY).1,(aU HXY).2] at h
     simpa using h
   ·have hltI : ¬ (k:Int)<(ls.length:Int):=by omega
    have hk2:k=ls.length:=by omega
    have HALL:Hid (ls=ms):=by
     have h:=aU HQ
     rw [hk2,List.take_length,aU HE,List.take_length] at h
     exact h
    clear heq hb
    go_wp2_with fail
    go_ret
    exact ⟨ret_bool (by rw [decide_eq_true (aU HALL)]),aU HB⟩
 ·have hneI:((ls.length:Int) != (ms.length:Int))=true:=by rw [bne_iff_ne]; omega
  go_enter Tryz.func117,Tryz.ntmps117
  go_wp2_with fail
  go_ret
  exact ⟨ret_bool (by rw [decide_eq_false (fun h=>hne (by rw [h]))]),Below.refl _ _⟩
def undP (ls ms:List Str):Bool:=decide (ms.length≤ls.length) && decide (ls.drop (ls.length - ms.length)=ms)
theorem nm_drop {w:World} {g off cap:Nat} {ls:List Str} (h:TxAt w g off ls) (hc:ls.length≤cap) (k:Nat) (hk:k≤ls.length):NmV w (.slice (some ⟨g,off+k,none⟩) (ls.length - k) (cap - k)) (ls.drop k):=by
 refine ⟨g,off+k,cap - k,by rw [List.length_drop],by rw [List.length_drop]; omega,h.1,fun j hj=>?_⟩
 rw [List.length_drop] at hj
 rw [Nat.add_assoc,h.2 (k+j) (by omega),List.getElem_drop]
theorem under_any (v u:Value) (ls ms:List Str) (w:World) (h1:NmV w v ls) (h2:NmV w u ms) (hl:ls.length≤1000) (hm:ms.length≤1000) (hnm:0<ms.length) :
  Calls Tryz.prog 119 #[v,u] w fun e w'=>e=.returned (.bool (undP ls ms))∧Below w.heap.size w w':=by
 have HV2:=aH h2
 obtain ⟨g,off,cap,rfl,hc1,ht1⟩:=h1
 obtain ⟨g',off',cap',rfl,hc2,_⟩:=h2
 have hg1:=ht1.1
 by_cases hne:ms.length≤ls.length
 ·have hneI : ¬ (ls.length:Int)<(ms.length:Int):=by omega
  have HS:=aH (same_any _ _ _ ms w (nm_drop ht1 hc1 (ls.length - ms.length) (by omega)) (aU HV2) (by rw [List.length_drop]; omega) hm)
  have HU:Hid (undP ls ms=decide (ls.drop (ls.length - ms.length)=ms)):=by unfold undP; rw [Hid,decide_eq_true hne]; rfl
  obtain ⟨d,hd⟩ : ∃ d,d=ls.length - ms.length:=⟨_,rfl⟩
  rw [← hd] at HS HU
  have hdI:(ls.length:Int) - (ms.length:Int)=(d:Int):=by omega
  have hdl:d≤ls.length:=by omega
  clear ht1 hd hne
  go_enter Tryz.func119,Tryz.ntmps119
  have hcd : ¬ cap=d:=by omega
  go_wp2_with fail
  refine (aU HS).mono ?_
  rintro e w1 ⟨rfl,hb1⟩
  go_wp2_with fail
  go_ret
  exact ⟨ret_bool (aU HU).symm,hb1⟩
 ·have hneI:(ls.length:Int)<(ms.length:Int):=by omega
  go_enter Tryz.func119,Tryz.ntmps119
  go_wp2_with fail
  go_ret
  exact ⟨ret_bool (by unfold undP; rw [decide_eq_false hne]; rfl),Below.refl _ _⟩
def joinN:List Str→Str
 | []=>[]
 | [x]=>x
 | x :: y :: t=>x++46 :: joinN (y :: t)
theorem joinN_snoc (x:Str) : ∀ (l:List Str),l≠[]→joinN (l++[x])=joinN l++46 :: x
 | [],h=>absurd rfl h
 | [y],_=>rfl
 | y :: z :: t,_=>by
  rw [List.cons_append,List.cons_append,joinN,← List.cons_append,joinN_snoc x (z :: t) (by simp),joinN]
  simp
theorem join_spl (c:Str):joinN (Sp.spl 46 c)=c:=by
 have key : ∀ (n:Nat) (c:Str),c.length≤n→joinN (Sp.spl 46 c)=c:=by
  intro n
  induction n with
  | zero=>intro c h; obtain rfl:c = []:=List.eq_nil_of_length_eq_zero (by omega); rfl
  | succ n ih =>
   intro c h
   cases c with
   | nil=>rfl
   | cons x r =>
    have hr:=ih r (by simp at h; omega)
    unfold Sp.spl
    split
    ·rename_i hx
     subst hx
     have hne:=Sp.spl_ne 46 r
     cases hs:Sp.spl 46 r with
     | nil=>exact absurd hs hne
     | cons a t =>
      rw [hs] at hr
      rw [joinN,hr]; rfl
    ·cases hs:Sp.spl 46 r with
     | nil=>exact absurd hs (Sp.spl_ne 46 r)
     | cons a t =>
      rw [hs] at hr
      cases t with
      | nil=>simp only [joinN] at hr ⊢; rw [hr]
      | cons b t=>simp only [joinN] at hr ⊢; rw [List.cons_append,hr]
 exact key c.length c (Nat.le_refl _)
theorem joinN_len : ∀ (l:List Str) (m:Nat),(∀ x∈l,x.length≤m)→(joinN l).length≤l.length*(m+1)
 | [],m,_=>by simp [joinN]
 | [x],m,h=>by have:=h x (by simp); simp [joinN]; omega
 | x :: y :: t,m,h=>by
  have h1:=h x (by simp)
  have h2:=joinN_len (y :: t) m (fun z hz=>h z (by simp [List.mem_cons.1 hz]))
  rw [joinN,List.length_append,List.length_cons]
  simp only [List.length_cons,Nat.add_mul] at h2 ⊢
  omega
theorem text_any (v:Value) (ls:List Str) (w:World) (h1:NmV w v ls) (hl:ls.length≤1000) (hm : ∀ x∈ls,x.length≤1000) :
  Calls Tryz.prog 188 #[v] w fun e w'=>e=.returned (.string (B (joinN ls)))∧w'=w:=by
 obtain ⟨g,off,cap,rfl,hc1,ht1⟩:=h1
 have HT:=aH ht1
 have hg1:=ht1.1
 have HM:=aH hm
 clear ht1 hm
 go_enter Tryz.func188,Tryz.ntmps188
 go_wp2_with fail
 go_loopw [3,4] (fun s i wr=>∃ k:Nat,k≤ls.length∧i=.int .i64 k∧s=.string (B (joinN (ls.take k)))∧wr=w) (fun _ i _=>ls.length - (intOf i).toNat)
 case atStart=>exact ⟨0,Nat.zero_le _,rfl,rfl,rfl⟩
 case round =>
  obtain ⟨k,hk,rfl,rfl,rfl⟩:=hrel
  have hjl:=joinN_len (ls.take k) 1000 (fun x hx=>aU HM x (List.mem_of_mem_take hx))
  have hjs:(B (joinN (ls.take k))).size≤1001000:=by
   rw [size_B]
   have:(ls.take k).length≤1000:=by rw [List.length_take]; omega
   have:=Nat.mul_le_mul_right (1000+1) this
   omega
  by_cases hlt:k<ls.length
  ·have hltI:(k:Int)<(ls.length:Int):=by omega
   have c1:=(aU HT).2 k hlt
   have hxl:=aU HM ls[k] (List.getElem_mem hlt)
   have ht:=List.take_succ_eq_append_getElem hlt
   obtain ⟨x,hx⟩ : ∃ x,x=ls[k]:=⟨_,rfl⟩
   rw [← hx] at c1 hxl ht
   have hxs:(B x).size≤1000:=by rw [size_B]; exact hxl
   by_cases hk0:k=0
   ·subst hk0
    have HFIN:Hid (B (joinN (ls.take 0))++B x=B (joinN (ls.take (0+1)))):=by
     rw [Hid,ht]; exact rfl
    rw [Nat.add_zero] at c1
    clear ht hx hjl
    generalize B (joinN (ls.take 0))=S at *
    generalize B x=X at *
    go_wp2_with fail
    exact ⟨⟨0+1,by omega,by first | rfl | go_num,congrArg Value.string (aU HFIN),by first | rfl | trivial⟩,by simp [intOf]; omega⟩
   ·have hkI:(0:Int)<(k:Int):=by omega
    have HFIN:Hid (B (joinN (ls.take k))++⟨#[46]⟩++B x=B (joinN (ls.take (k+1)))):=by
     rw [Hid,ht,joinN_snoc x _ (by intro h; have:=congrArg List.length h; rw [List.length_take,List.length_nil] at this; omega)]
     apply ByteArray.ext
     simp [B]
    clear ht hx hjl hk0
    generalize B (joinN (ls.take k))=S at *
    generalize B x=X at *
    go_wp2_with fail
    exact ⟨⟨k+1,by omega,by first | rfl | go_num,congrArg Value.string (aU HFIN),by first | rfl | trivial⟩,by simp [intOf]; omega⟩
  ·have hltI : ¬ (k:Int)<(ls.length:Int):=by omega
   have hk2:k=ls.length:=by omega
   have HFIN:Hid (B (joinN (ls.take k))=B (joinN ls)):=by rw [hk2,List.take_length]; rfl
   clear hjl
   generalize B (joinN (ls.take k))=S at *
   go_wp2_with fail
   go_ret
   exact ⟨congrArg (fun x=>Ending.returned (.string x)) (aU HFIN),by first | rfl | trivial⟩
end Ed
namespace Ee
open Ka Kb Re Wa Wb Ea Eb Ec Ed
theorem okT : ∀ (l:List Str) (i:Nat),okSs true i l=Sp.okAll i l
 | [],_=>rfl
 | h :: t,i=>by
  rw [okSs,Sp.okAll,okT t (i+1)]
  unfold okS Sp.okAt
  rw [Bool.and_true]
theorem okF : ∀ (l:List Str) (i:Nat),okSs false i l=l.all Pu.label
 | [],_=>rfl
 | h :: t,i=>by
  rw [okSs,okF t (i+1)]
  unfold okS
  rw [Bool.and_false,Bool.or_false,List.all_cons]
theorem okAll_all : ∀ (l:List Str) (i:Nat),0<i→Sp.okAll i l=l.all Pu.label
 | [],_,_=>rfl
 | h :: t,i,hi=>by
  rw [Sp.okAll,okAll_all t (i+1) (by omega),List.all_cons]
  unfold Sp.okAt
  rw [show (i == 0)=false by simp; omega]; simp
theorem nmT (s:Str):(nmR true s).isSome=Sp.valid s:=by
 unfold nmR Sp.valid
 rw [okT]
 by_cases h1:s.length≤60 <;> cases h2:Sp.okAll 0 (Sp.spl 46 s) <;> simp [h1]
theorem spl_first {a:Str} {t:List Str} {s:Str} (h:Sp.spl 46 s=a :: t) (ha:a≠[]):s.head? = a.head?:=by
 have:=join_spl s
 rw [h] at this
 rw [← this]
 cases t with
 | nil=>rfl
 | cons b t =>
  rw [joinN]
  cases a with
  | nil=>exact absurd rfl ha
  | cons x r=>rfl
theorem nmF (s:Str):(nmR false s).isSome=Sp.plain s:=by
 unfold nmR Sp.plain Sp.valid Sp.starred Lib.hasPrefix
 rw [okF]
 by_cases h1:s.length≤60
 ·have hne:=Sp.spl_ne 46 s
  cases hs:Sp.spl 46 s with
  | nil=>exact absurd hs hne
  | cons a t =>
   rw [Sp.okAll,okAll_all t 1 (by omega),List.all_cons]
   unfold Sp.okAt
   cases hl:Pu.label a
   · -- no label: a name only where it is the star
    simp only [Bool.false_and,Bool.false_or]
    by_cases hst:a = [42]
    ·have:=spl_first hs (by rw [hst]; simp)
     rw [hst] at this
     have hp:([42]:Str).isPrefixOf s=true:=by
      cases s with
      | nil=>simp at this
      | cons x r=>simp at this; subst this; simp [List.isPrefixOf]
     rw [hp]; simp
    ·rw [show (a == [42])=false by simpa using hst]; simp
   ·have hp:([42]:Str).isPrefixOf s=false:=by
     have ha:a≠[]:=by rintro rfl; simp [Pu.label] at hl
     have:=spl_first hs ha
     cases a with
     | nil=>exact absurd rfl ha
     | cons x r =>
      cases s with
      | nil=>rfl
      | cons y q =>
       simp at this
       subst this
       unfold Pu.label at hl
       simp only [Bool.and_eq_true,List.all_cons] at hl
       have hx:Pu.sign y=true:=hl.2.1
       have:y≠42:=by rintro rfl; revert hx; decide
       simp [List.isPrefixOf,Ne.symm this]
    rw [hp]
    cases t.all Pu.label <;> simp [h1]
 ·simp [h1]
theorem plain_any (s:Str) (w:World) (hl:s.length≤1000000) :
  Calls Tryz.prog 63 #[.string (B s),.bool false] w fun e w'=>((Sp.plain s=true∧∃ g n c,e=.returned (.slice (some ⟨g,0,none⟩) n c))∨(Sp.plain s=false∧e=.returned (.slice none 0 0)))∧Below w.heap.size w w':=by
 refine (readName_any s false w (by omega)).mono ?_
 rintro e w' ⟨⟨v,rfl,hv⟩,hb⟩
 refine ⟨?_,hb⟩
 have hn:=nmF s
 cases ho:nmR false s with
 | none =>
  rw [ho] at hv hn
  obtain rfl:v=.slice none 0 0:=hv
  exact .inr ⟨hn.symm,rfl⟩
 | some l =>
  rw [ho] at hv hn
  obtain ⟨_,g,cap,rfl,_⟩:=hv
  exact .inl ⟨hn.symm,g,_,cap,rfl⟩
def one1 (f:Str→Bool):List Str→Bool
 | [a]=>f a
 | _=>false
def two2 (f g:Str→Bool):List Str→Bool
 | [a,b]=>f a && g b
 | _=>false
def four4 (f:Str→Str→Str→Str→Bool):List Str→Bool
 | [a,b,c,d]=>f a b c d
 | _=>false
theorem one1_no {f:Str→Bool} {ls:List Str} (h:ls.length≠1):one1 f ls=false:=by
 match ls,h with
 | [],_=>rfl
 | [x],h=>exact absurd rfl h
 | x :: y :: t,_=>rfl
theorem two2_no {f g:Str→Bool} {ls:List Str} (h:ls.length≠2):two2 f g ls=false:=by
 match ls,h with
 | [],_=>rfl
 | [x],_=>rfl
 | [x,y],h=>exact absurd rfl h
 | x :: y :: z :: t,_=>rfl
theorem four4_no {f:Str→Str→Str→Str→Bool} {ls:List Str} (h:ls.length≠4):four4 f ls=false:=by
 match ls,h with
 | [],_=>rfl
 | [x],_=>rfl
 | [x,y],_=>rfl
 | [x,y,z],_=>rfl
 | [x,y,z,u],h=>exact absurd rfl h
 | x :: y :: z :: u :: v :: t,_=>rfl
theorem isD_name (k:Int) (hk:k=2∨k=5) (ls:List Str):Ke.isData k ls=one1 Sp.plain ls:=by
 rcases hk with rfl | rfl
 all_goals
  match ls with
  | []=>rfl
  | [x]=>rfl
  | x :: y :: t=>rfl
theorem isD_A (ls:List Str):Ke.isData 1 ls=one1 Ke.address ls:=by
 match ls with
 | []=>rfl
 | [x]=>rfl
 | x :: y :: t=>rfl
theorem isD_TXT (ls:List Str):Ke.isData 16 ls=one1 Pu.word ls:=by
 match ls with
 | []=>rfl
 | [x]=>rfl
 | x :: y :: t=>rfl
theorem isD_MX (ls:List Str):Ke.isData 15 ls=two2 (numB 65535) Sp.plain ls:=by
 match ls with
 | []=>rfl
 | [x]=>rfl
 | [x,y]=>rfl
 | x :: y :: z :: t=>rfl
theorem isD_SOA (ls:List Str):Ke.isData 6 ls=four4 (fun a b c d=>Sp.plain a && Sp.plain b && numB 4294967295 c && numB 86400 d) ls:=by
 match ls with
 | []=>rfl
 | [x]=>rfl
 | [x,y]=>rfl
 | [x,y,z]=>rfl
 | [x,y,z,u]=>rfl
 | x :: y :: z :: u :: v :: t=>rfl
theorem word_at {w:World} {g off:Nat} {ls:List Str} (h:TxAt w g off ls) (k:Nat) (x:Str) (hx:ls[k]? = some x):w.cell? ⟨g,off+k,none⟩=some (.string (B x)):=by
 obtain ⟨hk,rfl⟩:=List.getElem?_eq_some_iff.1 hx
 exact h.2 k hk
theorem data_name (k:Int) (hk:k=2∨k=5) (g off cap:Nat) (ls:List Str) (w:World) (h:TxAt w g off ls) (hl:ls.length≤3001) (hc:ls.length≤cap) (hw : ∀ x∈ls,x.length≤3000) :
  Calls Tryz.prog 116 #[.int .i64 k,.slice (some ⟨g,off,none⟩) ls.length cap] w fun e w'=>e=.returned (.bool (Ke.isData k ls))∧Below w.heap.size w w':=by
 have hg:=h.1
 have H:=aH h
 have HW:=aH hw
 clear h hw
 have HD:=aH (isD_name k hk ls)
 by_cases h1:ls.length=1
 ·obtain ⟨x,rfl⟩ : ∃ x,ls = [x]:=by
   match ls,h1 with
   | [x],_=>exact ⟨x,rfl⟩
  have c0:=word_at (aU H) 0 x rfl
  rw [Nat.add_zero] at c0
  have HP:=aH (plain_any x w (by have:=aU HW x (by simp); omega))
  have hlen:([x]:List Str).length=1:=rfl
  rw [hlen] at hc ⊢
  clear h1 hl hlen
  rcases hk with rfl | rfl
  all_goals
   go_enter Tryz.func116,Tryz.ntmps116
   go_wp2_with fail
   refine (aU HP).mono ?_
   rintro e w1 ⟨⟨hp,g',n',c',rfl⟩ | ⟨hp,rfl⟩,hb1⟩
   ·have HPP:=aH hp
    clear hp
    go_wp2_with fail
    go_ret
    exact ⟨ret_bool (by rw [aU HD]; exact (aU HPP).symm),hb1⟩
   ·have HPP:=aH hp
    clear hp
    go_wp2_with fail
    go_ret
    exact ⟨ret_bool (by rw [aU HD]; exact (aU HPP).symm),hb1⟩
 ·have h1I:((ls.length:Int) == 1)=false:=by rw [beq_eq_false_iff_ne]; omega
  have HDF:Hid (Ke.isData k ls=false):=(aU HD).trans (one1_no h1)
  clear h1
  rcases hk with rfl | rfl
  all_goals
   go_enter Tryz.func116,Tryz.ntmps116
   go_wp2_with fail
   go_ret
   exact ⟨ret_bool (aU HDF).symm,Below.refl _ _⟩
theorem data_MX (g off cap:Nat) (ls:List Str) (w:World) (h:TxAt w g off ls) (hl:ls.length≤3001) (hc:ls.length≤cap) (hw : ∀ x∈ls,x.length≤3000) :
  Calls Tryz.prog 116 #[.int .i64 15,.slice (some ⟨g,off,none⟩) ls.length cap] w fun e w'=>e=.returned (.bool (Ke.isData 15 ls))∧Below w.heap.size w w':=by
 have hg:=h.1
 have H:=aH h
 have HW:=aH hw
 clear h hw
 have HD:=aH (isD_MX ls)
 by_cases h1:ls.length=2
 ·obtain ⟨x,y,rfl⟩ : ∃ x y,ls = [x,y]:=by
   match ls,h1 with
   | [x,y],_=>exact ⟨x,y,rfl⟩
  have c0:=word_at (aU H) 0 x rfl
  have c1:=word_at (aU H) 1 y rfl
  rw [Nat.add_zero] at c0
  have HP:=aH (plain_any y w (by have:=aU HW y (by simp); omega))
  have HN:=aH (number_any x 65535 w (by have:=aU HW x (by simp); omega) (by omega))
  have hlen:([x,y]:List Str).length=2:=rfl
  rw [hlen] at hc ⊢
  have HDD:Hid (Ke.isData 15 [x,y]=(numB 65535 x && Sp.plain y)):=aU HD
  clear h1 hl hlen
  go_enter Tryz.func116,Tryz.ntmps116
  go_wp2_with fail
  refine (aU HN).mono ?_
  rintro e w1 ⟨⟨v,rfl,_⟩,hw1⟩
  subst hw1
  cases hn:numB 65535 x
  ·have HNN:=aH hn
   clear hn
   go_wp2_with fail
   go_ret
   exact ⟨ret_bool (by rw [aU HDD,aU HNN]; rfl),Below.refl _ _⟩
  ·have HNN:=aH hn
   clear hn
   go_wp2_with fail
   refine (aU HP).mono ?_
   rintro e w2 ⟨⟨hp,g',n',c',rfl⟩ | ⟨hp,rfl⟩,hb2⟩
   ·have HPP:=aH hp
    clear hp
    go_wp2_with fail
    go_ret
    exact ⟨ret_bool (by rw [aU HDD,aU HNN,aU HPP]; rfl),hb2⟩
   ·have HPP:=aH hp
    clear hp
    go_wp2_with fail
    go_ret
    exact ⟨ret_bool (by rw [aU HDD,aU HNN,aU HPP]; rfl),hb2⟩
 ·have h1I:((ls.length:Int) != 2)=true:=by rw [bne_iff_ne]; omega
  have HDF:Hid (Ke.isData 15 ls=false):=(aU HD).trans (two2_no h1)
  clear h1
  go_enter Tryz.func116,Tryz.ntmps116
  go_wp2_with fail
  go_ret
  exact ⟨ret_bool (aU HDF).symm,Below.refl _ _⟩
theorem data_SOA (g off cap:Nat) (ls:List Str) (w:World) (h:TxAt w g off ls) (hl:ls.length≤3001) (hc:ls.length≤cap) (hw : ∀ x∈ls,x.length≤3000) :
  Calls Tryz.prog 116 #[.int .i64 6,.slice (some ⟨g,off,none⟩) ls.length cap] w fun e w'=>e=.returned (.bool (Ke.isData 6 ls))∧Below w.heap.size w w':=by
 have hg:=h.1
 have H:=aH h
 have HW:=aH hw
 clear h hw
 have HD:=aH (isD_SOA ls)
 by_cases h1:ls.length=4
 ·obtain ⟨x,y,z,u,rfl⟩ : ∃ x y z u,ls = [x,y,z,u]:=by
   match ls,h1 with
   | [x,y,z,u],_=>exact ⟨x,y,z,u,rfl⟩
  have c0:=word_at (aU H) 0 x rfl
  have c1:=word_at (aU H) 1 y rfl
  have c2:=word_at (aU H) 2 z rfl
  have c3:=word_at (aU H) 3 u rfl
  rw [Nat.add_zero] at c0
  have HP0:=aH (plain_any x w (by have:=aU HW x (by simp); omega))
  have HP1:=aH (fun W=>plain_any y W (by have:=aU HW y (by simp); omega))
  have HN2:=aH (number_any z 4294967295 w (by have:=aU HW z (by simp); omega) (by omega))
  have HN3:=aH (number_any u 86400 w (by have:=aU HW u (by simp); omega) (by omega))
  have hlen:([x,y,z,u]:List Str).length=4:=rfl
  rw [hlen] at hc ⊢
  have HDD:Hid (Ke.isData 6 [x,y,z,u]=(Sp.plain x && Sp.plain y && numB 4294967295 z && numB 86400 u)):=aU HD
  clear h1 hl hlen
  go_enter Tryz.func116,Tryz.ntmps116
  go_wp2_with fail
  refine (aU HN2).mono ?_
  rintro e w1 ⟨⟨v,rfl,_⟩,hw1⟩
  subst hw1
  go_wp2_with fail
  refine (aU HN3).mono ?_
  rintro e w1 ⟨⟨v2,rfl,_⟩,hw1⟩
  subst hw1
  cases hn2:numB 4294967295 z
  ·have HNN:=aH hn2
   clear hn2
   go_wp2_with fail
   go_ret
   exact ⟨ret_bool (by rw [aU HDD,aU HNN]; simp),Below.refl _ _⟩
  cases hn3:numB 86400 u
  ·have HNN:=aH hn3
   clear hn3 hn2
   go_wp2_with fail
   go_ret
   exact ⟨ret_bool (by rw [aU HDD,aU HNN]; simp),Below.refl _ _⟩
  have HNN2:=aH hn2
  have HNN3:=aH hn3
  clear hn2 hn3
  go_wp2_with fail
  refine (aU HP0).mono ?_
  rintro e w2 ⟨⟨hp,g',n',c',rfl⟩ | ⟨hp,rfl⟩,hb2⟩
  ·have HPP:=aH hp
   have c1':=(hb2.cell (p:=⟨g,off+1,none⟩) hg).trans c1
   clear hp
   go_wp2_with fail
   refine (aU HP1 _).mono ?_
   rintro e w3 ⟨⟨hp,g2,n2,c2',rfl⟩ | ⟨hp,rfl⟩,hb3⟩
   ·have HPP2:=aH hp
    clear hp
    go_wp2_with fail
    go_ret
    exact ⟨ret_bool (by rw [aU HDD,aU HNN2,aU HNN3,aU HPP,aU HPP2]; rfl),hb2.trans (hb3.mono hb2.size)⟩
   ·have HPP2:=aH hp
    clear hp
    go_wp2_with fail
    go_ret
    exact ⟨ret_bool (by rw [aU HDD,aU HNN2,aU HNN3,aU HPP,aU HPP2]; rfl),hb2.trans (hb3.mono hb2.size)⟩
  ·have HPP:=aH hp
   clear hp
   go_wp2_with fail
   go_ret
   exact ⟨ret_bool (by rw [aU HDD,aU HPP]; rfl),hb2⟩
 ·have h1I:((ls.length:Int) != 4)=true:=by rw [bne_iff_ne]; omega
  have HDF:Hid (Ke.isData 6 ls=false):=(aU HD).trans (four4_no h1)
  clear h1
  go_enter Tryz.func116,Tryz.ntmps116
  go_wp2_with fail
  go_ret
  exact ⟨ret_bool (aU HDF).symm,Below.refl _ _⟩
end Ee
namespace Ef
open Ka Kb Re Wa Wb Ea Eb Ec Ed Ee
theorem word_cases (x:UInt8):(Pu.wordI x.toNat=true∧33≤(x.toNat:Int)∧(x.toNat:Int)≤126)∨(Pu.wordI x.toNat=false∧((x.toNat:Int)<33∨126<(x.toNat:Int))):=by
 unfold Pu.wordI
 by_cases h:33≤(x.toNat:Int)∧(x.toNat:Int)≤126
 ·left; exact ⟨by simp; omega,h⟩
 ·right
  refine ⟨?_,by omega⟩
  rw [Bool.and_eq_false_iff,decide_eq_false_iff_not,decide_eq_false_iff_not]
  omega
theorem data_TXT (g off cap:Nat) (ls:List Str) (w:World) (h:TxAt w g off ls) (hl:ls.length≤3001) (hc:ls.length≤cap) (hw : ∀ x∈ls,x.length≤3000) :
  Calls Tryz.prog 116 #[.int .i64 16,.slice (some ⟨g,off,none⟩) ls.length cap] w fun e w'=>e=.returned (.bool (Ke.isData 16 ls))∧Below w.heap.size w w':=by
 have hg:=h.1
 have H:=aH h
 have HW:=aH hw
 clear h hw
 have HD:=aH (isD_TXT ls)
 by_cases h1:ls.length=1
 ·obtain ⟨x,rfl⟩ : ∃ x,ls = [x]:=by
   match ls,h1 with
   | [x],_=>exact ⟨x,rfl⟩
  have c0:=word_at (aU H) 0 x rfl
  rw [Nat.add_zero] at c0
  have hxl:=aU HW x (by simp)
  have hxs:(B x).size=x.length:=size_B x
  have hlen:([x]:List Str).length=1:=rfl
  rw [hlen] at hc ⊢
  have HDD:Hid (Ke.isData 16 [x]=Pu.word x):=aU HD
  clear h1 hl hlen HD HW H
  by_cases z1:(x.length:Int)<1
  ·have HF:Hid (Pu.word x=false):=by unfold Pu.word; rw [Hid]; simp; omega
   go_enter Tryz.func116,Tryz.ntmps116
   go_wp2_with fail
   go_ret
   exact ⟨ret_bool (by rw [aU HDD,aU HF]),Below.refl _ _⟩
  by_cases z2:(40:Int)<(x.length:Int)
  ·have HF:Hid (Pu.word x=false):=by unfold Pu.word; rw [Hid]; simp; omega
   go_enter Tryz.func116,Tryz.ntmps116
   go_wp2_with fail
   go_ret
   exact ⟨ret_bool (by rw [aU HDD,aU HF]),Below.refl _ _⟩
  go_enter Tryz.func116,Tryz.ntmps116
  go_wp2_with fail
  go_loopw [11] (fun i wr=>∃ k:Nat,k≤x.length∧i=.int .i64 k∧(x.take k).all (fun c=>Pu.wordI c.toNat)=true∧wr=w) (fun i _=>x.length - (intOf i).toNat)
  case atStart=>exact ⟨0,Nat.zero_le _,rfl,rfl,rfl⟩
  case round =>
   obtain ⟨k,hk,rfl,hall,rfl⟩:=hrel
   have HA:=aH hall
   clear hall
   by_cases hlt:k<x.length
   ·have hltI:(k:Int)<(x.length:Int):=by omega
    have hts:=aH (take_snoc x k hlt)
    obtain ⟨y,hy⟩ : ∃ y,y=x[k]:=⟨_,rfl⟩
    have g1 : ∀ h:k<(B x).size,(B x)[k]=y:=fun h=>hy.symm
    have HY:=aH hy
    clear hy
    rcases word_cases y with ⟨hb,h⟩ | ⟨hb,h⟩
    ·have HS:=aH hb
     clear hb
     go_wp2_with fail
     exact ⟨⟨k+1,by omega,by go_num,by rw [aU hts,List.all_append,aU HA,← aU HY]; simp [aU HS],by first | rfl | trivial⟩,by simp [intOf]; omega⟩
    ·have HS:=aH hb
     clear hb
     have HF:Hid (Pu.word x=false):=by
      have hmem:x[k]∈x:=List.getElem_mem hlt
      rw [Hid]
      unfold Pu.word
      have:x.all (fun c=>Pu.wordI c.toNat)=false:=by
       rw [List.all_eq_false]
       exact ⟨_,hmem,by rw [← aU HY,aU HS]; simp⟩
      rw [this]; rfl
     rcases h with h | h
     all_goals
      go_wp2_with fail
      go_ret
      exact ⟨ret_bool (by rw [aU HDD,aU HF]),Below.refl _ _⟩
   ·have hltI : ¬ (k:Int)<(x.length:Int):=by omega
    have hks:k=x.length:=by omega
    have HF:Hid (Pu.word x=true):=by
     have:=aU HA
     rw [hks,List.take_length] at this
     rw [Hid]
     unfold Pu.word
     rw [this]; simp; omega
    go_wp2_with fail
    go_ret
    exact ⟨ret_bool (by rw [aU HDD,aU HF]),Below.refl _ _⟩
 ·have h1I:((ls.length:Int) != 1)=true:=by rw [bne_iff_ne]; omega
  have HDF:Hid (Ke.isData 16 ls=false):=(aU HD).trans (one1_no h1)
  clear h1
  go_enter Tryz.func116,Tryz.ntmps116
  go_wp2_with fail
  go_ret
  exact ⟨ret_bool (aU HDF).symm,Below.refl _ _⟩
theorem data_A (g off cap:Nat) (ls:List Str) (w:World) (h:TxAt w g off ls) (hl:ls.length≤3001) (hc:ls.length≤cap) (hw : ∀ x∈ls,x.length≤3000) :
  Calls Tryz.prog 116 #[.int .i64 1,.slice (some ⟨g,off,none⟩) ls.length cap] w fun e w'=>e=.returned (.bool (Ke.isData 1 ls))∧Below w.heap.size w w':=by
 have hg:=h.1
 have H:=aH h
 have HW:=aH hw
 clear h hw
 have HD:=aH (isD_A ls)
 by_cases h1:ls.length=1
 ·obtain ⟨x,rfl⟩ : ∃ x,ls = [x]:=by
   match ls,h1 with
   | [x],_=>exact ⟨x,rfl⟩
  have c0:=word_at (aU H) 0 x rfl
  rw [Nat.add_zero] at c0
  have hxl:=aU HW x (by simp)
  have HSP:Hid (Calls Tryz.prog 62 #[.string (B x),.int .u8 46] w fun e w'=>(∃ v,e=.returned v∧StrsOwn w' w.heap.size v (Sp.spl 46 x))∧Below w.heap.size w w'):=Ea.split_any x 46 w (by omega)
  have hll:(Sp.spl 46 x).length≤3001:=by have:=Sp.spl_len_le 46 x; omega
  have HME:Hid (∀ y∈Sp.spl 46 x,y.length≤3000):=fun y hy=>by have:=Sp.spl_mem_len 46 x.length x (Nat.le_refl _) y hy; omega
  have HNE:Hid (Sp.spl 46 x≠[]):=Sp.spl_ne 46 x
  have hlen:([x]:List Str).length=1:=rfl
  rw [hlen] at hc ⊢
  have HDD:Hid (Ke.isData 1 [x]=((Sp.spl 46 x).all (numB 255) && (Sp.spl 46 x).length == 4)):=aU HD
  clear h1 hl hlen HD HW H
  generalize Sp.spl 46 x=L at *
  go_enter Tryz.func116,Tryz.ntmps116
  go_wp2_with fail
  refine (aU HSP).mono ?_
  rintro e w1 ⟨⟨v,rfl,hown⟩,hb1⟩
  obtain ⟨g2,cap2,rfl,hcap2,_,htx⟩:=own_name hown (aU HNE)
  have HTX:=aH htx
  have HB1:=aH hb1
  have hg2:=htx.1
  clear hown hb1 htx HSP c0
  go_wp2_with fail
  go_loopw [13] (fun i wr=>∃ k:Nat,k≤L.length∧i=.int .i64 k∧(L.take k).all (numB 255)=true∧wr=w1) (fun i _=>L.length - (intOf i).toNat)
  case atStart=>exact ⟨0,Nat.zero_le _,rfl,rfl,rfl⟩
  case round =>
   obtain ⟨k,hk,rfl,hall,rfl⟩:=hrel
   have HA:=aH hall
   clear hall
   by_cases hlt:k<L.length
   ·have hltI:(k:Int)<(L.length:Int):=by omega
    have hts:=aH (List.take_succ_eq_append_getElem hlt)
    obtain ⟨y,hy⟩ : ∃ y,y=L[k]:=⟨_,rfl⟩
    have c1:wr.cell? ⟨g2,k,none⟩=some (.string (B y)):=by
     have:=(aU HTX).2 k hlt
     rw [Nat.zero_add] at this
     rw [hy]; exact this
    have hyl:y.length≤3000:=by rw [hy]; exact aU HME _ (List.getElem_mem hlt)
    have HN:=aH (fun W=>number_any y 255 W (by omega) (by omega))
    have HY:=aH hy
    clear hy
    go_wp2_with fail
    refine (aU HN _).mono ?_
    rintro e w2 ⟨⟨v,rfl,_⟩,hw2⟩
    subst hw2
    cases hn:numB 255 y
    ·have HF:Hid (Ke.isData 1 [x]=false):=by
      rw [Hid,aU HDD]
      have:L.all (numB 255)=false:=by
       rw [List.all_eq_false]
       exact ⟨L[k],List.getElem_mem hlt,by rw [← aU HY,hn]; simp⟩
      rw [this]; rfl
     clear hn
     go_wp2_with fail
     go_ret
     exact ⟨ret_bool (aU HF).symm,aU HB1⟩
    ·have HG2:Hid ((L.take (k+1)).all (numB 255)=true):=by rw [Hid,aU hts,List.all_append,aU HA,← aU HY]; simp [hn]
     clear hn
     go_wp2_with fail
     exact ⟨⟨k+1,by omega,by go_num,aU HG2,by first | rfl | trivial⟩,by simp [intOf]; omega⟩
   ·have hltI : ¬ (k:Int)<(L.length:Int):=by omega
    have hks:k=L.length:=by omega
    have HF:Hid (Ke.isData 1 [x]=(L.length == 4)):=by
     have:=aU HA
     rw [hks,List.take_length] at this
     rw [Hid,aU HDD,this]; rfl
    by_cases h4:L.length=4
    ·have h4I:((L.length:Int) == 4)=true:=by rw [beq_iff_eq]; omega
     have H4:=aH h4
     clear h4
     go_wp2_with fail
     go_ret
     exact ⟨ret_bool (by rw [aU HF,aU H4]; rfl),aU HB1⟩
    ·have h4I:((L.length:Int) == 4)=false:=by rw [beq_eq_false_iff_ne]; omega
     have H4:=aH h4
     clear h4
     go_wp2_with fail
     go_ret
     exact ⟨ret_bool (by rw [aU HF]; exact (beq_eq_false_iff_ne.2 (aU H4)).symm),aU HB1⟩
 ·have h1I:((ls.length:Int) != 1)=true:=by rw [bne_iff_ne]; omega
  have HDF:Hid (Ke.isData 1 ls=false):=(aU HD).trans (one1_no h1)
  clear h1
  go_enter Tryz.func116,Tryz.ntmps116
  go_wp2_with fail
  go_ret
  exact ⟨ret_bool (aU HDF).symm,Below.refl _ _⟩
theorem kind_cases (l:Str):Pu.kindOf l=0∨Pu.kindOf l=1∨Pu.kindOf l=2∨Pu.kindOf l=5∨Pu.kindOf l=6∨Pu.kindOf l=15∨Pu.kindOf l=16:=by
 unfold Pu.kindOf
 split
 ·simp
 split
 ·simp
 split
 ·simp
 split
 ·simp
 split
 ·simp
 split
 ·simp
 ·simp
theorem data_any (kd:Str) (hk:0<Pu.kindOf kd) (g off cap:Nat) (ls:List Str) (w:World) (h:TxAt w g off ls) (hl:ls.length≤3001) (hc:ls.length≤cap) (hw : ∀ x∈ls,x.length≤3000) :
  Calls Tryz.prog 116 #[.int .i64 (Pu.kindOf kd),.slice (some ⟨g,off,none⟩) ls.length cap] w fun e w'=>e=.returned (.bool (Ke.isData (Pu.kindOf kd) ls))∧Below w.heap.size w w':=by
 rcases kind_cases kd with e | e | e | e | e | e | e
 ·omega
 ·rw [e]; exact data_A g off cap ls w h hl hc hw
 ·rw [e]; exact data_name 2 (.inl rfl) g off cap ls w h hl hc hw
 ·rw [e]; exact data_name 5 (.inr rfl) g off cap ls w h hl hc hw
 ·rw [e]; exact data_SOA g off cap ls w h hl hc hw
 ·rw [e]; exact data_MX g off cap ls w h hl hc hw
 ·rw [e]; exact data_TXT g off cap ls w h hl hc hw
theorem isD_zero (ls:List Str):Ke.isData 0 ls=false:=by
 unfold Ke.isData
 rw [if_neg (by decide),if_neg (by decide),if_neg (by decide),if_neg (by decide),if_neg (by decide)]
end Ef
namespace Ek
open Ka Ed
theorem cut_first (c:UInt8) : ∀ (l:Str),(c ∉ l∧Sp.spl c l = [l])∨∃ a b,l=a++c :: b∧c ∉ a∧Sp.spl c l=a :: Sp.spl c b
 | []=>.inl ⟨by simp,rfl⟩
 | x :: r=>by
  by_cases hx:x=c
  ·subst hx
   exact .inr ⟨[],r,rfl,by simp,Sp.spl_some x [] r (by simp)⟩
  ·rcases cut_first c r with ⟨h1,_⟩ | ⟨a,b,h1,h2,_⟩
   ·have hn:c ∉ x :: r:=by simp only [List.mem_cons,not_or]; exact ⟨fun e=>hx e.symm,h1⟩
    exact .inl ⟨hn,Sp.spl_none c _ hn⟩
   ·have hn:c ∉ x :: a:=by simp only [List.mem_cons,not_or]; exact ⟨fun e=>hx e.symm,h2⟩
    refine .inr ⟨x :: a,b,by rw [h1]; rfl,hn,?_⟩
    rw [h1]
    exact Sp.spl_some c (x :: a) b hn
def joinC (c:UInt8):List Str→Str
 | []=>[]
 | [x]=>x
 | x :: y :: t=>x++c :: joinC c (y :: t)
theorem joinC_spl (c:UInt8) (s:Str):joinC c (Sp.spl c s)=s:=by
 have key : ∀ (n:Nat) (s:Str),s.length≤n→joinC c (Sp.spl c s)=s:=by
  intro n
  induction n with
  | zero=>intro s h; obtain rfl:s = []:=List.eq_nil_of_length_eq_zero (by omega); rfl
  | succ n ih =>
   intro s h
   rcases cut_first c s with ⟨_,e⟩ | ⟨a,b,e1,_,e⟩
   ·rw [e]; rfl
   ·have hb:=ih b (by rw [e1] at h; simp at h; omega)
    rw [e]
    cases hs:Sp.spl c b with
    | nil=>exact absurd hs (Sp.spl_ne c b)
    | cons y t =>
     rw [hs] at hb
     rw [joinC,hb,e1]
 exact key s.length s (Nat.le_refl _)
theorem joinC_snoc (c:UInt8) (x:Str) : ∀ (l:List Str),l≠[]→joinC c (l++[x])=joinC c l++c :: x
 | [],h=>absurd rfl h
 | [y],_=>rfl
 | y :: z :: t,_=>by
  rw [List.cons_append,List.cons_append,joinC,← List.cons_append,joinC_snoc c x (z :: t) (by simp),joinC]
  simp
def recP:List Str→Option Rec
 | x0 :: x1 :: x2 :: y :: t=>if Sp.valid x0 && numB 86400 x1 && Ke.isData (Pu.kindOf x2) (y :: t) then some (x0,numV 86400 x1,Pu.kindOf x2,joinC 32 (y :: t)) else none
 | _=>none
theorem readRec_spl (s:Str):readRec s=recP (Sp.spl 32 s):=by
 unfold readRec Lib.splitN
 rcases cut_first 32 s with ⟨h0,e0⟩ | ⟨a,b,r0,h0,e0⟩
 ·rw [Sp.splitK_none 32 _ s h0,e0]; rfl
 have l0:s.length=a.length+1+b.length:=by rw [r0]; simp; omega
 obtain ⟨k0,hk0⟩ : ∃ k,min 4 (s.length+1) - 1=k+1:=⟨min 4 (s.length+1) - 2,by omega⟩
 rw [hk0,e0]
 conv=>lhs; rw [r0]
 rw [Sp.splitK_some 32 k0 a b h0]
 rcases cut_first 32 b with ⟨h1,e1⟩ | ⟨a1,b1,r1,h1,e1⟩
 ·rw [Sp.splitK_none 32 _ b h1,e1]; rfl
 have l1:b.length=a1.length+1+b1.length:=by rw [r1]; simp; omega
 obtain ⟨k1,hk1⟩ : ∃ k,k0=k+1:=⟨k0 - 1,by omega⟩
 rw [hk1,e1]
 conv=>lhs; rw [r1]
 rw [Sp.splitK_some 32 k1 a1 b1 h1]
 rcases cut_first 32 b1 with ⟨h2,e2⟩ | ⟨a2,b2,r2,h2,e2⟩
 ·rw [Sp.splitK_none 32 _ b1 h2,e2]; rfl
 have l2:b1.length=a2.length+1+b2.length:=by rw [r2]; simp; omega
 obtain rfl:k1=1:=by omega
 rw [e2]
 conv=>lhs; rw [r2]
 rw [Sp.splitK_some 32 0 a2 b2 h2]
 have hj:=joinC_spl 32 b2
 cases hs:Sp.spl 32 b2 with
 | nil=>exact absurd hs (Sp.spl_ne 32 b2)
 | cons y t =>
  rw [hs] at hj
  show (if Sp.valid a && numB 86400 a1 && Ke.isData (Pu.kindOf a2) (Sp.spl 32 b2) then some (a,numV 86400 a1,Pu.kindOf a2,b2) else none)=recP (a :: a1 :: a2 :: y :: t)
  rw [hs,recP,hj]
end Ek
end Go.Proofs.YtkkpahmoljiepaaGreatDoor
