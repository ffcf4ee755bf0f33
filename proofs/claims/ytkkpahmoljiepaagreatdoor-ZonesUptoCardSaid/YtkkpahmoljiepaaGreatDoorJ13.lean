/- Contracts: (*search).follow with lists that lie apart; of a CNAME asked for, or of any type. -/
import Derived.Test.YtkkpahmoljiepaaGreatDoorJ12
import Derived.Deep.LoopGhost
import Derived.Test.YtkkpahmoljiepaaGreatDoorJ02
import Derived.Test.YtkkpahmoljiepaaGreatDoorJ06
import Derived.Laws.BitsAllLaws
import Derived.Maps.AppendAt
import Derived.Test.YtkkpahmoljiepaaGreatDoorJ01
set_option linter.unusedSimpArgs false
set_option linter.unusedVariables false
set_option maxRecDepth 1000000
set_option maxHeartbeats 12800000
namespace Go.Proofs.YtkkpahmoljiepaaGreatDoor
open Go.RowKit
open Pu (Str aH aU)
structure KindOk (o n:Str) (rs:List Rec) (k:Int):Prop where
 fit:Fit o rs
 len:n.length≤2900
 soa : ∀ r∈setP (ofP rs o) 6,soaOk r∧r.data.length≤3000∧r.ttl≤1000000000
 kk:k=5∨k=255
 mlen:(matchP rs n).1.length≤3001
structure Chase2 (V:Str→Prop) (o:Str) (rs:List Rec) (k:Int):Prop where
 fit:Fit o rs
 soa : ∀ r∈setP (ofP rs o) 6,soaOk r∧r.data.length≤3000∧r.ttl≤1000000000
 ne5:(k == 5)=false
 ne255:(k == 255)=false
 mlen : ∀ n,V n→(matchP rs n).1.length≤3001
 lnk : ∀ n r,V n→linkP o rs n=some r→r.data.length≤2900∧V r.data
namespace Ls
open Ka Kd Rf Rg Ia Iow Ie Zb Zc Za La Lb Re Lc Le Lf Lg Lh Li Ld Lj Lm Ln Lp
def FinAt2 (sb zb cb:Nat) (k:Int) (au:Bool) (vc:Value) (o:Str) (rs ls:List Rec) (fin:Option Str) (w':World):Prop :=
 ∃ va' vb',aM w' sb zb k (finRc o rs fin) au va' vb' vc cb∧OwnR w' (sb+1) va' (ls++finAns o rs k fin)∧OwnR w' (sb+1) vb' (finAuth o rs k fin)∧Apart va' vb'
theorem follow_any2 (V:Str→Prop) (sb zb cb c b off cap base:Nat) (k:Int) (au:Bool) (vc:Value) (o n:Str) (rs:List Rec) (w:World) (hs:aM w sb zb k 0 au (.slice none 0 0) (.slice none 0 0) vc cb)
  (hz:aN w zb o b off cap rs) (hg:G w) (hzs:zb<sb) (hbs:b<sb) (h0:0<sb) (hc:CancelAt w cb c false) (hne:cb≠c) (hcb:cb<sb) (hcs:c<sb) (hba:base≤c) (hn:n.length≤2900) (hv:V n) (hp:Chase2 V o rs k) :
  Calls Tryz.prog 127 #[.pointer (some ⟨sb,0,none⟩),.string (B n)] w fun e w' =>
   (chase o rs 8 n=none∧e=.returned (.bool false)∧Below base w w')∨(∃ ls fin,chase o rs 8 n=some (ls,fin)∧ls.length≤8∧e=.returned (.bool true)∧FinAt2 sb zb cb k au vc o rs ls fin w'∧Below sb w w'):=by
 obtain ⟨_,_,_,_,_,_,_,s7⟩:=hs.cells
 have hslt:=hs.lt
 have HS:=aH hs
 have HZ:=aH hz
 have HG:=aH hg
 have HC:=aH hc
 have HP:=aH hp
 clear hs hz hg hc hp
 go_enter Tryz.func127,Tryz.ntmps127
 go_wp2_with fail
 go_loopg [1,5] 10 (fun g1 nm mr wr =>
  (∃ (ls:List Rec) (n':Str) (va:Value),nm=.string (B n')∧mr=.bool true∧ls.length≤8∧g1+ls.length=10∧Hid (chase o rs 8 n=(chase o rs (8 - ls.length) n').map (fun x=>(ls++x.1,x.2)))∧n'.length≤2900∧Hid (V n')∧Hid (aM wr sb zb k 0 au va (.slice none 0 0) vc cb)∧Hid (OwnR wr (sb+1) va ls)∧Hid (Below sb w wr)) ∨
  (g1=1∧mr=.bool true∧Hid (chase o rs 8 n=none)∧Hid (∃ va,aM wr sb zb k 0 au va (.slice none 0 0) vc cb)∧Hid (CancelAt wr cb c true)∧Hid (Below base w wr)) ∨
  (mr=.bool false∧Hid (∃ ls fin,chase o rs 8 n=some (ls,fin)∧ls.length≤8∧FinAt2 sb zb cb k au vc o rs ls fin wr∧Below sb w wr)))
 case atStart =>
  refine .inl ⟨[],n,.slice none 0 0,rfl,rfl,by simp,by simp,?_,hn,hv,HS,World.ownsRow_nil _ _ _ _,Below.refl _ _⟩
  rw [Hid]; simp
 case round =>
  rcases hrel with ⟨ls,n',va,rfl,rfl,hl8,hgl,hch,hn',hv',hs1,ho1,hb1⟩ | ⟨rfl,rfl,hch,hs1,hc1,hb1⟩ | ⟨rfl,hfin⟩
  ·have hsr:=aU hs1
   obtain ⟨_,_,_,_,_,_,_,r7⟩:=hsr.cells
   have hcr:=(aU HC).below (aU hb1) hcb hcs
   have hzr:=(aU HZ).low (aU hb1) hzs hbs
   have hgr:=G_low (aU HG) (aU hb1) h0
   have HAS:=aH (asked_any cb c false wr hcr)
   have HCR:=aH hcr
   cases hlk:linkP o rs n' with
   | none =>
    have HST:=aH (step_plain2 sb zb cb b off cap k au va (.slice none 0 0) vc o n' rs ls wr hsr (aU ho1) rfl hzr hgr hzs hbs h0 (aU HP).fit hn' (by omega) (aU HP).soa (aU HP).ne5 (aU HP).ne255 (linkP_alias hlk) ((aU HP).mlen n' (aU hv')))
    have hend:Hid (chase o rs 8 n=some (ls,some n')):=by
     rw [Hid,aU hch]
     have:chase o rs (8 - ls.length) n'=some ([],some n'):=by
      cases e:8 - ls.length with
      | zero=>rw [chase,hlk]
      | succ m=>rw [chase,hlk]
     rw [this]; simp
    clear hsr hcr hzr hgr hs1 ho1 hch
    go_wp2_with fail
    refine (aU HAS).mono ?_
    rintro e wr ⟨rfl,rfl⟩
    go_wp2_with fail
    refine (aU HST).mono ?_
    rintro e w2 ⟨rfl,⟨va',vb',hs2,ha2,hb2,hd2⟩,hbl⟩
    have HF:Hid (∃ ls fin,chase o rs 8 n=some (ls,fin)∧ls.length≤8∧FinAt2 sb zb cb k au vc o rs ls fin w2∧Below sb w w2):=⟨ls,some n',aU hend,hl8,⟨va',vb',hs2,ha2,hb2,hd2⟩,(aU hb1).trans hbl⟩
    clear hs2 ha2 hb2 hbl hd2
    go_wp2_with fail
    go_roundg 0
    case rel=>exact .inr (.inr ⟨rfl,HF⟩)
    case measure=>omega
   | some r =>
    obtain ⟨hk1,hk2,hk3,hk4⟩:=linkP_some hlk
    have hrd:=((aU HP).lnk n' r (aU hv') hlk).1
    have HVR:=aH ((aU HP).lnk n' r (aU hv') hlk).2
    have hol:o.length≤3000:=(aU HP).fit.2.1
    by_cases hl:ls.length=8
    ·have HLK : ∀ W,Below wr.heap.size wr W→Calls Tryz.prog 247 #[.pointer (some ⟨sb,0,none⟩),r.val] W fun e w'=>e=.returned (.tuple #[.string (B r.data),.bool true])∧(aM w' sb zb k 0 au va (.slice none 0 0) vc cb∧CancelAt w' cb c true∧Below base wr w'):=fun W hW=>by
      have hsW:=hsr.kept (hW.block sb hsr.lt)
      refine (link_full sb zb cb c k au va _ vc ls r W hsW ((aU ho1).below hW) (hcr.below hW hcr.1 hcr.lt) hne hcs hl).mono ?_
      rintro e w' ⟨rfl,h1,h2,h3⟩
      exact ⟨rfl,h1,h2,(hW.mono (by have:=hcr.lt; omega)).trans (h3 base hba)⟩
     have HST:=aH (step_alias sb zb cb b off cap k au va _ vc o n' rs r true _ wr hsr hzr hgr (aU HP).fit hn' (aU HP).ne5 (aU HP).ne255 hk1 hk2 hk3 hk4 HLK)
     have hend:Hid (chase o rs 8 n=none):=by
      rw [Hid,aU hch,hl,Nat.sub_self,chase,hlk]; rfl
     clear hsr hcr hzr hgr hs1 ho1 hch HLK
     go_wp2_with fail
     refine (aU HAS).mono ?_
     rintro e wr ⟨rfl,rfl⟩
     go_wp2_with fail
     refine (aU HST).mono ?_
     rintro e w2 ⟨rfl,h1,h2,h3⟩
     have H1:=aH h1
     have H2:=aH h2
     have H3:=aH (((aU hb1).mono (show base≤sb by omega)).trans h3)
     clear h1 h2 h3
     go_wp2_with fail
     go_roundg 1
     case rel=>exact .inr (.inl ⟨rfl,rfl,hend,⟨_,aU H1⟩,H2,H3⟩)
     case measure=>omega
    ·have HLK : ∀ W,Below wr.heap.size wr W→Calls Tryz.prog 247 #[.pointer (some ⟨sb,0,none⟩),r.val] W fun e w'=>e=.returned (.tuple #[.string (B r.data),.bool (Sp.under r.data o)])∧((∃ va',aM w' sb zb k 0 au va' (.slice none 0 0) vc cb∧OwnR w' (sb+1) va' (ls++[r]))∧Below sb wr w'):=fun W hW=>by
      have hsW:=hsr.kept (hW.block sb hsr.lt)
      refine (link_add sb zb cb b off cap k au va _ vc o rs ls r W hsW ((aU ho1).below hW) (hzr.below hW) hzs (by omega) hol (by omega)).mono ?_
      rintro e w' ⟨rfl,h1,h2⟩
      exact ⟨rfl,h1,(hW.mono (by have:=hsr.lt; omega)).trans h2⟩
     have HST:=aH (step_alias sb zb cb b off cap k au va _ vc o n' rs r _ _ wr hsr hzr hgr (aU HP).fit hn' (aU HP).ne5 (aU HP).ne255 hk1 hk2 hk3 hk4 HLK)
     obtain ⟨m,hm⟩ : ∃ m,8 - ls.length=m+1:=⟨7 - ls.length,by omega⟩
     have hstep:Hid (chase o rs 8 n=if Sp.under r.data o=true then (chase o rs (8 - (ls++[r]).length) r.data).map (fun x=>((ls++[r])++x.1,x.2)) else some (ls++[r],none)):=by
      rw [Hid,aU hch,hm,chase,hlk]
      have e:8 - (ls++[r]).length=m:=by simp; omega
      rw [e]
      dsimp only
      split
      ·cases chase o rs m r.data <;> simp
      ·simp
     clear hsr hcr hzr hgr hs1 ho1 hch HLK
     go_wp2_with fail
     refine (aU HAS).mono ?_
     rintro e wr ⟨rfl,rfl⟩
     go_wp2_with fail
     refine (aU HST).mono ?_
     rintro e w2 ⟨rfl,⟨va',h1,h2⟩,h3⟩
     have H1:=aH h1
     have H2:=aH h2
     have H3:=aH ((aU hb1).trans h3)
     clear h1 h2 h3
     cases hu:Sp.under r.data o
     ·have HF:Hid (∃ ls fin,chase o rs 8 n=some (ls,fin)∧ls.length≤8∧FinAt2 sb zb cb k au vc o rs ls fin w2∧Below sb w w2):=by
       refine ⟨ls++[r],none,?_,by simp; omega,⟨va',.slice none 0 0,aU H1,?_,World.ownsRow_nil _ _ _ _,fun g _ h2=>by cases h2⟩,aU H3⟩
       ·rw [aU hstep,hu]; rfl
       ·unfold finAns; rw [List.append_nil]; exact aU H2
      go_wp2_with fail
      go_roundg 0
      case rel=>exact .inr (.inr ⟨rfl,HF⟩)
      case measure=>omega
     ·have HF:Hid (chase o rs 8 n=(chase o rs (8 - (ls++[r]).length) r.data).map (fun x=>((ls++[r])++x.1,x.2))):=by
       rw [Hid,aU hstep,hu]; rfl
      go_wp2_with fail
      go_roundg (9 - ls.length)
      case rel=>exact .inl ⟨ls++[r],r.data,va',rfl,rfl,by simp; omega,by simp; omega,HF,hrd,HVR,H1,H2,H3⟩
      case measure=>omega
  ·obtain ⟨va,hsr⟩:=aU hs1
   obtain ⟨_,_,_,_,_,_,_,r7⟩:=hsr.cells
   have HAS:=aH (asked_any cb c true wr (aU hc1))
   clear hsr
   go_wp2_with fail
   refine (aU HAS).mono ?_
   rintro e wr ⟨rfl,rfl⟩
   go_wp2_with fail
   go_ret
   exact .inl ⟨aU hch,rfl,aU hb1⟩
  ·go_wp2_with fail
   go_ret
   obtain ⟨ls,fin,h1,h2,h3,h4⟩:=aU hfin
   exact .inr ⟨ls,fin,h1,h2,rfl,h3,h4⟩
theorem follow_kind (sb zb cb c b off cap:Nat) (k:Int) (au:Bool) (va vb vc:Value) (o n:Str) (rs:List Rec) (w:World) (hs:aM w sb zb k 0 au va vb vc cb) (hva:va=.slice none 0 0) (hvb:vb=.slice none 0 0)
  (hz:aN w zb o b off cap rs) (hg:G w) (hzs:zb<sb) (hbs:b<sb) (h0:0<sb) (hc:CancelAt w cb c false) (hp:KindOk o n rs k) :
  Calls Tryz.prog 127 #[.pointer (some ⟨sb,0,none⟩),.string (B n)] w fun e w'=>e=.returned (.bool true)∧(∃ va' vb',aM w' sb zb k (stepRc o rs n) au va' vb' vc cb∧OwnR w' (sb+1) va' (aQ o rs k n)∧OwnR w' (sb+1) vb' (aP o rs k n)∧Apart va' vb')∧Below sb w w':=by
 have HST:=aH (step_kind sb zb cb b off cap k au va vb vc o n rs [] w hs (by subst hva; exact World.ownsRow_nil _ _ _ _) hvb hz hg hzs hbs h0 hp.fit hp.len (by simp) hp.soa hp.kk hp.mlen)
 have HAS:=aH (asked_any cb c false w hc)
 obtain ⟨s0,s1,s2,s3,s4,s5,s6,s7⟩:=hs.cells
 clear hs hz hg hc hp s0 s1 s2 s3 s4 s5 s6
 go_enter Tryz.func127,Tryz.ntmps127
 go_wp2_with fail
 go_loopw [1,5] (fun nm mr wr=>(nm=.string (B n)∧mr=.bool true∧wr=w)∨(mr=.bool false∧(∃ va' vb',aM wr sb zb k (stepRc o rs n) au va' vb' vc cb∧OwnR wr (sb+1) va' (aQ o rs k n)∧OwnR wr (sb+1) vb' (aP o rs k n)∧Apart va' vb')∧Below sb w wr)) (fun _ mr _=>boolN mr)
 case atStart=>exact .inl ⟨rfl,rfl,rfl⟩
 case round =>
  rcases hrel with ⟨rfl,rfl,rfl⟩ | ⟨rfl,hpost⟩
  ·go_wp2_with fail
   refine (aU HAS).mono ?_
   rintro e w ⟨rfl,rfl⟩
   go_wp2_with fail
   refine (aU HST).mono ?_
   rintro e w1 ⟨rfl,hpost⟩
   rw [List.nil_append] at hpost
   have HP:=aH hpost
   clear hpost
   go_wp2_with fail
   go_roundw
   case rel=>exact .inr ⟨rfl,aU HP⟩
   case measure=>simp [boolN]
  ·have HP:=aH hpost
   clear hpost
   go_wp2_with fail
   go_ret
   exact ⟨rfl,aU HP⟩
end Ls
section
variable {w:World} {b:Nat} {s:Str} {br:Bool}
end
namespace Wa
open Ka
end Wa
def StrsOwn (w:World) (base:Nat) (v:Value) (ls:List Str):Prop:=w.ownsRow base 9 1 v ls.length (ls.map fun l=>.string (B l))∧(v=.slice none 0 0 ↔ ls = [])
namespace Wb
open Ka Re Wa
theorem infoS:(Tryz.prog.info? 9).map (fun i=>(i.zero,i.size,i.bytes))=some (some (.string ⟨#[]⟩),1,16):=by kernel_rfl
theorem underS:Tryz.prog.underlying 49=some (.slice 9):=by kernel_rfl
end Wb
namespace Ea
open Ka Re Wa Wb
def At (c:UInt8) (s:Str) (i f:Nat) (L:List Str):Prop:=(i≤s.length∧f≤i∧c ∉ (s.drop f).take (i - f)∧Sp.spl c s=L++Sp.spl c (s.drop f))∨(i=s.length+1∧L=Sp.spl c s)
section
variable {c:UInt8} {s:Str} {i f:Nat} {L:List Str}
theorem At.piece (h:At c s i f L) (hi:i≤s.length):f≤i∧c ∉ (s.drop f).take (i - f)∧Sp.spl c s=L++Sp.spl c (s.drop f):=by
 rcases h with h | h
 ·exact h.2
 ·omega
theorem at_end (h:At c s s.length f L):At c s (s.length+1) (s.length+1) (L++[(s.drop f).take (s.length - f)]):=by
 obtain ⟨h1,h2,h3⟩:=h.piece (Nat.le_refl _)
 have e:(s.drop f).take (s.length - f)=s.drop f:=List.take_of_length_le (by simp)
 rw [e] at h2 ⊢
 exact .inr ⟨rfl,by rw [h3,Sp.spl_none c _ h2]⟩
theorem at_hit (h:At c s i f L) (hi:i<s.length) (hc:s[i]=c):At c s (i+1) (i+1) (L++[(s.drop f).take (i - f)]):=by
 obtain ⟨h1,h2,h3⟩:=h.piece (by omega)
 refine .inl ⟨by omega,Nat.le_refl _,by simp,?_⟩
 have e:s.drop f=(s.drop f).take (i - f)++c :: s.drop (i+1):=by
  have:=(List.take_append_drop (i - f) (s.drop f)).symm
  rw [List.drop_drop,show f+(i - f)=i by omega,List.drop_eq_getElem_cons hi,hc] at this
  exact this
 rw [h3]
 conv=>lhs; rw [e,Sp.spl_some c _ _ h2]
 simp
theorem at_miss (h:At c s i f L) (hi:i<s.length) (hc:s[i]≠c):At c s (i+1) f L:=by
 obtain ⟨h1,h2,h3⟩:=h.piece (by omega)
 refine .inl ⟨by omega,by omega,?_,h3⟩
 have e:(s.drop f).take (i+1 - f)=(s.drop f).take (i - f)++[s[i]]:=by
  rw [show i+1 - f=i - f+1 by omega,List.take_succ_eq_append_getElem (by simp; omega),List.getElem_drop]
  simp only [show f+(i - f)=i by omega]
 rw [e,List.mem_append]
 rintro (h | h)
 ·exact h2 h
 ·simp at h; exact hc h.symm
end
theorem B_part (s:Str) (i j:Nat):(B s).extract i j=B ((s.drop i).take (j - i)):=by
 have ext : ∀ {a b:ByteArray},a.data=b.data→a=b:=fun {a b} h=>by cases a; cases b; exact congrArg _ h
 apply ext
 apply Array.ext'
 simp [B,ByteArray.data_extract,List.extract_eq_take_drop]
theorem split_any (s:Str) (c:UInt8) (w:World) (hl:s.length≤2000000) :
  Calls Tryz.prog 62 #[.string (B s),.int .u8 c.toNat] w fun e w'=>(∃ v,e=.returned v∧StrsOwn w' w.heap.size v (Sp.spl c s))∧Below w.heap.size w w':=by
 obtain ⟨i0,hi0,hz0,hz1,hz2⟩:=info_parts infoS
 have hs:(B s).size=s.length:=size_B s
 go_enter Tryz.func62,Tryz.ntmps62
 go_wp2_with fail
 go_loopw [5,6,7] (fun v vf vi wr=>∃ (i f:Nat) (L:List Str),vi=.int .i64 i∧vf=.int .i64 f∧i≤s.length+1∧f≤s.length+1∧L.length≤i∧At c s i f L∧wr.ownsRow w.heap.size 9 1 v L.length (L.map fun l=>.string (B l))∧(v=.slice none 0 0 ↔ L = [])∧Below w.heap.size w wr) (fun _ _ i _=>s.length+1 - (intOf i).toNat)
 case atStart=>exact ⟨0,0,[],rfl,rfl,by omega,by omega,by simp,.inl ⟨by omega,by omega,by simp,rfl⟩,World.ownsRow_nil _ _ _ _,by simp,Below.refl _ _⟩
 case round =>
  obtain ⟨i,f,L,rfl,rfl,hi,hf,hLi,hat,hown,hnil,hb⟩:=hrel
  have HAT:=aH hat
  have HO:=aH (And.intro hown (And.intro hnil hb))
  have hbs:=hb.size
  clear hat hown hnil hb
  by_cases hlt:i≤s.length
  ·have hltI:(i:Int)≤(s.length:Int):=by omega
   obtain ⟨h1,_,_⟩:=(aU HAT).piece hlt
   have HX:=aH (B_part s f i)
   by_cases he:i=s.length
   ·have heI:((i:Int) == (s.length:Int))=true:=by rw [beq_iff_eq]; omega
    have HE:=aH he
    clear he
    go_wp2_with (at_builtin; go_loud (refine wpList_append_own_at _ rfl (.tmp 25) (.tmp 30) 49 rfl w.heap.size 9 i0 (.string ⟨#[]⟩) 1 16 underS hi0 hz0 hz1 hz2 rfl (by decide) _ L.length _ rfl ((aU HO).1.alloc _) ⟨wr.heap.size,0,none⟩ 1 1 [.string ((B s).extract f i)] rfl rfl (cell_one_new _ _ _) (fun u hu=>by simp at hu; subst hu; rfl) (by unfold maxLen; omega) (by omega) (by simp; omega) ?_))
    intro v' w3 hown' hgrow hnil' _
    have HO3:Hid (w3.ownsRow w.heap.size 9 1 v' (L++[(s.drop f).take (i - f)]).length ((L++[(s.drop f).take (i - f)]).map fun l=>.string (B l))∧(v'=.slice none 0 0 ↔ L++[(s.drop f).take (i - f)] = [])∧Below w.heap.size w w3):=by
     rw [Hid,List.length_append,List.map_append]
     refine ⟨by rw [aU HX] at hown'; exact hown',⟨fun h=>absurd h (by simpa using hnil'),fun h=>by simp at h⟩,?_⟩
     have hB:=(aU HO).2.2
     exact (hB.alloc hbs _).trans ⟨hgrow.os,hgrow.tape,hgrow.output,hgrow.size,fun k hk=>hgrow.block k (by simp; omega) (fun e=>by have:=(World.ownsRow.lt (aU HO).1 k e.symm).1; omega)⟩
    clear hown' hgrow hnil'
    go_wp2_with fail
    obtain ⟨k1,k2,k3⟩:=aU HO3
    exact ⟨⟨i+1,i+1,_,by go_num,by go_num,by omega,by omega,by simp; omega,by have h:=aU HAT; rw [aU HE] at h ⊢; exact at_end h,k1,k2,k3⟩,by simp [intOf]; omega⟩
   ·have heI:((i:Int) == (s.length:Int))=false:=by rw [beq_eq_false_iff_ne]; omega
    have hlt2:i<s.length:=by omega
    obtain ⟨x,hx⟩ : ∃ x,x=s[i]:=⟨_,rfl⟩
    have g1 : ∀ h:i<(B s).size,(B s)[i]=x:=fun h=>hx.symm
    have HXX:=aH hx
    clear he hx
    by_cases hc:x=c
    ·have hcI:((x.toNat:Int) == (c.toNat:Int))=true:=by rw [hc]; simp
     have HC:=aH hc
     clear hc
     go_wp2_with (at_builtin; go_loud (refine wpList_append_own_at _ rfl (.tmp 25) (.tmp 30) 49 rfl w.heap.size 9 i0 (.string ⟨#[]⟩) 1 16 underS hi0 hz0 hz1 hz2 rfl (by decide) _ L.length _ rfl ((aU HO).1.alloc _) ⟨wr.heap.size,0,none⟩ 1 1 [.string ((B s).extract f i)] rfl rfl (cell_one_new _ _ _) (fun u hu=>by simp at hu; subst hu; rfl) (by unfold maxLen; omega) (by omega) (by simp; omega) ?_))
     intro v' w3 hown' hgrow hnil' _
     have HO3:Hid (w3.ownsRow w.heap.size 9 1 v' (L++[(s.drop f).take (i - f)]).length ((L++[(s.drop f).take (i - f)]).map fun l=>.string (B l))∧(v'=.slice none 0 0 ↔ L++[(s.drop f).take (i - f)] = [])∧Below w.heap.size w w3):=by
      rw [Hid,List.length_append,List.map_append]
      refine ⟨by rw [aU HX] at hown'; exact hown',⟨fun h=>absurd h (by simpa using hnil'),fun h=>by simp at h⟩,?_⟩
      have hB:=(aU HO).2.2
      exact (hB.alloc hbs _).trans ⟨hgrow.os,hgrow.tape,hgrow.output,hgrow.size,fun k hk=>hgrow.block k (by simp; omega) (fun e=>by have:=(World.ownsRow.lt (aU HO).1 k e.symm).1; omega)⟩
     clear hown' hgrow hnil'
     go_wp2_with fail
     obtain ⟨k1,k2,k3⟩:=aU HO3
     exact ⟨⟨i+1,i+1,_,by go_num,by go_num,by omega,by omega,by simp; omega,at_hit (aU HAT) hlt2 ((aU HXX).symm.trans (aU HC)),k1,k2,k3⟩,by simp [intOf]; omega⟩
    ·have hcI:((x.toNat:Int) == (c.toNat:Int))=false:=by
      rw [beq_eq_false_iff_ne]
      intro h
      exact hc (UInt8.toNat_inj.1 (by omega))
     have HC:=aH hc
     clear hc
     go_wp2_with fail
     obtain ⟨k1,k2,k3⟩:=aU HO
     exact ⟨⟨i+1,f,L,by go_num,rfl,by omega,by omega,by omega,at_miss (aU HAT) hlt2 (fun h=>aU HC ((aU HXX).trans h)),k1,k2,k3⟩,by simp [intOf]; omega⟩
  ·have hltI : ¬ (i:Int)≤(s.length:Int):=by omega
   go_wp2_with fail
   go_ret
   obtain ⟨k1,k2,k3⟩:=aU HO
   rcases aU HAT with h | ⟨_,h⟩
   ·omega
   ·rw [← h]
    exact ⟨⟨_,rfl,k1,k2⟩,k3⟩
end Ea
namespace Eb
open Ka Kb Re Wa Wb Ea
theorem take_snoc (s:Str) (k:Nat) (h:k<s.length):s.take (k+1)=s.take k++[s[k]]:=List.take_succ_eq_append_getElem h
theorem sign_cases (x:UInt8):(Pu.sign x=true∧((97≤(x.toNat:Int)∧(x.toNat:Int)≤122)∨(48≤(x.toNat:Int)∧(x.toNat:Int)≤57)∨(x.toNat:Int)=45∨(x.toNat:Int)=95)) ∨
  (Pu.sign x=false∧(((x.toNat:Int)<45)∨(45<(x.toNat:Int)∧(x.toNat:Int)<48)∨(57<(x.toNat:Int)∧(x.toNat:Int)<95)∨((x.toNat:Int)=96)∨(122<(x.toNat:Int)))):=by
 unfold Pu.sign Pu.signI
 generalize (x.toNat:Int)=n
 by_cases h1:97≤n∧n≤122
 ·left; simp [h1]
 by_cases h2:48≤n∧n≤57
 ·left; simp [h2]
 by_cases h3:n=45
 ·left; simp [h3]
 by_cases h4:n=95
 ·left; simp [h4]
 right
 refine ⟨?_,by omega⟩
 rw [Bool.eq_false_iff]
 simp only [ne_eq,Bool.or_eq_true,Bool.and_eq_true,decide_eq_true_eq,beq_iff_eq]
 omega
theorem label_any (s:Str) (w:World) (hl:s.length≤2000000) :
  Calls Tryz.prog 113 #[.string (B s)] w fun e w'=>e=.returned (.bool (Pu.label s))∧w'=w:=by
 have hs:(B s).size=s.length:=size_B s
 go_enter Tryz.func113,Tryz.ntmps113
 go_wp2_with fail
 go_loopw [3] (fun i wr=>∃ k:Nat,k≤s.length∧i=.int .i64 k∧(s.take k).all Pu.sign=true∧wr=w) (fun i _=>s.length - (intOf i).toNat)
 case atStart=>exact ⟨0,Nat.zero_le _,rfl,rfl,rfl⟩
 case round =>
  obtain ⟨k,hk,rfl,hall,rfl⟩:=hrel
  have H:=aH hall
  clear hall
  by_cases hlt:k<s.length
  ·have hltI:(k:Int)<(s.length:Int):=by omega
   have hts:=aH (take_snoc s k hlt)
   obtain ⟨x,hx⟩ : ∃ x,x=s[k]:=⟨_,rfl⟩
   have g1 : ∀ h:k<(B s).size,(B s)[k]=x:=fun h=>hx.symm
   have HX:=aH hx
   clear hx
   rcases sign_cases x with ⟨hb,h⟩ | ⟨hb,h⟩
   ·have HS:=aH hb
    clear hb
    have fin : ∀ v:Value,v=.int .i64 ((k:Int)+1)→∃ k':Nat,k'≤s.length∧v=.int .i64 k'∧(s.take k').all Pu.sign=true:=fun v hv=>⟨k+1,by omega,by rw [hv]; go_num,by rw [aU hts,List.all_append,aU H,← aU HX]; simp [aU HS]⟩
    have HFIN:=aH fin
    clear fin
    rcases h with h | h | h | h
    case' inr.inr.inl=>have n1:((x.toNat:Int) != 45)=false:=by rw [h]; rfl
    case' inr.inr.inr =>
     have n1:((x.toNat:Int) != 45)=true:=by rw [h]; rfl
     have n2:((x.toNat:Int) != 95)=false:=by rw [h]; rfl
    all_goals
     go_wp2_with fail
     obtain ⟨k',k1,k2,k3⟩:=aU HFIN _ rfl
     exact ⟨⟨k',k1,k2,k3,by first | rfl | trivial⟩,by simp [intOf]; omega⟩
   ·have HS:=aH hb
    clear hb
    have n1:((x.toNat:Int) != 45)=true:=by rw [bne_iff_ne]; omega
    have n2:((x.toNat:Int) != 95)=true:=by rw [bne_iff_ne]; omega
    rcases h with h | h | h | h | h
    all_goals
     go_wp2_with fail
     go_ret
     refine ⟨ret_bool ?_,rfl⟩
     have hmem:s[k]∈s:=List.getElem_mem hlt
     symm
     unfold Pu.label
     rw [Bool.and_eq_false_iff]
     right
     rw [List.all_eq_false]
     exact ⟨_,hmem,by rw [← aU HX,aU HS]; simp⟩
  ·have hltI : ¬ (k:Int)<(s.length:Int):=by omega
   have hks:k=s.length:=by omega
   have hfull:=aU H
   rw [hks,List.take_length] at hfull
   have HF:=aH hfull
   clear hfull
   by_cases z1:(0:Int)<(s.length:Int)
   ·by_cases z2:(s.length:Int)≤20
    ·go_wp2_with fail
     go_ret
     refine ⟨ret_bool ?_,rfl⟩
     unfold Pu.label
     rw [aU HF]; simp; omega
    ·go_wp2_with fail
     go_ret
     refine ⟨ret_bool ?_,rfl⟩
     unfold Pu.label
     rw [aU HF]; simp; omega
   ·go_wp2_with fail
    go_ret
    refine ⟨ret_bool ?_,rfl⟩
    unfold Pu.label
    rw [aU HF]; simp; omega
def dgs:Nat→Str→Option Nat
 | n,[]=>some n
 | n,c :: r=>if Pu.digitI c.toNat then dgs (10*n+(c.toNat - 48)) r else none
theorem dgs_ge : ∀ (l:Str) (n v:Nat),dgs n l=some v→n*10 ^ l.length≤v
 | [],n,v,h=>by simp [dgs] at h; simp [h]
 | c :: r,n,v,h=>by
  unfold dgs at h
  split at h
  ·have:=dgs_ge r _ v h
   rw [List.length_cons,Nat.pow_succ]
   calc n*(10 ^ r.length*10)=(10*n)*10 ^ r.length:=by rw [Nat.mul_comm (10 ^ r.length) 10,← Nat.mul_assoc,Nat.mul_comm n 10]
    _≤(10*n+(c.toNat - 48))*10 ^ r.length:=Nat.mul_le_mul_right _ (by omega)
    _≤v:=this
  ·cases h
theorem numFrom_dgs (most:Nat) : ∀ (l:Str) (n:Nat),n≤most→Pu.numFrom most n l=(match dgs n l with
  | some v=>if v≤most then some v else none
  | none=>none)
 | [],n,hn=>by simp [Pu.numFrom,dgs,hn]
 | c :: r,n,hn=>by
  unfold Pu.numFrom dgs
  split
  ·split
   ·exact numFrom_dgs most r _ ‹_›
   ·rename_i hgt
    cases hd:dgs (10*n+(c.toNat - 48)) r with
    | none=>rfl
    | some v =>
     have:=dgs_ge r _ v hd
     have h1:1≤10 ^ r.length:=Nat.one_le_pow _ _ (by omega)
     have:10*n+(c.toNat - 48)≤v:=Nat.le_trans (Nat.le_mul_of_pos_right _ (by omega)) this
     simp; omega
  ·rfl
def frm (s:Str):Option Nat:=if 1≤s.length∧s.length≤10∧¬ (s.head? = some 48∧1<s.length) then dgs 0 s else none
theorem num_frm (most:Nat) (hm:most<10000000000) (s:Str):Pu.num most s=(match frm s with
  | some v=>if v≤most then some v else none
  | none=>none):=by
 unfold frm
 cases s with
 | nil=>simp [Pu.num]
 | cons c r =>
  show (if c.toNat=48∧r≠[] then none else Pu.numFrom most 0 (c :: r))=_
  by_cases hz:c.toNat=48∧r≠[]
  ·have hc:c=48:=UInt8.toNat_inj.1 hz.1
   have hr:1<(c :: r).length:=by
    rcases r with _ | ⟨x,t⟩
    ·exact absurd rfl hz.2
    ·simp
   rw [if_pos hz,if_neg (fun h=>h.2.2 ⟨by rw [hc]; rfl,hr⟩)]
  ·rw [if_neg hz]
   have hnz : ¬ ((c :: r).head? = some 48∧1<(c :: r).length):=by
    rintro ⟨h1,h2⟩
    refine hz ⟨?_,?_⟩
    ·have:c=48:=by simpa using h1
     rw [this]; rfl
    ·rintro rfl; simp at h2
   by_cases hl:(c :: r).length≤10
   ·rw [if_pos ⟨by simp,hl,hnz⟩]
    exact numFrom_dgs most _ 0 (Nat.zero_le _)
   ·rw [if_neg (fun h=>hl h.2.1),numFrom_dgs most _ 0 (Nat.zero_le _)]
    cases hd:dgs 0 (c :: r) with
    | none=>rfl
    | some v =>
     unfold dgs at hd
     split at hd
     ·rename_i hdig
      have:=dgs_ge r _ v hd
      have hr10:10≤r.length:=by simp at hl; omega
      have hp:10000000000≤10 ^ r.length:=by
       calc 10000000000=10 ^ 10:=rfl
        _≤10 ^ r.length:=Nat.pow_le_pow_right (by omega) hr10
      have hc:1≤c.toNat - 48:=by
       unfold Pu.digitI at hdig
       simp at hdig
       have:c.toNat≠48:=fun h=>hz ⟨h,by rintro rfl; simp at hr10⟩
       omega
      have:10 ^ r.length≤v:=Nat.le_trans (by
       calc 10 ^ r.length=1*10 ^ r.length:=(Nat.one_mul _).symm
        _≤(10*0+(c.toNat - 48))*10 ^ r.length:=Nat.mul_le_mul_right _ (by omega)) this
      simp; omega
     ·cases hd
theorem numB_frm (most:Nat) (hm:most<10000000000) (s:Str):numB most s=(match frm s with
  | some v=>decide (v≤most)
  | none=>false):=by
 unfold numB
 rw [num_frm most hm]
 cases frm s with
 | none=>rfl
 | some v=>by_cases h:v≤most <;> simp [h]
theorem numV_frm (most:Nat) (hm:most<10000000000) (s:Str) (v:Nat) (h:frm s=some v) (hv:v≤most):numV most s=v:=by
 unfold numV
 rw [num_frm most hm,h]; simp [hv]
theorem number_any (s:Str) (most:Nat) (w:World) (hl:s.length≤1000000) (hm:most<10000000000) :
  Calls Tryz.prog 115 #[.string (B s),.int .i64 most] w fun e w'=>(∃ v:Nat,e=.returned (.tuple #[.int .i64 v,.bool (numB most s)])∧(numB most s=true→v=numV most s))∧w'=w:=by
 have hs:(B s).size=s.length:=size_B s
 have HNB:=aH (numB_frm most hm s)
 have HNV:=aH (numV_frm most hm s)
 have none_end:frm s=none→∃ v:Nat,Ending.returned (.tuple #[.int .i64 0,.bool false])=.returned (.tuple #[.int .i64 v,.bool (numB most s)])∧(numB most s=true→v=numV most s):=fun h=>by
  have hb:=aU HNB
  rw [h] at hb
  refine ⟨0,by rw [hb]; rfl,fun h2=>?_⟩
  rw [hb] at h2; cases h2
 have HNE:=aH none_end
 clear none_end
 by_cases z1:(s.length:Int)<1
 ·have hf:Hid (frm s=none):=if_neg (fun h=>by omega)
  go_enter Tryz.func115,Tryz.ntmps115
  go_wp2_with fail
  go_ret2
  exact ⟨aU HNE (aU hf),rfl⟩
 by_cases z2:(10:Int)<(s.length:Int)
 ·have hf:Hid (frm s=none):=if_neg (fun h=>by omega)
  go_enter Tryz.func115,Tryz.ntmps115
  go_wp2_with fail
  go_ret2
  exact ⟨aU HNE (aU hf),rfl⟩
 have h0:0<s.length:=by omega
 obtain ⟨x0,hx0⟩ : ∃ x,x=s[0]:=⟨_,rfl⟩
 have g0 : ∀ h:0<(B s).size,(B s)[0]=x0:=fun h=>hx0.symm
 have hhead:s.head? = some x0:=by rw [hx0,List.head?_eq_getElem?,List.getElem?_eq_getElem h0]
 by_cases z3:(x0.toNat:Int)=48∧(1:Int)<(s.length:Int)
 ·have hf:Hid (frm s=none):=if_neg (fun h=>h.2.2 ⟨by rw [hhead]; exact congrArg some (UInt8.toNat_inj.1 (by show x0.toNat=48; omega)),by omega⟩)
  obtain ⟨y1,y2⟩:=z3
  clear hhead hx0
  go_enter Tryz.func115,Tryz.ntmps115
  go_wp2_with fail
  go_ret2
  exact ⟨aU HNE (aU hf),rfl⟩
 have hf:Hid (frm s=dgs 0 s):=if_pos ⟨by omega,by omega,fun h=>z3 ⟨by
  have h1:=h.1
  rw [hhead] at h1
  have:x0=48:=by simpa using h1
  rw [this]; rfl,by omega⟩⟩
 have z4:((x0.toNat:Int)=48∧(s.length:Int)≤1)∨¬ (x0.toNat:Int)=48:=by omega
 clear z3 hhead hx0
 rcases z4 with ⟨y1,y2⟩ | y1
 all_goals
  go_enter Tryz.func115,Tryz.ntmps115
  go_wp2_with fail
  go_loopw [6,7] (fun vn vi wr=>∃ k m:Nat,k≤s.length∧vi=.int .i64 k∧vn=.int .i64 m∧m<10 ^ k∧dgs m (s.drop k)=dgs 0 s∧wr=w) (fun _ i _=>s.length - (intOf i).toNat)
  case atStart=>exact ⟨0,0,Nat.zero_le _,rfl,rfl,by simp,by rw [List.drop_zero],rfl⟩
  case round =>
   obtain ⟨k,m,hk,rfl,rfl,hmk,hd,rfl⟩:=hrel
   have hp10:10 ^ k≤10 ^ 10:=Nat.pow_le_pow_right (by omega) (by omega)
   have hpe:(10:Nat) ^ 10=10000000000:=rfl
   have hm10:m<10000000000:=by omega
   clear hp10 hpe
   have HD:=aH hd
   have HMK:=aH hmk
   clear hd hmk g0
   by_cases hlt:k<s.length
   ·have hltI:(k:Int)<(s.length:Int):=by omega
    obtain ⟨x,hx⟩ : ∃ x,x=s[k]:=⟨_,rfl⟩
    have g1 : ∀ h:k<(B s).size,(B s)[k]=x:=fun h=>hx.symm
    have HC:Hid (s.drop k=x :: s.drop (k+1)):=by rw [Hid,hx]; exact List.drop_eq_getElem_cons hlt
    clear hx
    by_cases c1:(x.toNat:Int)<48
    ·have hn:Hid (frm s=none):=by
      rw [Hid,aU hf,← aU HD,aU HC,dgs,if_neg (by unfold Pu.digitI; simp; omega)]
     go_wp2_with fail
     go_ret2
     exact ⟨aU HNE (aU hn),rfl⟩
    by_cases c2:(57:Int)<(x.toNat:Int)
    ·have hn:Hid (frm s=none):=by
      rw [Hid,aU hf,← aU HD,aU HC,dgs,if_neg (by unfold Pu.digitI; simp; omega)]
     go_wp2_with fail
     go_ret2
     exact ⟨aU HNE (aU hn),rfl⟩
    have hsub:IntKind.u8.wrap ((x.toNat:Int) - 48)=((x.toNat - 48:Nat):Int):=by rw [IntKind.wrap_u8]; omega
    have HN:Hid (dgs (10*m+(x.toNat - 48)) (s.drop (k+1))=dgs 0 s):=by
     rw [Hid,← aU HD,aU HC,dgs,if_pos (by unfold Pu.digitI; simp; omega)]
    have HM2:Hid (10*m+(x.toNat - 48)<10 ^ (k+1)):=by
     have:=aU HMK
     rw [Hid,Nat.pow_succ]; omega
    have HV:Hid ((10:Int)*(m:Int)+((x.toNat:Int) - 48)=((10*m+(x.toNat - 48):Nat):Int)):=by rw [Hid]; omega
    go_wp2_with fail
    refine ⟨⟨k+1,10*m+(x.toNat - 48),by omega,by go_num,?_,aU HM2,aU HN,by first | rfl | trivial⟩,by simp [intOf]; omega⟩
    first | exact congrArg (Value.int .i64) (aU HV) | exact congrArg (Value.int .i64) (by omega) | (rw [← aU HV]) | trace_state
   ·have hltI : ¬ (k:Int)<(s.length:Int):=by omega
    have hks:k=s.length:=by omega
    have hfr:frm s=some m:=by
     have:=aU HD
     rw [hks,List.drop_length] at this
     rw [aU hf,← this]; rfl
    have HFR:=aH hfr
    have hb:=aU HNB
    rw [hfr] at hb
    have hv:=aU HNV m hfr
    have HB:=aH hb
    have HV:=aH hv
    clear hb hv hfr
    go_wp2_with fail
    all_goals
     go_ret2
     refine ⟨⟨m,by rw [aU HB]; first | rfl | simp [*],fun h=>?_⟩,rfl⟩
     have h1:=aU HB
     rw [h] at h1
     exact (aU HV (by simpa using h1.symm)).symm
theorem kind_any (s:Str) (w:World) :
  Calls Tryz.prog 114 #[.string (B s)] w fun e w'=>e=.returned (.int .i64 (Pu.kindOf s))∧w'=w:=by
 go_enter Tryz.func114,Tryz.ntmps114
 go_wp2
 all_goals
  go_ret
  refine ⟨ret_int ?_,rfl⟩
  unfold Pu.kindOf
  simp only [ByteArray.toList_eq,data_B,beq_iff_eq,beq_eq_false_iff_ne,ne_eq] at *
  simp [*]
end Eb
namespace Ec
open Ka Kb Re Wa Wb Ea Eb
def okS (star:Bool) (i:Nat) (l:Str):Bool:=Pu.label l || (i == 0 && l == [42] && star)
def okSs (star:Bool):Nat→List Str→Bool
 | _,[]=>true
 | i,h :: t=>okS star i h && okSs star (i+1) t
theorem okSs_snoc (star:Bool) (x:Str) : ∀ (l:List Str) (i:Nat),okSs star i (l++[x])=(okSs star i l && okS star (i+l.length) x)
 | [],i=>by simp [okSs]
 | h :: t,i=>by
  rw [List.cons_append,okSs,okSs_snoc star x t (i+1),okSs,List.length_cons,Bool.and_assoc,show i+1+t.length=i+(t.length+1) by omega]
theorem okSs_bad (star:Bool) : ∀ (l:List Str) (i k:Nat) (h:k<l.length),okS star (i+k) l[k]=false→okSs star i l=false
 | h :: t,i,0,_,hb=>by rw [okSs]; simp at hb; rw [hb]; rfl
 | h :: t,i,k+1,hk,hb=>by
  rw [okSs,okSs_bad star t (i+1) k (by simpa using hk) (by simpa [show i+1+k=i+(k+1) by omega] using hb),Bool.and_false]
def nmR (star:Bool) (s:Str):Option (List Str):=if s.length≤60∧okSs star 0 (Sp.spl 46 s)=true then some (Sp.spl 46 s) else none
def TxAt (w:World) (g off:Nat) (ls:List Str):Prop:=g<w.heap.size∧∀ j (h:j<ls.length),w.cell? ⟨g,off+j,none⟩=some (.string (B ls[j]))
theorem TxAt.below {w w':World} {g off:Nat} {ls:List Str} (h:TxAt w g off ls) (hb:Below w.heap.size w w'):TxAt w' g off ls :=
 ⟨Nat.lt_of_lt_of_le h.1 hb.size,fun j hj=>(hb.cell (p:=⟨g,off+j,none⟩) h.1).trans (h.2 j hj)⟩
def NmV (w:World) (v:Value) (ls:List Str):Prop:=∃ g off cap,v=.slice (some ⟨g,off,none⟩) ls.length cap∧ls.length≤cap∧TxAt w g off ls
theorem NmV.below {w w':World} {v:Value} {ls:List Str} (h:NmV w v ls) (hb:Below w.heap.size w w'):NmV w' v ls:=by
 obtain ⟨g,off,cap,h1,h2,h3⟩:=h
 exact ⟨g,off,cap,h1,h2,h3.below hb⟩
theorem own_name {w:World} {base:Nat} {v:Value} {ls:List Str} (h:StrsOwn w base v ls) (hne:ls≠[]) : ∃ g cap,v=.slice (some ⟨g,0,none⟩) ls.length cap∧ls.length≤cap∧base≤g∧TxAt w g 0 ls:=by
 have h0:=h.1
 obtain ⟨_,⟨_,hz⟩ | ⟨g,cap,cur,rfl,hb,hcur,hc,_⟩⟩:=h.1
 ·exact absurd (List.eq_nil_of_length_eq_zero hz) hne
 ·refine ⟨g,cap,rfl,hc,hb,(Array.getElem?_eq_some_iff.1 hcur).1,fun j hj=>?_⟩
  rw [Nat.zero_add,World.ownsRow.cellAt h0 j (by omega),List.getElem?_map,List.getElem?_eq_getElem hj]; rfl
def NmR (w:World) (base:Nat) (v:Value) (o:Option (List Str)):Prop:=match o with
 | none=>v=.slice none 0 0
 | some l=>l≠[]∧∃ g cap,v=.slice (some ⟨g,0,none⟩) l.length cap∧l.length≤cap∧base≤g∧TxAt w g 0 l
theorem str_eq (x:Str):((B x).toList == [42])=(x == [42]):=by rw [ByteArray.toList_eq]; rfl
theorem readName_any (s:Str) (star:Bool) (w:World) (hl:s.length≤2000000) :
  Calls Tryz.prog 63 #[.string (B s),.bool star] w fun e w'=>(∃ v,e=.returned v∧NmR w' w.heap.size v (nmR star s))∧Below w.heap.size w w':=by
 have hs:(B s).size=s.length:=size_B s
 by_cases h60:(60:Int)<(s.length:Int)
 ·have hn:Hid (nmR star s=none):=if_neg (fun h=>by omega)
  go_enter Tryz.func63,Tryz.ntmps63
  go_wp2_with fail
  go_ret
  rw [aU hn]
  exact ⟨⟨_,rfl,rfl⟩,Below.refl _ _⟩
 have HSP:=aH (Ea.split_any s 46 w hl)
 have hlen:(Sp.spl 46 s).length≤61:=by have:=Sp.spl_len_le 46 s; omega
 have hmem : ∀ x∈Sp.spl 46 s,x.length≤60:=fun x hx=>by have:=Sp.spl_mem_len 46 s.length s (Nat.le_refl _) x hx; omega
 have HNN:Hid (∀ b,okSs star 0 (Sp.spl 46 s)=b→nmR star s=if b then some (Sp.spl 46 s) else none):=fun b hb=>by
  unfold nmR
  rw [hb]
  cases b
  ·exact if_neg (fun h=>by cases h.2)
  ·exact if_pos ⟨by omega,rfl⟩
 have HME:=aH hmem
 have HNE:Hid (Sp.spl 46 s≠[]):=Sp.spl_ne 46 s
 clear hmem
 generalize Sp.spl 46 s=L at *
 go_enter Tryz.func63,Tryz.ntmps63
 go_wp2_with fail
 refine (aU HSP).mono ?_
 rintro e w1 ⟨⟨v,rfl,hown⟩,hb1⟩
 obtain ⟨g,cap,rfl,hcap,hbg,htx⟩:=own_name hown (aU HNE)
 have HO:=aH (And.intro hbg (And.intro htx hb1))
 have hglt:=htx.1
 clear hown hb1 HSP hbg htx
 go_wp2_with fail
 go_loopw [6] (fun i wr=>∃ k:Nat,k≤L.length∧i=.int .i64 k∧okSs star 0 (L.take k)=true∧wr=w1) (fun i _=>L.length - (intOf i).toNat)
 case atStart=>exact ⟨0,Nat.zero_le _,rfl,rfl,rfl⟩
 case round =>
  obtain ⟨k,hk,rfl,hall,rfl⟩:=hrel
  have H:=aH hall
  clear hall
  by_cases hlt:k<L.length
  ·have hltI:(k:Int)<(L.length:Int):=by omega
   have hts:=aH (List.take_succ_eq_append_getElem hlt)
   obtain ⟨x,hx⟩ : ∃ x,x=L[k]:=⟨_,rfl⟩
   have hxl:x.length≤60:=by rw [hx]; exact aU HME _ (List.getElem_mem hlt)
   have hcell:wr.cell? ⟨g,k,none⟩=some (.string (B x)):=by
    have:=(aU HO).2.1.2 k hlt
    rw [Nat.zero_add] at this
    rw [hx]; exact this
   have HX:=aH hx
   clear hx
   have HLB:=aH (fun W=>Eb.label_any x W (by omega))
   have hse:=str_eq x
   have HON:Hid (okS star k x=true→okSs star 0 (L.take (k+1))=true):=fun h=>by
    rw [aU hts,okSs_snoc,aU H,List.length_take,Nat.min_eq_left hk,Nat.zero_add,← aU HX,h]; rfl
   have HOFF:Hid (okS star k x=false→nmR star s=none):=fun h=>by
    have:=okSs_bad star L 0 k hlt (by rw [Nat.zero_add,← aU HX]; exact h)
    rw [aU HNN false this]; rfl
   have HOK:Hid (okS star k x=(Pu.label x || (k == 0 && x == [42] && star))):=rfl
   cases hlb:Pu.label x
   ·have HLV:=aH hlb
    rw [hlb] at HLB HOK
    clear hlb
    have hbad:Hid ((k == 0 && x == [42] && star)=false→∃ v,Ending.returned (.slice none 0 0)=.returned v∧NmR wr w.heap.size v (nmR star s)):=fun h=>by
     rw [aU HOFF (by rw [aU HOK,h]; rfl)]
     exact ⟨_,rfl,rfl⟩
    by_cases hk0:k=0
    ·subst hk0
     cases hst:(x == [42])
     ·have HST:=aH hst
      rw [hst] at hse
      clear hst
      go_wp2_with fail
      refine (aU HLB _).mono ?_
      rintro e w2 ⟨rfl,rfl⟩
      go_wp2_with fail
      go_ret
      exact ⟨aU hbad (by rw [aU HST]; rfl),(aU HO).2.2⟩
     ·have HST:=aH hst
      rw [hst] at hse
      clear hst
      cases star
      ·go_wp2_with fail
       refine (aU HLB _).mono ?_
       rintro e w2 ⟨rfl,rfl⟩
       go_wp2_with fail
       go_ret
       exact ⟨aU hbad (by rw [aU HST]; rfl),(aU HO).2.2⟩
      ·have hgood:=aU HON (by rw [aU HOK,aU HST]; rfl)
       have HGD:=aH hgood
       clear hgood
       go_wp2_with fail
       refine (aU HLB _).mono ?_
       rintro e w2 ⟨rfl,rfl⟩
       go_wp2_with fail
       exact ⟨⟨0+1,by omega,by first | rfl | go_num,aU HGD,by first | rfl | trivial⟩,by simp [intOf]; omega⟩
    ·have hkI:(0:Int)<(k:Int):=by omega
     go_wp2_with fail
     refine (aU HLB _).mono ?_
     rintro e w2 ⟨rfl,rfl⟩
     go_wp2_with fail
     go_ret
     exact ⟨aU hbad (by rw [show (k == 0)=false by simpa using hk0]; rfl),(aU HO).2.2⟩
   ·rw [hlb] at HLB HOK
    clear hlb
    have hgood:=aU HON (by rw [aU HOK]; rfl)
    have HGD:=aH hgood
    clear hgood
    go_wp2_with fail
    refine (aU HLB _).mono ?_
    rintro e w2 ⟨rfl,rfl⟩
    go_wp2_with fail
    exact ⟨⟨k+1,by omega,by first | rfl | go_num,aU HGD,by first | rfl | trivial⟩,by simp [intOf]; omega⟩
  ·have hltI : ¬ (k:Int)<(L.length:Int):=by omega
   have hks:k=L.length:=by omega
   have hfull:=aU H
   rw [hks,List.take_length] at hfull
   have HF:=aH (aU HNN true hfull)
   clear hfull
   go_wp2_with fail
   go_ret
   rw [aU HF]
   exact ⟨⟨_,rfl,aU HNE,g,cap,rfl,hcap,(aU HO).1,(aU HO).2.1⟩,(aU HO).2.2⟩
end Ec
end Go.Proofs.YtkkpahmoljiepaaGreatDoor
