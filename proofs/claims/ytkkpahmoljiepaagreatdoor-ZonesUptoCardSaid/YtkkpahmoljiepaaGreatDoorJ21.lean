/- The document's answer (beaconref): the name whose records are those of a name. -/
import Derived.Test.YtkkpahmoljiepaaGreatDoorJ20
import Derived.Maps.AppendAt
import Derived.Test.YtkkpahmoljiepaaGreatDoorJ18
import Derived.Test.YtkkpahmoljiepaaGreatDoorJ11
import Derived.Test.YtkkpahmoljiepaaGreatDoorJ12
set_option linter.unusedSimpArgs false
set_option linter.unusedVariables false
set_option maxRecDepth 1000000
set_option maxHeartbeats 12800000
namespace Go.Proofs.YtkkpahmoljiepaaGreatDoor
open Go.RowKit
open Pu (Str aH aU)
namespace Ev
open Ka Kb Re Wa Wb Ea Eb Ec Ed Ee Ef Eh Er
theorem underN:Tryz.prog.underlying 113=some (.slice 9):=by kernel_rfl
theorem infoN:(Tryz.prog.info? 9).map (fun i=>(i.zero,i.size,i.bytes))=some (some (.string ⟨#[]⟩),1,16):=by kernel_rfl
def upR (rs:List Rec) (ns:List Str) (i:Nat):Nat→Option (List Str)
 | 0=>none
 | f+1=>if thereR rs (ns.drop i) then (if hasR rs ([42] :: ns.drop i) 255 then some ([42] :: ns.drop i) else none) else upR rs ns (i+1) f
def srcR (rs:List Rec) (ns:List Str):Option (List Str):=if thereR rs ns then some ns else upR rs ns 1 (ns.length - 1)
def SrV (w':World) (v:Value):Option (List Str)→Prop
 | none=>v=.slice none 0 0
 | some l=>NmV w' v l
theorem own1 (W:World) (base:Nat) (v:Value) (t:TypeId) (hb:base≤W.heap.size):(W.alloc (.cells #[v] t)).ownsRow base t 1 (.slice (some ⟨W.heap.size,0,none⟩) 1 1) 1 [v] :=
 ⟨rfl,.inr ⟨W.heap.size,1,#[v],rfl,hb,World.alloc_heap_new W _,Nat.le_refl _,by unfold maxLen; omega,rfl,rfl⟩⟩
theorem news_nm {W:World} {g no:Nat} {ns:List Str} (o:Obj) (h:TxAt W g no ns) (i:Nat) : ∀ (j:Nat) (u:Value),((ns.drop i).map fun l=>Value.string (B l))[j]? = some u→(W.alloc o).cell? ((⟨g,no+i,none⟩:Addr).add j)=some u:=fun j u hu=>by
 have hadd:(⟨g,no+i,none⟩:Addr).add j=⟨g,no+(i+j),none⟩:=by unfold Addr.add; simp [Nat.add_assoc]
 rw [hadd]
 rw [List.getElem?_map,List.getElem?_drop] at hu
 cases hl:ns[i+j]? with
 | none=>rw [hl] at hu; cases hu
 | some x =>
  rw [hl] at hu
  obtain ⟨hlt,hx⟩:=List.getElem?_eq_some_iff.1 hl
  have:=h.2 (i+j) hlt
  rw [hx] at this
  have e:Value.string (B x)=u:=by simpa using hu
  rw [← e]
  exact (World.cell?_of_block (Below.heap_alloc W o g h.1)).trans this
theorem one_nm (l:List Str) : ∀ u∈l.map (fun l=>Value.string (B l)),u.oneCell'=true:=by
 intro u hu
 obtain ⟨x,_,rfl⟩:=List.mem_map.1 hu
 rfl
theorem source_any (zb:Nat) (o:Str) (rs:List Rec) (g no nc:Nat) (ns:List Str) (w:World) (hz:RZone w zb o rs) (hf:RFit o rs) (hu:TxAt w g no ns) (hnc:ns.length≤nc) (hn:ns.length≤999) (hn0:0<ns.length) :
  Calls Tryz.prog 238 #[.pointer (some ⟨zb,0,none⟩),.slice (some ⟨g,no,none⟩) ns.length nc] w fun e w'=>(∃ v,e=.returned v∧SrV w' v (srcR rs ns))∧Below w.heap.size w w':=by
 obtain ⟨i0,hi0,hz0,hz1,hz2⟩:=info_parts infoN
 have HU:=aH hu
 have HZ:=aH hz
 have HF:=aH hf
 have HT:=aH (there_any zb o rs _ ns w hz hf ⟨g,no,nc,rfl,hnc,hu⟩ (by omega) hn0)
 clear hz hf hu
 go_enter Tryz.func238,Tryz.ntmps238
 go_wp2_with fail
 refine (aU HT).mono ?_
 rintro e w1 ⟨rfl,hb1⟩
 have HB1:=aH hb1
 clear hb1 HT
 have HSR:Hid (srcR rs ns=if thereR rs ns then some ns else upR rs ns 1 (ns.length - 1)):=rfl
 cases hth:thereR rs ns
 ·have HS2:Hid (srcR rs ns=upR rs ns 1 (ns.length - 1)):=by
   have:=aU HSR
   rw [hth] at this
   exact this
  clear hth HSR
  go_wp2_with fail
  go_loopw [6] (fun iv wr=>∃ i:Nat,1≤i∧i≤ns.length∧iv=.int .i64 i∧srcR rs ns=upR rs ns i (ns.length - i)∧Below w.heap.size w wr) (fun iv _=>ns.length - (intOf iv).toNat)
  case atStart=>exact ⟨1,by omega,by omega,rfl,aU HS2,aU HB1⟩
  case round =>
   clear HS2
   obtain ⟨i,hi1,hil,rfl,hsr,hb⟩:=hrel
   have HSR:=aH hsr
   have HB:=aH hb
   by_cases hlt:i<ns.length
   ·have hltI:(i:Int)<(ns.length:Int):=by omega
    have hcd : ¬ nc=i:=by omega
    have hdl:(ns.drop i).length=ns.length - i:=List.length_drop
    have HT:=aH (there_any zb o rs _ (ns.drop i) wr ((aU HZ).below hb) (aU HF) (nm_drop ((aU HU).below hb) hnc i (by omega)) (by omega) (by omega))
    have HUP:Hid (srcR rs ns=if thereR rs (ns.drop i) then (if hasR rs ([42] :: ns.drop i) 255 then some ([42] :: ns.drop i) else none) else upR rs ns (i+1) (ns.length - (i+1))):=by
     have:ns.length - i=(ns.length - (i+1))+1:=by omega
     rw [this,upR] at hsr
     exact hsr
    clear hsr hb HSR
    go_wp2_with fail
    refine (aU HT).mono ?_
    rintro e w2 ⟨rfl,hb2⟩
    have HB2:=aH ((aU HB).trans (hb2.mono (aU HB).size))
    clear hb2 HT
    cases hth:thereR rs (ns.drop i)
    ·have HP:Hid (srcR rs ns=upR rs ns (i+1) (ns.length - (i+1))):=by
      have:=aU HUP
      rw [hth] at this
      exact this
     clear hth
     go_wp2_with fail
     exact ⟨⟨i+1,by omega,by omega,by go_num,aU HP,aU HB2⟩,by simp [intOf]; omega⟩
    ·have HP:Hid (srcR rs ns=if hasR rs ([42] :: ns.drop i) 255 then some ([42] :: ns.drop i) else none):=by
      have:=aU HUP
      rw [hth] at this
      exact this
     clear hth HUP
     have hws:=(aU HB2).size
     have HTX:=aH ((aU HU).below (aU HB2))
     have htl:=(aU HTX).1
     go_wp2_with (at_builtin; go_loud (refine wpList_append_own_at _ rfl (.tmp 26) (.tmp 29) 113 rfl w.heap.size 9 i0 (.string ⟨#[]⟩) 1 16 underN hi0 hz0 hz1 hz2 rfl (by decide) _ 1 [.string (B [42])] rfl (own1 _ _ _ _ hws) ⟨g,no+i,none⟩ (ns.length - i) (nc - i) ((ns.drop i).map fun l=>.string (B l)) rfl (by rw [List.length_map,hdl,Nat.mul_one]) (news_nm _ (aU HTX) i) (one_nm _) (by unfold maxLen; omega) (by omega) (by simp; omega) ?_))
     intro v' w3 hown hgrow hnil hat
     have HNM:Hid (NmV w3 v' ([42] :: ns.drop i)):=by
      have hst:StrsOwn w3 w.heap.size v' ([42] :: ns.drop i):=by
       refine ⟨?_,⟨fun h=>?_,fun h=>by simp at h⟩⟩
       ·rw [List.length_cons,hdl,List.map_cons,Nat.add_comm,List.map_drop]
        exact hown
       ·exact absurd h hnil
      obtain ⟨q,qc,k1,k2,k3,k4⟩:=own_name hst (by simp)
      exact ⟨q,0,qc,k1,k2,k4⟩
     have hbw:Below w.heap.size w w3:=⟨hgrow.os.trans (aU HB2).os,hgrow.tape.trans (aU HB2).tape,hgrow.output.trans (aU HB2).output,Nat.le_trans (by simp; omega) hgrow.size,fun q hq=>(hgrow.block q (by simp; omega) (fun hc=>by simp [Value.ownBlock] at hc; omega)).trans ((((Below.refl w2.heap.size w2).alloc (Nat.le_refl _) _).block q (by omega)).trans ((aU HB2).block q hq))⟩
     have HB3:=aH hbw
     have HH:=aH (has_any zb o rs v' ([42] :: ns.drop i) 255 w3 ((aU HZ).below hbw) (aU HF) (aU HNM) (by simp; omega))
     obtain ⟨ya,yn,yc,rfl⟩ : ∃ a n c,v'=.slice a n c:=by
      obtain ⟨q,qo,qc,k1,_⟩:=aU HNM
      exact ⟨_,_,_,k1⟩
     clear hown hgrow hnil hat hbw
     go_wp2_with fail
     refine (aU HH).mono ?_
     rintro e w4 ⟨rfl,hb4⟩
     have HB4:=aH ((aU HB3).trans (hb4.mono (aU HB3).size))
     have HN4:=aH ((aU HNM).below hb4)
     clear hb4 HH
     cases hh:hasR rs ([42] :: ns.drop i) 255
     ·have HQ:Hid (srcR rs ns=none):=by
       have:=aU HP
       rw [hh] at this
       exact this
      clear hh
      go_wp2_with fail
      go_ret
      exact ⟨⟨_,rfl,by rw [aU HQ]; rfl⟩,aU HB4⟩
     ·have HQ:Hid (srcR rs ns=some ([42] :: ns.drop i)):=by
       have:=aU HP
       rw [hh] at this
       exact this
      clear hh
      go_wp2_with fail
      go_ret
      exact ⟨⟨_,rfl,by rw [aU HQ]; exact aU HN4⟩,aU HB4⟩
   ·have hltI : ¬ (i:Int)<(ns.length:Int):=by omega
    have HQ:Hid (srcR rs ns=none):=by
     have h1:ns.length - i=0:=by omega
     rw [h1,upR] at hsr
     exact hsr
    clear hsr hb
    go_wp2_with fail
    go_ret
    exact ⟨⟨_,rfl,by rw [aU HQ]; rfl⟩,aU HB⟩
 ·have HS2:Hid (srcR rs ns=some ns):=by
   have:=aU HSR
   rw [hth] at this
   exact this
  clear hth HSR
  go_wp2_with fail
  go_ret
  exact ⟨⟨_,rfl,by rw [aU HS2]; exact ⟨g,no,nc,rfl,hnc,(aU HU).below (aU HB1)⟩⟩,aU HB1⟩
end Ev
def NeL (n:Str):Prop:=∀ x∈Sp.spl 46 n,x≠[]
def endN (n:Str) (i:Nat):Str:=Ed.joinN ((Sp.spl 46 n).drop i)
def abR (rs:List Rec) (ns:List Str):Nat→Option Nat
 | 0=>none
 | k+1=>if Eh.hasR rs (ns.drop k) 2 then some k else abR rs ns k
namespace Ob
open Ka Ed Ek Em En Ep Ia Sc Sf Si Lg Eu Ex Oa La Lb Es Ev Er Eh Za Ie
theorem spl_end : ∀ (i:Nat) (n:Str),i<(Sp.spl 46 n).length→∃ m,Sp.spl 46 m=(Sp.spl 46 n).drop i
 | 0,n,_=>⟨n,rfl⟩
 | i+1,n,h=>by
  rcases cut_first 46 n with ⟨_,e⟩ | ⟨a,b,_,_,e⟩
  ·rw [e] at h; simp at h
  ·rw [e] at h ⊢
   obtain ⟨m,hm⟩:=spl_end i b (by simpa using h)
   exact ⟨m,by rw [hm]; rfl⟩
theorem spl_endN {n:Str} {i:Nat} (h:i<(Sp.spl 46 n).length):Sp.spl 46 (endN n i)=(Sp.spl 46 n).drop i:=by
 obtain ⟨m,hm⟩:=spl_end i n h
 unfold endN
 rw [← hm,join_spl]
theorem endN_zero (n:Str):endN n 0=n:=by unfold endN; rw [List.drop_zero,join_spl]
theorem ne_nil {n:Str} (h:NeL n):n≠[]:=by rintro rfl; exact h [] (by decide) rfl
theorem ends_spl : ∀ (f:Nat) (n:Str),n.length≤f→NeL n→ends n=(List.range (Sp.spl 46 n).length).map (endN n)
 | 0,n,h,hn=>absurd (List.eq_nil_of_length_eq_zero (by omega)) (ne_nil hn)
 | f+1,n,h,hn=>by
  rw [ends_cons n (ne_nil hn)]
  rcases cut_first 46 n with ⟨h1,e⟩ | ⟨a,b,e0,h1,e⟩
  ·rw [after_none n h1,ends_nil,e]
   show _ = [endN n 0]
   rw [endN_zero]
  ·have hb:NeL b:=fun x hx=>hn x (by rw [e]; exact List.mem_cons_of_mem _ hx)
   have hl:b.length≤f:=by rw [e0] at h; simp at h; omega
   have ha:after n=b:=by rw [e0]; exact after_some a b h1
   rw [ha,ends_spl f b hl hb,e,List.length_cons,List.range_succ_eq_map,List.map_cons,List.map_map,endN_zero]
   congr 1
   refine List.map_congr_left (fun i _=>?_)
   show endN b i=endN n (i+1)
   unfold endN
   rw [e]; rfl
theorem ends_eq {n:Str} (hn:NeL n):ends n=(List.range (Sp.spl 46 n).length).map (endN n):=ends_spl _ n (Nat.le_refl _) hn
theorem ends_after {n:Str} (hn:NeL n):ends (after n)=(List.range ((Sp.spl 46 n).length - 1)).map (fun i=>endN n (i+1)):=by
 have h:=ends_eq hn
 rw [ends_cons n (ne_nil hn)] at h
 obtain ⟨k,hk⟩ : ∃ k,(Sp.spl 46 n).length=k+1:=⟨(Sp.spl 46 n).length - 1,by have:=spl_pos n; omega⟩
 rw [hk,List.range_succ_eq_map,List.map_cons,List.map_map] at h
 rw [hk]
 exact (List.cons.inj h).2
theorem spl_under {n o:Str} (hu:Sp.under n o=true):(Sp.spl 46 o).length≤(Sp.spl 46 n).length∧(Sp.spl 46 n).drop ((Sp.spl 46 n).length - (Sp.spl 46 o).length)=Sp.spl 46 o:=by
 rw [← und_text] at hu
 unfold undP at hu
 simpa using hu
theorem end_origin {n o:Str} (hu:Sp.under n o=true):endN n ((Sp.spl 46 n).length - (Sp.spl 46 o).length)=o:=by
 unfold endN
 rw [(spl_under hu).2,join_spl]
def cutF (L:List Rec) (n:Str):Nat→List Rec
 | 0=>[]
 | k+1=>cutStep L (cutF L n k) (endN n k)
theorem fold_cut (L:List Rec) (n:Str) : ∀ k,((List.range k).map (endN n)).foldl (cutStep L) []=cutF L n k
 | 0=>rfl
 | k+1=>by rw [List.range_succ,List.map_append,List.foldl_append,fold_cut L n k]; rfl
theorem cut_fold {n o:Str} (L:List Rec) (hn:NeL n) (hu:Sp.under n o=true):cutP o L n=cutF L n ((Sp.spl 46 n).length - (Sp.spl 46 o).length):=by
 have h1:=(spl_under hu).1
 have hp:=spl_pos o
 unfold cutP
 rw [ends_eq hn]
 have hlt:(Sp.spl 46 n).length - (Sp.spl 46 o).length<(Sp.spl 46 n).length:=by omega
 rw [takeWhile_stop _ _ ((Sp.spl 46 n).length - (Sp.spl 46 o).length) o (by rw [List.getElem?_map,List.getElem?_range hlt]; exact congrArg some (end_origin hu)) ?_ (by simp),← List.map_take,List.take_range,Nat.min_eq_left (by omega),fold_cut]
 rw [← List.map_take,List.take_range,Nat.min_eq_left (by omega),List.all_eq_true]
 intro e he
 obtain ⟨i,hi,rfl⟩:=List.mem_map.1 he
 have hi':=List.mem_range.1 hi
 have:endN n i≠o:=fun hc=>by
  have h2:=congrArg (fun x=>(Sp.spl 46 x).length) hc
  rw [spl_endN (by omega),List.length_drop] at h2
  omega
 simpa using this
theorem own_two (rs:List Rec) (n:Str):ownT rs n 2=own rs n 2:=by unfold ownT; rw [if_neg (by decide)]
theorem cut_ab (rs:List Rec) (hty:TyOk rs) (n:Str) : ∀ k,k≤(Sp.spl 46 n).length→(abR rs (Sp.spl 46 n) k=none∧cutF (sortL rs) n k = [])∨∃ i,i<k∧abR rs (Sp.spl 46 n) k=some i∧cutF (sortL rs) n k=own rs (endN n i) 2∧own rs (endN n i) 2≠[]
 | 0,_=>.inl ⟨rfl,rfl⟩
 | k+1,hk=>by
  have ih:=cut_ab rs hty n k (by omega)
  have hh:hasR rs ((Sp.spl 46 n).drop k) 2 = !(own rs (endN n k) 2).isEmpty:=by
   rw [← spl_endN (by omega),has_own rs _ 2 hty,own_two]
  have hc:cutF (sortL rs) n (k+1)=if (own rs (endN n k) 2).length=0 then cutF (sortL rs) n k else own rs (endN n k) 2:=by
   show cutStep _ _ _=_
   unfold cutStep
   rw [set_own]
  rw [hc]
  unfold abR
  rw [hh]
  cases ho:own rs (endN n k) 2 with
  | nil =>
   simp only [List.isEmpty_nil,Bool.not_true,Bool.false_eq_true,if_false,List.length_nil,if_true]
   rcases ih with h | ⟨i,hi,h1,h2,h3⟩
   ·exact .inl h
   ·exact .inr ⟨i,by omega,h1,h2,h3⟩
  | cons x t =>
   refine .inr ⟨k,by omega,by simp,?_,?_⟩
   ·rw [ho]; simp
   ·rw [ho]; simp
theorem cut_two {rs:List Rec} (hty:TyOk rs) {n o:Str} (hn:NeL n) (hu:Sp.under n o=true) :
  (abR rs (Sp.spl 46 n) ((Sp.spl 46 n).length - (Sp.spl 46 o).length)=none∧cutP o (sortL rs) n = []) ∨
  ∃ i,i<(Sp.spl 46 n).length - (Sp.spl 46 o).length∧abR rs (Sp.spl 46 n) ((Sp.spl 46 n).length - (Sp.spl 46 o).length)=some i∧cutP o (sortL rs) n=own rs (endN n i) 2∧own rs (endN n i) 2≠[]:=by
 rw [cut_fold _ hn hu]
 exact cut_ab rs hty n _ (by omega)
theorem ab_none {rs:List Rec} {ns:List Str} : ∀ k,(∀ j,j<k→hasR rs (ns.drop j) 2=false)→abR rs ns k=none
 | 0,_=>rfl
 | k+1,h=>by unfold abR; rw [h k (by omega),if_neg (by simp)]; exact ab_none k (fun j hj=>h j (by omega))
theorem ab_some {rs:List Rec} {ns:List Str} {i:Nat} (hi:hasR rs (ns.drop i) 2=true) : ∀ k,i<k→(∀ j,i<j→j<k→hasR rs (ns.drop j) 2=false)→abR rs ns k=some i
 | 0,h,_=>absurd h (by omega)
 | k+1,h,hf=>by
  unfold abR
  by_cases e:i=k
  ·subst e; rw [hi,if_pos rfl]
  ·rw [hf k (by omega) (by omega),if_neg (by simp)]
   exact ab_some hi k (by omega) (fun j h1 h2=>hf j h1 (by omega))
theorem ab_val {o:Str} {rs:List Rec} {ns:List Str} {g off cap:Nat} {v:Value} (h:AbV o rs ns g off cap v) :
  (v=.slice none 0 0∧abR rs ns (ns.length - (Sp.spl 46 o).length)=none) ∨
  ∃ i,i+(Sp.spl 46 o).length<ns.length∧abR rs ns (ns.length - (Sp.spl 46 o).length)=some i∧v=.slice (some ⟨g,off+i,none⟩) (ns.length - i) (cap - i):=by
 rcases h with ⟨h1,h2⟩ | ⟨i,h1,h2,h3,h4⟩
 ·exact .inl ⟨h1,ab_none _ (fun j hj=>h2 j (by omega))⟩
 ·exact .inr ⟨i,h1,ab_some h2 _ (by omega) (fun j k1 k2=>h3 j k1 (by omega)),h4⟩
theorem there_two (rs:List Rec) (n:Str):there (sortL rs) n=thereR rs (Sp.spl 46 n):=by
 rw [Bool.eq_iff_iff]
 unfold there thereR underRuns
 rw [Bool.not_eq_true',← Bool.not_eq_true,List.isEmpty_iff,List.filter_eq_nil_iff,List.any_eq_true]
 constructor
 ·intro h
  refine Classical.byContradiction fun hc=>h fun x hx hu=>hc ?_
  obtain ⟨r,hr,_,e⟩:=(runs_own (sort_srt rs)).1 x hx
  rw [own_head hr e] at hu
  exact ⟨r,(sort_perm rs).mem_iff.1 hr,by rw [und_text]; exact hu⟩
 ·rintro ⟨r,hr,hu⟩ hc
  have hr':=(sort_perm rs).mem_iff.2 hr
  obtain ⟨x,hx,e⟩:=(runs_own (sort_srt rs)).2 r hr'
  refine hc x hx ?_
  rw [own_head hr' e,← und_text]
  exact hu
theorem of_any (rs:List Rec) (hty:TyOk rs) (n:Str):ofP (sortL rs) n=ownT rs n 255:=by
 rw [← take_own rs n 255 hty,take_eq (of_srt rs n),if_pos rfl]
theorem has_any255 (rs:List Rec) (hty:TyOk rs) (n:Str):hasR rs (Sp.spl 46 n) 255=decide (0<(ofP (sortL rs) n).length):=by
 rw [has_own rs n 255 hty,of_any rs hty]
 cases ownT rs n 255 <;> simp
theorem up_two (rs:List Rec) (hty:TyOk rs) (n:Str) : ∀ (f k:Nat),k+f=(Sp.spl 46 n).length →
  (((List.range f).map (fun i=>endN n (k+i))).find? (there (sortL rs))=none∧upR rs (Sp.spl 46 n) k f=none) ∨
  ∃ a,((List.range f).map (fun i=>endN n (k+i))).find? (there (sortL rs))=some a∧upR rs (Sp.spl 46 n) k f=if 0<(ofP (sortL rs) (42 :: 46 :: a)).length then some (Sp.spl 46 (42 :: 46 :: a)) else none
 | 0,k,_=>.inl ⟨rfl,rfl⟩
 | f+1,k,h=>by
  have ih:=up_two rs hty n f (k+1) (by omega)
  have hs:=spl_endN (n:=n) (i:=k) (by omega)
  rw [List.range_succ_eq_map,List.map_cons,List.map_map,List.find?_cons,Nat.add_zero]
  unfold upR
  rw [← hs,← there_two]
  by_cases ht:there (sortL rs) (endN n k)=true
  ·rw [ht]
   refine .inr ⟨endN n k,rfl,?_⟩
   have e:Sp.spl 46 (42 :: 46 :: endN n k) = [42] :: Sp.spl 46 (endN n k):=by
    have:=spl_app 46 (endN n k) [42]
    exact this
   rw [if_pos rfl,← e,has_any255 rs hty]
   simp
  ·have ht':there (sortL rs) (endN n k)=false:=by simpa using ht
   rw [ht',if_neg (by simp)]
   have e:(fun i=>endN n (k+i)) ∘ Nat.succ=fun i=>endN n (k+1+i):=by
    funext i
    show endN n (k+(i+1))=_
    rw [show k+(i+1)=k+1+i by omega]
   rw [e]
   exact ih
theorem owner_id {l:List Rec} {n:Str} (h : ∀ r∈l,r.owner=n):l.map (setOwner n)=l:=by
 conv=>rhs; rw [← List.map_id l]
 refine List.map_congr_left (fun r hr=>?_)
 unfold setOwner
 rw [← h r hr]; rfl
theorem src_two (rs:List Rec) (hty:TyOk rs) {n:Str} (hn:NeL n) :
  (srcR rs (Sp.spl 46 n)=none∧(matchP (sortL rs) n).2=false) ∨
  ∃ s,srcR rs (Sp.spl 46 n)=some (Sp.spl 46 s)∧(matchP (sortL rs) n).2=true∧(matchP (sortL rs) n).1=(ofP (sortL rs) s).map (setOwner n):=by
 unfold srcR matchP
 rw [← there_two]
 by_cases ht:there (sortL rs) n=true
 ·rw [if_pos ht,if_pos ht]
  exact .inr ⟨n,rfl,rfl,(owner_id (fun r hr=>(of_mem hr).2)).symm⟩
 ·rw [if_neg ht,if_neg ht,ends_after hn]
  have h1:=up_two rs hty n ((Sp.spl 46 n).length - 1) 1 (by have:=spl_pos n; omega)
  have e:(fun i=>endN n (i+1))=fun i=>endN n (1+i):=by funext i; rw [Nat.add_comm]
  rw [e]
  rcases h1 with ⟨h1,h2⟩ | ⟨a,h1,h2⟩
  ·rw [h1,h2]; exact .inl ⟨rfl,rfl⟩
  ·rw [h1,h2]
   by_cases hl:0<(ofP (sortL rs) (42 :: 46 :: a)).length
   ·rw [if_pos hl]
    exact .inr ⟨_,rfl,by simpa using hl,rfl⟩
   ·rw [if_neg hl]
    exact .inl ⟨rfl,by simpa using hl⟩
end Ob
namespace Et
open Ka Kb Re Wa Wb Ea Eb Ec Ed Ee Ef Eh
def soaR (r:Rec) (a3:Str):Rec:=(r.owner,min r.ttl (numV 86400 a3),r.type,r.data)
theorem soa_any (zb:Nat) (o:Str) (rs:List Rec) (w:World) (b off cap:Nat) (vo:Value) (z0:w.heap[zb]? = some (.cells #[vo,.slice (some ⟨b,off,none⟩) rs.length cap] 117)) (z2:rs.length≤cap) (z3:RRecs w b off rs) (h0:0<rs.length) (a0 a1 a2 a3:Str) (hal:a3.length≤1000000) (hnb:numB 86400 a3=true) (hd:Sp.spl 32 rs[0].data = [a0,a1,a2,a3]) :
  Calls Tryz.prog 239 #[.pointer (some ⟨zb,0,none⟩)] w fun e w'=>(∃ q ro rv,e=.returned (.slice (some ⟨q,0,none⟩) 1 1)∧w.heap.size≤q∧w'.heap[q]? = some (.cells #[ro,.int .i64 (soaR rs[0] a3).ttl,.int .i64 (soaR rs[0] a3).type,.string (B (soaR rs[0] a3).data),rv] 119)∧w.cell? ⟨b,off,none⟩=some ro∧w.cell? ⟨b,off+4,none⟩=some rv)∧Below w.heap.size w w':=by
 have hzl:zb<w.heap.size:=(Array.getElem?_eq_some_iff.1 z0).1
 have zc:w.cell? ⟨zb,1,none⟩=some (.slice (some ⟨b,off,none⟩) rs.length cap):=by unfold World.cell?; rw [z0]; rfl
 obtain ⟨ro,rv,c0,c1,c2,c3,c4,c5,c6⟩:=z3 0 h0
 rw [hd] at c6
 rw [Nat.zero_mul,Nat.add_zero] at c0 c1 c2 c3 c4
 obtain ⟨g,go,gc,rfl,hgc,ht⟩:=c6
 have w3:w.cell? ⟨g,go+3,none⟩=some (.string (B a3)):=ht.2 3 (by simp)
 have hgl:=ht.1
 have hgn : ¬ g=w.heap.size:=by omega
 have w3' : ∀ o,(w.alloc o).cell? ⟨g,go+3,none⟩=some (.string (B a3)):=fun o=>(World.cell?_of_block (Below.heap_alloc w o g hgl)).trans w3
 have HNU:=aH (fun W=>number_any a3 86400 W hal (by decide))
 have h0J:(0:Int)<(rs.length:Int):=by omega
 obtain ⟨vg,vof,vc,rfl,_,_⟩:=c5
 have HC0:=aH c0
 have HC4:=aH c4
 clear z0 z3 ht
 go_enter Tryz.func239,Tryz.ntmps239
 go_wp2_with fail
 refine (aU HNU _).mono ?_
 rintro e w1 ⟨⟨n,rfl,hnv⟩,rfl⟩
 have HNV:=aH hnv
 clear hnv
 rw [hnb]
 go_wp2_with fail
 go_ret
 have hb : ∀ o1 o2,Below w.heap.size w ((w.alloc o1).alloc o2):=fun o1 o2=>((Below.refl _ _).alloc (Nat.le_refl _) _).alloc (by simp) _
 have hv:n=numV 86400 a3:=aU HNV hnb
 subst hv
 have hmin:min ((rs[0].ttl:Nat):Int) ((numV 86400 a3:Nat):Int)=((min rs[0].ttl (numV 86400 a3):Nat):Int):=by omega
 have hnew : ∀ (W:World) (o:Obj) (k:Nat),W.heap.size=k→(W.alloc o).heap[k]? = some o:=fun W o k hk=>by subst hk; exact World.alloc_heap_new W o
 refine ⟨⟨w.heap.size+1,_,_,rfl,by omega,?_,aU HC0,aU HC4⟩,hb _ _⟩
 rw [hmin]
 exact hnew _ _ _ (by simp)
end Et
namespace Pb
open Ka Kd Rf Rg Ia Iow Ie Zb Zc Za Ze Zg Re Sb Pa Sk
theorem parse_all (s:ByteArray) (w:World) (hg:G w) (hs:s.size≤3000) (hfit : ∀ o rs,readZ s.data.toList=some (o,rs)→Fit o rs) :
  Calls Tryz.prog 16 #[.string s] w fun e w'=>parseR (parseP s.data.toList) w.heap.size e w'∧Below w.heap.size w w':=by
 have HC:=aH (clone_any s w (by omega))
 have hsI : ¬ (3000:Int)<(s.size:Int):=by omega
 have HRZ:=aH (fun w1 (h:Below w.heap.size w w1)=>readZone_any s w1 (hg.below h) hs)
 clear hg
 cases hz:readZ s.data.toList with
 | none =>
  have hfin:Hid (parseP s.data.toList=none):=by unfold parseP; rw [Hid,hz]; rfl
  go_enter Tryz.func16,Tryz.ntmps16
  go_wp2_with fail
  refine (aU HC).mono ?_
  rintro e w1 ⟨rfl,hb1⟩
  go_wp2_with fail
  refine (aU HRZ w1 hb1).mono ?_
  rintro e w2 ⟨hr2,hb2⟩
  rw [hz] at hr2
  obtain rfl:e=.returned noneV:=hr2
  unfold noneV
  go_wp2_with fail
  go_ret2
  rw [aU hfin]
  exact ⟨rfl,hb1.trans (hb2.mono hb1.size)⟩
 | some x =>
  obtain ⟨o,rs⟩:=x
  obtain ⟨hlen,hol,hrl⟩:=hfit o rs hz
  have HRL:=aH hrl
  clear hfit hrl
  have hP:Hid (parseP s.data.toList=if startsR o rs && rightP o (sortL rs) then some (o,sortL rs) else none):=by unfold parseP; rw [Hid,hz]; rfl
  cases hst:startsR o rs
  ·have hfin:Hid (parseP s.data.toList=none):=by rw [Hid,aU hP,hst]; rfl
   go_enter Tryz.func16,Tryz.ntmps16
   go_wp2_with fail
   refine (aU HC).mono ?_
   rintro e w1 ⟨rfl,hb1⟩
   go_wp2_with fail
   refine (aU HRZ w1 hb1).mono ?_
   rintro e w2 ⟨hr2,hb2⟩
   rw [hz] at hr2
   obtain ⟨v,rfl,hown⟩:=hr2
   have HS:=aH (startsRight_any o v rs w2 hown.rv (by omega))
   clear hown
   go_wp2_with fail
   refine (aU HS).mono ?_
   rintro e w3 ⟨rfl,hb3⟩
   go_wp2_with fail
   go_ret2
   rw [aU hfin]
   exact ⟨rfl,(hb1.trans (hb2.mono hb1.size)).trans (hb3.mono (Nat.le_trans hb1.size hb2.size))⟩
  ·have hne:rs≠[]:=by intro h; rw [h] at hst; cases hst
   have HSL:Hid (∀ r∈sortL rs,r.owner.length≤3000∧r.data.length≤3000):=sortL_all (aU HRL)
   have hsl:=sortL_len rs
   cases hrt:rightP o (sortL rs)
   ·have hfin:Hid (parseP s.data.toList=none):=by rw [Hid,aU hP,hst,hrt]; rfl
    go_enter Tryz.func16,Tryz.ntmps16
    go_wp2_with fail
    refine (aU HC).mono ?_
    rintro e w1 ⟨rfl,hb1⟩
    go_wp2_with fail
    refine (aU HRZ w1 hb1).mono ?_
    rintro e w2 ⟨hr2,hb2⟩
    rw [hz] at hr2
    obtain ⟨v,rfl,hown⟩:=hr2
    have HS:=aH (startsRight_any o v rs w2 hown.rv (by omega))
    obtain ⟨g,cap,cur,rfl,hg,hcur,hcap,hra⟩:=own_some hown hne
    have HCUR:=aH hcur
    have HRA:=aH hra
    clear hown hcur hra
    have hb12:=hb1.trans (hb2.mono hb1.size)
    go_wp2_with fail
    refine (aU HS).mono ?_
    rintro e w3 ⟨rfl,hb3⟩
    have hb13:=hb12.trans (hb3.mono hb12.size)
    have hglt:=(aU HRA).1
    go_wp2_with fail
    refine (sort_all g cap rs w3 cur _ ((hb3.block g hglt).trans (aU HCUR)) ((aU HRA).below hb3) hlen).mono ?_
    rintro e w4 ⟨rfl,hr4,hb4⟩
    have hb14:=hb4 w.heap.size w (Nat.le_trans hb1.size hg) hb13.size hb13
    have HI:=aH (isRight_any g 0 cap o (sortL rs) w4 hr4 (by omega) (by omega) hol (fun r hr=>(aU HSL r hr).1))
    rw [hsl] at HI
    clear hr4 hb4
    go_wp2_with fail
    refine (aU HI).mono ?_
    rintro e w5 ⟨rfl,hb5⟩
    go_wp2_with fail
    go_ret2
    rw [aU hfin]
    exact ⟨rfl,hb14.trans (hb5.mono hb14.size)⟩
   ·have hfin:Hid (parseP s.data.toList=some (o,sortL rs)):=by rw [Hid,aU hP,hst,hrt]; rfl
    go_enter Tryz.func16,Tryz.ntmps16
    go_wp2_with fail
    refine (aU HC).mono ?_
    rintro e w1 ⟨rfl,hb1⟩
    go_wp2_with fail
    refine (aU HRZ w1 hb1).mono ?_
    rintro e w2 ⟨hr2,hb2⟩
    rw [hz] at hr2
    obtain ⟨v,rfl,hown⟩:=hr2
    have HS:=aH (startsRight_any o v rs w2 hown.rv (by omega))
    obtain ⟨g,cap,cur,rfl,hg,hcur,hcap,hra⟩:=own_some hown hne
    have HCUR:=aH hcur
    have HRA:=aH hra
    clear hown hcur hra
    have hb12:=hb1.trans (hb2.mono hb1.size)
    go_wp2_with fail
    refine (aU HS).mono ?_
    rintro e w3 ⟨rfl,hb3⟩
    have hb13:=hb12.trans (hb3.mono hb12.size)
    have hglt:=(aU HRA).1
    go_wp2_with fail
    refine (sort_all g cap rs w3 cur _ ((hb3.block g hglt).trans (aU HCUR)) ((aU HRA).below hb3) hlen).mono ?_
    rintro e w4 ⟨rfl,hr4,hb4⟩
    have hb14:=hb4 w.heap.size w (Nat.le_trans hb1.size hg) hb13.size hb13
    have HI:=aH (isRight_any g 0 cap o (sortL rs) w4 hr4 (by omega) (by omega) hol (fun r hr=>(aU HSL r hr).1))
    rw [hsl] at HI
    have HR4:=aH hr4
    clear hr4 hb4
    go_wp2_with fail
    refine (aU HI).mono ?_
    rintro e w5 ⟨rfl,hb5⟩
    have hb15:=hb14.trans (hb5.mono hb14.size)
    have HR5:=aH ((aU HR4).below hb5)
    go_wp2_with fail
    refine (new_any o g 0 rs.length cap w5).mono ?_
    rintro e w6 ⟨rfl,hb6,hlt6,c60,c61⟩
    have HT:Hid (aN w6 w5.heap.size o g 0 cap (sortL rs)):=⟨hlt6,c60,by rw [hsl]; exact c61,by omega,(aU HR5).below hb6⟩
    clear c60 c61
    go_wp2_with fail
    go_ret2
    rw [aU hfin]
    exact ⟨⟨_,_,_,rfl,hb15.size,Nat.le_trans hb1.size hg,aU HT⟩,hb15.trans (hb6.mono hb15.size)⟩
end Pb
structure RecOk (r:Rec):Prop where
 val:Sp.valid r.owner=true
 ttl:r.ttl≤86400
 dat:Ke.isData r.type (Sp.spl 32 r.data)=true
 len:r.data.length≤3000
structure ZOk (o:Str) (rs:List Rec):Prop where
 org:Sp.plain o=true
 recs : ∀ r∈rs,RecOk r
 sta:Rf.startsR o rs=true
 rgt:rightP o (sortL rs)=true
namespace Oc
open Ka Ed Ek Em En Ep Ia Sc Sf Si Lg Eu Ex Oa Ob La Lb Es Ev Er Eh Za Ie Ec Ee Eb Re Lc Ke
theorem dgs_dec : ∀ (l:Str) (n:Nat),dgs n l=Lib.decFrom n l
 | [],n=>rfl
 | c :: r,n=>by
  unfold dgs Lib.decFrom Lib.digitVal
  by_cases h:48≤c.toNat∧c.toNat≤57
  ·have hd:Pu.digitI c.toNat=true:=by unfold Pu.digitI; simp; omega
   rw [if_pos hd,if_pos h,dgs_dec r,Nat.mul_comm]
  ·have hd : ¬ Pu.digitI c.toNat=true:=by unfold Pu.digitI; simp; omega
   rw [if_neg hd,if_neg h]
theorem num_atoi {s:Str} (h:numB 86400 s=true):s.length≤10∧Lib.atoi s=some (numV 86400 s:Int)∧numV 86400 s≤86400:=by
 have h0:=h
 rw [numB_frm 86400 (by omega)] at h
 cases hf:frm s with
 | none=>rw [hf] at h; cases h
 | some v =>
  rw [hf] at h
  have hv:v≤86400:=by simpa using h
  rw [numV_frm 86400 (by omega) s v hf hv]
  unfold frm at hf
  split at hf
  ·rename_i hl
   refine ⟨hl.2.1,?_,hv⟩
   cases s with
   | nil=>simp at hl
   | cons c r =>
    have hc:Pu.digitI c.toNat=true:=by
     refine Classical.byContradiction fun hc=>?_
     unfold dgs at hf
     rw [if_neg hc] at hf; cases hf
    have hc':48≤c.toNat∧c.toNat≤57:=by unfold Pu.digitI at hc; simp at hc; omega
    have h45:(c == 45)=false:=by rw [beq_eq_false_iff_ne]; rintro rfl; exact absurd hc'.1 (by decide)
    have h43:(c == 43)=false:=by rw [beq_eq_false_iff_ne]; rintro rfl; exact absurd hc'.1 (by decide)
    have e1:Lib.atoi (c :: r)=(Lib.decNat (c :: r)).map (fun m:Nat=>(m:Int)):=by
     unfold Lib.atoi
     simp [h45,h43]
    rw [e1]
    unfold Lib.decNat
    rw [if_neg (by simp),← dgs_dec,hf]; rfl
  ·cases hf
theorem get_B (l:Str) (j:Nat):(B l).data[j]! = l[j]?.getD default:=by
 show l.toArray[j]! = _
 rw [Array.getElem!_eq_getD,Array.getD_eq_getD_getElem?,List.getElem?_toArray]
theorem last_app (a b:Str) (h:(32:UInt8) ∉ b):lastW (a++32 :: b)=b:=by
 have hlast:Lib.lastIndexByte (B (a++32 :: b)) 32=(a.length:Int):=by
  unfold Lib.lastIndexByte
  have hsz:(B (a++32 :: b)).size=a.length+1+b.length:=by rw [size_B]; simp; omega
  have hat:(((B (a++32 :: b)).data[a.length]!).toNat:Int)=32:=by rw [get_B]; simp
  rcases Lib.lastIdx_spec (B (a++32 :: b)) 32 (B (a++32 :: b)).size with ⟨_,h2⟩ | ⟨i,h1,h2,h3,h4⟩
  ·exact absurd hat (h2 a.length (by omega))
  ·rw [h2]
   rcases Nat.lt_trichotomy i a.length with hi | hi | hi
   ·exact absurd hat (h4 a.length hi (by omega))
   ·rw [hi]
   ·exfalso
    rw [get_B,List.getElem?_append_right (by omega),show i - a.length=(i - a.length - 1)+1 by omega,List.getElem?_cons_succ,List.getElem?_eq_getElem (by omega)] at h3
    have hm:b[i - a.length - 1]'(by omega)∈b:=List.getElem_mem _
    have:b[i - a.length - 1]'(by omega)=32:=by
     apply UInt8.toNat_inj.1
     have:((b[i - a.length - 1]'(by omega)).toNat:Int)=32:=h3
     show _=32
     omega
    rw [this] at hm
    exact h hm
 unfold lastW
 rw [hlast,show ((a.length:Int)+1).toNat=a.length+1 by omega,show a++32 :: b=(a++[32])++b by simp,List.drop_append_of_le_length (by simp)]
 simp
theorem last_one (b:Str) (h:(32:UInt8) ∉ b):lastW b=b:=by
 have hlast:Lib.lastIndexByte (B b) 32 = -1:=by
  unfold Lib.lastIndexByte
  rcases Lib.lastIdx_spec (B b) 32 (B b).size with ⟨h1,_⟩ | ⟨i,h1,h2,h3,h4⟩
  ·exact h1
  ·exfalso
   rw [size_B] at h1
   rw [get_B,List.getElem?_eq_getElem h1] at h3
   have hm:b[i]∈b:=List.getElem_mem _
   have:b[i]=32:=by
    apply UInt8.toNat_inj.1
    have:((b[i]).toNat:Int)=32:=h3
    show _=32
    omega
   rw [this] at hm
   exact h hm
 unfold lastW
 rw [hlast]; rfl
theorem spl_no (c:UInt8) : ∀ (f:Nat) (s:Str),s.length≤f→∀ x∈Sp.spl c s,c ∉ x
 | f,s,hf,x,hx=>by
  rcases cut_first c s with ⟨h,e⟩ | ⟨a,b,e0,h,e⟩
  ·rw [e] at hx
   have:x=s:=by simpa using hx
   rw [this]; exact h
  ·rw [e] at hx
   rcases List.mem_cons.1 hx with rfl | hx
   ·exact h
   ·have hl:b.length<f:=by rw [e0] at hf; simp at hf; omega
    exact spl_no c (f - 1) b (by omega) x hx
termination_by f=>f
decreasing_by omega
theorem last_spl (d:Str) (ws:List Str) (x:Str) (h:Sp.spl 32 d=ws++[x]):lastW d=x:=by
 have hno:=spl_no 32 d.length d (Nat.le_refl _) x (by rw [h]; simp)
 have hj:=joinC_spl 32 d
 rw [h] at hj
 cases ws with
 | nil=>rw [← hj]; exact last_one x hno
 | cons y t =>
  rw [joinC_snoc 32 x (y :: t) (by simp)] at hj
  rw [← hj]; exact last_app _ x hno
theorem data_type {k:Int} {ws:List Str} (h:isData k ws=true):k=1∨k=2∨k=5∨k=6∨k=15∨k=16:=by
 unfold isData at h
 repeat' (split at h)
 all_goals first
  | (cases h; done)
  | omega
theorem data6 {ws:List Str} (h:isData 6 ws=true) : ∃ a b c d,ws = [a,b,c,d]∧numB 86400 d=true:=by
 unfold isData at h
 rw [if_pos rfl] at h
 match ws,h with
 | [a,b,c,d],h=>exact ⟨a,b,c,d,rfl,by simp at h; exact h.2⟩
theorem data25 {k:Int} {ws:List Str} (hk:k=2∨k=5) (h:isData k ws=true) : ∃ a,ws = [a]∧Sp.plain a=true:=by
 unfold isData at h
 rw [if_neg (by omega),if_pos hk] at h
 match ws,h with
 | [a],h=>exact ⟨a,rfl,h⟩
theorem data15 {ws:List Str} (h:isData 15 ws=true) : ∃ a b,ws = [a,b]∧Sp.plain b=true:=by
 unfold isData at h
 rw [if_neg (by omega),if_neg (by omega),if_neg (by omega),if_neg (by omega),if_pos rfl] at h
 match ws,h with
 | [a,b],h=>exact ⟨a,b,rfl,by simp at h; exact h.2⟩
theorem one_word {d a:Str} (h:Sp.spl 32 d = [a]):d=a:=by
 have:=joinC_spl 32 d
 rw [h] at this
 exact this.symm
theorem last_name {r:Rec} (h:RecOk r) (ht:r.type=2∨r.type=15) : ∃ ws x,Sp.spl 32 r.data=ws++[x]∧lastW r.data=x∧Sp.plain x=true:=by
 have hd:=h.dat
 rcases ht with ht | ht
 ·rw [ht] at hd
  obtain ⟨a,e,hp⟩:=data25 (.inl rfl) hd
  exact ⟨[],a,e,last_spl _ [] a e,hp⟩
 ·rw [ht] at hd
  obtain ⟨a,b,e,hp⟩:=data15 hd
  exact ⟨[a],b,e,last_spl _ [a] b e,hp⟩
theorem name_nel {star:Bool} {n:Str} (h:(nmR star n).isSome=true):NeL n∧n.length≤60:=by
 unfold nmR at h
 split at h
 ·rename_i hh
  refine ⟨fun x hx=>?_,hh.1⟩
  have key : ∀ (l:List Str) (i:Nat),okSs star i l=true→∀ x∈l,x≠[]:=by
   intro l
   induction l with
   | nil=>intro i _ x hx; cases hx
   | cons a l ih =>
    intro i h x hx
    rw [okSs,Bool.and_eq_true] at h
    rcases List.mem_cons.1 hx with rfl | hx
    ·rintro rfl
     have:=h.1
     unfold okS Pu.label at this
     simp at this
    ·exact ih (i+1) h.2 x hx
  exact key _ 0 hh.2 x hx
 ·cases h
theorem plain_nel {n:Str} (h:Sp.plain n=true):NeL n∧n.length≤60:=name_nel (by rw [nmF]; exact h)
theorem valid_nel {n:Str} (h:Sp.valid n=true):NeL n∧n.length≤60:=name_nel (by rw [nmT]; exact h)
section
variable {o:Str} {rs:List Rec} (hz:ZOk o rs)
include hz
theorem zty:TyOk rs:=fun r hr=>by have:=data_type (hz.recs r hr).dat; omega
theorem zfit:RFit o rs:=by
 refine ⟨by have:=(plain_nel hz.org).2; omega,?_,fun r hr=>by have:=(valid_nel (hz.recs r hr).val).2; omega⟩
 have:=hz.sta
 unfold Rf.startsR at this
 cases rs with
 | nil=>simp
 | cons r t=>simp at this ⊢; omega
theorem zlen:rs.length≤60:=by
 have:=hz.sta
 unfold Rf.startsR at this
 cases rs with
 | nil=>simp
 | cons r t=>simp at this ⊢; omega
theorem zpos:0<rs.length:=by
 have:=hz.sta
 unfold Rf.startsR at this
 cases rs with
 | nil=>simp at this
 | cons r t=>simp
theorem own_len (n:Str) (k:Int):(own rs n k).length≤60:=Nat.le_trans (List.length_filter_le _ _) (zlen hz)
theorem own_soa:own rs o 6 = [rs[0]'(zpos hz)]∧(rs[0]'(zpos hz)).type=6∧(rs[0]'(zpos hz)).owner=o:=by
 have h:=hz.sta
 unfold Rf.startsR at h
 cases rs with
 | nil=>simp at h
 | cons r t =>
  simp only [Bool.and_eq_true,decide_eq_true_eq,beq_iff_eq,Bool.not_eq_true'] at h
  obtain ⟨_,⟨h1,h2⟩,h3⟩:=h
  refine ⟨?_,h2,h1⟩
  unfold own
  rw [List.filter_cons_of_pos (by simp [h1,h2])]
  show r :: _ = [r]
  congr 1
  rw [List.filter_eq_nil_iff]
  intro x hx hc
  simp only [Bool.and_eq_true,beq_iff_eq] at hc
  rw [← Bool.not_eq_true] at h3
  exact h3 (List.any_eq_true.2 ⟨x,hx,by unfold Rf.hasP; simpa using hc.2⟩)
theorem deny_two : ∃ a0 a1 a2 a3,Sp.spl 32 (rs[0]'(zpos hz)).data = [a0,a1,a2,a3]∧numB 86400 a3=true∧a3.length≤1000000∧denyP o (sortL rs) = [Et.soaR (rs[0]'(zpos hz)) a3]∧(∀ r∈setP (ofP (sortL rs) o) 6,soaOk r∧r.data.length≤3000∧r.ttl≤1000000000):=by
 obtain ⟨h1,h2,h3⟩:=own_soa hz
 have hr:=hz.recs _ (List.getElem_mem (zpos hz))
 have hd:=hr.dat
 rw [h2] at hd
 obtain ⟨a0,a1,a2,a3,e,hn⟩:=data6 hd
 obtain ⟨n1,n2,n3⟩:=num_atoi hn
 have hl:lastW (rs[0]'(zpos hz)).data=a3:=last_spl _ [a0,a1,a2] a3 e
 refine ⟨a0,a1,a2,a3,e,hn,by omega,?_,?_⟩
 ·unfold denyP
  rw [set_own,h1]
  show [denyR _]=_
  unfold denyR minN Et.soaR
  rw [hl,n2]
  rfl
 ·rw [set_own,h1]
  intro r hr'
  have:r=rs[0]'(zpos hz):=by simpa using hr'
  subst this
  refine ⟨⟨by rw [hl]; omega,numV 86400 a3,by rw [hl]; exact n2,by omega⟩,hr.len,by have:=hr.ttl; omega⟩
theorem of_alias {s:Str} {r:Rec} (hr:r∈ofP (sortL rs) s) (h5:r.type=5):ofP (sortL rs) s = [r]:=by
 have hval : ∀ r∈sortL rs,Sp.valid r.owner=true:=fun r hr=>(hz.recs r ((sort_perm rs).mem_iff.1 hr)).val
 have hp:=(pw_iff (sort_srt rs) o).1 hz.rgt
 obtain ⟨hnd,hb⟩:=besp_of (sort_srt rs) hval o hp
 rw [of_own] at hr ⊢
 have hall : ∀ x∈(sortL rs).filter (fun r=>r.owner == s),x=r:=fun x hx=>by
  refine Classical.byContradiction fun hne=>?_
  have hx':=List.mem_filter.1 hx
  have hr':=List.mem_filter.1 hr
  have:=(hb x hx'.1 r hr'.1 hne).2.1 (by have h1:=hx'.2; have h2:=hr'.2; simp only [beq_iff_eq] at h1 h2; rw [h1,h2])
  exact this.2.1 h5
 have hnd':((sortL rs).filter (fun r=>r.owner == s)).Nodup:=List.Pairwise.filter _ hnd
 generalize (sortL rs).filter (fun r=>r.owner == s)=F at *
 match F,hr,hall,hnd' with
 | [],hr,_,_=>cases hr
 | [x],_,hall,_=>rw [hall x (by simp)]
 | x :: y :: t,_,hall,hnd' =>
  have e1:=hall x (by simp)
  have e2:=hall y (by simp)
  rw [e1,e2] at hnd'
  simp at hnd'
theorem alias_two (s n:Str):hasR rs (Sp.spl 46 s) 5=aliasP ((ofP (sortL rs) s).map (setOwner n))∧(hasR rs (Sp.spl 46 s) 5=true→∃ r,r.type=5∧r∈rs∧ofP (sortL rs) s = [r]∧ownT rs s 5 = [r]):=by
 have h5:ownT rs s 5=own rs s 5:=by unfold ownT; rw [if_neg (by decide)]
 rw [has_own rs s 5 (zty hz),h5]
 have hs:=set_own rs s 5
 rw [set_eq (of_srt rs s) (of_same rs s)] at hs
 cases ho:own rs s 5 with
 | nil =>
  refine ⟨?_,fun h=>by simp at h⟩
  rw [ho,List.filter_eq_nil_iff] at hs
  unfold aliasP
  cases hf:ofP (sortL rs) s with
  | nil=>rfl
  | cons x t =>
   have hx:=hs x (by rw [hf]; simp)
   show false=((List.map (setOwner n) (x :: t)).length == 1 && (setOwner n x).type == 5)
   have:((setOwner n x).type == 5)=false:=by
    show (x.type == 5)=false
    simpa using hx
   rw [this,Bool.and_false]
 | cons r t =>
  rw [ho] at hs
  have hm:r∈(ofP (sortL rs) s).filter (fun r=>r.type == 5):=by rw [hs]; simp
  obtain ⟨m1,m2⟩:=List.mem_filter.1 hm
  have m2':r.type=5:=by simpa using m2
  have e:=of_alias hz m1 m2'
  have et:r :: t = [r]:=by rw [← hs,e]; simp [m2']
  refine ⟨?_,fun _=>⟨r,m2',(of_mem m1).1,e,et⟩⟩
  rw [e]
  show true=((1:Nat) == 1 && (setOwner n r).type == 5)
  have:((setOwner n r).type == 5)=true:=by show (r.type == 5)=true; rw [m2']; rfl
  rw [this]; rfl
end
end Oc
end Go.Proofs.YtkkpahmoljiepaaGreatDoor
