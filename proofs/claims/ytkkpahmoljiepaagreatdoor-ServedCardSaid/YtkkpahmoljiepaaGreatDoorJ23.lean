/- Contract: rings' read of a frame. -/
import Derived.Test.YtkkpahmoljiepaaGreatDoorJ19
import Derived.Deep.RegionHeldLaw
import Derived.Deep.AppendLies
import Derived.Test.YtkkpahmoljiepaaGreatDoorJ22
set_option linter.unusedSimpArgs false
set_option linter.unusedVariables false
set_option maxRecDepth 1000000
set_option maxHeartbeats 12800000
namespace Go.Proofs.YtkkpahmoljiepaaGreatDoor
open Go.RowKit
open Pu (Str aH aU)
namespace Qu
open Ka Wa Wb Wc Wd We Wf Wg Wh Wi Wj Wk Wl Wm Ha Hb Hc Re Qa Qb Qc Qd Qe Qf Qg Qh Qi Qj Qk Ql Qm Qn Qr Qq Qs
theorem own_apart2 {w:World} {base base':Nat} {t t':TypeId} {sz sz' n n' g:Nat} {v v':Value} {xs xs':List Value} (h:w.ownsRow base t sz v n xs) (h':w.ownsRow base' t' sz' v' n' xs') (ht:t≠t') (hg:v.ownBlock=some g):some g≠v'.ownBlock:=fun e=>by
 obtain ⟨_,cur,hc⟩:=own_at h hg
 obtain ⟨_,cur',hc'⟩:=own_at h' e.symm
 rw [hc] at hc'
 simp at hc'
 exact ht hc'.2
theorem mem_grown {w w':World} {mb bb base b0:Nat} {bs:Str} {wild:Bool} {cnt st:Nat} {v:Value} {l:Str} (h:Mem w mb bb base bs wild cnt st) (ho:OwnB w b0 v l) (hbb:bb<b0) (hk : ∀ i,i<w.heap.size→some i≠v.ownBlock→w'.heap[i]? = w.heap[i]?):Mem w' mb bb base bs wild cnt st:=by
 obtain ⟨vl,vm,ns,⟨early,d0,d1,hm⟩,hr,hl,hle,ms,hms,hml⟩:=h
 have nb:some bb≠v.ownBlock:=fun e=>by obtain ⟨hb,_⟩:=own_at ho e.symm; omega
 exact ⟨vl,vm,ns,⟨early,d0,d1,aF.of hm (hk mb (aF.lt hm) (own_ne hm ho (by decide)))⟩,RowB.of hr (hk bb hr.2.lt nb),own_keep hl fun g hg=>hk g (own_lt hl hg) (own_apart2 hl ho (by decide) hg),hle,ms,own_keep hms fun g hg=>hk g (own_lt hms hg) (own_apart2 hms ho (by decide) hg),hml⟩
theorem own_mf {w w':World} {mb bb base b0:Nat} {v:Value} {l:Str} (ho:OwnB w b0 v l) (hF:MF mb bb base w w') (hmb:mb<b0) (hbb:bb<b0):OwnB w' b0 v l :=
 own_keep ho fun g hg=>by
  obtain ⟨hb,cur,hc⟩:=own_at ho hg
  exact hF.block g (own_lt ho hg) (by omega) (by omega) (.inr ⟨fun c e=>by rw [hc] at e; simp at e,fun c e=>by rw [hc] at e; simp at e⟩)
theorem new1 (w:World) (b:UInt8) : ∀ j u,[Value.int .u8 b.toNat][j]? = some u→(w.alloc (.cells #[.int .u8 b.toNat] 5)).cell? ((⟨w.heap.size,0,none⟩:Addr).add j)=some u:=fun j u hj=>by
 match j,hj with
 | 0,hj=>simp at hj; subst hj; simp [Addr.add]
 | n+1,hj=>simp at hj
theorem one1 (b:UInt8) : ∀ u∈[Value.int .u8 b.toNat],u.oneCell'=true:=fun u hu=>by simp at hu; subst hu; rfl
theorem read_any (rb mb bb base ba bu av us slot len:Nat) (t:TypeId) (out:List Bool) (wild:Bool) (cnt st:Nat) (bs s:Str) (w:World) (h:Mem w mb bb base bs wild cnt st) (hr:aO w rb t mb ba bu av us out) (hbs:base≤w.heap.size) (hbu:bu≤100000) (hsl:slot≤100) (hlen:len=12+s.length) (hlen2:len≤1536) (hs:LiesB bs (bu+1536*slot+12) s) (hcnt:cnt≤900000) (ht1:t≠3) (ht2:t≠177) (hrm:rb≠mb) (hrb:rb≠bb) :
  Calls Tryz.prog 260 #[.pointer (some ⟨rb,0,none⟩),.int .i64 slot,.int .i64 len] w fun e w' =>
   e=.returned (.string (B s))∧Mem w' mb bb base bs wild (cnt+s.length) st∧MF mb bb base w w':=by
 obtain ⟨i0,hi,hz0,hz1,hz2⟩:=info_parts infoB
 obtain ⟨hmlt,hblt⟩:=mem_lt h
 obtain ⟨n,hn⟩ : ∃ n,n=s.length:=⟨_,rfl⟩
 obtain ⟨w1,km,ho1,hg1⟩:=run_make_own (P:=Tryz.prog) w w.heap.size 58 5 i0 (.int .u8 0) 1 underB hi hz0 hz1 .i64 .i64 n (by rw [hz2]; omega) (by unfold maxLen; omega) (Nat.le_refl _)
 have k0:IntKind.i64.wrap ((len:Int) - 12)=(n:Int):=by rw [IntKind.wrap_i64]; omega
 have hB1:Below w.heap.size w w1:=(Below.refl _ _).grown hg1 (Nat.le_refl _) (fun k hk=>by cases hk)
 have HM:=aH (mem_below h hB1)
 have HO:Hid (OwnB w1 w.heap.size (.slice (some ⟨w.heap.size,0,none⟩) 0 n) []):=ho1
 have HF:=aH (Qf.MF.of_below (mb:=mb) (bb:=bb) (base:=base) hB1)
 have HR:=aH hr
 have HS:=aH hs
 have HN:=aH hn
 have HLN:Hid (len=12+n):=by rw [Hid,hn]; exact hlen
 have hnb:n≤1524:=by omega
 clear h hr hs ho1 hg1 hB1 hn hlen
 go_enter Tryz.func260,Tryz.ntmps260
 go_wp2_with fail
 go_loopw [7,8] (fun v i wr=>∃ (k:Nat) (v':Value),v'=v∧i=.int .i64 (12+k:Nat)∧k≤n∧OwnB wr w.heap.size v (s.take k)∧Mem wr mb bb base bs wild (cnt+k) st∧MF mb bb base w wr) (fun _ i _=>len - (intOf i).toNat)
 case atStart=>exact ⟨0,_,rfl,rfl,Nat.zero_le _,aU HO,aU HM,aU HF⟩
 case round =>
  obtain ⟨k,v,rfl,rfl,hk,ho,hm,hF⟩:=hrel
  have HM1:=aH hm
  have HF1:=aH hF
  have HO1:=aH ho
  have hsz1:=hF.size
  by_cases hlk:k<n
  ·have hR1:=ring_keep (aU HR) hF ht1 ht2 hrm hrb
   have r0:=aB.cell hR1 0 (by simp)
   simp only [List.cons_append,List.getElem_cons_zero,List.getElem_cons_succ] at r0
   have hms:=m_load mb
   have hcf:=cf_load
   obtain ⟨q,hq⟩ : ∃ q,q=bu+1536*slot:=⟨_,rfl⟩
   obtain ⟨i,hi12⟩ : ∃ i,i=12+k:=⟨_,rfl⟩
   obtain ⟨pk,hpk⟩ : ∃ pk,pk=q+i:=⟨_,rfl⟩
   obtain ⟨cb,hcb⟩ : ∃ cb:UInt8,s[k]? = some cb:=⟨s[k]'(by have:=aU HN; omega),List.getElem?_eq_getElem _⟩
   have hcb2:bs[pk]? = some cb:=by rw [hpk,hi12,hq,← hcb]; have:=aU HS k (by have:=aU HN; omega); rwa [show bu+1536*slot+12+k=bu+1536*slot+(12+k) by omega] at this
   have e1:IntKind.i64.wrap ((q:Int)+(i:Int))=(pk:Int):=by have:=aU HLN; rw [IntKind.wrap_i64]; omega
   have HBU:=aH (buffer_any rb mb ba bu av us slot t out wr.drew hR1 hbu hsl)
   rw [← hq] at HBU
   have HLD:=aH (mem_load mb bb base pk wild (cnt+k) st bs cb wr.drew hm (by show base≤wr.heap.size; omega) hcb2 (by have:=aU HLN; omega))
   have HTK:Hid (s.take (k+1)=s.take k++[cb]):=by
    obtain ⟨hl,e⟩:=List.getElem?_eq_some_iff.1 hcb
    rw [Hid,List.take_succ_eq_append_getElem hl,e]
   have hltk:(s.take k).length=k:=by have:=aU HN; rw [List.length_take]; omega
   have hS0:wr.drew.cell? ⟨rb,0,none⟩=some (.iface 71 (.pointer (some ⟨mb,0,none⟩))):=r0
   have HKP:Hid (∀ W':World,MF mb bb base wr.drew W'→W'.cell? ⟨rb,0,none⟩=some (.iface 71 (.pointer (some ⟨mb,0,none⟩)))):=fun W' hF=>(World.cell?_of_block (hF.block rb (aB.lt hR1) hrm hrb (.inr ⟨fun cur e=>ht1 (by have:=hR1.symm.trans e; simp at this; exact this.2),fun cur e=>ht2 (by have:=hR1.symm.trans e; simp at this; exact this.2)⟩))).trans r0
   have HOK:Hid (∀ W':World,MF mb bb base wr.drew W'→W'.ownsRow w.heap.size 5 1 v k ((s.take k).map fun c=>.int .u8 c.toNat)∧wr.heap.size≤W'.heap.size):=fun W' hF=>by
    have:=own_mf (w:=wr.drew) ho hF hmlt hblt
    unfold OwnB at this
    rw [hltk] at this
    exact ⟨this,hF.size⟩
   rw [← hi12]
   have hil:(i:Int)<(len:Int):=by have:=aU HLN; omega
   obtain ⟨i1,hi1⟩ : ∃ i1,i1=12+(k+1):=⟨_,rfl⟩
   have ki1:(i:Int)+1=(i1:Int):=by omega
   have HI1:=aH hi1
   have HI12:=aH hi12
   have hrlt:rb<w.heap.size:=aB.lt (aU HR)
   have hnrb:some rb≠v.ownBlock:=fun e=>by obtain ⟨hb,_⟩:=own_at ho e.symm; omega
   have HK3:Hid (∀ w2 w3:World,wr.heap.size≤w2.heap.size→(w2.alloc (.cells #[.int .u8 cb.toNat] 5)).grownBy w3 v.ownBlock→w2.cell? ⟨rb,0,none⟩=some (.iface 71 (.pointer (some ⟨mb,0,none⟩)))→w3.cell? ⟨rb,0,none⟩=some (.iface 71 (.pointer (some ⟨mb,0,none⟩)))):=fun w2 w3 hz hg h2=>(World.cell?_of_block ((hg.block rb (by simp; omega) hnrb).trans (Below.heap_alloc _ _ _ (by omega)))).trans h2
   clear hm hF ho hq hpk hcb hcb2 hR1 hi12 hi1
   go_wp2_with fail
   go_region_held_law (fun w'=>w'.cell? ⟨rb,0,none⟩=some (.iface 71 (.pointer (some ⟨mb,0,none⟩)))) (first | assumption | go_keep)
    (first | (go_at_call 214; go_loud (refine (aU HBU).mono ?_; rintro e w' ⟨rfl,rfl⟩)) | (go_at_call 159; go_loud (refine (aU HLD).mono ?_; rintro e w2 ⟨rfl,hm2,hF2⟩; have hS2:=aU HKP w2 hF2; obtain ⟨hO2,hZ2⟩:=aU HOK w2 hF2)) | (refine step_append_lies _ (by rfl) (.tmp 17) (.tmp 33) 58 (by rfl) w.heap.size 5 i0 (.int .u8 0) 1 1 underB hi hz0 hz1 hz2 rfl (by decide) v k _ (by rfl) (hO2.alloc _) ⟨w2.heap.size,0,none⟩ 1 1 [.int .u8 cb.toNat] (by rfl) rfl (new1 w2 cb) (one1 cb) (by decide) (by unfold maxLen; omega) (by omega) (by simp; omega) (w2.heap.size+1) (by simp) ?_; intro g cap w3 hown hgrow hat hlt3; have hS3:=aU HK3 w2 w3 hZ2 hgrow hS2))
   all_goals
    have hv2:v.ownBlock=none∨∃ g',v.ownBlock=some g'∧w.heap.size≤g':=by
     cases hv:v.ownBlock with
     | none=>exact .inl rfl
     | some g'=>exact .inr ⟨g',rfl,(own_at hO2 hv).1⟩
    have hk3 : ∀ i,i<w2.heap.size→some i≠v.ownBlock→w3.heap[i]? = w2.heap[i]?:=fun i hi hne=>(hgrow.block i (by simp; omega) hne).trans (Below.heap_alloc _ _ _ hi)
    have hm3:=mem_grown (b0:=w.heap.size) (l:=s.take k) hm2 (by unfold OwnB; rw [hltk]; exact hO2) hblt hk3
    have HM3:=aH hm3
    have HO3:Hid (OwnB w3 w.heap.size (.slice (some ⟨g,0,none⟩) (k+1) cap) (s.take (k+1))):=by
     unfold Hid OwnB
     rw [aU HTK,List.length_append,hltk,List.map_append]
     exact hown
    have hFw2:=Qf.MF.trans (Qf.MF.trans (aU HF1) (Qf.MF.of_below (Below.refl _ _).drew)) hF2
    have HF3:Hid (MF mb bb base w w3):=⟨hgrow.os.trans hFw2.os,hgrow.tape.trans hFw2.tape,hgrow.output.trans hFw2.output,Nat.le_trans hFw2.size (Nat.le_trans (by simp) hgrow.size),fun i hi h1 h2 hp=>(hk3 i (by have:=hFw2.size; omega) (fun e=>by
     rcases hv2 with hv | ⟨g',hv,hg'⟩
     ·rw [hv] at e; cases e
     ·rw [hv] at e; cases e; omega)).trans (hFw2.block i hi h1 h2 hp)⟩
    clear hm2 hF2 hO2 hown hgrow hm3 hk3 hFw2 hv2
    go_wp2_with fail
    exact ⟨⟨k+1,_,rfl,by rw [← aU HI1],by omega,aU HO3,by have:=aU HM3; rwa [Nat.add_assoc] at this,aU HF3⟩,by have:=aU HLN; have:=aU HI1; have:=aU HI12; simp [intOf]; omega⟩
  ·have hkl:k=n:=by omega
   subst hkl
   have hl:s.take k=s:=by rw [List.take_of_length_le (by have:=aU HN; omega)]
   rw [hl] at ho
   have kc:=own_string ho
   have hil : ¬ (12:Int)+(k:Int)<(len:Int):=by have:=aU HLN; omega
   clear hm hF ho HO1
   go_wp2
   go_ret
   exact ⟨rfl,by rw [← aU HN]; exact aU HM1,aU HF1⟩
end Qu
namespace Qv
open Ka Wa Wb Wc Wd We Wf Wg Wh Wi Wj Wk Wl Wm Ha Hb Hc Re Qa Qb Qc Qd Qe Qf Qg Qh Qi Qj Qk Ql Qm Qn Qr Qq Qs Qu
theorem next_ok (rb mb bb base ba bu av us id len:Nat) (t:TypeId) (out:List Bool) (wild:Bool) (cnt st:Nat) (bs s:Str) (w:World) (h:Mem w mb bb base bs wild cnt st) (hr:aO w rb t mb ba bu av us out) (hbs:base≤w.heap.size) (hba:ba≤1000) (hbu:bu≤100000) (hl:bs.length=25600) (hav:av<65536) (hus:us<65536) (hol:out.length=8) (hid8:id<8) (hout:out[id]? = some true)
  (hid:rdN bs (ba+(260+8*(us%8))) 4=id) (hln:rdN bs (ba+(260+8*(us%8)+4)) 4=len) (hlen:len=12+s.length) (hlen2:len≤1536) (hs:LiesB bs (bu+1536*id+12) s) (hcnt:cnt≤800000) (hst:st≤800000) (ht1:t≠3) (ht2:t≠177) (hrm:rb≠mb) (hrb:rb≠bb) :
  Calls Tryz.prog 220 #[.pointer (some ⟨rb,0,none⟩)] w fun e w' =>
   e=.returned (.tuple #[.string (B s),.bool true])∧Mem w' mb bb base (nxB bs ba av id) wild (cnt+8+s.length) (st+4)∧aO w' rb t mb ba bu ((av+1)%65536) ((us+1)%65536) (out.set id true)∧GF (fun i=>i≠rb∧i≠mb∧i≠bb) base w w':=by
 obtain ⟨hmlt,hblt⟩:=mem_lt h
 obtain ⟨q,hq⟩ : ∃ q,q=260+8*(us%8):=⟨_,rfl⟩
 obtain ⟨q4,hq4⟩ : ∃ q4,q4=q+4:=⟨_,rfl⟩
 have HEN:=aH (entry_any rb mb ba bu av us t out w hr hus)
 have HL1:Hid (Calls Tryz.prog 217 #[.pointer (some ⟨rb,0,none⟩),.int .i64 q,.int .i64 4] w _):=rload_any rb mb bb base ba bu av us q 4 t out wild cnt st bs w h hr hbs (by omega) (by omega) hl (by omega) ht1 ht2 hrm hrb
 rw [← hq] at HEN hid hln
 rw [← hq4] at hln
 rw [hid] at HL1
 have e4:IntKind.i64.wrap ((q:Int)+4)=(q4:Int):=by rw [IntKind.wrap_i64]; omega
 have e4':(q:Int)+4=(q4:Int):=by omega
 have k1 : ¬ (len:Int)<12:=by omega
 have k2 : ¬ (1536:Int)<(len:Int):=by omega
 have k3:IntKind.i64.wrap (len:Int)=(len:Int):=by rw [IntKind.wrap_i64]; omega
 have HR:=aH hr
 have HS:=aH hs
 have hqb:q4≤330:=by omega
 have HLE:=aH hlen
 have hslb:s.length≤1524:=by omega
 clear h hr hq hq4 hid hs hlen
 go_enter Tryz.func220,Tryz.ntmps220
 go_wp2_with fail
 refine (aU HEN).mono ?_
 rintro e w ⟨rfl,rfl⟩
 go_wp2_with fail
 refine (aU HL1).mono ?_
 rintro e w1 ⟨rfl,hm1,hF1⟩
 have hR1:=ring_keep (aU HR) hF1 ht1 ht2 hrm hrb
 have hz1:=hF1.size
 have HL2:Hid (Calls Tryz.prog 217 #[.pointer (some ⟨rb,0,none⟩),.int .i64 q4,.int .i64 4] w1 _):=rload_any rb mb bb base ba bu av us q4 4 t out wild (cnt+4) st bs w1 hm1 hR1 (by omega) (by omega) (by omega) hl (by omega) ht1 ht2 hrm hrb
 rw [hln] at HL2
 have HR1:=aH hR1
 have HF1:=aH hF1
 clear HL1 HR hm1 hR1 hF1 hln HEN
 go_wp2_with fail
 refine (aU HL2).mono ?_
 rintro e w2 ⟨rfl,hm2,hF2⟩
 have hR2:=ring_keep (aU HR1) hF2 ht1 ht2 hrm hrb
 have hz2:=hF2.size
 have HTB:=aH (takeBack_ok rb mb ba bu av us id t out w2 hR2 hid8 hout hus)
 have HM2:=aH hm2
 have HR2:=aH hR2
 have HF2:=aH (Qf.MF.trans (aU HF1) hF2)
 clear HL2 HR1 HF1 hm2 hR2 hF2
 go_wp2_with fail
 refine (aU HTB).mono ?_
 rintro e w3 ⟨rfl,hR3,hK3,hz3⟩
 have hm3:=mem_keep (aU HM2) rb t _ (aU HR2) ht1 ht2 hrm hrb (fun i hi hne=>hK3.block i hi hne)
 have HRD:=aH (read_any rb mb bb base ba bu av ((us+1)%65536) id len t _ wild (cnt+4+4) st bs s w3 hm3 hR3 (by omega) hbu (by omega) (aU HLE) hlen2 (aU HS) (by omega) ht1 ht2 hrm hrb)
 have HR3:=aH hR3
 have HF3:=aH ((GF.of_mf (p:=fun i=>i≠rb∧i≠mb∧i≠bb) (aU HF2) fun i hp=>hp.2).trans (GF.of_keeps hK3 (by omega) fun i hp=>hp.1))
 clear HTB HM2 HR2 HF2 hm3 hR3 hK3 HS
 go_wp2_with fail
 refine (aU HRD).mono ?_
 rintro e w4 ⟨rfl,hm4,hF4⟩
 have hR4:=ring_keep (aU HR3) hF4 ht1 ht2 hrm hrb
 have hz4:=hF4.size
 have hB5:Below w4.heap.size w4 (w4.alloc (.cells #[.int .i64 id] 3)):=(Below.refl _ _).alloc (Nat.le_refl _) _
 have hR5:aO (w4.alloc (.cells #[.int .i64 id] 3)) rb t mb ba bu av ((us+1)%65536) (out.set id false):=(Below.heap_alloc _ _ _ (aB.lt hR4)).trans hR4
 have hc5:(w4.alloc (.cells #[.int .i64 id] 3)).cell? ⟨w4.heap.size,0,none⟩=some (.int .i64 id):=aB.cell (aB.new w4 [.int .i64 id] 3) 0 (by simp)
 have hrlt:=aB.lt hR4
 have HOF:Hid (Calls Tryz.prog 153 #[.pointer (some ⟨rb,0,none⟩),.slice (some ⟨w4.heap.size,0,none⟩) 1 1] (w4.alloc (.cells #[.int .i64 id] 3)) _) :=
  offer_any rb mb bb base ba bu av ((us+1)%65536) w4.heap.size 1 t (out.set id false) wild (cnt+4+4+s.length) st bs [id] _ _ (mem_below hm4 hB5) hR5 (by simp; omega) hba hst hav (by simp [hol]) (fun x hx=>by simp at hx; omega) (by simp) (.inr rfl) (fun e=>by cases e) (fun j hj=>by
   have:j=0:=by simp at hj; omega
   subst this; exact hc5) (fun _=>⟨by simp,by omega,by omega,by omega,fun cur e=>by have:=(World.alloc_heap_new w4 _).symm.trans e; simp at this⟩) ht1 ht2 hrm hrb
 have HF5:=aH (((aU HF3).trans (GF.of_mf hF4 fun i hp=>hp.2)).trans (GF.of_below hB5))
 clear HRD HR3 HF3 hm4 hF4 hR4 hR5 hc5 hB5
 go_wp2_with fail
 refine (aU HOF).mono ?_
 rintro e w5 ⟨rfl,hm5,hR5,hF5⟩
 have HM6:Hid (Mem w5 mb bb base (nxB bs ba av id) wild (cnt+8+s.length) (st+4)):=by
  have e1:cnt+4+4+s.length=cnt+8+s.length:=by omega
  rw [e1] at hm5
  exact hm5
 have HR6:Hid (aO w5 rb t mb ba bu ((av+1)%65536) ((us+1)%65536) (out.set id true)):=by
  have e1:(out.set id false).set id true=out.set id true:=by simp
  simp only [offS] at hR5
  rw [e1] at hR5
  exact hR5
 have HF6:=aH ((aU HF5).trans (GF.of_rf hF5 fun i hp=>hp))
 clear HOF hm5 hR5 hF5 HF5
 go_wp2_with fail
 refine bodyPost_ret (v:=.tuple #[.string (B s),.bool true]) ?_ rfl ?_
 ·simp [results,Tryz.results220,go_sem]
 ·exact ⟨rfl,aU HM6,aU HR6,aU HF6⟩
end Qv
namespace Nc
open Qg Qh Qr Qw
def tr (m:Nat):List Bool:=List.replicate m true++List.replicate (8 - m) false
theorem tr_len : ∀ m,m<9→(tr m).length=8:=by decide
theorem tr_lt : ∀ m,m<9→∀ i,i<m→(tr m)[i]? = some true:=by decide
theorem tr_at : ∀ m,m<8→(tr m)[m]? = some false:=by decide
theorem tr_set : ∀ m,m<8→(tr m).set m true=tr (m+1):=by decide
theorem tr_all : ∀ i,i<8→(tr 8).set i true=tr 8:=by decide
theorem tr_all_at : ∀ i,i<8→(tr 8)[i]? = some true:=by decide
def sk (o k:Nat):Nat:=min k (8 - o)
def bsK (bs:Str) (rav sav o:Nat) (id:Nat→Nat) (ans:Nat→Str):Nat→Str
 | 0=>bs
 | k+1=>if o+k<8 then snB (nxB (bsK bs rav sav o id ans k) 0 (rav+k) (id k)) 512 13312 (sav+k) (o+k) (ans k) else nxB (bsK bs rav sav o id ans k) 0 (rav+k) (id k)
def cntK (cnt:Nat) (fr:Nat→Str):Nat→Nat
 | 0=>cnt
 | k+1=>cntK cnt fr k+8+(fr k).length
def stK (st o:Nat) (ans:Nat→Str):Nat→Nat
 | 0=>st
 | k+1=>if o+k<8 then stK st o ans k+4+20+(ans k).length else stK st o ans k+4
theorem nxB_len (bs:Str) (ba av id:Nat):(nxB bs ba av id).length=bs.length:=by unfold nxB; rw [aT,aT]
theorem snB_len (bs:Str) (ba bu av j:Nat) (s:Str):(snB bs ba bu av j s).length=bs.length:=by unfold snB; rw [aT,aT,aT,wrS_len,aT]
theorem bsK_len (bs:Str) (rav sav o:Nat) (id:Nat→Nat) (ans:Nat→Str) (k:Nat):(bsK bs rav sav o id ans k).length=bs.length:=by
 induction k with
 | zero=>rfl
 | succ k ih=>rw [bsK]; split <;> simp [nxB_len,snB_len,ih]
theorem nxB_get (bs:Str) (av id i:Nat) (h:i<130∨148≤i):(nxB bs 0 av id)[i]? = bs[i]?:=by
 unfold nxB; rw [wrN_get _ _ _ _ _ (by omega),wrN_get _ _ _ _ _ (by omega)]
theorem snB_get (bs:Str) (av j:Nat) (s:Str) (i:Nat) (hj:j<8) (hs:s.length≤1524) (h:i<520∨(660≤i∧i<13312)):(snB bs 512 13312 av j s)[i]? = bs[i]?:=by
 unfold snB; rw [wrN_get _ _ _ _ _ (by omega),wrN_get _ _ _ _ _ (by omega),wrN_get _ _ _ _ _ (by omega),wrS_get _ _ _ _ _ (by omega),wrN_get _ _ _ _ _ (by omega)]
theorem bsK_get (bs:Str) (rav sav o:Nat) (id:Nat→Nat) (ans:Nat→Str) (k i:Nat) (ha : ∀ j,j<k→(ans j).length≤1524) (h:i<130∨(148≤i∧i<520)∨(660≤i∧i<13312)):(bsK bs rav sav o id ans k)[i]? = bs[i]?:=by
 induction k with
 | zero=>rfl
 | succ k ih =>
  have ih:=ih (fun j hj=>ha j (by omega))
  rw [bsK]; split
  ·rw [snB_get _ _ _ _ _ (by assumption) (ha k (by omega)) (by omega),nxB_get _ _ _ _ (by omega),ih]
  ·rw [nxB_get _ _ _ _ (by omega),ih]
theorem bsK_rd (bs:Str) (rav sav o:Nat) (id:Nat→Nat) (ans:Nat→Str) (k p l:Nat) (ha : ∀ j,j<k→(ans j).length≤1524) (h:p+l≤130∨(148≤p∧p+l≤520)∨(660≤p∧p+l≤13312)):rdN (bsK bs rav sav o id ans k) p l=rdN bs p l :=
 rdN_congr l fun i h1 h2=>bsK_get bs rav sav o id ans k i ha (by omega)
theorem bsK_lies (bs:Str) (rav sav o:Nat) (id:Nat→Nat) (ans:Nat→Str) (k p:Nat) (s:Str) (ha : ∀ j,j<k→(ans j).length≤1524) (h:1024≤p∧p+s.length≤13312) (hs:LiesB bs p s):LiesB (bsK bs rav sav o id ans k) p s :=
 lies_congr hs fun i h1 h2=>bsK_get bs rav sav o id ans k i ha (by omega)
theorem cntK_le (cnt:Nat) (fr:Nat→Str) (k:Nat) (hf : ∀ j,j<k→(fr j).length≤1524):cntK cnt fr k≤cnt+1532*k:=by
 induction k with
 | zero=>simp [cntK]
 | succ k ih=>have:=ih (fun j hj=>hf j (by omega)); have:=hf k (by omega); rw [cntK]; omega
theorem stK_le (st o:Nat) (ans:Nat→Str) (k:Nat) (hf : ∀ j,j<k→(ans j).length≤1524):stK st o ans k≤st+1548*k:=by
 induction k with
 | zero=>simp [stK]
 | succ k ih=>have:=ih (fun j hj=>hf j (by omega)); have:=hf k (by omega); rw [stK]; split <;> omega
end Nc
attribute [local go_sem] Oper.semAt_some
namespace Nd
open Ka Wa Wb Wc Wd We Wf Wg Wh Wi Wj Wk Wl Wm Ha Hb Hc Re Qa Qb Qc Qd Qe Qf Qg Qh Qi Qj Qk Ql Qm Qn Qo Qp Qr Qq Qs Qu Qv Qw Qx Na Nb Nc
section
variable (xb zb rb sb mb bb base:Nat) (mac ip bs:Str) (wild:Bool) (cnt st rav rus sav sus o n s d:Nat) (id:Nat→Nat) (fr ans:Nat→Str)
def At (k:Nat) (W:World):Prop:=Mac W xb zb rb sb mb bb base mac ip (bsK bs rav sav o id ans k) wild (cntK cnt fr k) (stK st o ans k) (rav+k) (rus+k) (tr 8) (sav+sk o k) sus (tr (o+sk o k)) (n+k) (s+sk o k) (d+(k - sk o k)) false
def Got (k:Nat) (W:World):Prop:=Mac W xb zb rb sb mb bb base mac ip (nxB (bsK bs rav sav o id ans k) 0 (rav+k) (id k)) wild (cntK cnt fr k+8+(fr k).length) (stK st o ans k+4) (rav+(k+1)) (rus+(k+1)) (tr 8) (sav+sk o k) sus (tr (o+sk o k)) (n+k) (s+sk o k) (d+(k - sk o k)) false
end
section
variable {xb zb rb sb mb bb base:Nat} {mac ip bs:Str} {wild:Bool} {cnt st rav rus sav sus o n s d:Nat} {id:Nat→Nat} {fr ans:Nat→Str}
theorem next_at (c k:Nat) (W:World) (hk:k<c) (hc:c≤8) (h:At xb zb rb sb mb bb base mac ip bs wild cnt st rav rus sav sus o n s d id fr ans k W) (hl:bs.length=25600) (hav:rav+c<65536) (hus:rus+c<65536) (hcnt:cnt≤700000) (hst:st≤600000)
  (hid8 : ∀ k,k<c→id k<8) (hid : ∀ k,k<c→rdN bs (260+8*((rus+k)%8)) 4=id k) (hln : ∀ k,k<c→rdN bs (260+8*((rus+k)%8)+4) 4=12+(fr k).length) (hfl : ∀ k,k<c→(fr k).length≤1524) (hal : ∀ k,k<c→(ans k).length≤1524) (hlie : ∀ k,k<c→LiesB bs (1024+1536*id k+12) (fr k)) :
  Calls Tryz.prog 220 #[.pointer (some ⟨rb,0,none⟩)] W fun e W'=>e=.returned (.tuple #[.string (B (fr k)),.bool true])∧Got xb zb rb sb mb bb base mac ip bs wild cnt st rav rus sav sus o n s d id fr ans k W'∧GF (fun i=>i≠rb∧i≠mb∧i≠bb) base W W':=by
 obtain ⟨a1,a2,a3,a4,a5,a6,a7,a8,a9⟩:=h.apart
 have hid8k:=hid8 k hk
 have hflk:=hfl k hk
 have hc1:=cntK_le cnt fr k (fun j hj=>hfl j (by omega))
 have hs1:=stK_le st o ans k (fun j hj=>hal j (by omega))
 have haj : ∀ j,j<k→(ans j).length≤1524:=fun j hj=>hal j (by omega)
 refine (next_ok rb mb bb base 0 1024 (rav+k) (rus+k) (id k) (12+(fr k).length) _ (tr 8) wild (cntK cnt fr k) (stK st o ans k) (bsK bs rav sav o id ans k) (fr k) W h.mem h.rr h.hb (by omega) (by omega) (by rw [bsK_len,hl]) (by omega) (by omega) rfl hid8k (tr_all_at _ hid8k) ?_ ?_ rfl (by omega) ?_ (by omega) (by omega) (by decide) (by decide) a6 a7).mono ?_
 ·rw [Nat.zero_add,bsK_rd _ _ _ _ _ _ _ _ _ haj (by omega),hid k hk]
 ·rw [Nat.zero_add,bsK_rd _ _ _ _ _ _ _ _ _ haj (by omega),hln k hk]
 ·exact bsK_lies _ _ _ _ _ _ _ _ _ haj (by omega) (hlie k hk)
 ·rintro e W' ⟨rfl,hm,hr,hF⟩
  rw [show (rav+k+1)%65536=rav+(k+1) by omega,show (rus+k+1)%65536=rus+(k+1) by omega,tr_all _ hid8k] at hr
  exact ⟨rfl,⟨hm,hr,hF.blk h.sr ⟨fun e=>a5 e.symm,a8,a9⟩ (by decide) (by decide),hF.blk h.mac ⟨a1,a3,a4⟩ (by decide) (by decide),Nat.le_trans h.hb hF.size⟩,hF⟩
theorem got_up (k:Nat) (W:World) (h:Got xb zb rb sb mb bb base mac ip bs wild cnt st rav rus sav sus o n s d id fr ans k W):Mac (W.setCell ⟨xb,5,none⟩ (.int .i64 (n+(k+1):Nat))) xb zb rb sb mb bb base mac ip (nxB (bsK bs rav sav o id ans k) 0 (rav+k) (id k)) wild (cntK cnt fr k+8+(fr k).length) (stK st o ans k+4) (rav+(k+1)) (rus+(k+1)) (tr 8) (sav+sk o k) sus (tr (o+sk o k)) (n+(k+1)) (s+sk o k) (d+(k - sk o k)) false :=
 h.counts (Keeps_set (Keeps_refl _ _) 5 _) (mac_set _ _ _ _ _ _ _ _ _ _ _ h.mac _).1
theorem answer_at (c k:Nat) (W:World) (hk:k<c) (hc:c≤8) (ho:o≤8) (h:Mac W xb zb rb sb mb bb base mac ip (nxB (bsK bs rav sav o id ans k) 0 (rav+k) (id k)) wild (cntK cnt fr k+8+(fr k).length) (stK st o ans k+4) (rav+(k+1)) (rus+(k+1)) (tr 8) (sav+sk o k) sus (tr (o+sk o k)) (n+(k+1)) (s+sk o k) (d+(k - sk o k)) false) (hsv:sav+c<65536) (hst:st≤600000) (hsd:s+d≤900000) (hal : ∀ k,k<c→(ans k).length≤1524) (hane : ∀ k,k<c→ans k≠[])
  (hH:Calls Tryz.prog 37 #[.pointer (some ⟨zb,0,none⟩),.agg #[.string (B mac),.string (B ip)],.string (B (fr k))] W.drew fun e w'=>e=.returned (.string (B (ans k)))∧Below W.drew.heap.size W.drew w') :
  Calls Tryz.prog 163 #[.pointer (some ⟨xb,0,none⟩),.string (B (fr k))] W fun e W'=>e=.returned (.tuple #[])∧At xb zb rb sb mb bb base mac ip bs wild cnt st rav rus sav sus o n s d id fr ans (k+1) W'∧GF (Off xb rb sb mb bb) base W W':=by
 have hs1:=stK_le st o ans k (fun j hj=>hal j (by omega))
 by_cases hf:o+k<8
 ·have e1:sk o k=k:=by unfold sk; omega
  have e2:sk o (k+1)=k+1:=by unfold sk; omega
  rw [e1] at h
  refine (answer_sent xb zb rb sb mb bb base _ _ _ _ _ _ _ _ _ (o+k) mac ip _ (fr k) (ans k) wild false _ _ W h hH (hane k hk) (hal k hk) (by omega) (by omega) (tr_len _ (by omega)) (by omega) (tr_lt _ (by omega)) (tr_at _ (by omega)) (by omega)).mono ?_
  rintro e W' ⟨rfl,hM,hF⟩
  rw [tr_set _ hf,show (sav+k+1)%65536=sav+(k+1) by omega] at hM
  refine ⟨rfl,?_,hF⟩
  unfold At
  rw [bsK,if_pos hf,cntK,stK,if_pos hf,e2,show d+(k+1 - (k+1))=d+(k - k) by omega]
  exact hM
 ·have e1:sk o k=8 - o:=by unfold sk; omega
  have e2:sk o (k+1)=8 - o:=by unfold sk; omega
  have e3:o+(8 - o)=8:=by omega
  rw [e1,e3] at h
  refine (answer_drop xb zb rb sb mb bb base _ _ _ _ _ _ _ _ _ mac ip _ (fr k) (ans k) wild false _ _ W h hH (hane k hk) tr_all_at (by omega)).mono ?_
  rintro e W' ⟨rfl,hM,hF⟩
  refine ⟨rfl,?_,hF⟩
  unfold At
  rw [bsK,if_neg hf,cntK,stK,if_neg hf,e2,e3,show d+(k+1 - (8 - o))=d+(k - (8 - o))+1 by omega]
  exact hM
end
end Nd
end Go.Proofs.YtkkpahmoljiepaaGreatDoor
