/- Contract: rings' next frame. -/
import Derived.Test.YtkkpahmoljiepaaGreatDoorJ27
import Derived.Test.YtkkpahmoljiepaaGreatDoorJ24
import Derived.Test.YtkkpahmoljiepaaGreatDoorJ23
set_option linter.unusedSimpArgs false
set_option linter.unusedVariables false
set_option maxRecDepth 1000000
set_option maxHeartbeats 12800000
namespace Go.Proofs.YtkkpahmoljiepaaGreatDoor
open Go.RowKit
open Pu (Str aH aU)
namespace Qv
open Ka Wa Wb Wc Wd We Wf Wg Wh Wi Wj Wk Wl Wm Ha Hb Hc Re Qa Qb Qc Qd Qe Qf Qg Qh Qi Qj Qk Ql Qm Qn Qr Qq Qs Qu
theorem next_ok (rb mb bb base ba bu av us id len:Nat) (t:TypeId) (out:List Bool) (wild:Bool) (cnt st:Nat) (bs s:Str) (w:World) (h:Mem w mb bb base bs wild cnt st) (hr:aO w rb t mb ba bu av us out) (hbs:base≤w.heap.size) (hba:ba≤1000) (hbu:bu≤100000) (hl:bs.length=25600) (hav:av<65536) (hus:us<65536) (hol:out.length=8) (hid8:id<8) (hout:out[id]? = some true)
  (hid:rdN bs (ba+(260+8*(us%8))) 4=id) (hln:rdN bs (ba+(260+8*(us%8)+4)) 4=len) (hlen:len=12+s.length) (hlen2:len≤1536) (hs:LiesB bs (bu+1536*id+12) s) (hcnt:cnt≤800000) (hst:st≤800000) (ht1:t≠3) (ht2:t≠177) (hrm:rb≠mb) (hrb:rb≠bb) :
  Calls Tryz.prog 220 #[.pointer (some ⟨rb,0,none⟩)] w fun e w' =>
   e=.returned (.tuple #[.string (B s),.bool true])∧Mem w' mb bb base (nxB bs ba av id) wild (cnt+8+s.length) (st+4)∧aO w' rb t mb ba bu ((av+1)%65536) ((us+1)%65536) (out.set id true)∧GF (fun i=>i≠rb∧i≠mb∧i≠bb) base w w':=by
 obtain ⟨hmlt,hblt⟩:=mem_lt h
 obtain ⟨q,hq⟩ : ∃ q,q=260+8*(us%8):=⟨_,rfl⟩
 obtain ⟨q4,hq4⟩ : ∃ q4,q4=q+4:=⟨_,rfl⟩
 have HEN:=aH (entry_any rb mb ba bu av us t out w hr hus)
 have HL1:Hid (Calls Tryz.prog 217 #[.pointer (some ⟨rb,0,none⟩),.int .i64 q,.int .i64 4] w _):=rload_any rb mb bb base ba bu av us q 4 t out wild cnt st bs w h hr hbs (by omega) (by omega) hl (by omega) ht1 ht2 hrm hrb
 rw [← hq] at HEN hid hln
 rw [← hq4] at hln
 rw [hid] at HL1
 have e4:IntKind.i64.wrap ((q:Int)+4)=(q4:Int):=by rw [IntKind.wrap_i64]; omega
 have e4':(q:Int)+4=(q4:Int):=by omega
 have k1 : ¬ (len:Int)<12:=by omega
 have k2 : ¬ (1536:Int)<(len:Int):=by omega
 have k3:IntKind.i64.wrap (len:Int)=(len:Int):=by rw [IntKind.wrap_i64]; omega
 have HR:=aH hr
 have HS:=aH hs
 have hqb:q4≤330:=by omega
 have HLE:=aH hlen
 have hslb:s.length≤1524:=by omega
 clear h hr hq hq4 hid hs hlen
 go_enter Tryz.func220,Tryz.ntmps220
 go_wp2_with fail
 refine (aU HEN).mono ?_
 rintro e w ⟨rfl,rfl⟩
 go_wp2_with fail
 refine (aU HL1).mono ?_
 rintro e w1 ⟨rfl,hm1,hF1⟩
 have hR1:=ring_keep (aU HR) hF1 ht1 ht2 hrm hrb
 have hz1:=hF1.size
 have HL2:Hid (Calls Tryz.prog 217 #[.pointer (some ⟨rb,0,none⟩),.int .i64 q4,.int .i64 4] w1 _):=rload_any rb mb bb base ba bu av us q4 4 t out wild (cnt+4) st bs w1 hm1 hR1 (by omega) (by omega) (by omega) hl (by omega) ht1 ht2 hrm hrb
 rw [hln] at HL2
 have HR1:=aH hR1
 have HF1:=aH hF1
 clear HL1 HR hm1 hR1 hF1 hln HEN
 go_wp2_with fail
 refine (aU HL2).mono ?_
 rintro e w2 ⟨rfl,hm2,hF2⟩
 have hR2:=ring_keep (aU HR1) hF2 ht1 ht2 hrm hrb
 have hz2:=hF2.size
 have HTB:=aH (takeBack_ok rb mb ba bu av us id t out w2 hR2 hid8 hout hus)
 have HM2:=aH hm2
 have HR2:=aH hR2
 have HF2:=aH (Qf.MF.trans (aU HF1) hF2)
 clear HL2 HR1 HF1 hm2 hR2 hF2
 go_wp2_with fail
 refine (aU HTB).mono ?_
 rintro e w3 ⟨rfl,hR3,hK3,hz3⟩
 have hm3:=mem_keep (aU HM2) rb t _ (aU HR2) ht1 ht2 hrm hrb (fun i hi hne=>hK3.block i hi hne)
 have HRD:=aH (read_any rb mb bb base ba bu av ((us+1)%65536) id len t _ wild (cnt+4+4) st bs s w3 hm3 hR3 (by omega) hbu (by omega) (aU HLE) hlen2 (aU HS) (by omega) ht1 ht2 hrm hrb)
 have HR3:=aH hR3
 have HF3:=aH ((GF.of_mf (p:=fun i=>i≠rb∧i≠mb∧i≠bb) (aU HF2) fun i hp=>hp.2).trans (GF.of_keeps hK3 (by omega) fun i hp=>hp.1))
 clear HTB HM2 HR2 HF2 hm3 hR3 hK3 HS
 go_wp2_with fail
 refine (aU HRD).mono ?_
 rintro e w4 ⟨rfl,hm4,hF4⟩
 have hR4:=ring_keep (aU HR3) hF4 ht1 ht2 hrm hrb
 have hz4:=hF4.size
 have hB5:Below w4.heap.size w4 (w4.alloc (.cells #[.int .i64 id] 3)):=(Below.refl _ _).alloc (Nat.le_refl _) _
 have hR5:aO (w4.alloc (.cells #[.int .i64 id] 3)) rb t mb ba bu av ((us+1)%65536) (out.set id false):=(Below.heap_alloc _ _ _ (aB.lt hR4)).trans hR4
 have hc5:(w4.alloc (.cells #[.int .i64 id] 3)).cell? ⟨w4.heap.size,0,none⟩=some (.int .i64 id):=aB.cell (aB.new w4 [.int .i64 id] 3) 0 (by simp)
 have hrlt:=aB.lt hR4
 have HOF:Hid (Calls Tryz.prog 153 #[.pointer (some ⟨rb,0,none⟩),.slice (some ⟨w4.heap.size,0,none⟩) 1 1] (w4.alloc (.cells #[.int .i64 id] 3)) _) :=
  offer_any rb mb bb base ba bu av ((us+1)%65536) w4.heap.size 1 t (out.set id false) wild (cnt+4+4+s.length) st bs [id] _ _ (mem_below hm4 hB5) hR5 (by simp; omega) hba hst hav (by simp [hol]) (fun x hx=>by simp at hx; omega) (by simp) (.inr rfl) (fun e=>by cases e) (fun j hj=>by
   have:j=0:=by simp at hj; omega
   subst this; exact hc5) (fun _=>⟨by simp,by omega,by omega,by omega,fun cur e=>by have:=(World.alloc_heap_new w4 _).symm.trans e; simp at this⟩) ht1 ht2 hrm hrb
 have HF5:=aH (((aU HF3).trans (GF.of_mf hF4 fun i hp=>hp.2)).trans (GF.of_below hB5))
 clear HRD HR3 HF3 hm4 hF4 hR4 hR5 hc5 hB5
 go_wp2_with fail
 refine (aU HOF).mono ?_
 rintro e w5 ⟨rfl,hm5,hR5,hF5⟩
 have HM6:Hid (Mem w5 mb bb base (nxB bs ba av id) wild (cnt+8+s.length) (st+4)):=by
  have e1:cnt+4+4+s.length=cnt+8+s.length:=by omega
  rw [e1] at hm5
  exact hm5
 have HR6:Hid (aO w5 rb t mb ba bu ((av+1)%65536) ((us+1)%65536) (out.set id true)):=by
  have e1:(out.set id false).set id true=out.set id true:=by simp
  simp only [offS] at hR5
  rw [e1] at hR5
  exact hR5
 have HF6:=aH ((aU HF5).trans (GF.of_rf hF5 fun i hp=>hp))
 clear HOF hm5 hR5 hF5 HF5
 go_wp2_with fail
 refine bodyPost_ret (v:=.tuple #[.string (B s),.bool true]) ?_ rfl ?_
 ·simp [results,Tryz.results220,go_sem]
 ·exact ⟨rfl,aU HM6,aU HR6,aU HF6⟩
end Qv
attribute [local go_sem] Oper.semAt_some
namespace Nd
open Ka Wa Wb Wc Wd We Wf Wg Wh Wi Wj Wk Wl Wm Ha Hb Hc Re Qa Qb Qc Qd Qe Qf Qg Qh Qi Qj Qk Ql Qm Qn Qo Qp Qr Qq Qs Qu Qv Qw Qx Na Nb Nc
section
variable (xb zb rb sb mb bb base:Nat) (mac ip bs:Str) (wild:Bool) (cnt st rav rus sav sus o n s d:Nat) (id:Nat→Nat) (fr ans:Nat→Str)
def At (k:Nat) (W:World):Prop:=Mac W xb zb rb sb mb bb base mac ip (bsK bs rav sav o id ans k) wild (cntK cnt fr k) (stK st o ans k) (rav+k) (rus+k) (tr 8) (sav+sk o k) sus (tr (o+sk o k)) (n+k) (s+sk o k) (d+(k - sk o k)) false
def Got (k:Nat) (W:World):Prop:=Mac W xb zb rb sb mb bb base mac ip (nxB (bsK bs rav sav o id ans k) 0 (rav+k) (id k)) wild (cntK cnt fr k+8+(fr k).length) (stK st o ans k+4) (rav+(k+1)) (rus+(k+1)) (tr 8) (sav+sk o k) sus (tr (o+sk o k)) (n+k) (s+sk o k) (d+(k - sk o k)) false
end
section
variable {xb zb rb sb mb bb base:Nat} {mac ip bs:Str} {wild:Bool} {cnt st rav rus sav sus o n s d:Nat} {id:Nat→Nat} {fr ans:Nat→Str}
theorem next_at (c k:Nat) (W:World) (hk:k<c) (hc:c≤8) (h:At xb zb rb sb mb bb base mac ip bs wild cnt st rav rus sav sus o n s d id fr ans k W) (hl:bs.length=25600) (hav:rav+c<65536) (hus:rus+c<65536) (hcnt:cnt≤700000) (hst:st≤600000)
  (hid8 : ∀ k,k<c→id k<8) (hid : ∀ k,k<c→rdN bs (260+8*((rus+k)%8)) 4=id k) (hln : ∀ k,k<c→rdN bs (260+8*((rus+k)%8)+4) 4=12+(fr k).length) (hfl : ∀ k,k<c→(fr k).length≤1524) (hal : ∀ k,k<c→(ans k).length≤1524) (hlie : ∀ k,k<c→LiesB bs (1024+1536*id k+12) (fr k)) :
  Calls Tryz.prog 220 #[.pointer (some ⟨rb,0,none⟩)] W fun e W'=>e=.returned (.tuple #[.string (B (fr k)),.bool true])∧Got xb zb rb sb mb bb base mac ip bs wild cnt st rav rus sav sus o n s d id fr ans k W'∧GF (fun i=>i≠rb∧i≠mb∧i≠bb) base W W':=by
 obtain ⟨a1,a2,a3,a4,a5,a6,a7,a8,a9⟩:=h.apart
 have hid8k:=hid8 k hk
 have hflk:=hfl k hk
 have hc1:=cntK_le cnt fr k (fun j hj=>hfl j (by omega))
 have hs1:=stK_le st o ans k (fun j hj=>hal j (by omega))
 have haj : ∀ j,j<k→(ans j).length≤1524:=fun j hj=>hal j (by omega)
 refine (next_ok rb mb bb base 0 1024 (rav+k) (rus+k) (id k) (12+(fr k).length) _ (tr 8) wild (cntK cnt fr k) (stK st o ans k) (bsK bs rav sav o id ans k) (fr k) W h.mem h.rr h.hb (by omega) (by omega) (by rw [bsK_len,hl]) (by omega) (by omega) rfl hid8k (tr_all_at _ hid8k) ?_ ?_ rfl (by omega) ?_ (by omega) (by omega) (by decide) (by decide) a6 a7).mono ?_
 ·rw [Nat.zero_add,bsK_rd _ _ _ _ _ _ _ _ _ haj (by omega),hid k hk]
 ·rw [Nat.zero_add,bsK_rd _ _ _ _ _ _ _ _ _ haj (by omega),hln k hk]
 ·exact bsK_lies _ _ _ _ _ _ _ _ _ haj (by omega) (hlie k hk)
 ·rintro e W' ⟨rfl,hm,hr,hF⟩
  rw [show (rav+k+1)%65536=rav+(k+1) by omega,show (rus+k+1)%65536=rus+(k+1) by omega,tr_all _ hid8k] at hr
  exact ⟨rfl,⟨hm,hr,hF.blk h.sr ⟨fun e=>a5 e.symm,a8,a9⟩ (by decide) (by decide),hF.blk h.mac ⟨a1,a3,a4⟩ (by decide) (by decide),Nat.le_trans h.hb hF.size⟩,hF⟩
theorem got_up (k:Nat) (W:World) (h:Got xb zb rb sb mb bb base mac ip bs wild cnt st rav rus sav sus o n s d id fr ans k W):Mac (W.setCell ⟨xb,5,none⟩ (.int .i64 (n+(k+1):Nat))) xb zb rb sb mb bb base mac ip (nxB (bsK bs rav sav o id ans k) 0 (rav+k) (id k)) wild (cntK cnt fr k+8+(fr k).length) (stK st o ans k+4) (rav+(k+1)) (rus+(k+1)) (tr 8) (sav+sk o k) sus (tr (o+sk o k)) (n+(k+1)) (s+sk o k) (d+(k - sk o k)) false :=
 h.counts (Keeps_set (Keeps_refl _ _) 5 _) (mac_set _ _ _ _ _ _ _ _ _ _ _ h.mac _).1
theorem answer_at (c k:Nat) (W:World) (hk:k<c) (hc:c≤8) (ho:o≤8) (h:Mac W xb zb rb sb mb bb base mac ip (nxB (bsK bs rav sav o id ans k) 0 (rav+k) (id k)) wild (cntK cnt fr k+8+(fr k).length) (stK st o ans k+4) (rav+(k+1)) (rus+(k+1)) (tr 8) (sav+sk o k) sus (tr (o+sk o k)) (n+(k+1)) (s+sk o k) (d+(k - sk o k)) false) (hsv:sav+c<65536) (hst:st≤600000) (hsd:s+d≤900000) (hal : ∀ k,k<c→(ans k).length≤1524) (hane : ∀ k,k<c→ans k≠[])
  (hH:Calls Tryz.prog 37 #[.pointer (some ⟨zb,0,none⟩),.agg #[.string (B mac),.string (B ip)],.string (B (fr k))] W.drew fun e w'=>e=.returned (.string (B (ans k)))∧Below W.drew.heap.size W.drew w') :
  Calls Tryz.prog 163 #[.pointer (some ⟨xb,0,none⟩),.string (B (fr k))] W fun e W'=>e=.returned (.tuple #[])∧At xb zb rb sb mb bb base mac ip bs wild cnt st rav rus sav sus o n s d id fr ans (k+1) W'∧GF (Off xb rb sb mb bb) base W W':=by
 have hs1:=stK_le st o ans k (fun j hj=>hal j (by omega))
 by_cases hf:o+k<8
 ·have e1:sk o k=k:=by unfold sk; omega
  have e2:sk o (k+1)=k+1:=by unfold sk; omega
  rw [e1] at h
  refine (answer_sent xb zb rb sb mb bb base _ _ _ _ _ _ _ _ _ (o+k) mac ip _ (fr k) (ans k) wild false _ _ W h hH (hane k hk) (hal k hk) (by omega) (by omega) (tr_len _ (by omega)) (by omega) (tr_lt _ (by omega)) (tr_at _ (by omega)) (by omega)).mono ?_
  rintro e W' ⟨rfl,hM,hF⟩
  rw [tr_set _ hf,show (sav+k+1)%65536=sav+(k+1) by omega] at hM
  refine ⟨rfl,?_,hF⟩
  unfold At
  rw [bsK,if_pos hf,cntK,stK,if_pos hf,e2,show d+(k+1 - (k+1))=d+(k - k) by omega]
  exact hM
 ·have e1:sk o k=8 - o:=by unfold sk; omega
  have e2:sk o (k+1)=8 - o:=by unfold sk; omega
  have e3:o+(8 - o)=8:=by omega
  rw [e1,e3] at h
  refine (answer_drop xb zb rb sb mb bb base _ _ _ _ _ _ _ _ _ mac ip _ (fr k) (ans k) wild false _ _ W h hH (hane k hk) tr_all_at (by omega)).mono ?_
  rintro e W' ⟨rfl,hM,hF⟩
  refine ⟨rfl,?_,hF⟩
  unfold At
  rw [bsK,if_neg hf,cntK,stK,if_neg hf,e2,e3,show d+(k+1 - (8 - o))=d+(k - (8 - o))+1 by omega]
  exact hM
end
end Nd
end Go.Proofs.YtkkpahmoljiepaaGreatDoor

set_option maxRecDepth 1000000
set_option maxHeartbeats 12800000
namespace Go.Proofs.YtkkpahmoljiepaaGreatDoor
open Go.RowKit
open Pu (Str aH aU)
attribute [local go_sem] Oper.semAt_some
namespace Nee
open Ka Wa Wb Wc Wd We Wf Wg Wh Wi Wj Wk Wl Wm Ha Hb Hc Re Qa Qb Qc Qd Qe Qf Qg Qh Qi Qj Qk Ql Qm Qn Qo Qp Qr Qq Qs Qu Qv Qw Qx Na Nb Nc Nd
section
variable {w w':World} {xb zb rb sb mb bb base:Nat} {mac ip:Str} {bs:Str} {wild:Bool} {cnt st rav rus:Nat} {rout:List Bool} {sav sus:Nat} {sout:List Bool} {n s d:Nat} {br:Bool}
theorem mem_cells (h:Mem w mb bb base bs wild cnt st) (hk : ∀ (i:Nat) (cur:Array Value) (t:TypeId) (p:Nat×Nat),w.heap[i]? = some (Obj.cells cur t p)→w'.heap[i]? = w.heap[i]?):Mem w' mb bb base bs wild cnt st:=by
 obtain ⟨fg,vl,vm,ns,hm,hr,ho,hl,ms,hms,hml⟩:=h
 refine ⟨fg,vl,vm,ns,aF.of hm (hk mb _ _ _ hm),RowB.of hr (hk bb _ _ _ hr.2),own_keep ho fun g hg=>?_,hl,ms,own_keep hms fun g hg=>?_,hml⟩
 ·obtain ⟨_,cur,hc⟩:=own_at ho hg
  exact hk g _ _ _ hc
 ·obtain ⟨_,cur,hc⟩:=own_at hms hg
  exact hk g _ _ _ hc
theorem Mac.cells (h:Mac w xb zb rb sb mb bb base mac ip bs wild cnt st rav rus rout sav sus sout n s d br) (hs:w.heap.size≤w'.heap.size) (hk : ∀ (i:Nat) (cur:Array Value) (t:TypeId) (p:Nat×Nat),w.heap[i]? = some (Obj.cells cur t p)→w'.heap[i]? = w.heap[i]?):Mac w' xb zb rb sb mb bb base mac ip bs wild cnt st rav rus rout sav sus sout n s d br :=
 ⟨mem_cells h.mem hk,(hk rb _ _ _ h.rr).trans h.rr,(hk sb _ _ _ h.sr).trans h.sr,(hk xb _ _ _ h.mac).trans h.mac,Nat.le_trans h.hb hs⟩
theorem Mac.other {b:Nat} {cs:List Value} (h:Mac w xb zb rb sb mb bb base mac ip bs wild cnt st rav rus rout sav sus sout n s d br) (hb:aB w b cs 4) (hs:w.heap.size≤w'.heap.size) (hk : ∀ i,i<w.heap.size→i≠b→w'.heap[i]? = w.heap[i]?):Mac w' xb zb rb sb mb bb base mac ip bs wild cnt st rav rus rout sav sus sout n s d br:=by
 obtain ⟨⟨c1,h1⟩,⟨c2,h2⟩⟩:=mem_blk h.mem
 exact ⟨mem_keep h.mem b _ _ hb (by decide) (by decide) (blk_ne hb h1 (by decide)) (blk_ne hb h2 (by decide)) hk,(hk rb (aB.lt h.rr) (blk_ne h.rr hb (by decide))).trans h.rr,(hk sb (aB.lt h.sr) (blk_ne h.sr hb (by decide))).trans h.sr,(hk xb (aB.lt h.mac) (blk_ne h.mac hb (by decide))).trans h.mac,Nat.le_trans h.hb hs⟩
theorem Mac.load {cnt':Nat} (h:Mac w xb zb rb sb mb bb base mac ip bs wild cnt st rav rus rout sav sus sout n s d br) (hm:Mem w' mb bb base bs wild cnt' st) (hF:MF mb bb base w w'):Mac w' xb zb rb sb mb bb base mac ip bs wild cnt' st rav rus rout sav sus sout n s d br:=by
 obtain ⟨a1,a2,a3,a4,a5,a6,a7,a8,a9⟩:=h.apart
 have hG:GF (fun i=>i≠mb∧i≠bb) base w w':=GF.of_mf hF fun i hp=>hp
 exact ⟨hm,hG.blk h.rr ⟨a6,a7⟩ (by decide) (by decide),hG.blk h.sr ⟨a8,a9⟩ (by decide) (by decide),hG.blk h.mac ⟨a3,a4⟩ (by decide) (by decide),Nat.le_trans h.hb hF.size⟩
theorem Mac.lts (h:Mac w xb zb rb sb mb bb base mac ip bs wild cnt st rav rus rout sav sus sout n s d br):xb<w.heap.size∧rb<w.heap.size∧sb<w.heap.size∧mb<w.heap.size∧bb<w.heap.size :=
 ⟨aB.lt h.mac,aB.lt h.rr,aB.lt h.sr,(mem_lt h.mem).1,(mem_lt h.mem).2⟩
theorem GF.high {p:Nat→Prop} {A B C:World} (h:GF p base A B) (h1:C.os=B.os) (h2:C.tape=B.tape) (h3:C.output=B.output) (h4:B.heap.size≤C.heap.size) (h5 : ∀ i,i<A.heap.size→C.heap[i]? = B.heap[i]?):GF p base A C :=
 ⟨h1.trans h.os,h2.trans h.tape,h3.trans h.output,Nat.le_trans h.size h4,fun i hi hp hq=>(h5 i hi).trans (h.block i hi hp hq)⟩
theorem GF.obj {p:Nat→Prop} {A B:World} {i:Nat} (h:GF p base A B) (hp:p i) (ho:(∃ r,A.heap[i]? = some (.loop r))∨∃ x,A.heap[i]? = some (.deferred x)):B.heap[i]? = A.heap[i]?:=by
 rcases ho with ⟨r,hr⟩ | ⟨x,hx⟩
 ·exact h.block i (Array.getElem?_eq_some_iff.1 hr).1 hp (.inr ⟨fun cur e=>by rw [hr] at e; simp at e,fun cur e=>by rw [hr] at e; simp at e⟩)
 ·exact h.block i (Array.getElem?_eq_some_iff.1 hx).1 hp (.inr ⟨fun cur e=>by rw [hx] at e; simp at e,fun cur e=>by rw [hx] at e; simp at e⟩)
end
theorem frames_o (rb:Nat) (w:World) :
  Calls Tryz.prog 162 #[.pointer (some ⟨rb,0,none⟩)] w fun e w'=>e=.returned (.func (.func 219) #[] #[.pointer (some ⟨w.heap.size,0,none⟩)])∧w'=w.alloc (.cells #[.pointer (some ⟨rb,0,none⟩)] 162):=by
 have hmf : ∀ (fn:Fn) (first cap:Array Value) (w:World),(Instr.makeFunc fn first cap).run Tryz.prog w=.ok (.func fn first cap) w:=fun _ _ _ _=>rfl
 go_enter Tryz.func162,Tryz.ntmps162
 go_wp2
 go_ret
 exact ⟨rfl,rfl⟩
theorem put_cells {A:World} {k:Nat} {r:Loop} (h:A.heap[k]? = some (.loop r)) (ob:Obj) : ∀ (i:Nat) (cur:Array Value) (t:TypeId) (p:Nat×Nat),A.heap[i]? = some (Obj.cells cur t p)→(A.putObj k ob).heap[i]? = A.heap[i]?:=fun i cur t p hc =>
 World.putObj_heap_other (fun e=>by subst e; rw [h] at hc; simp at hc)
theorem put_cells_d {A:World} {k:Nat} {x:Option (List Deferred)} (h:A.heap[k]? = some (.deferred x)) (ob:Obj) : ∀ (i:Nat) (cur:Array Value) (t:TypeId) (p:Nat×Nat),A.heap[i]? = some (Obj.cells cur t p)→(A.putObj k ob).heap[i]? = A.heap[i]?:=fun i cur t p hc =>
 World.putObj_heap_other (fun e=>by subst e; rw [h] at hc; simp at hc)
theorem at_zero {xb zb rb sb mb bb base:Nat} {mac ip bs:Str} {wild:Bool} {cnt st rav rus sav sus o n s d:Nat} {id:Nat→Nat} {fr ans:Nat→Str} {W:World} (h:Mac W xb zb rb sb mb bb base mac ip bs wild cnt st rav rus (tr 8) sav sus (tr o) n s d false):At xb zb rb sb mb bb base mac ip bs wild cnt st rav rus sav sus o n s d id fr ans 0 W:=by
 unfold At
 have e:sk o 0=0:=by unfold sk; omega
 rw [e]
 exact h
theorem work_ok (xb zb rb sb mb bb base:Nat) (mac ip bs:Str) (wild:Bool) (cnt st rav rus sav sus o n s d f c:Nat) (sout:List Bool) (O:Nat→List Bool) (ids id:Nat→Nat) (fr ans:Nat→Str) (w:World) (h:Mac w xb zb rb sb mb bb base mac ip bs wild cnt st rav rus (tr 8) sav sus sout n s d false)
  (hl:bs.length=25600) (hsus:sus+f<65536) (hsol:sout.length=8) (hf:rdN bs 770 2=sus+f) (hfo:f≤cOut sout) (hO0:O 0=sout) (hOs : ∀ k,k<f→O (k+1)=(O k).set (ids k) false) (hids : ∀ k,k<f→ids k<8∧(O k)[ids k]? = some true∧rdN bs (772+8*((sus+k)%8)) 4=ids k) (hOf:O f=tr o) (ho8:o≤8)
  (hc8:c≤8) (hrf:rdN bs 258 2=rus+c) (hav:rav+c<65536) (hus:rus+c<65536) (hsv:sav+c<65536) (hcnt:cnt≤600000) (hst:st≤600000) (hsd:s+d≤900000) (hnn:n≤900000)
  (hid8 : ∀ k,k<c→id k<8) (hid : ∀ k,k<c→rdN bs (260+8*((rus+k)%8)) 4=id k) (hln : ∀ k,k<c→rdN bs (260+8*((rus+k)%8)+4) 4=12+(fr k).length) (hfl : ∀ k,k<c→(fr k).length≤1524) (hal : ∀ k,k<c→(ans k).length≤1524) (hane : ∀ k,k<c→ans k≠[]) (hlie : ∀ k,k<c→LiesB bs (1024+1536*id k+12) (fr k))
  (hH : ∀ k W,k<c→GF (Off xb rb sb mb bb) base w W→Calls Tryz.prog 37 #[.pointer (some ⟨zb,0,none⟩),.agg #[.string (B mac),.string (B ip)],.string (B (fr k))] W fun e w'=>e=.returned (.string (B (ans k)))∧Below W.heap.size W w') :
  Calls Tryz.prog 95 #[.pointer (some ⟨xb,0,none⟩)] w fun e w' =>
   e=.returned (.bool true)∧At xb zb rb sb mb bb base mac ip bs wild (cnt+4+4*f) st rav rus sav (sus+f) o n s d id fr ans c w'∧GF (Off xb rb sb mb bb) base w w':=by
 obtain ⟨a1,a2,a3,a4,a5,a6,a7,a8,a9⟩:=h.apart
 obtain ⟨l1,l2,l3,l4,l5⟩:=Mac.lts h
 have hf8:f≤8:=Nat.le_trans hfo (by unfold cOut; exact Nat.le_trans (List.length_filter_le _ _) (by omega))
 have hbb:=h.hb
 obtain ⟨wA,hwA⟩ : ∃ wA,wA=(w.alloc (.cells #[.pointer (some ⟨xb,0,none⟩)] 73)).alloc (.cells #[.bool false] 4):=⟨_,rfl⟩
 have hBA:Below w.heap.size w wA:=by rw [hwA]; exact ((Below.refl _ _).alloc (Nat.le_refl _) _).alloc (by simp) _
 have hsA:wA.heap.size=w.heap.size+2:=by rw [hwA]; simp
 have hA1:aB wA w.heap.size [.pointer (some ⟨xb,0,none⟩)] 73:=by rw [hwA]; exact (aB.new w _ _).alloc _
 have hA2:aB wA (w.heap.size+1) [.bool false] 4:=by
  have:=aB.new (w.alloc (.cells #[.pointer (some ⟨xb,0,none⟩)] 73)) [.bool false] 4
  rw [World.size_alloc] at this
  rw [hwA]; exact this
 have hMA:=h.below hBA
 have HRC:=aH (reclaim_ok sb mb bb base 512 13312 sav sus f _ sout O ids wild cnt st bs wA hMA.mem hMA.sr hMA.hb (by omega) hl hsus hsol hf hfo hO0 hOs (fun k hk=>by have:=hids k hk; rw [show 512+(260+8*((sus+k)%8))=772+8*((sus+k)%8) by omega]; exact this) (by omega) (by decide) (by decide) a8 a9)
 rw [hOf] at HRC
 have x2:((w.alloc (.cells #[.pointer (some ⟨xb,0,none⟩)] 73)).alloc (.cells #[.bool false] 4)).cell? ⟨xb,4,none⟩=some (.pointer (some ⟨sb,0,none⟩)):=by rw [← hwA]; exact aB.cell hMA.mac 4 (by simp)
 have x3:=aB.cell h.mac 4 (by simp)
 simp only [List.getElem_cons_zero,List.getElem_cons_succ] at x3
 have hxne:xb≠w.heap.size:=by omega
 have HA1:=aH hA1
 have HA2:=aH hA2
 have HMA:=aH hMA
 have HBA:=aH hBA
 have HH:=aH hH
 have H8:=aH hid8
 have HI:=aH hid
 have HLN:=aH hln
 have HFL:=aH hfl
 have HAL:=aH hal
 have HNE:=aH hane
 have HLI:=aH hlie
 have HRF:=aH hrf
 rw [hwA] at HRC
 clear h hf hfo hO0 hOs hids hOf hH hid8 hid hln hfl hal hane hlie hA1 hA2 hMA hrf
 refine (callsIn_wide (n:=0)).1 ?_
 refine callsIn_of_wp_marks Tryz.func95 rfl trivial ?_
 simp only [Tryz.ntmps95,List.size_toArray,List.length_cons,List.length_nil,Nat.reduceAdd,Nat.reduceSub,Array.replicate_succ,Array.replicate_zero,List.push_toArray,List.append_toArray,List.nil_append,List.cons_append]
 gi_wp2_with fail
 refine ⟨trivial,rfl,?_⟩
 refine (callsIn_wide.2 (aU HRC)).mono ?_
 rw [← hwA]
 rintro e w1 ⟨rfl,hm1,hr1,hF1⟩
 have hz1:=hF1.size
 have hM1:Mac w1 xb zb rb sb mb bb base mac ip bs wild (cnt+2+4*f) st rav rus (tr 8) sav (sus+f) (tr o) n s d false:=⟨hm1,hF1.blk (aU HMA).rr ⟨a5,a6,a7⟩ (by decide) (by decide),hr1,hF1.blk (aU HMA).mac ⟨a2,a3,a4⟩ (by decide) (by decide),Nat.le_trans (aU HMA).hb hz1⟩
 have hb1:aB w1 w.heap.size [.pointer (some ⟨xb,0,none⟩)] 73:=hF1.blk (aU HA1) ⟨by omega,by omega,by omega⟩ (by decide) (by decide)
 have hb2:aB w1 (w.heap.size+1) [.bool false] 4:=hF1.blk (aU HA2) ⟨by omega,by omega,by omega⟩ (by decide) (by decide)
 have y1:w1.cell? ⟨w.heap.size,0,none⟩=some (.pointer (some ⟨xb,0,none⟩)):=aB.cell hb1 0 (by simp)
 have y3:w1.cell? ⟨xb,3,none⟩=some (.pointer (some ⟨rb,0,none⟩)):=aB.cell hM1.mac 3 (by simp)
 have HFw1:=aH ((GF.of_below (p:=Off xb rb sb mb bb) (base:=base) (aU HBA)).trans (hF1.mono fun i hp=>⟨hp.2.2.1,hp.2.2.2⟩))
 have HM1:=aH hM1
 have HB1:=aH hb1
 have HB2:=aH hb2
 clear hm1 hr1 hF1 hM1 hb1 hb2 HRC HMA HA1 HA2 HBA x2 hwA
 gi_wp2_with fail
 refine ⟨trivial,rfl,?_⟩
 refine (callsIn_wide.2 (frames_o rb w1)).mono ?_
 rintro e W2 ⟨rfl,hW2⟩
 have hBW2:Below w1.heap.size w1 W2:=by rw [hW2]; exact (Below.refl _ _).alloc (Nat.le_refl _) _
 have hzW2:W2.heap.size=w1.heap.size+1:=by rw [hW2]; simp
 have hib:aB W2 w1.heap.size [.pointer (some ⟨rb,0,none⟩)] 162:=by rw [hW2]; exact aB.new _ _ _
 have hM2:=(aU HM1).below hBW2
 have hq1:aB W2 w.heap.size [.pointer (some ⟨xb,0,none⟩)] 73:=(hBW2.block _ (aU HB1).lt).trans (aU HB1)
 have hq2:aB W2 (w.heap.size+1) [.bool false] 4:=(hBW2.block _ (aU HB2).lt).trans (aU HB2)
 have HFw2:=aH ((aU HFw1).trans (GF.of_below hBW2))
 clear hBW2 HM1 HB1 HB2 HFw1 hW2 y1 y3
 gi_wp2_with fail
 have hOff : ∀ i,w.heap.size≤i→Off xb rb sb mb bb i:=fun i hi=>⟨by omega,by omega,by omega,by omega,by omega⟩
 refine It.rangeJ (α:=Nat) (xs:=List.range c) (encs:=fun k=>#[.string (B (fr k)),.bool true]) (gf:=219) (lb:=#[.pointer (some ⟨w1.heap.size,0,none⟩)]) rfl (enters_of Tryz.func219 (by kernel_rfl) rfl) (fun _=>rfl)
  (fun W=>Mac W xb zb rb sb mb bb base mac ip bs wild (cnt+2+4*f) st rav rus (tr 8) sav (sus+f) (tr o) n s d false∧GF (Off xb rb sb mb bb) base W2 W)
  (fun k W=>At xb zb rb sb mb bb base mac ip bs wild (cnt+4+4*f) st rav rus sav (sus+f) o n s d id fr ans k W∧GF (Off xb rb sb mb bb) base W2 W)
  (fun k x W=>x=k∧Got xb zb rb sb mb bb base mac ip bs wild (cnt+4+4*f) st rav rus sav (sus+f) o n s d id fr ans k W∧GF (Off xb rb sb mb bb) base W2 W)
  ?iter ?p1 ?p2 ?h0 ?round ?done
 case h0 =>
  intro r
  have hg:Below W2.heap.size W2 ((W2.alloc (.deferred (some []))).alloc (.loop r)):=((Below.refl _ _).alloc (Nat.le_refl _) _).alloc (by simp) _
  exact ⟨hM2.below hg,GF.of_below hg⟩
 case p1 =>
  rintro i A r ob ⟨hA,hG⟩ hl'
  exact ⟨Mac.cells hA (by rw [World.putObj_size]; exact Nat.le_refl _) (put_cells hl' ob),GF.high hG rfl rfl rfl (by rw [World.putObj_size]; exact Nat.le_refl _) (fun i hi=>World.putObj_heap_other (by omega))⟩
 case p2 =>
  rintro i x A r ob ⟨hx,hA,hG⟩ hl'
  exact ⟨hx,Mac.cells hA (by rw [World.putObj_size]; exact Nat.le_refl _) (put_cells hl' ob),GF.high hG rfl rfl rfl (by rw [World.putObj_size]; exact Nat.le_refl _) (fun i hi=>World.putObj_heap_other (by omega))⟩
 case iter =>
  rintro r hY W0 ⟨hM0,hG0⟩ hL0
  have hoff : ∀ {i},w.heap.size≤i→Off xb rb sb mb bb i:=fun hi=>hOff _ hi
  refine (frames_iter (W2.heap.size+1) w1.heap.size rb c fr
   (fun k W=>(At xb zb rb sb mb bb base mac ip bs wild (cnt+4+4*f) st rav rus sav (sus+f) o n s d id fr ans k W∧GF (Off xb rb sb mb bb) base W2 W)∧It.LL W2.heap.size r W)
   (fun k W=>(k=k∧Got xb zb rb sb mb bb base mac ip bs wild (cnt+4+4*f) st rav rus sav (sus+f) o n s d id fr ans k W∧GF (Off xb rb sb mb bb) base W2 W)∧It.LL W2.heap.size r W)
   W0 (by omega) (aB.cell (hG0.blk hib (hoff (by omega)) (by decide) (by decide)) 0 (by simp)) (fun k W h=>aB.cell (h.1.2.blk hib (hoff (by omega)) (by decide) (by decide)) 0 (by simp)) ?fr ?nx ?Y).mono ?fin
  case fr =>
   refine (fresh_any rb mb bb base 0 1024 rav rus c _ true true true true true true true true wild (cnt+2+4*f) st bs W0 hM0.mem hM0.rr hM0.hb (by omega) hl (by omega) (by omega) (by rw [Nat.zero_add,aU HRF]; omega) (by decide) (by decide) a6 a7).mono ?_
   rintro e W' ⟨rfl,hm',hF'⟩
   have kd:decide ((c:Int)≤(cOut [true,true,true,true,true,true,true,true]:Nat))=true:=decide_eq_true (by show (c:Int)≤((8:Nat):Int); omega)
   rw [kd]
   have hG':GF (Off xb rb sb mb bb) base W0 W':=GF.of_mf hF' fun i hp=>hp.2.2.2
   have hm2:Mem W' mb bb base bs wild (cnt+4+4*f) st:=by rw [show cnt+4+4*f=cnt+2+4*f+2 by omega]; exact hm'
   exact ⟨rfl,⟨at_zero (Mac.load hM0 hm2 hF'),hG0.trans hG'⟩,hL0.of (GF.obj hG' (hoff (by omega)) (.inr ⟨_,hL0.2⟩)) (GF.obj hG' (hoff (by omega)) (.inl ⟨_,hL0.1⟩))⟩
  case nx =>
   rintro k W hk ⟨⟨hA,hG⟩,hL⟩
   refine (next_at c k W hk hc8 hA hl hav hus (by omega) hst (aU H8) (aU HI) (aU HLN) (aU HFL) (aU HAL) (aU HLI)).mono ?_
   rintro e W' ⟨rfl,hGot,hF'⟩
   have hG':GF (Off xb rb sb mb bb) base W W':=hF'.mono fun i hp=>⟨hp.2.1,hp.2.2.2⟩
   exact ⟨rfl,⟨rfl,hGot,hG.trans hG'⟩,hL.of (GF.obj hG' (hoff (by omega)) (.inr ⟨_,hL.2⟩)) (GF.obj hG' (hoff (by omega)) (.inl ⟨_,hL.1⟩))⟩
  case Y =>
   rintro k W hk ⟨hg,hL⟩
   exact hY k k W (by simp [hk]) hg hL
  case fin =>
   rintro e W' ⟨hv,hI',hL'⟩
   rw [List.length_range]
   exact ⟨hv,hI',hL'⟩
 case round =>
  intro l' i x V W hx hI hsz hdef hlp
  obtain ⟨rfl,hGot,hG⟩:=hI
  have hik:x<c:=by
   have:=(List.getElem?_eq_some_iff.1 hx).1
   simpa using this
  gi_wp2_with fail
  refine ⟨trivial,?_⟩
  have hb1:=hG.blk hq1 (hOff _ (Nat.le_refl _)) (by decide) (by decide)
  have c1:W.cell? ⟨w.heap.size,0,none⟩=some (.pointer (some ⟨xb,0,none⟩)):=aB.cell hb1 0 (by simp)
  obtain ⟨nk,hnk⟩ : ∃ nk,nk=n+x:=⟨_,rfl⟩
  obtain ⟨nk1,hnk1⟩ : ∃ nk1,nk1=n+(x+1):=⟨_,rfl⟩
  have c5:W.cell? ⟨xb,5,none⟩=some (.int .i64 nk):=by rw [hnk]; exact aB.cell hGot.mac 5 (by simp)
  have kn:(nk:Int)+1=(nk1:Int):=by omega
  have cf:=aB.frozen hGot.mac
  have hUP:=got_up x W hGot
  rw [← hnk1] at hUP
  have d1:(W.setCell ⟨xb,5,none⟩ (.int .i64 nk1)).cell? ⟨w.heap.size,0,none⟩=some (.pointer (some ⟨xb,0,none⟩)):=by
   rw [World.cell?_setCell_other _ _ _ _ (fun e=>by have:=congrArg Addr.block e; simp at this; omega),c1]
  have hGs:GF (Off xb rb sb mb bb) base W (W.setCell ⟨xb,5,none⟩ (.int .i64 nk1)):=GF.of_set (rb:=xb) W 5 _ fun i hp=>hp.1
  have HAN:=aH (answer_at c x _ hik hc8 ho8 (by rw [hnk1] at hUP ⊢; exact hUP) hsv hst hsd (aU HAL) (aU HNE) (aU HH x (W.setCell ⟨xb,5,none⟩ (.int .i64 nk1)).drew hik (((aU HFw2).trans (hG.trans hGs)).trans (GF.of_below (Below.refl _ _).drew))))
  have HGs:=aH hGs
  have HG:=aH hG
  have hnb:nk≤1000000:=by omega
  clear hGot hG hUP hGs hb1 hnk hnk1
  gi_wp2_with fail
  refine ⟨trivial,rfl,?_⟩
  refine (CallsIn.inRound l' (callsIn_wide.2 (aU HAN))).mono ?_
  rintro e W3 ⟨rfl,hA3,hF3⟩
  have hG3:=(aU HGs).trans hF3
  have HL3:Hid (It.Loops W2.heap.size W W3):=⟨hG3.size,GF.obj hG3 (hOff _ (by omega)) (.inr ⟨_,hdef⟩),GF.obj hG3 (hOff _ (by omega)) (.inl hlp)⟩
  have HA3:=aH hA3
  have HG3:=aH ((aU HG).trans hG3)
  clear hA3 hF3 hG3 HAN HGs HG
  gi_wp2_with fail
  exact ⟨aU HL3,aU HA3,aU HG3⟩
 case done =>
  intro W hI hdef hsz
  rw [List.length_range] at hI
  obtain ⟨hA,hG⟩:=hI
  have hb2:=hG.blk hq2 (hOff _ (by omega)) (by decide) (by decide)
  have cb:W.cell? ⟨w.heap.size+1,0,none⟩=some (.bool false):=aB.cell hb2 0 (by simp)
  have cf:=aB.frozen hb2
  have hdef2:(W.setCell ⟨w.heap.size+1,0,none⟩ (.bool true)).heap[W2.heap.size]? = some (.deferred (some [])):=(Below.heap_setCell _ _ _ _ (by show W2.heap.size≠w.heap.size+1; omega)).trans hdef
  have hA2:At xb zb rb sb mb bb base mac ip bs wild (cnt+4+4*f) st rav rus sav (sus+f) o n s d id fr ans c (W.setCell ⟨w.heap.size+1,0,none⟩ (.bool true)):=Mac.other hA hb2 (by simp [World.setCell]) (fun i _ hne=>Below.heap_setCell _ _ _ _ hne)
  have HA3:=aH (Mac.cells hA2 (by rw [World.putObj_size]; exact Nat.le_refl _) (put_cells_d hdef2 (.deferred none)))
  have HF3:Hid (GF (Off xb rb sb mb bb) base w ((W.setCell ⟨w.heap.size+1,0,none⟩ (.bool true)).putObj W2.heap.size (.deferred none))) :=
   GF.high ((aU HFw2).trans hG) rfl rfl rfl (by rw [World.putObj_size]; simp [World.setCell]) (fun i hi=>(World.putObj_heap_other (by omega)).trans (Below.heap_setCell _ _ _ _ (by show i≠w.heap.size+1; omega)))
  have cr:((W.setCell ⟨w.heap.size+1,0,none⟩ (.bool true)).putObj W2.heap.size (.deferred none)).cell? ⟨w.heap.size+1,0,none⟩=some (.bool true) :=
   (World.cell?_of_block (World.putObj_heap_other (by dsimp only; omega))).trans (aB.cell (aB.set hb2 0 (.bool true)) 0 (by simp))
  clear hA hG hb2 hA2
  gi_wp2_with fail
  refine ⟨by simp,.inl ⟨_,_,rfl,run_takeDeferred hdef2,?_⟩⟩
  refine ⟨.bool true,by simp [results,Tryz.results95,go_sem,cr],rfl,aU HA3,aU HF3⟩
end Nee
end Go.Proofs.YtkkpahmoljiepaaGreatDoor

set_option maxRecDepth 1000000
set_option maxHeartbeats 12800000
namespace Go.Proofs.YtkkpahmoljiepaaGreatDoor
open Go.RowKit
open Pu (Str aH aU)
namespace Nh
open Ka Wa Wb Wc Wd We Wf Wg Wh Wi Wj Wk Wl Wm Ha Hb Hc Re Qa Qb Qc Qd Qe Qf Qg Qh Qi Qj Qk Ql Qm Qn Qo Qp Qr Qq Qs Qu Qv Qw Qx Na Nb Nc Nd Nee Nf
theorem poll_ok (xb zb rb sb mb bb base:Nat) (mac ip bs:Str) (wild:Bool) (cnt st rav rus sav sus o n s d f c:Nat) (sout:List Bool) (O:Nat→List Bool) (ids id:Nat→Nat) (fr ans:Nat→Str) (w:World) (h:Mac w xb zb rb sb mb bb base mac ip bs wild cnt st rav rus (tr 8) sav sus sout n s d false)
  (hl:bs.length=25600) (hsus:sus+f<65536) (hsol:sout.length=8) (hf:rdN bs 770 2=sus+f) (hfo:f≤cOut sout) (hO0:O 0=sout) (hOs : ∀ k,k<f→O (k+1)=(O k).set (ids k) false) (hids : ∀ k,k<f→ids k<8∧(O k)[ids k]? = some true∧rdN bs (772+8*((sus+k)%8)) 4=ids k) (hOf:O f=tr o) (ho8:o≤8)
  (hc8:c≤8) (hrf:rdN bs 258 2=rus+c) (hav:rav+c<65536) (hus:rus+c<65536) (hsv:sav+c<65536) (hcnt:cnt≤600000) (hst:st≤600000) (hsd:s+d≤900000) (hnn:n≤900000)
  (hid8 : ∀ k,k<c→id k<8) (hid : ∀ k,k<c→rdN bs (260+8*((rus+k)%8)) 4=id k) (hln : ∀ k,k<c→rdN bs (260+8*((rus+k)%8)+4) 4=12+(fr k).length) (hfl : ∀ k,k<c→(fr k).length≤1524) (hal : ∀ k,k<c→(ans k).length≤1524) (hane : ∀ k,k<c→ans k≠[]) (hlie : ∀ k,k<c→LiesB bs (1024+1536*id k+12) (fr k))
  (hH : ∀ k W,k<c→GF (Off xb rb sb mb bb) base w W→Calls Tryz.prog 37 #[.pointer (some ⟨zb,0,none⟩),.agg #[.string (B mac),.string (B ip)],.string (B (fr k))] W fun e w'=>e=.returned (.string (B (ans k)))∧Below W.heap.size W w') :
  Calls Tryz.prog 54 #[.pointer (some ⟨xb,0,none⟩)] w fun e w' =>
   e=.returned (.int .i64 0)∧At xb zb rb sb mb bb base mac ip bs wild (cnt+4+4*f) st rav rus sav (sus+f) o n s d id fr ans c w'∧GF (Off xb rb sb mb bb) base w w':=by
 obtain ⟨l1,l2,l3,l4,l5⟩:=Mac.lts h
 have hB:=gW_below w xb
 have HG:=aH (guard_work xb w (fun W'=>At xb zb rb sb mb bb base mac ip bs wild (cnt+4+4*f) st rav rus sav (sus+f) o n s d id fr ans c W'∧GF (Off xb rb sb mb bb) base w W')
  ((work_ok xb zb rb sb mb bb base mac ip bs wild cnt st rav rus sav sus o n s d f c sout O ids id fr ans (gW w xb) (h.below hB) hl hsus hsol hf hfo hO0 hOs hids hOf ho8 hc8 hrf hav hus hsv hcnt hst hsd hnn hid8 hid hln hfl hal hane hlie (fun k W hk hF=>hH k W hk ((GF.of_below hB).trans hF))).mono (by
    rintro e W' ⟨rfl,hA,hF⟩
    exact ⟨rfl,⟨hA,(GF.of_below hB).trans hF⟩,hF.blk (gW_two w xb) ⟨by omega,by omega,by omega,by omega,by omega⟩ (by decide) (by decide)⟩)))
 have c8:w.cell? ⟨xb,8,none⟩=some (.bool false):=aB.cell h.mac 8 (by simp)
 have hmf : ∀ (fn:Fn) (first cap:Array Value) (w:World),(Instr.makeFunc fn first cap).run Tryz.prog w=.ok (.func fn first cap) w:=fun _ _ _ _=>rfl
 clear h hf hfo hO0 hOs hids hOf hH hid8 hid hln hfl hal hane hlie hrf
 go_enter Tryz.func54,Tryz.ntmps54
 go_wp2_with fail
 refine (aU HG).mono ?_
 rintro e w1 ⟨rfl,W',⟨hA,hF⟩,hb,rfl⟩
 have hA2:At xb zb rb sb mb bb base mac ip bs wild (cnt+4+4*f) st rav rus sav (sus+f) o n s d id fr ans c (W'.setCell ⟨w.heap.size+1,0,none⟩ (.bool true)):=Mac.other hA hb (by simp [World.setCell]) (fun i _ hne=>Below.heap_setCell _ _ _ _ hne)
 have HF2:=aH (GF.high (C:=W'.setCell ⟨w.heap.size+1,0,none⟩ (.bool true)) hF rfl rfl rfl (by simp [World.setCell]) (fun i hi=>Below.heap_setCell _ _ _ _ (by show i≠w.heap.size+1; omega)))
 have d8:(W'.setCell ⟨w.heap.size+1,0,none⟩ (.bool true)).cell? ⟨xb,8,none⟩=some (.bool false):=aB.cell hA2.mac 8 (by simp)
 have HA2:=aH hA2
 generalize W'.setCell ⟨w.heap.size+1,0,none⟩ (.bool true)=W2 at *
 clear hA hF hb hA2 HG
 go_wp2_with fail
 go_ret
 exact ⟨rfl,aU HA2,aU HF2⟩
end Nh
namespace Db
open Go.Sort
def exo:Str:=[101,120,97,109,112,108,101,46,111,114,103]
def smp:Str:=[111,114,105,103,105,110,32,101,120,97,109,112,108,101,46,111,114,103,10,101,120,97,109,112,108,101,46,111,114,103,32,51,48,48,32,83,79,65,32,110,115,46,101,120,97,109,112,108,101,46,111,114,103,32,97,100,109,105,110,46,101,120,97,109,112,108,101,46,111,114,103,32,55,32,54,48,10,101,120,97,109,112,108,101,46,111,114,103,32,51,48,48,32,78,83,32,110,115,46,101,120,97,109,112,108,101,46,111,114,103,10,110,115,46,101,120,97,109,112,108,101,46,111,114,103,32,51,48,48,32,65,32,49,57,50,46,48,46,50,46,49,10,119,119,119,46,101,120,97,109,112,108,101,46,111,114,103,32,54,48,32,67,78,65,77,69,32,119,101,98,46,101,120,97,109,112,108,101,46,111,114,103,10,119,101,98,46,101,120,97,109,112,108,101,46,111,114,103,32,54,48,32,65,32,49,57,50,46,48,46,50,46,56,48,10,42,46,119,105,108,100,46,101,120,97,109,112,108,101,46,111,114,103,32,54,48,32,84,88,84,32,104,105,10,115,117,98,46,101,120,97,109,112,108,101,46,111,114,103,32,51,48,48,32,78,83,32,110,115,46,115,117,98,46,101,120,97,109,112,108,101,46,111,114,103,10,110,115,46,115,117,98,46,101,120,97,109,112,108,101,46,111,114,103,32,51,48,48,32,65,32,49,57,50,46,48,46,50,46,57,10]
def recsE:List Rec:=[([101,120,97,109,112,108,101,46,111,114,103],300,6,[110,115,46,101,120,97,109,112,108,101,46,111,114,103,32,97,100,109,105,110,46,101,120,97,109,112,108,101,46,111,114,103,32,55,32,54,48]),([101,120,97,109,112,108,101,46,111,114,103],300,2,[110,115,46,101,120,97,109,112,108,101,46,111,114,103]),([110,115,46,101,120,97,109,112,108,101,46,111,114,103],300,1,[49,57,50,46,48,46,50,46,49]),([119,119,119,46,101,120,97,109,112,108,101,46,111,114,103],60,5,[119,101,98,46,101,120,97,109,112,108,101,46,111,114,103]),([119,101,98,46,101,120,97,109,112,108,101,46,111,114,103],60,1,[49,57,50,46,48,46,50,46,56,48]),([42,46,119,105,108,100,46,101,120,97,109,112,108,101,46,111,114,103],60,16,[104,105]),([115,117,98,46,101,120,97,109,112,108,101,46,111,114,103],300,2,[110,115,46,115,117,98,46,101,120,97,109,112,108,101,46,111,114,103]),([110,115,46,115,117,98,46,101,120,97,109,112,108,101,46,111,114,103],300,1,[49,57,50,46,48,46,50,46,57])]
def recsS:List Rec:=[([42,46,119,105,108,100,46,101,120,97,109,112,108,101,46,111,114,103],60,16,[104,105]),([101,120,97,109,112,108,101,46,111,114,103],300,2,[110,115,46,101,120,97,109,112,108,101,46,111,114,103]),([101,120,97,109,112,108,101,46,111,114,103],300,6,[110,115,46,101,120,97,109,112,108,101,46,111,114,103,32,97,100,109,105,110,46,101,120,97,109,112,108,101,46,111,114,103,32,55,32,54,48]),([110,115,46,101,120,97,109,112,108,101,46,111,114,103],300,1,[49,57,50,46,48,46,50,46,49]),([110,115,46,115,117,98,46,101,120,97,109,112,108,101,46,111,114,103],300,1,[49,57,50,46,48,46,50,46,57]),([115,117,98,46,101,120,97,109,112,108,101,46,111,114,103],300,2,[110,115,46,115,117,98,46,101,120,97,109,112,108,101,46,111,114,103]),([119,101,98,46,101,120,97,109,112,108,101,46,111,114,103],60,1,[49,57,50,46,48,46,50,46,56,48]),([119,119,119,46,101,120,97,109,112,108,101,46,111,114,103],60,5,[119,101,98,46,101,120,97,109,112,108,101,46,111,114,103])]
theorem readE:readZ smp=some (exo,recsE):=by kernel_rfl
theorem sortE:sortL recsE=recsS:=by
 unfold sortL Sort.insertionSort
 simp only [show recsE.length=8 from rfl]
 rw [insOuter_go _ _ _ _ _ (by decide),insOuter_go _ _ _ _ _ (by decide),insOuter_go _ _ _ _ _ (by decide),insOuter_go _ _ _ _ _ (by decide),insOuter_go _ _ _ _ _ (by decide),insOuter_go _ _ _ _ _ (by decide),insOuter_go _ _ _ _ _ (by decide),insOuter_stop _ _ _ _ _ (by decide)]
 kernel_rfl
theorem startsE:Rf.startsR exo recsE=true:=by kernel_rfl
theorem rightE:rightP exo recsS=true:=by kernel_rfl
theorem parseE:parseP smp=some (exo,recsS):=by
 unfold parseP
 rw [readE]
 show (if Rf.startsR exo recsE && rightP exo (sortL recsE) then some (exo,sortL recsE) else none)=_
 rw [sortE,startsE,rightE]; rfl
theorem zoneE:zoneP smp=some (exo,recsE):=by
 unfold zoneP
 rw [if_pos ⟨Nat.le_of_ble_eq_true (by kernel_rfl),by rw [parseE]; rfl⟩,readE]
open Ka Ed Ek Em En Ep Ej Ia Sc Sf Si Lg Eu Ex Oa Ob Oc Od Og Ol Om La Lb Es Ev Er Eh Za Ie Ec Ee Eb Re Lc Ke Lv Da Lj
end Db
end Go.Proofs.YtkkpahmoljiepaaGreatDoor
