/- Contract: rings' describe. -/
import Derived.Test.YtkkpahmoljiepaaGreatDoorJ11
set_option linter.unusedSimpArgs false
set_option linter.unusedVariables false
set_option maxRecDepth 1000000
set_option maxHeartbeats 12800000
namespace Go.Proofs.YtkkpahmoljiepaaGreatDoor
open Go.RowKit
open Pu (Str aH aU)
namespace Qj
open Ka Wa Wb Wc Wd We Wf Wg Wh Wi Wj Wk Wl Wm Ha Hb Hc Re Qa Qb Qc Qd Qe Qf Qg Qi
theorem ring_keep {w w':World} {rb mb bb base ba bu av us:Nat} {t:TypeId} {out:List Bool} (hr:aO w rb t mb ba bu av us out) (hF:MF mb bb base w w') (ht1:t≠3) (ht2:t≠177) (hrm:rb≠mb) (hrb:rb≠bb):aO w' rb t mb ba bu av us out :=
 (hF.block rb (aB.lt hr) hrm hrb (.inr ⟨fun cur e=>ht1 (by have:=hr.symm.trans e; simp at this; exact this.2),fun cur e=>ht2 (by have:=hr.symm.trans e; simp at this; exact this.2)⟩)).trans hr
def dsc1 (bs:Str) (ba bu fl k:Nat):Str:=wrN (wrN (wrN (wrN bs (ba+16*k) (bu+1536*k) 8) (ba+(16*k+8)) 1536 4) (ba+(16*k+12)) fl 2) (ba+(16*k+14)) 0 2
def dscN (bs:Str) (ba bu fl:Nat):Nat→Str
 | 0=>bs
 | k+1=>dsc1 (dscN bs ba bu fl k) ba bu fl k
def dscF1 (f:Fl) (ba k:Nat):Fl:=stFs (stFs (stFs (stFs f (ba+16*k) 8) (ba+(16*k+8)) 4) (ba+(16*k+12)) 2) (ba+(16*k+14)) 2
def dscF (f:Fl) (ba:Nat):Nat→Fl
 | 0=>f
 | k+1=>dscF1 (dscF f ba k) ba k
theorem describe_x (rb mb bb base ba bu av us fl:Nat) (t:TypeId) (out:List Bool) (wild:Bool) (cnt st:Nat) (f:Fl) (bs:Str) (w:World) (h:MemX w mb bb base bs wild cnt st f) (hr:aO w rb t mb ba bu av us out) (hbs:base≤w.heap.size) (hba:ba≤1000) (hbu:bu≤20000) (hfl:fl<65536) (hst:st≤800000) (ht1:t≠3) (ht2:t≠177) (hrm:rb≠mb) (hrb:rb≠bb) :
  Calls Tryz.prog 152 #[.pointer (some ⟨rb,0,none⟩),.int .i64 fl] w fun e w' =>
   e=.returned (.tuple #[])∧MemX w' mb bb base (dscN bs ba bu fl 8) wild cnt (st+128) (dscF f ba 8)∧MF mb bb base w w':=by
 have HM:=aH h
 have HR:=aH hr
 clear h hr
 go_enter Tryz.func152,Tryz.ntmps152
 go_wp2_with fail
 go_loopw [6] (fun i wr=>∃ k:Nat,i=.int .i64 k∧k≤8∧MemX wr mb bb base (dscN bs ba bu fl k) wild cnt (st+16*k) (dscF f ba k)∧MF mb bb base w wr) (fun i _=>8 - (intOf i).toNat)
 case atStart=>exact ⟨0,rfl,by omega,aU HM,Qf.MF.refl _ _ _ _⟩
 case round =>
  obtain ⟨k,rfl,hk,hm,hF⟩:=hrel
  have hR1:=ring_keep (aU HR) hF ht1 ht2 hrm hrb
  have HM1:=aH hm
  have HF1:=aH hF
  have hsz1:=hF.size
  by_cases hlk:k<8
  ·obtain ⟨a,ha⟩ : ∃ a,a=16*k:=⟨_,rfl⟩
   have e0:(16:Int)*(k:Int)=(a:Int):=by omega
   obtain ⟨a8,ha8⟩ : ∃ x,x=a+8:=⟨_,rfl⟩
   have e8:(a:Int)+8=(a8:Int):=by omega
   obtain ⟨a12,ha12⟩ : ∃ x,x=a+12:=⟨_,rfl⟩
   have e12:(a:Int)+12=(a12:Int):=by omega
   obtain ⟨a14,ha14⟩ : ∃ x,x=a+14:=⟨_,rfl⟩
   have e14:(a:Int)+14=(a14:Int):=by omega
   obtain ⟨v,hv⟩ : ∃ v,v=bu+1536*k:=⟨_,rfl⟩
   have HB:=aH (buffer_any rb mb ba bu av us k t out wr hR1 (by omega) (by omega))
   rw [← hv] at HB
   have H1:=aH (rstore_x rb mb bb base ba bu av us a 8 v t out wild cnt (st+16*k) _ _ wr hm hR1 (by omega) (by omega) (by omega) (by omega) (by omega) ht2 hrm hrb)
   have hab:a≤200:=by omega
   have HD:Hid (dscN bs ba bu fl (k+1)=wrN (wrN (wrN (wrN (dscN bs ba bu fl k) (ba+a) v 8) (ba+a8) 1536 4) (ba+a12) fl 2) (ba+a14) 0 2∧dscF f ba (k+1)=stFs (stFs (stFs (stFs (dscF f ba k) (ba+a) 8) (ba+a8) 4) (ba+a12) 2) (ba+a14) 2):=⟨by rw [dscN,dsc1,hv,ha14,ha12,ha8,ha],by rw [dscF,dscF1,ha14,ha12,ha8,ha]⟩
   generalize dscN bs ba bu fl k=b0 at *
   generalize dscF f ba k=f0 at *
   have HX:Hid (a8≤300∧a12≤300∧a14≤300):=by unfold Hid; omega
   have hbn8:a8≤300:=by omega
   have hbn12:a12≤300:=by omega
   have hbn14:a14≤300:=by omega
   clear hm hF ha ha8 ha12 ha14 hv
   go_wp2_with fail
   refine (aU HB).mono ?_
   rintro e wr ⟨rfl,rfl⟩
   go_wp2_with fail
   refine (aU H1).mono ?_
   rintro e w1 ⟨rfl,hm1,hF1'⟩
   have hF1:=Qf.SF.mf hF1'
   clear hF1'
   have hR2:=ring_keep hR1 hF1 ht1 ht2 hrm hrb
   have H2:Hid (Calls Tryz.prog 213 #[.pointer (some ⟨rb,0,none⟩),.int .i64 a8,.int .i64 4,.int .i64 1536] w1 _):=rstore_x rb mb bb base ba bu av us a8 4 1536 t out wild cnt (st+16*k+8) _ _ w1 hm1 hR2 (by have:=hF1.size; omega) (by omega) (by omega) (by omega) (by omega) ht2 hrm hrb
   have HF2:=aH (Qf.MF.trans (aU HF1) hF1)
   clear hm1 hF1 HB H1 hR1 HM1
   go_wp2_with fail
   refine (aU H2).mono ?_
   rintro e w2 ⟨rfl,hm2,hF2'⟩
   have hF2:=Qf.SF.mf hF2'
   clear hF2'
   have hR3:=ring_keep hR2 hF2 ht1 ht2 hrm hrb
   have H3:Hid (Calls Tryz.prog 213 #[.pointer (some ⟨rb,0,none⟩),.int .i64 a12,.int .i64 2,.int .i64 fl] w2 _):=rstore_x rb mb bb base ba bu av us a12 2 fl t out wild cnt (st+16*k+8+4) _ _ w2 hm2 hR3 (by have:=hF2.size; have:=(aU HF2).size; omega) (by omega) (by omega) (by omega) (by omega) ht2 hrm hrb
   have HF3:=aH (Qf.MF.trans (aU HF2) hF2)
   clear hm2 hF2 H2 hR2
   go_wp2_with fail
   refine (aU H3).mono ?_
   rintro e w3 ⟨rfl,hm3,hF3'⟩
   have hF3:=Qf.SF.mf hF3'
   clear hF3'
   have hR4:=ring_keep hR3 hF3 ht1 ht2 hrm hrb
   have H4:Hid (Calls Tryz.prog 213 #[.pointer (some ⟨rb,0,none⟩),.int .i64 a14,.int .i64 2,.int .i64 0] w3 _):=rstore_x rb mb bb base ba bu av us a14 2 0 t out wild cnt (st+16*k+8+4+2) _ _ w3 hm3 hR4 (by have:=hF3.size; have:=(aU HF3).size; omega) (by omega) (by omega) (by omega) (by omega) ht2 hrm hrb
   have HF4:=aH (Qf.MF.trans (aU HF3) hF3)
   clear hm3 hF3 H3 hR3
   go_wp2_with fail
   refine (aU H4).mono ?_
   rintro e w4 ⟨rfl,hm4,hF4'⟩
   have hF4:=Qf.SF.mf hF4'
   clear hF4'
   rw [← (aU HD).1,← (aU HD).2] at hm4
   have HM5:=aH hm4
   have HF5:=aH (Qf.MF.trans (aU HF4) hF4)
   clear hm4 hF4 H4 hR4
   go_wp2_with fail
   exact ⟨⟨k+1,by go_num,by omega,by have:=aU HM5; rwa [show st+16*k+8+4+2+2=st+16*(k+1) by omega] at this,aU HF5⟩,by simp [intOf]; omega⟩
  ·have hkl:k=8:=by omega
   subst hkl
   clear hm hF
   go_wp2
   refine bodyPost_end (v:=.tuple #[]) (by simp [results,Tryz.results152]) rfl ?_
   exact ⟨rfl,aU HM1,aU HF1⟩
end Qj
structure RF (rb mb bb base:Nat) (A B:World):Prop where
 os:B.os=A.os
 tape:B.tape=A.tape
 output:B.output=A.output
 size:A.heap.size≤B.heap.size
 block : ∀ i,i<A.heap.size→i≠rb→i≠mb→i≠bb→(i<base∨∀ cur,A.heap[i]?≠some (.cells cur 177 (0,0)))→B.heap[i]? = A.heap[i]?
namespace Qk
open Ka Wa Wb Wc Wd We Wf Wg Wh Wi Wj Wk Wl Wm Ha Hb Hc Re Qa Qb Qc Qd Qe Qf Qg Qi Qj
theorem RF.refl (rb mb bb base:Nat) (w:World):RF rb mb bb base w w:=⟨rfl,rfl,rfl,Nat.le_refl _,fun _ _ _ _ _ _=>rfl⟩
theorem RF.trans {rb mb bb base:Nat} {A B C:World} (h:RF rb mb bb base A B) (k:RF rb mb bb base B C):RF rb mb bb base A C :=
 ⟨k.os.trans h.os,k.tape.trans h.tape,k.output.trans h.output,Nat.le_trans h.size k.size,fun i hi h0 h1 h2 hp=>by
  have e:=h.block i hi h0 h1 h2 hp
  refine (k.block i (Nat.lt_of_lt_of_le hi h.size) h0 h1 h2 ?_).trans e
  rw [e]; exact hp⟩
theorem RF.of_sf {rb mb bb base:Nat} {A B:World} (h:SF mb bb base A B):RF rb mb bb base A B:=⟨h.os,h.tape,h.output,h.size,fun i hi _ h1 h2 hp=>h.block i hi h1 h2 hp⟩
theorem RF.of_set {rb mb bb base:Nat} (A:World) (o:Nat) (v:Value):RF rb mb bb base A (A.setCell ⟨rb,o,none⟩ v):=⟨rfl,rfl,rfl,by simp [World.setCell],fun i _ h0 _ _ _=>Below.heap_setCell _ _ _ _ h0⟩
theorem ring_av {w:World} {rb mb ba bu av us:Nat} {t:TypeId} {out:List Bool} (h:aO w rb t mb ba bu av us out) (n:Nat):aO (w.setCell ⟨rb,3,none⟩ (.int .u16 n)) rb t mb ba bu n us out:=aB.set h 3 (.int .u16 n)
theorem ring_out {w:World} {rb mb ba bu av us:Nat} {t:TypeId} {out:List Bool} (h:aO w rb t mb ba bu av us out) (s:Nat) (b:Bool):aO (w.setCell ⟨rb,5+s,none⟩ (.bool b)) rb t mb ba bu av us (out.set s b):=by
 have:=aB.set h (5+s) (.bool b)
 have e:([.iface 71 (.pointer (some ⟨mb,0,none⟩)),.int .i64 ba,.int .i64 bu,.int .u16 av,.int .u16 us]++out.map Value.bool:List Value).set (5+s) (.bool b) = [.iface 71 (.pointer (some ⟨mb,0,none⟩)),.int .i64 ba,.int .i64 bu,.int .u16 av,.int .u16 us]++(out.set s b).map Value.bool:=by
  rw [List.set_append_right _ _ (by simp),List.map_set]; simp
 unfold aO
 rw [← e]; exact this
theorem memx_keep {w w':World} {mb bb base:Nat} {bs:Str} {wild:Bool} {cnt st:Nat} {f:Fl} (h:MemX w mb bb base bs wild cnt st f) (rb:Nat) (t:TypeId) (cs:List Value) (hb:aB w rb cs t) (ht1:t≠3) (ht2:t≠177) (hrm:rb≠mb) (hrb:rb≠bb) (hk : ∀ i,i<w.heap.size→i≠rb→w'.heap[i]? = w.heap[i]?):MemX w' mb bb base bs wild cnt st f:=by
 obtain ⟨vl,vm,ns,hm,hr,ho,hl,ms,hms,hml⟩:=h
 exact ⟨vl,vm,ns,aF.of hm (hk mb (aF.lt hm) (fun e=>hrm e.symm)),RowB.of hr (hk bb hr.2.lt (fun e=>hrb e.symm)),own_keep ho fun g hg=>hk g (own_lt ho hg) (fun e=>own_ne hb ho ht1 (by rw [hg,e])),hl,ms,own_keep hms fun g hg=>hk g (own_lt hms hg) (fun e=>own_ne hb hms ht2 (by rw [hg,e])),hml⟩
theorem mem_keep {w w':World} {mb bb base:Nat} {bs:Str} {wild:Bool} {cnt st:Nat} (h:Mem w mb bb base bs wild cnt st) (rb:Nat) (t:TypeId) (cs:List Value) (hb:aB w rb cs t) (ht1:t≠3) (ht2:t≠177) (hrm:rb≠mb) (hrb:rb≠bb) (hk : ∀ i,i<w.heap.size→i≠rb→w'.heap[i]? = w.heap[i]?):Mem w' mb bb base bs wild cnt st :=
 h.imp fun _ h=>memx_keep h rb t cs hb ht1 ht2 hrm hrb hk
def offS (ba:Nat):List Nat→Str×Nat×List Bool→Str×Nat×List Bool
 | [],x=>x
 | s :: l,x=>offS ba l (wrN x.1 (ba+(132+2*(x.2.1%8))) s 2,(x.2.1+1)%65536,x.2.2.set s true)
def offF (ba:Nat):List Nat→Nat→Fl→Fl
 | [],_,f=>f
 | _ :: l,a,f=>offF ba l ((a+1)%65536) (stFs f (ba+(132+2*(a%8))) 2)
theorem offer_x (rb mb bb base ba bu av us sb cap:Nat) (t:TypeId) (out:List Bool) (wild:Bool) (cnt st:Nat) (f:Fl) (bs:Str) (sl:List Nat) (adr:Option Addr) (w:World) (h:MemX w mb bb base bs wild cnt st f) (hr:aO w rb t mb ba bu av us out) (hbs:base≤w.heap.size) (hba:ba≤1000) (hst:st≤800000) (hav:av<65536) (hol:out.length=8) (hsl : ∀ s∈sl,s<8) (hsn:sl.length≤8)
  (had:adr=none∨adr=some ⟨sb,0,none⟩) (hnone:adr=none→sl = []) (hslots : ∀ j (hj:j<sl.length),w.cell? ⟨sb,j,none⟩=some (.int .i64 (sl[j]:Nat))) (hsb:sl≠[]→sb<w.heap.size∧sb≠rb∧sb≠mb∧sb≠bb∧∀ cur,w.heap[sb]?≠some (.cells cur 177 (0,0))) (ht1:t≠3) (ht2:t≠177) (hrm:rb≠mb) (hrb:rb≠bb) :
  Calls Tryz.prog 153 #[.pointer (some ⟨rb,0,none⟩),.slice adr sl.length cap] w fun e w' =>
   e=.returned (.tuple #[])∧MemX w' mb bb base (wrN (offS ba sl (bs,av,out)).1 (ba+130) (offS ba sl (bs,av,out)).2.1 2) wild cnt (st+2*sl.length+2) (stFs (offF ba sl av f) (ba+130) 2)∧aO w' rb t mb ba bu (offS ba sl (bs,av,out)).2.1 us (offS ba sl (bs,av,out)).2.2∧RF rb mb bb base w w':=by
 obtain ⟨R,hR⟩ : ∃ R,R=offS ba sl (bs,av,out):=⟨_,rfl⟩
 obtain ⟨F,hFF⟩ : ∃ F,F=offF ba sl av f:=⟨_,rfl⟩
 rw [← hR,← hFF]
 have HRR:=aH hR
 have HFF:=aH hFF
 have HM:=aH h
 have HR:=aH hr
 have HSL:=aH hslots
 have HSB:=aH hsb
 have HIN:=aH hsl
 have HNO:=aH hnone
 clear h hr hR hFF hslots hsb hsl hnone
 go_enter Tryz.func153,Tryz.ntmps153
 go_wp2_with fail
 go_loopw [8] (fun i wr=>∃ (k a:Nat) (b:Str) (o:List Bool) (f:Fl),i=.int .i64 k∧k≤sl.length∧(offS ba (sl.drop k) (b,a,o)=R∧offF ba (sl.drop k) a f=F)∧a<65536∧o.length=8∧MemX wr mb bb base b wild cnt (st+2*k) f∧aO wr rb t mb ba bu a us o∧RF rb mb bb base w wr) (fun i _=>sl.length - (intOf i).toNat)
 case atStart=>exact ⟨0,av,bs,out,f,rfl,Nat.zero_le _,⟨(aU HRR).symm,(aU HFF).symm⟩,hav,hol,aU HM,aU HR,RF.refl _ _ _ _ _⟩
 case round =>
  obtain ⟨k,a,b,o,f,rfl,hk,hoff,ha,ho,hm,hr1,hF⟩:=hrel
  have HOF:=aH hoff
  have hszF:=hF.size
  by_cases hlk:k<sl.length
  ·have hs8:=aU HIN sl[k] (List.getElem_mem hlk)
   have hne:sl≠[]:=fun e=>by rw [e] at hlk; simp at hlk
   obtain ⟨hb1,hb2,hb3,hb4,hb5⟩:=aU HSB hne
   have hcell:wr.cell? ⟨sb,k,none⟩=some (.int .i64 (sl[k]:Nat)):=(World.cell?_of_block (hF.block sb hb1 hb2 hb3 hb4 (.inr hb5))).trans (aU HSL k hlk)
   have hadr:adr=some ⟨sb,0,none⟩:=had.resolve_left fun e=>hne (aU HNO e)
   have HDR:=aH (List.drop_eq_getElem_cons hlk)
   generalize sl[k]=s at *
   subst hadr
   obtain ⟨q,hq⟩ : ∃ q,q=132+2*(a%8):=⟨_,rfl⟩
   obtain ⟨r8,hr8⟩ : ∃ r,r=a%8:=⟨_,rfl⟩
   have e1:(a:Int)%8=(r8:Int):=by omega
   have e2:(132:Int)+2*(r8:Int)=(q:Int):=by omega
   obtain ⟨a1,ha1⟩ : ∃ a1,a1=(a+1)%65536:=⟨_,rfl⟩
   have e3:IntKind.u16.wrap ((a:Int)+1)=(a1:Int):=by rw [IntKind.wrap_u16]; omega
   have hr8l:r8<8:=by omega
   have HST:=aH (rstore_x rb mb bb base ba bu a us q 2 s t o wild cnt (st+2*k) f b wr hm hr1 (by omega) (by omega) (by omega) (by omega) (by omega) ht2 hrm hrb)
   have c3:=aB.cell hr1 3 (by simp)
   simp only [List.cons_append,List.getElem_cons_zero,List.getElem_cons_succ] at c3
   have HE:Hid (offS ba (sl.drop (k+1)) (wrN b (ba+q) s 2,a1,o.set s true)=R∧offF ba (sl.drop (k+1)) a1 (stFs f (ba+q) 2)=F):=by
    have:=aU HOF
    rw [aU HDR] at this
    exact ⟨by rw [← this.1,offS,hq,ha1],by rw [← this.2,offF,hq,ha1]⟩
   have hR1:=aH hr1
   have HF1:=aH hF
   have ha1l:a1<65536:=by omega
   clear hm hr1 hF hoff HOF HDR hq hr8 ha1
   go_wp2_with fail
   refine (aU HST).mono ?_
   rintro e w1 ⟨rfl,hm1,hF1⟩
   have hR2:=ring_keep (aU hR1) (Qf.SF.mf hF1) ht1 ht2 hrm hrb
   have d3:=aB.cell hR2 3 (by simp)
   simp only [List.cons_append,List.getElem_cons_zero,List.getElem_cons_succ] at d3
   have df:=aB.frozen hR2
   have hR3:=ring_av hR2 a1
   obtain ⟨v5,hv5⟩ : ∃ v,(w1.setCell ⟨rb,3,none⟩ (.int .u16 a1)).cell? ⟨rb,5+s,none⟩=some v:=⟨_,aB.cell hR3 (5+s) (by simp; omega)⟩
   have df3:=aB.frozen hR3
   have HR4:=aH (ring_out hR3 s true)
   have hkeep : ∀ i,i<w1.heap.size→i≠rb→((w1.setCell ⟨rb,3,none⟩ (.int .u16 a1)).setCell ⟨rb,5+s,none⟩ (.bool true)).heap[i]? = w1.heap[i]?:=fun i _ hne=>(Below.heap_setCell _ _ _ _ hne).trans (Below.heap_setCell _ _ _ _ hne)
   have HM4:=aH (memx_keep hm1 rb t _ hR2 ht1 ht2 hrm hrb hkeep)
   have HF4:Hid (RF rb mb bb base w ((w1.setCell ⟨rb,3,none⟩ (.int .u16 a1)).setCell ⟨rb,5+s,none⟩ (.bool true))):=RF.trans (RF.trans (RF.trans (aU HF1) (RF.of_sf hF1)) (RF.of_set _ _ _)) (RF.of_set _ _ _)
   clear hm1 hF1 hR2 hR3 hkeep HST hR1 HF1
   go_wp2_with fail
   exact ⟨⟨k+1,a1,_,_,_,by go_num,by omega,aU HE,ha1l,by rw [List.length_set]; exact ho,by have:=aU HM4; rwa [show st+2*k+2=st+2*(k+1) by omega] at this,aU HR4,aU HF4⟩,by simp [intOf]; omega⟩
  ·have hkl:k=sl.length:=by omega
   subst hkl
   rw [List.drop_length,offS,offF] at hoff
   have H130:Hid (Calls Tryz.prog 213 #[.pointer (some ⟨rb,0,none⟩),.int .i64 130,.int .i64 2,.int .i64 a] wr _):=rstore_x rb mb bb base ba bu a us 130 2 a t o wild cnt (st+2*sl.length) f b wr hm hr1 (by omega) (by omega) (by omega) (by omega) (by omega) ht2 hrm hrb
   have c3:=aB.cell hr1 3 (by simp)
   simp only [List.cons_append,List.getElem_cons_zero,List.getElem_cons_succ] at c3
   have hR1:=aH hr1
   have HF1:=aH hF
   have HOF2:=aH hoff
   clear hm hr1 hF hoff HOF
   go_wp2_with fail
   refine (aU H130).mono ?_
   rintro e w1 ⟨rfl,hm1,hF1⟩
   have HR2:=aH (ring_keep (aU hR1) (Qf.SF.mf hF1) ht1 ht2 hrm hrb)
   have HM2:=aH hm1
   have HF2:=aH (RF.trans (aU HF1) (RF.of_sf hF1))
   clear hm1 hF1 hR1 HF1 H130
   go_wp2_with fail
   refine bodyPost_end (v:=.tuple #[]) (by simp [results,Tryz.results153]) rfl ?_
   rw [← (aU HOF2).1,← (aU HOF2).2]
   exact ⟨rfl,aU HM2,aU HR2,aU HF2⟩
theorem offer_any (rb mb bb base ba bu av us sb cap:Nat) (t:TypeId) (out:List Bool) (wild:Bool) (cnt st:Nat) (bs:Str) (sl:List Nat) (adr:Option Addr) (w:World) (h:Mem w mb bb base bs wild cnt st) (hr:aO w rb t mb ba bu av us out) (hbs:base≤w.heap.size) (hba:ba≤1000) (hst:st≤800000) (hav:av<65536) (hol:out.length=8) (hsl : ∀ s∈sl,s<8) (hsn:sl.length≤8)
  (had:adr=none∨adr=some ⟨sb,0,none⟩) (hnone:adr=none→sl = []) (hslots : ∀ j (hj:j<sl.length),w.cell? ⟨sb,j,none⟩=some (.int .i64 (sl[j]:Nat))) (hsb:sl≠[]→sb<w.heap.size∧sb≠rb∧sb≠mb∧sb≠bb∧∀ cur,w.heap[sb]?≠some (.cells cur 177 (0,0))) (ht1:t≠3) (ht2:t≠177) (hrm:rb≠mb) (hrb:rb≠bb) :
  Calls Tryz.prog 153 #[.pointer (some ⟨rb,0,none⟩),.slice adr sl.length cap] w fun e w' =>
   e=.returned (.tuple #[])∧Mem w' mb bb base (wrN (offS ba sl (bs,av,out)).1 (ba+130) (offS ba sl (bs,av,out)).2.1 2) wild cnt (st+2*sl.length+2)∧aO w' rb t mb ba bu (offS ba sl (bs,av,out)).2.1 us (offS ba sl (bs,av,out)).2.2∧RF rb mb bb base w w':=by
 obtain ⟨f,h⟩:=h
 exact (offer_x rb mb bb base ba bu av us sb cap t out wild cnt st f bs sl adr w h hr hbs hba hst hav hol hsl hsn had hnone hslots hsb ht1 ht2 hrm hrb).mono fun e w' ⟨a,b,c⟩=>⟨a,⟨_,b⟩,c⟩
end Qk
namespace Ql
open Ka Wa Wb Wc Wd We Wf Wg Wh Wi Wj Wk Wl Wm Ha Hb Hc Re Qa Qb Qc Qd Qe Qf Qg Qi Qj Qk
theorem made8 (w:World):(Instr.makeSlice 56 (.int .i64 8) (.int .i64 8)).run Tryz.prog w=.ok (.slice (some ⟨w.heap.size,0,none⟩) 8 8) (w.alloc (.cells #[.int .i64 0,.int .i64 0,.int .i64 0,.int .i64 0,.int .i64 0,.int .i64 0,.int .i64 0,.int .i64 0] 3)):=by kernel_rfl
def upTo (k:Nat):List Value:=(List.range 8).map fun n:Nat=>Value.int .i64 (if n<k then n else 0:Nat)
theorem upTo_len (k:Nat):(upTo k).length=8:=by simp [upTo]
theorem upTo_set (k:Nat) (h:k<8):(upTo k).set k (.int .i64 k)=upTo (k+1):=by
 match k,h with
 | 0,_=>rfl
 | 1,_=>rfl
 | 2,_=>rfl
 | 3,_=>rfl
 | 4,_=>rfl
 | 5,_=>rfl
 | 6,_=>rfl
 | 7,_=>rfl
theorem everySlot_any (w:World) :
  Calls Tryz.prog 154 #[] w fun e w'=>e=.returned (.slice (some ⟨w.heap.size,0,none⟩) 8 8)∧aB w' w.heap.size ((List.range 8).map fun n:Nat=>Value.int .i64 n) 3∧w'.heap.size=w.heap.size+1∧Below w.heap.size w w':=by
 have hmk:=made8 w
 have H0:Hid (aB (w.alloc (.cells #[.int .i64 0,.int .i64 0,.int .i64 0,.int .i64 0,.int .i64 0,.int .i64 0,.int .i64 0,.int .i64 0] 3)) w.heap.size (upTo 0) 3):=aB.new w _ _
 have HB0:=aH ((Below.refl w.heap.size w).alloc (Nat.le_refl _) (.cells #[.int .i64 0,.int .i64 0,.int .i64 0,.int .i64 0,.int .i64 0,.int .i64 0,.int .i64 0,.int .i64 0] 3))
 go_enter Tryz.func154,Tryz.ntmps154
 go_wp2_with fail
 go_loopw [6] (fun i wr=>∃ k:Nat,i=.int .i64 k∧k≤8∧aB wr w.heap.size (upTo k) 3∧wr.heap.size=w.heap.size+1∧Below w.heap.size w wr) (fun i _=>8 - (intOf i).toNat)
 case atStart=>exact ⟨0,rfl,by omega,aU H0,by simp,aU HB0⟩
 case round =>
  obtain ⟨k,rfl,hk,hb,hs,hB⟩:=hrel
  have HBk:=aH hb
  have HS:=aH hs
  have HBB:=aH hB
  by_cases hlk:k<8
  ·obtain ⟨v0,hv0⟩ : ∃ v,wr.cell? ⟨w.heap.size,k,none⟩=some v:=⟨_,hb.cell k (by rw [upTo_len]; exact hlk)⟩
   have hf:=hb.frozen
   have HN:=aH (hb.set k (.int .i64 k))
   rw [upTo_set k hlk] at HN
   clear hb hs hB
   go_wp2
   exact ⟨⟨k+1,by go_num,by omega,aU HN,by simpa [World.setCell] using aU HS,(aU HBB).setCell (Nat.le_refl _) _⟩,by simp [intOf]; omega⟩
  ·have hkl:k=8:=by omega
   subst hkl
   clear hb hs hB
   go_wp2
   go_ret
   exact ⟨rfl,aU HBk,aU HS,aU HBB⟩
end Ql
namespace Qm
open Ka Wa Wb Wc Wd We Wf Wg Wh Wi Wj Wk Wl Wm Ha Hb Hc Re Qa Qb Qc Qd Qe Qf Qg Qi Qj Qk Ql
theorem memx_below {w w':World} {mb bb base:Nat} {bs:Str} {wild:Bool} {cnt st:Nat} {f:Fl} (h:MemX w mb bb base bs wild cnt st f) (hb:Below w.heap.size w w'):MemX w' mb bb base bs wild cnt st f:=by
 obtain ⟨vl,vm,ns,hm,hr,ho,hl,ms,hms,hml⟩:=h
 exact ⟨vl,vm,ns,aF.of hm (hb.block mb (aF.lt hm)),RowB.of hr (hb.block bb hr.2.lt),own_keep ho fun g hg=>hb.block g (own_lt ho hg),hl,ms,own_keep hms fun g hg=>hb.block g (own_lt hms hg),hml⟩
theorem mem_below {w w':World} {mb bb base:Nat} {bs:Str} {wild:Bool} {cnt st:Nat} (h:Mem w mb bb base bs wild cnt st) (hb:Below w.heap.size w w'):Mem w' mb bb base bs wild cnt st:=h.imp fun _ h=>memx_below h hb
theorem memx_lt {w:World} {mb bb base:Nat} {bs:Str} {wild:Bool} {cnt st:Nat} {f:Fl} (h:MemX w mb bb base bs wild cnt st f):mb<w.heap.size∧bb<w.heap.size:=by
 obtain ⟨vl,vm,ns,hm,hr,_⟩:=h
 exact ⟨aF.lt hm,hr.2.lt⟩
theorem mem_lt {w:World} {mb bb base:Nat} {bs:Str} {wild:Bool} {cnt st:Nat} (h:Mem w mb bb base bs wild cnt st):mb<w.heap.size∧bb<w.heap.size:=h.elim fun _ h=>memx_lt h
theorem ring_other {w w':World} {rb qb mb bb base ba bu av us:Nat} {t:TypeId} {out:List Bool} (hr:aO w rb t mb ba bu av us out) (hF:RF qb mb bb base w w') (ht2:t≠177) (hq:rb≠qb) (hrm:rb≠mb) (hrb:rb≠bb):aO w' rb t mb ba bu av us out :=
 (hF.block rb (aB.lt hr) hq hrm hrb (.inr fun cur e=>ht2 (by have:=hr.symm.trans e; simp at this; exact this.2))).trans hr
abbrev none8:List Bool:=[false,false,false,false,false,false,false,false]
def layS (bs:Str):Str×Nat×List Bool:=offS 0 [0,1,2,3,4,5,6,7] (wrN (dscN (dscN bs 0 1024 2 8) 512 13312 0 8) (512+130) 0 2,0,none8)
def layB (bs:Str):Str:=wrN (layS bs).1 (0+130) (layS bs).2.1 2
def layF (f:Fl):Fl:=stFs (offF 0 [0,1,2,3,4,5,6,7] 0 (stFs (dscF (dscF f 0 8) 512 8) (512+130) 2)) (0+130) 2
theorem lay_x (mb bb base:Nat) (wild:Bool) (cnt st:Nat) (f:Fl) (bs:Str) (w:World) (h:MemX w mb bb base bs wild cnt st f) (hbs:base≤w.heap.size) (hst:st≤10000) :
  Calls Tryz.prog 90 #[.iface 71 (.pointer (some ⟨mb,0,none⟩))] w fun e w' =>
   e=.returned (.tuple #[.pointer (some ⟨w.heap.size,0,none⟩),.pointer (some ⟨w.heap.size+1,0,none⟩)])∧MemX w' mb bb base (layB bs) wild cnt (st+276) (layF f)∧aO w' w.heap.size 240 mb 0 1024 (layS bs).2.1 0 (layS bs).2.2∧aO w' (w.heap.size+1) 241 mb 512 13312 0 0 none8∧(∀ i,i<w.heap.size→i≠mb→i≠bb→(i<base∨((∀ cur,w.heap[i]?≠some (.cells cur 3 (0,0)))∧∀ cur,w.heap[i]?≠some (.cells cur 177 (0,0))))→w'.heap[i]? = w.heap[i]?)∧w'.os=w.os∧w'.tape=w.tape∧w'.output=w.output∧w.heap.size+2≤w'.heap.size:=by
 have HM:=aH h
 obtain ⟨hmlt,hblt⟩:=memx_lt h
 have hB0:Below w.heap.size w ((w.alloc (.cells #[.iface 71 (.pointer (some ⟨mb,0,none⟩)),.int .i64 0,.int .i64 1024,.int .u16 0,.int .u16 0,.bool false,.bool false,.bool false,.bool false,.bool false,.bool false,.bool false,.bool false] 240)).alloc (.cells #[.iface 71 (.pointer (some ⟨mb,0,none⟩)),.int .i64 512,.int .i64 13312,.int .u16 0,.int .u16 0,.bool false,.bool false,.bool false,.bool false,.bool false,.bool false,.bool false,.bool false] 241)):=((Below.refl _ _).alloc (Nat.le_refl _) _).alloc (by simp) _
 have hM0:=memx_below h hB0
 have hR0:aO ((w.alloc (.cells #[.iface 71 (.pointer (some ⟨mb,0,none⟩)),.int .i64 0,.int .i64 1024,.int .u16 0,.int .u16 0,.bool false,.bool false,.bool false,.bool false,.bool false,.bool false,.bool false,.bool false] 240)).alloc (.cells #[.iface 71 (.pointer (some ⟨mb,0,none⟩)),.int .i64 512,.int .i64 13312,.int .u16 0,.int .u16 0,.bool false,.bool false,.bool false,.bool false,.bool false,.bool false,.bool false,.bool false] 241)) w.heap.size 240 mb 0 1024 0 0 none8:=(aB.new w _ _).alloc _
 have hS0:aO ((w.alloc (.cells #[.iface 71 (.pointer (some ⟨mb,0,none⟩)),.int .i64 0,.int .i64 1024,.int .u16 0,.int .u16 0,.bool false,.bool false,.bool false,.bool false,.bool false,.bool false,.bool false,.bool false] 240)).alloc (.cells #[.iface 71 (.pointer (some ⟨mb,0,none⟩)),.int .i64 512,.int .i64 13312,.int .u16 0,.int .u16 0,.bool false,.bool false,.bool false,.bool false,.bool false,.bool false,.bool false,.bool false] 241)) (w.heap.size+1) 241 mb 512 13312 0 0 none8:=by
  have:=aB.new (w.alloc (.cells #[.iface 71 (.pointer (some ⟨mb,0,none⟩)),.int .i64 0,.int .i64 1024,.int .u16 0,.int .u16 0,.bool false,.bool false,.bool false,.bool false,.bool false,.bool false,.bool false,.bool false] 240)) ([.iface 71 (.pointer (some ⟨mb,0,none⟩)),.int .i64 (512:Nat),.int .i64 (13312:Nat),.int .u16 (0:Nat),.int .u16 (0:Nat)]++none8.map Value.bool) 241
  rw [World.size_alloc] at this
  exact this
 have hz0:((w.alloc (.cells #[.iface 71 (.pointer (some ⟨mb,0,none⟩)),.int .i64 0,.int .i64 1024,.int .u16 0,.int .u16 0,.bool false,.bool false,.bool false,.bool false,.bool false,.bool false,.bool false,.bool false] 240)).alloc (.cells #[.iface 71 (.pointer (some ⟨mb,0,none⟩)),.int .i64 512,.int .i64 13312,.int .u16 0,.int .u16 0,.bool false,.bool false,.bool false,.bool false,.bool false,.bool false,.bool false,.bool false] 241)).heap.size=w.heap.size+2:=by simp
 clear h
 go_enter Tryz.func90,Tryz.ntmps90
 go_wp2_with fail
 generalize ((w.alloc (.cells #[.iface 71 (.pointer (some ⟨mb,0,none⟩)),.int .i64 0,.int .i64 1024,.int .u16 0,.int .u16 0,.bool false,.bool false,.bool false,.bool false,.bool false,.bool false,.bool false,.bool false] 240)).alloc (.cells #[.iface 71 (.pointer (some ⟨mb,0,none⟩)),.int .i64 512,.int .i64 13312,.int .u16 0,.int .u16 0,.bool false,.bool false,.bool false,.bool false,.bool false,.bool false,.bool false,.bool false] 241))=v0 at *
 generalize hrs:w.heap.size=rs at *
 have HRS:=aH hrs
 have H1:Hid (Calls Tryz.prog 152 #[.pointer (some ⟨rs,0,none⟩),.int .i64 2] v0 _):=describe_x rs mb bb base 0 1024 0 0 2 _ none8 wild cnt st f bs v0 hM0 hR0 (by omega) (by omega) (by omega) (by omega) (by omega) (by decide) (by decide) (by omega) (by omega)
 refine (aU H1).mono ?_
 rintro e v1 ⟨rfl,hM1,hF1⟩
 have hR1:=ring_keep hR0 hF1 (by decide) (by decide) (by omega) (by omega)
 have hS1:=ring_keep hS0 hF1 (by decide) (by decide) (by omega) (by omega)
 have hz1:=hF1.size
 have H2:Hid (Calls Tryz.prog 152 #[.pointer (some ⟨rs+1,0,none⟩),.int .i64 0] v1 _):=describe_x (rs+1) mb bb base 512 13312 0 0 0 _ none8 wild cnt (st+128) _ _ v1 hM1 hS1 (by omega) (by omega) (by omega) (by omega) (by omega) (by decide) (by decide) (by omega) (by omega)
 clear hM0 hR0 hS0 H1 hM1
 go_wp2_with fail
 refine (aU H2).mono ?_
 rintro e v2 ⟨rfl,hM2,hF2⟩
 have hR2:=ring_keep hR1 hF2 (by decide) (by decide) (by omega) (by omega)
 have hS2:=ring_keep hS1 hF2 (by decide) (by decide) (by omega) (by omega)
 have hz2:=hF2.size
 have H3:Hid (Calls Tryz.prog 153 #[.pointer (some ⟨rs+1,0,none⟩),.slice none 0 0] v2 _):=offer_x (rs+1) mb bb base 512 13312 0 0 0 0 _ none8 wild cnt (st+128+128) _ _ [] none v2 hM2 hS2 (by omega) (by omega) (by omega) (by omega) rfl (fun s hs=>by cases hs) (by simp) (.inl rfl) (fun _=>rfl) (fun j hj=>by simp at hj) (fun hn=>absurd rfl hn) (by decide) (by decide) (by omega) (by omega)
 clear hR1 hS1 H2 hM2 hS2
 go_wp2_with fail
 refine (aU H3).mono ?_
 rintro e v3 ⟨rfl,hM3,hS3,hF3⟩
 simp only [offS,offF,List.length_nil,Nat.mul_zero,Nat.add_zero] at hM3 hS3
 obtain ⟨B2,hB2⟩ : ∃ x,x=wrN (dscN (dscN bs 0 1024 2 8) 512 13312 0 8) (512+130) 0 2:=⟨_,rfl⟩
 obtain ⟨F2,hF2'⟩ : ∃ x,x=stFs (dscF (dscF f 0 8) 512 8) (512+130) 2:=⟨_,rfl⟩
 rw [← hB2,← hF2'] at hM3
 have HLS:Hid (layS bs=offS 0 [0,1,2,3,4,5,6,7] (B2,0,none8)∧layF f=stFs (offF 0 [0,1,2,3,4,5,6,7] 0 F2) (0+130) 2):=⟨by rw [hB2]; rfl,by rw [hF2']; rfl⟩
 clear hB2 hF2'
 have hR3:=ring_other hR2 hF3 (by decide) (by omega) (by omega) (by omega)
 have hz3:=hF3.size
 have HE:=aH (everySlot_any v3.drew)
 have HO:=aH (fun (v4:World) (h1:aB v4 v3.heap.size ((List.range 8).map fun n:Nat=>Value.int .i64 n) 3) (h2:v4.heap.size=v3.heap.size+1) (h3:Below v3.heap.size v3.drew v4) =>
  offer_x rs mb bb base 0 1024 0 0 v3.heap.size 8 240 none8 wild cnt (st+128+128+2) F2 B2 [0,1,2,3,4,5,6,7] (some ⟨v3.heap.size,0,none⟩) v4 (memx_below (w:=v3.drew) hM3 h3) ((h3.block rs (by have:=aB.lt hR3; omega)).trans hR3) (by omega) (by omega) (by omega) (by omega) rfl (by decide) (by simp) (.inr rfl) (fun h=>by cases h) (fun j hj=>by
   have:=h1.cell j (by simpa using hj)
   rw [this]
   match j,hj with
   | 0,_=>rfl
   | 1,_=>rfl
   | 2,_=>rfl
   | 3,_=>rfl
   | 4,_=>rfl
   | 5,_=>rfl
   | 6,_=>rfl
   | 7,_=>rfl) (fun _=>⟨by omega,by have:=aB.lt hR3; omega,by omega,by omega,fun cur e=>by have:=h1.symm.trans e; simp at this⟩) (by decide) (by decide) (by omega) (by omega))
 have HFR:Hid (∀ v4 v5:World,Below v3.heap.size v3.drew v4→RF rs mb bb base v4 v5→aO v5 (rs+1) 241 mb 512 13312 0 0 none8∧(∀ i,i<rs→i≠mb→i≠bb→(i<base∨((∀ cur,w.heap[i]?≠some (.cells cur 3 (0,0)))∧∀ cur,w.heap[i]?≠some (.cells cur 177 (0,0))))→v5.heap[i]? = w.heap[i]?)∧v5.os=w.os∧v5.tape=w.tape∧v5.output=w.output∧rs+2≤v5.heap.size):=fun v4 v5 hb hF=>by
  refine ⟨ring_other ((hb.block (rs+1) (aB.lt hS3)).trans hS3:aO v4 _ _ _ _ _ _ _ _) hF (by decide) (by omega) (by omega) (by omega),fun i hi h1 h2 hp=>?_,hF.os.trans (hb.os.trans (hF3.os.trans (hF2.os.trans (hF1.os.trans hB0.os)))),hF.tape.trans (hb.tape.trans (hF3.tape.trans (hF2.tape.trans (hF1.tape.trans hB0.tape)))),hF.output.trans (hb.output.trans (hF3.output.trans (hF2.output.trans (hF1.output.trans hB0.output)))),by have h1:=hb.size; have h2:=hF.size; have:v3.heap.size≤v4.heap.size:=h1; omega⟩
  have e0:=hB0.block i hi
  have e1:v1.heap[i]? = w.heap[i]?:=(hF1.block i (by omega) h1 h2 (by rw [e0]; exact hp)).trans e0
  have e2:v2.heap[i]? = w.heap[i]?:=(hF2.block i (by omega) h1 h2 (by rw [e1]; exact hp)).trans e1
  have e3:v3.heap[i]? = w.heap[i]?:=(hF3.block i (by omega) (by omega) h1 h2 (by rw [e2]; exact hp.imp id And.right)).trans e2
  have e4:v4.heap[i]? = w.heap[i]?:=(hb.block i (by omega)).trans e3
  exact (hF.block i (by have:=hb.size; have:v3.heap.size≤v4.heap.size:=this; omega) (by omega) h1 h2 (by rw [e4]; exact hp.imp id And.right)).trans e4
 clear H3 hR2 hF1 hF2 hF3 hB0 hM3 hR3 hS3
 go_wp2_with fail
 go_region_held (fun w'=>True) (trivial)
  (first
   | (go_at_call 154; go_loud (refine (aU HE).mono ?_; rintro e v4 ⟨rfl,hsl,hsz4,hB4⟩))
   | (go_at_call 153; go_loud (refine (aU HO v4 hsl hsz4 hB4).mono ?_; rintro e v5 ⟨rfl,hM5,hR5,hF5⟩)))
 all_goals
  have HFIN:=aH (aU HFR v4 v5 hB4 hF5)
  rw [← (aU HLS).1] at hM5 hR5
  rw [← (aU HLS).2] at hM5
  have HM5:=aH hM5
  have HR5:=aH hR5
  clear hM5 hR5 hF5 hB4 hsl hsz4
  go_wp2_with fail
  refine bodyPost_ret (v:=.tuple #[.pointer (some ⟨rs,0,none⟩),.pointer (some ⟨rs+1,0,none⟩)]) ?_ rfl ?_
  ·simp [results,Tryz.results90,go_sem]
  ·rw [aU HRS]
   exact ⟨rfl,aU HM5,aU HR5,(aU HFIN).1,(aU HFIN).2.1,(aU HFIN).2.2⟩
end Qm
namespace Qn
open Ka Wa Wb Wc Wd We Wf Wg Wh Wi Wj Wk Wl Wm Ha Hb Hc Re Qa Qb Qc Qd Qe Qf Qg Qi Qj Qk Ql Qm
theorem ring_us {w:World} {rb mb ba bu av us:Nat} {t:TypeId} {out:List Bool} (h:aO w rb t mb ba bu av us out) (n:Nat):aO (w.setCell ⟨rb,4,none⟩ (.int .u16 n)) rb t mb ba bu av n out:=aB.set h 4 (.int .u16 n)
theorem ring_at {w:World} {rb mb ba bu av us:Nat} {t:TypeId} {out:List Bool} (h:aO w rb t mb ba bu av us out) (s:Nat) (b:Bool) (hs:out[s]? = some b):w.cell? ⟨rb,5+s,none⟩=some (.bool b):=by
 obtain ⟨hl,hb⟩:=List.getElem?_eq_some_iff.1 hs
 have:=aB.cell h (5+s) (by simp; omega)
 rw [this,List.getElem_append_right (by simp)]
 simp [hb]
theorem takeBack_ok (rb mb ba bu av us id:Nat) (t:TypeId) (out:List Bool) (w:World) (hr:aO w rb t mb ba bu av us out) (hid:id<8) (hout:out[id]? = some true) (hus:us<65536) :
  Calls Tryz.prog 216 #[.pointer (some ⟨rb,0,none⟩),.int .u32 id] w fun e w' =>
   e=.returned (.tuple #[.int .i64 id,.bool true])∧aO w' rb t mb ba bu av ((us+1)%65536) (out.set id false)∧It.Keeps rb w w'∧w'.heap.size=w.heap.size:=by
 obtain ⟨u1,hu1⟩ : ∃ u1,u1=(us+1)%65536:=⟨_,rfl⟩
 rw [← hu1]
 have e3:IntKind.u16.wrap ((us:Int)+1)=(u1:Int):=by rw [IntKind.wrap_u16]; omega
 have c5:=ring_at hr id true hout
 have hf:=aB.frozen hr
 have hR1:=ring_out hr id false
 have c4:=aB.cell hR1 4 (by simp)
 have d4:=aB.cell hr 4 (by simp)
 simp only [List.cons_append,List.getElem_cons_zero,List.getElem_cons_succ] at c4 d4
 have hf1:=aB.frozen hR1
 have HR2:=aH (ring_us hR1 u1)
 have k0 : ¬ (8:Int)≤(id:Int):=by omega
 clear hr hR1 hu1 hout
 go_enter Tryz.func216,Tryz.ntmps216
 go_wp2
 refine bodyPost_ret (v:=.tuple #[.int .i64 id,.bool true]) ?_ rfl ?_
 ·simp [results,Tryz.results216,go_sem]
 ·exact ⟨rfl,aU HR2,Keeps_set (Keeps_set (Keeps_refl _ _) _ _) _ _,by simp [World.setCell]⟩
end Qn
namespace Qo
open Ka Wa Wb Wc Wd We Wf Wg Wh Wi Wj Wk Wl Wm Ha Hb Hc Re Qa Qb Qc Qd Qe Qf Qg Qi Qj Qk Ql Qm Qn
def cOut (l:List Bool):Nat:=(l.filter id).length
theorem cOut_take (l:List Bool) (k:Nat) (h:k<l.length):cOut (l.take (k+1))=cOut (l.take k)+(if (l[k]?.getD false)=true then 1 else 0):=by
 unfold cOut
 rw [List.getElem?_eq_getElem h,Option.getD_some]
 rw [List.take_succ_eq_append_getElem h,List.filter_append,List.length_append]
 cases l[k] <;> simp
theorem idx_0 (o0 o1 o2 o3 o4 o5 o6 o7:Bool) (W:World):(Instr.index 169 (.agg #[.bool o0,.bool o1,.bool o2,.bool o3,.bool o4,.bool o5,.bool o6,.bool o7]) (.int .i64 0)).run Tryz.prog W=.ok (.bool o0) W:=by kernel_rfl
theorem idx_1 (o0 o1 o2 o3 o4 o5 o6 o7:Bool) (W:World):(Instr.index 169 (.agg #[.bool o0,.bool o1,.bool o2,.bool o3,.bool o4,.bool o5,.bool o6,.bool o7]) (.int .i64 1)).run Tryz.prog W=.ok (.bool o1) W:=by kernel_rfl
theorem idx_2 (o0 o1 o2 o3 o4 o5 o6 o7:Bool) (W:World):(Instr.index 169 (.agg #[.bool o0,.bool o1,.bool o2,.bool o3,.bool o4,.bool o5,.bool o6,.bool o7]) (.int .i64 2)).run Tryz.prog W=.ok (.bool o2) W:=by kernel_rfl
theorem idx_3 (o0 o1 o2 o3 o4 o5 o6 o7:Bool) (W:World):(Instr.index 169 (.agg #[.bool o0,.bool o1,.bool o2,.bool o3,.bool o4,.bool o5,.bool o6,.bool o7]) (.int .i64 3)).run Tryz.prog W=.ok (.bool o3) W:=by kernel_rfl
theorem idx_4 (o0 o1 o2 o3 o4 o5 o6 o7:Bool) (W:World):(Instr.index 169 (.agg #[.bool o0,.bool o1,.bool o2,.bool o3,.bool o4,.bool o5,.bool o6,.bool o7]) (.int .i64 4)).run Tryz.prog W=.ok (.bool o4) W:=by kernel_rfl
theorem idx_5 (o0 o1 o2 o3 o4 o5 o6 o7:Bool) (W:World):(Instr.index 169 (.agg #[.bool o0,.bool o1,.bool o2,.bool o3,.bool o4,.bool o5,.bool o6,.bool o7]) (.int .i64 5)).run Tryz.prog W=.ok (.bool o5) W:=by kernel_rfl
theorem idx_6 (o0 o1 o2 o3 o4 o5 o6 o7:Bool) (W:World):(Instr.index 169 (.agg #[.bool o0,.bool o1,.bool o2,.bool o3,.bool o4,.bool o5,.bool o6,.bool o7]) (.int .i64 6)).run Tryz.prog W=.ok (.bool o6) W:=by kernel_rfl
theorem idx_7 (o0 o1 o2 o3 o4 o5 o6 o7:Bool) (W:World):(Instr.index 169 (.agg #[.bool o0,.bool o1,.bool o2,.bool o3,.bool o4,.bool o5,.bool o6,.bool o7]) (.int .i64 7)).run Tryz.prog W=.ok (.bool o7) W:=by kernel_rfl
theorem idx8 (o0 o1 o2 o3 o4 o5 o6 o7:Bool) (k:Nat) (h:k<8) (W:World):(Instr.index 169 (.agg #[.bool o0,.bool o1,.bool o2,.bool o3,.bool o4,.bool o5,.bool o6,.bool o7]) (.int .i64 (k:Int))).run Tryz.prog W=.ok (.bool ([o0,o1,o2,o3,o4,o5,o6,o7][k]?.getD false)) W:=by
 have hk:k=0∨k=1∨k=2∨k=3∨k=4∨k=5∨k=6∨k=7:=by omega
 rcases hk with rfl | rfl | rfl | rfl | rfl | rfl | rfl | rfl
 ·exact idx_0 o0 o1 o2 o3 o4 o5 o6 o7 W
 ·exact idx_1 o0 o1 o2 o3 o4 o5 o6 o7 W
 ·exact idx_2 o0 o1 o2 o3 o4 o5 o6 o7 W
 ·exact idx_3 o0 o1 o2 o3 o4 o5 o6 o7 W
 ·exact idx_4 o0 o1 o2 o3 o4 o5 o6 o7 W
 ·exact idx_5 o0 o1 o2 o3 o4 o5 o6 o7 W
 ·exact idx_6 o0 o1 o2 o3 o4 o5 o6 o7 W
 ·exact idx_7 o0 o1 o2 o3 o4 o5 o6 o7 W
theorem countOut_any (rb mb ba bu av us:Nat) (t:TypeId) (o0 o1 o2 o3 o4 o5 o6 o7:Bool) (w:World) (hr:aO w rb t mb ba bu av us [o0,o1,o2,o3,o4,o5,o6,o7]) :
  Calls Tryz.prog 259 #[.pointer (some ⟨rb,0,none⟩)] w fun e w'=>e=.returned (.int .i64 (cOut [o0,o1,o2,o3,o4,o5,o6,o7]))∧w'=w:=by
 have c0:=ring_at hr 0 o0 rfl
 have c1:=ring_at hr 1 o1 rfl
 have c2:=ring_at hr 2 o2 rfl
 have c3:=ring_at hr 3 o3 rfl
 have c4:=ring_at hr 4 o4 rfl
 have c5:=ring_at hr 5 o5 rfl
 have c6:=ring_at hr 6 o6 rfl
 have c7:=ring_at hr 7 o7 rfl
 clear hr
 go_enter Tryz.func259,Tryz.ntmps259
 go_wp2_with fail
 go_loopw [3,10] (fun n i wr=>∃ k:Nat,n=.int .i64 (cOut ([o0,o1,o2,o3,o4,o5,o6,o7].take k):Nat)∧i=.int .i64 k∧k≤8∧wr=w) (fun _ i _=>8 - (intOf i).toNat)
 case atStart=>exact ⟨0,rfl,rfl,by omega,rfl⟩
 case round =>
  obtain ⟨k,rfl,rfl,hk,rfl⟩:=hrel
  by_cases hlk:k<8
  ·have hix:=idx8 o0 o1 o2 o3 o4 o5 o6 o7 k hlk wr
   have HT:=aH (cOut_take [o0,o1,o2,o3,o4,o5,o6,o7] k (by simpa using hlk))
   have hcl:cOut ([o0,o1,o2,o3,o4,o5,o6,o7].take k)≤8:=by
    unfold cOut
    exact Nat.le_trans (List.length_filter_le _ _) (by simp; omega)
   generalize [o0,o1,o2,o3,o4,o5,o6,o7][k]?.getD false=b at *
   generalize cOut ([o0,o1,o2,o3,o4,o5,o6,o7].take k)=x at *
   obtain ⟨z,hz⟩ : ∃ z,z=cOut ([o0,o1,o2,o3,o4,o5,o6,o7].take (k+1)):=⟨_,rfl⟩
   rw [← hz] at HT
   have HZ:=aH hz
   clear hz
   cases b with
   | true =>
    have hz1:z=x+1:=by have:=aU HT; simpa using this
    have kz:(x:Int)+1=(z:Int):=by omega
    clear hz1 HT
    go_wp2
    exact ⟨⟨k+1,by rw [aU HZ],by go_num,by omega,trivial⟩,by simp [intOf]; omega⟩
   | false =>
    have hz1:z=x:=by have:=aU HT; simpa using this
    subst hz1
    clear HT
    go_wp2
    exact ⟨⟨k+1,by rw [aU HZ],by go_num,by omega,trivial⟩,by simp [intOf]; omega⟩
  ·have hkl:k=8:=by omega
   subst hkl
   go_wp2
   go_ret
   exact ⟨rfl,rfl⟩
end Qo
end Go.Proofs.YtkkpahmoljiepaaGreatDoor
