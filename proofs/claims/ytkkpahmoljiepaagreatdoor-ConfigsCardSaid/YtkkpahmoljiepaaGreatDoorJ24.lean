/- Contract: rings' Reclaim of an honest card. -/
import Derived.Test.YtkkpahmoljiepaaGreatDoorJ13
import Derived.Test.YtkkpahmoljiepaaGreatDoorJ09
import Derived.Test.YtkkpahmoljiepaaGreatDoorJ23
import Derived.Defers
import Derived.Recover
set_option linter.unusedSimpArgs false
set_option linter.unusedVariables false
set_option maxRecDepth 1000000
set_option maxHeartbeats 12800000
namespace Go.Proofs.YtkkpahmoljiepaaGreatDoor
open Go.RowKit
open Pu (Str aH aU)
namespace Qx
open Ka Wa Wb Wc Wd We Wf Wg Wh Wi Wj Wk Wl Wm Ha Hb Hc Re Qa Qb Qc Qd Qe Qf Qg Qh Qi Qj Qk Ql Qm Qn Qo Qp Qr Qq Qs
theorem reclaim_ok (rb mb bb base ba bu av us f:Nat) (t:TypeId) (out:List Bool) (O:Nat→List Bool) (ids:Nat→Nat) (wild:Bool) (cnt st:Nat) (bs:Str) (w:World) (h:Mem w mb bb base bs wild cnt st) (hr:aO w rb t mb ba bu av us out) (hbs:base≤w.heap.size) (hba:ba≤1000) (hl:bs.length=25600) (hus:us+f<65536) (hol:out.length=8)
  (hf:rdN bs (ba+258) 2=us+f) (hfo:f≤cOut out) (hO0:O 0=out) (hOs : ∀ k,k<f→O (k+1)=(O k).set (ids k) false) (hids : ∀ k,k<f→ids k<8∧(O k)[ids k]? = some true∧rdN bs (ba+(260+8*((us+k)%8))) 4=ids k) (hcnt:cnt≤800000) (ht1:t≠3) (ht2:t≠177) (hrm:rb≠mb) (hrb:rb≠bb) :
  Calls Tryz.prog 161 #[.pointer (some ⟨rb,0,none⟩)] w fun e w' =>
   e=.returned (.bool true)∧Mem w' mb bb base bs wild (cnt+2+4*f) st∧aO w' rb t mb ba bu av (us+f) (O f)∧GF (fun i=>i≠rb∧i≠mb∧i≠bb) base w w':=by
 have hf8:f≤8:=Nat.le_trans hfo (by unfold cOut; exact Nat.le_trans (List.length_filter_le _ _) (by omega))
 obtain ⟨o0,o1,o2,o3,o4,o5,o6,o7,rfl⟩ : ∃ o0 o1 o2 o3 o4 o5 o6 o7,out = [o0,o1,o2,o3,o4,o5,o6,o7]:=by
  match out,hol with
  | [o0,o1,o2,o3,o4,o5,o6,o7],_=>exact ⟨_,_,_,_,_,_,_,_,rfl⟩
 have HFR:=aH (fresh_any rb mb bb base ba bu av us f t o0 o1 o2 o3 o4 o5 o6 o7 wild cnt st bs w h hr hbs hba hl (by omega) (by omega) (by rw [hf]; omega) ht1 ht2 hrm hrb)
 have kd:decide ((f:Int)≤(cOut [o0,o1,o2,o3,o4,o5,o6,o7]:Nat))=true:=decide_eq_true (by omega)
 rw [kd] at HFR
 have HR:=aH hr
 have HO0:=aH hO0
 have HOS:=aH hOs
 have HID:=aH hids
 clear h hr hfo hO0 hOs hids kd hf
 go_enter Tryz.func161,Tryz.ntmps161
 go_wp2_with fail
 refine (aU HFR).mono ?_
 rintro e w1 ⟨rfl,hm1,hF1⟩
 have HR1:Hid (aO w1 rb t mb ba bu av us (O 0)):=by rw [Hid,aU HO0]; exact ring_keep (aU HR) hF1 ht1 ht2 hrm hrb
 have HM1:=aH hm1
 have HF1:=aH (GF.of_mf (p:=fun i=>i≠rb∧i≠mb∧i≠bb) hF1 fun i hp=>hp.2)
 clear hm1 hF1 HR HFR
 go_wp2_with fail
 go_loopw [3,4] (fun n ok wr=>∃ k:Nat,ok=.bool true∧n=.int .i64 (f - k:Nat)∧k≤f∧Mem wr mb bb base bs wild (cnt+2+4*k) st∧aO wr rb t mb ba bu av (us+k) (O k)∧GF (fun i=>i≠rb∧i≠mb∧i≠bb) base w wr) (fun n _ _=>(intOf n).toNat)
 case atStart=>exact ⟨0,rfl,rfl,Nat.zero_le _,aU HM1,aU HR1,aU HF1⟩
 case round =>
  obtain ⟨k,rfl,rfl,hk,hm,hR,hF⟩:=hrel
  have hsz1:=hF.size
  by_cases hlk:k<f
  ·obtain ⟨hi8,hot,hrd⟩:=aU HID k hlk
   obtain ⟨m,hm0⟩ : ∃ m,m=f - k:=⟨_,rfl⟩
   rw [← hm0]
   have km:(0:Int)<(m:Int):=by omega
   obtain ⟨m1,hm1⟩ : ∃ m1,m=m1+1:=⟨m - 1,by omega⟩
   have km1:(m:Int) - 1=(m1:Int):=by omega
   have kw1:IntKind.i64.wrap (m1:Int)=(m1:Int):=by rw [IntKind.wrap_i64]; omega
   obtain ⟨q,hq⟩ : ∃ q,q=260+8*((us+k)%8):=⟨_,rfl⟩
   rw [← hq] at hrd
   have HEN:=aH (entry_any rb mb ba bu av (us+k) t (O k) wr.drew hR (by omega))
   rw [← hq] at HEN
   have HLD:Hid (Calls Tryz.prog 217 #[.pointer (some ⟨rb,0,none⟩),.int .i64 q,.int .i64 4] wr.drew _):=rload_any rb mb bb base ba bu av (us+k) q 4 t (O k) wild (cnt+2+4*k) st bs wr.drew hm hR (by show base≤wr.heap.size; omega) (by omega) (by omega) hl (by omega) ht1 ht2 hrm hrb
   rw [hrd] at HLD
   have HRk:=aH hR
   have HTB:=aH (fun (W:World) (hW:aO W rb t mb ba bu av (us+k) (O k))=>takeBack_ok rb mb ba bu av (us+k) (ids k) t (O k) W hW hi8 hot (by omega))
   have HFk:=aH hF
   have HOK:=aH (aU HOS k hlk)
   have HMk:=aH hm
   have HMM:Hid (m1=f - (k+1)):=by rw [Hid]; omega
   have hu1:(us+k+1)%65536=us+(k+1):=by omega
   generalize ids k=id at *
   clear hm hR hF hot hrd hq hm0 hm1
   go_wp2_with fail
   go_region_held (fun _=>True) (trivial)
    (first | (go_at_call 218; go_loud (refine (aU HEN).mono ?_; rintro e w' ⟨rfl,rfl⟩)) | (go_at_call 217; go_loud (refine (aU HLD).mono ?_; rintro e w2 ⟨rfl,hm2,hF2⟩; have hR2:=ring_keep (w:=wr.drew) (aU HRk) hF2 ht1 ht2 hrm hrb; have HTB2:=aH (aU HTB w2 hR2))) | (go_at_call 216; go_loud (refine (aU HTB2).mono ?_; rintro e w3 ⟨rfl,hR3,hK3,hz3⟩)))
   all_goals
    rw [hu1,← aU HOK] at hR3
    have hm3:=mem_keep hm2 rb t _ hR2 ht1 ht2 hrm hrb (fun i hi hne=>hK3.block i hi hne)
    have HM3:=aH hm3
    have HR3:=aH hR3
    have HF3:=aH (((aU HFk).trans (GF.of_below (Below.refl _ _).drew)).trans ((GF.of_mf (p:=fun i=>i≠rb∧i≠mb∧i≠bb) hF2 fun i hp=>hp.2).trans (GF.of_keeps hK3 (by omega) fun i hp=>hp.1)))
    clear hm2 hF2 hR2 hm3 hR3 hK3
    go_wp2_with fail
    exact ⟨⟨k+1,rfl,by rw [← aU HMM],by omega,by have:=aU HM3; rwa [show cnt+2+4*k+4=cnt+2+4*(k+1) by omega] at this,aU HR3,aU HF3⟩,by simp [intOf]; omega⟩
  ·have hkl:k=f:=by omega
   subst hkl
   have HM2:=aH hm
   have HR2:=aH hR
   have HF2:=aH hF
   have km:k - k=0:=by omega
   rw [km]
   clear hm hR hF
   go_wp2
   go_ret
   exact ⟨rfl,aU HM2,aU HR2,aU HF2⟩
end Qx
namespace He
open Ka Kc Wa Wb Wc Wd We Wf Wg Wh Wi Wj Wk Wl Wm Ha Hb Hc Re
theorem ok1 {a:Fd} (h1:a.Ok) : ∀ f∈[a],f.Ok:=by intro f hf; simp at hf; subst hf; exact h1
theorem okc {a:Fd} {l:List Fd} (h1:a.Ok) (h2 : ∀ f∈l,f.Ok) : ∀ f∈a :: l,f.Ok:=by
 intro f hf
 rcases List.mem_cons.1 hf with rfl | hf
 ·exact h1
 ·exact h2 f hf
theorem frameBytes_any (a b r:Str) (k:Nat) (w:World) (ha:a.length≤1000) (hb:b.length≤1000) (hr:r.length≤100000) (hk:k<65536) :
  Calls Tryz.prog 209 #[.agg #[.string (B a),.string (B b),.int .i64 k,.string (B r)]] w fun e w'=>e=.returned (.string (B (a++b++[hi k,lo k]++r)))∧Below w.heap.size w w':=by
 have kw:IntKind.u16.wrap (k:Int)=(k:Int):=by rw [IntKind.wrap_u16]; omega
 have HS:Hid (∀ (gb:Nat) (W:World),gb=W.heap.size→Calls Tryz.prog 199 #[.slice (some ⟨gb,0,none⟩) 4 4] (W.alloc (.cells #[.iface 224 (.string (B a)),.iface 224 (.string (B b)),.iface 284 (.int .u16 k),.iface 224 (.string (B r))] 297)) fun e w'=>e=.returned (.string (B (a++b++[hi k,lo k]++r)))∧Below gb W w'):=fun gb W hgb=>by
  subst hgb
  have:=written_new [fRaw a,fRaw b,fShort k,fRaw r] W (okc (raw_ok a) (okc (raw_ok b) (okc (short_ok k hk) (ok1 (raw_ok r))))) (by simp) (by simp [outs,fRaw,fShort]; omega)
  rw [show outs [fRaw a,fRaw b,fShort k,fRaw r]=a++b++[hi k,lo k]++r by simp [outs,fRaw,fShort]] at this
  exact this
 go_enter Tryz.func209,Tryz.ntmps209
 go_wp2_with fail
 refine (aU HS _ _ (by simp <;> omega)).mono ?_
 rintro e w1 ⟨rfl,hb1⟩
 have HB:=aH (((Below.refl w.heap.size w).alloc (Nat.le_refl _) _).trans (hb1.mono (by simp)))
 clear hb1
 go_wp2_with fail
 go_ret
 exact ⟨congrArg (fun x=>Ending.returned (.string (B x))) (by simp),aU HB⟩
end He
namespace Hd
open Ka Kc Wa Wb Wc Wd We Wf Wg Wh Wi Wj Wk Wl Wm Ha Hb Hc Re
end Hd
namespace Hf
open Ka Kc Wa Wb Wc Wd We Wf Wg Wh Wi Wj Wk Wl Wm Ha Hb Hc Hd He Re
end Hf
namespace Hg
open Ka Kc Wa Wb Wc Wd We Wf Wg Wh Wi Wj Wk Wl Wm Ha Hb Hc Hd He Hf Re
abbrev frm (a b:Str) (k:Nat) (r:Str):Value:=.agg #[.string (B a),.string (B b),.int .i64 k,.string (B r)]
structure Pa (w W:World) (a b r:Str):Prop where
 p:aB W w.heap.size [.string (B a),.string (B b),.string (B r)] 307
 z:aB W (w.heap.size+1) [.string ⟨#[]⟩,.string ⟨#[]⟩,.string ⟨#[]⟩] 307
 below:Below w.heap.size w W
abbrev cfg (mac ip:Str):Value:=.agg #[.string (B mac),.string (B ip)]
structure Fa (w W:World) (a b:Str) (k:Nat) (r mac ip:Str):Prop where
 f:aB W w.heap.size [.string (B a),.string (B b),.int .i64 k,.string (B r)] 150
 c:aB W (w.heap.size+1) [.string (B mac),.string (B ip)] 62
 below:Below w.heap.size w W
theorem Fa.size {w W:World} {a b r mac ip:Str} {k:Nat} (h:Fa w W a b k r mac ip):w.heap.size+1<W.heap.size:=h.c.lt
theorem Fa.next {w W W':World} {a b r mac ip:Str} {k:Nat} (h:Fa w W a b k r mac ip) (hb:Below W.heap.size W W'):Fa w W' a b k r mac ip :=
 ⟨h.f.below hb h.f.lt,h.c.below hb h.c.lt,h.below.trans (hb.mono (by have:=h.size; omega))⟩
theorem Fa.alloc {w W:World} {a b r mac ip:Str} {k:Nat} (h:Fa w W a b k r mac ip) (o:Obj):Fa w (W.alloc o) a b k r mac ip:=h.next ((Below.refl _ _).alloc (Nat.le_refl _) _)
theorem Fa.start (w:World) (a b:Str) (k:Nat) (r mac ip:Str):Fa w ((w.alloc (.cells #[.string (B a),.string (B b),.int .i64 k,.string (B r)] 150)).alloc (.cells #[.string (B mac),.string (B ip)] 62)) a b k r mac ip where
 f:=(aB.new w _ _).alloc _
 c:=by
  have:=aB.new (w.alloc (.cells #[.string (B a),.string (B b),.int .i64 k,.string (B r)] 150)) [.string (B mac),.string (B ip)] 62
  simpa using this
 below:=((Below.refl _ _).alloc (Nat.le_refl _) _).alloc (by simp) _
theorem handle_mine (s b r mac ip x:Str) (k:Nat) (zv:Value) (w:World)
  (hF : ∀ W,Calls Tryz.prog 79 #[.string (B s)] W fun e w'=>e=.returned (.tuple #[frm mac b k r,.bool true])∧Below W.heap.size W w')
  (hA : ∀ W,Below w.heap.size w W→Calls Tryz.prog 80 #[frm mac b k r,zv,cfg mac ip] W fun e w'=>e=.returned (.string (B x))∧Below W.heap.size W w') :
  Calls Tryz.prog 37 #[zv,cfg mac ip,.string (B s)] w fun e w'=>e=.returned (.string (B x))∧Below w.heap.size w w':=by
 have HF:=aH hF
 have hB0:=(Below.refl w.heap.size w).alloc (Nat.le_refl _) (.cells #[.string (B mac),.string (B ip)] 62)
 have HB0:=aH hB0
 have HC:=aH (aB.new w [.string (B mac),.string (B ip)] 62)
 have HA:=aH hA
 clear hF hB0 hA
 go_enter Tryz.func37,Tryz.ntmps37
 go_wp2_with fail
 refine (aU HF _).mono ?_
 rintro e w1 ⟨rfl,hb1⟩
 have hB1:=(aU HB0).trans (hb1.mono (by simp))
 have hw1:=hB1.size
 have hB2:=hB1.alloc hw1 (.cells #[.string (B mac),.string (B b),.int .i64 k,.string (B r)] 150)
 have HA2:=aH (aU HA _ hB2)
 have HB1:=aH hB2
 have hC1:=(aU HC).below hb1 (by simp)
 have hC2:=hC1.alloc (.cells #[.string (B mac),.string (B b),.int .i64 k,.string (B r)] 150)
 have c0:=hC1.cell 0 (by simp)
 have c1:=hC1.cell 1 (by simp)
 have c0':=hC2.cell 0 (by simp)
 have c1':=hC2.cell 1 (by simp)
 simp only [List.getElem_cons_zero,List.getElem_cons_succ] at c0 c0' c1 c1'
 have hw2:=hC1.lt
 clear hb1 HF HB0 hB1 HC hC1 hC2 HA hB2
 go_wp2_with fail
 refine (aU HA2).mono ?_
 rintro e w2 ⟨rfl,hb2⟩
 have HB2:=aH ((aU HB1).trans (hb2.mono (aU HB1).size))
 clear hb2 HB1 HA2
 go_wp2_with fail
 go_ret
 exact ⟨rfl,aU HB2⟩
end Hg
def MacAt (w:World) (xb zb rb sb:Nat) (mac ip:Str) (n s d:Nat) (br:Bool):Prop :=
 aB w xb [.pointer (some ⟨zb,0,none⟩),.string (B mac),.string (B ip),.pointer (some ⟨rb,0,none⟩),.pointer (some ⟨sb,0,none⟩),.int .i64 n,.int .i64 s,.int .i64 d,.bool br] 165
def Off (xb rb sb mb bb:Nat) (i:Nat):Prop:=i≠xb∧i≠rb∧i≠sb∧i≠mb∧i≠bb
namespace Na
open Ka Wa Wb Wc Wd We Wf Wg Wh Wi Wj Wk Wl Wm Ha Hb Hc Re Qa Qb Qc Qd Qe Qf Qg Qh Qi Qj Qk Ql Qm Qn Qo Qp Qr Qq Qs Qw Qx
theorem mac_set (w:World) (xb zb rb sb:Nat) (mac ip:Str) (n s d:Nat) (br:Bool) (h:MacAt w xb zb rb sb mac ip n s d br) (v:Nat):MacAt (w.setCell ⟨xb,5,none⟩ (.int .i64 v)) xb zb rb sb mac ip v s d br∧MacAt (w.setCell ⟨xb,6,none⟩ (.int .i64 v)) xb zb rb sb mac ip n v d br∧MacAt (w.setCell ⟨xb,7,none⟩ (.int .i64 v)) xb zb rb sb mac ip n s v br :=
 ⟨aB.set h 5 (.int .i64 v),aB.set h 6 (.int .i64 v),aB.set h 7 (.int .i64 v)⟩
structure Mac (w:World) (xb zb rb sb mb bb base:Nat) (mac ip:Str) (bs:Str) (wild:Bool) (cnt st rav rus:Nat) (rout:List Bool) (sav sus:Nat) (sout:List Bool) (n s d:Nat) (br:Bool):Prop where
 mem:Mem w mb bb base bs wild cnt st
 rr:aO w rb 240 mb 0 1024 rav rus rout
 sr:aO w sb 241 mb 512 13312 sav sus sout
 mac:MacAt w xb zb rb sb mac ip n s d br
 hb:base≤w.heap.size
section
variable {w w':World} {xb zb rb sb mb bb base:Nat} {mac ip:Str} {bs:Str} {wild:Bool} {cnt st rav rus:Nat} {rout:List Bool} {sav sus:Nat} {sout:List Bool} {n s d:Nat} {br:Bool}
theorem mem_blk (h:Mem w mb bb base bs wild cnt st):(∃ cs,aB w mb cs 84)∧∃ cs,aB w bb cs 5:=by
 obtain ⟨fg,vl,vm,ns,hm,hr,_⟩:=h
 exact ⟨⟨_,hm⟩,⟨_,hr.2⟩⟩
theorem Mac.apart (h:Mac w xb zb rb sb mb bb base mac ip bs wild cnt st rav rus rout sav sus sout n s d br):xb≠rb∧xb≠sb∧xb≠mb∧xb≠bb∧rb≠sb∧rb≠mb∧rb≠bb∧sb≠mb∧sb≠bb:=by
 obtain ⟨⟨c1,h1⟩,⟨c2,h2⟩⟩:=mem_blk h.mem
 exact ⟨blk_ne h.mac h.rr (by decide),blk_ne h.mac h.sr (by decide),blk_ne h.mac h1 (by decide),blk_ne h.mac h2 (by decide),blk_ne h.rr h.sr (by decide),blk_ne h.rr h1 (by decide),blk_ne h.rr h2 (by decide),blk_ne h.sr h1 (by decide),blk_ne h.sr h2 (by decide)⟩
theorem Mac.below (h:Mac w xb zb rb sb mb bb base mac ip bs wild cnt st rav rus rout sav sus sout n s d br) (hb:Below w.heap.size w w'):Mac w' xb zb rb sb mb bb base mac ip bs wild cnt st rav rus rout sav sus sout n s d br :=
 ⟨mem_below h.mem hb,(hb.block rb (aB.lt h.rr)).trans h.rr,(hb.block sb (aB.lt h.sr)).trans h.sr,(hb.block xb (aB.lt h.mac)).trans h.mac,Nat.le_trans h.hb hb.size⟩
theorem Mac.counts {n' s' d':Nat} {br':Bool} (h:Mac w xb zb rb sb mb bb base mac ip bs wild cnt st rav rus rout sav sus sout n s d br) (hk:It.Keeps xb w w') (hm:MacAt w' xb zb rb sb mac ip n' s' d' br'):Mac w' xb zb rb sb mb bb base mac ip bs wild cnt st rav rus rout sav sus sout n' s' d' br':=by
 obtain ⟨a1,a2,a3,a4,_⟩:=h.apart
 exact ⟨mem_keep h.mem xb _ _ h.mac (by decide) (by decide) a3 a4 (fun i hi hne=>hk.block i hi hne),(hk.block rb (aB.lt h.rr) (fun e=>a1 e.symm)).trans h.rr,(hk.block sb (aB.lt h.sr) (fun e=>a2 e.symm)).trans h.sr,hm,Nat.le_trans h.hb hk.size⟩
end
theorem answer_sent (xb zb rb sb mb bb base cnt st rav rus sav sus n s d j:Nat) (mac ip bs f o:Str) (wild br:Bool) (rout sout:List Bool) (w:World) (h:Mac w xb zb rb sb mb bb base mac ip bs wild cnt st rav rus rout sav sus sout n s d br)
  (hH:Calls Tryz.prog 37 #[.pointer (some ⟨zb,0,none⟩),.agg #[.string (B mac),.string (B ip)],.string (B f)] w.drew fun e w'=>e=.returned (.string (B o))∧Below w.drew.heap.size w.drew w')
  (ho:o≠[]) (hol:o.length≤1524) (hst:st≤700000) (hsav:sav<65536) (hso:sout.length=8) (hj:j<8) (hpre : ∀ i,i<j→sout[i]? = some true) (hat:sout[j]? = some false) (hs:s≤1000000) :
  Calls Tryz.prog 163 #[.pointer (some ⟨xb,0,none⟩),.string (B f)] w fun e w' =>
   e=.returned (.tuple #[])∧Mac w' xb zb rb sb mb bb base mac ip (snB bs 512 13312 sav j o) wild cnt (st+20+o.length) rav rus rout ((sav+1)%65536) sus (sout.set j true) n (s+1) d br∧GF (Off xb rb sb mb bb) base w w':=by
 obtain ⟨a1,a2,a3,a4,a5,a6,a7,a8,a9⟩:=h.apart
 have HM:=aH h
 have HH:=aH hH
 have hne:((B o).toList == [])=false:=by
  rw [beq_eq_false_iff_ne,ByteArray.toList_eq]; exact ho
 have m0:w.drew.cell? ⟨xb,0,none⟩=some (.pointer (some ⟨zb,0,none⟩)):=aB.cell h.mac 0 (by simp)
 have m1:w.drew.cell? ⟨xb,1,none⟩=some (.string (B mac)):=aB.cell h.mac 1 (by simp)
 have m2:w.drew.cell? ⟨xb,2,none⟩=some (.string (B ip)):=aB.cell h.mac 2 (by simp)
 have HKP:Hid (∀ W,Below w.drew.heap.size w.drew W→W.cell? ⟨xb,0,none⟩=some (.pointer (some ⟨zb,0,none⟩))∧W.cell? ⟨xb,1,none⟩=some (.string (B mac))∧W.cell? ⟨xb,2,none⟩=some (.string (B ip))):=fun W hb=>by
  have e:MacAt W xb zb rb sb mac ip n s d br:=(hb.block xb (aB.lt h.mac)).trans h.mac
  exact ⟨aB.cell e 0 (by simp),aB.cell e 1 (by simp),aB.cell e 2 (by simp)⟩
 clear h hH
 go_enter Tryz.func163,Tryz.ntmps163
 go_wp2_with fail
 go_region_held (fun w'=>w'.cell? ⟨xb,0,none⟩=some (.pointer (some ⟨zb,0,none⟩))∧w'.cell? ⟨xb,1,none⟩=some (.string (B mac))∧w'.cell? ⟨xb,2,none⟩=some (.string (B ip))) (first | assumption | exact ⟨m0,m1,m2⟩ | go_keep)
  (first | (go_at_call 37; go_loud (refine (aU HH).mono ?_; rintro e w1 ⟨rfl,hb1⟩; have hS1:=aU HKP w1 hb1)))
 all_goals
  have hB1:Below w.heap.size w w1:=(Below.refl _ _).drew.trans hb1
  have hM1:=(aU HM).below hB1
  have HSN:=aH (send_ok sb mb bb base 512 13312 sav sus j _ sout wild cnt st bs o w1 hM1.mem hM1.sr hM1.hb (by omega) (by omega) hsav hso hj hpre hat hol hst (by decide) (by decide) a8 a9)
  have c4:w1.cell? ⟨xb,4,none⟩=some (.pointer (some ⟨sb,0,none⟩)):=aB.cell hM1.mac 4 (by simp)
  have HM1:=aH hM1
  have HB1:=aH hB1
  clear hM1 hB1 hb1 hS1 HH
  go_wp2_with fail
  refine (aU HSN).mono ?_
  rintro e w2 ⟨rfl,hm2,hR2,hF2⟩
  have hX2:MacAt w2 xb zb rb sb mac ip n s d br:=hF2.blk (aU HM1).mac ⟨a2,a3,a4⟩ (by decide) (by decide)
  have hQ2:aO w2 rb 240 mb 0 1024 rav rus rout:=hF2.blk (aU HM1).rr ⟨a5,a6,a7⟩ (by decide) (by decide)
  have hM2:Mac w2 xb zb rb sb mb bb base mac ip (snB bs 512 13312 sav j o) wild cnt (st+20+o.length) rav rus rout ((sav+1)%65536) sus (sout.set j true) n s d br:=⟨hm2,hQ2,hR2,hX2,Nat.le_trans (aU HM1).hb hF2.size⟩
  have c6:w2.cell? ⟨xb,6,none⟩=some (.int .i64 s):=aB.cell hX2 6 (by simp)
  have hf:=aB.frozen hX2
  obtain ⟨s1,hs1⟩ : ∃ s1,s1=s+1:=⟨_,rfl⟩
  have k6:(s:Int)+1=(s1:Int):=by omega
  have HM3:=aH (hM2.counts (Keeps_set (Keeps_refl _ _) 6 (.int .i64 s1)) (mac_set _ _ _ _ _ _ _ _ _ _ _ hX2 s1).2.1)
  have HF3:=aH (((GF.of_below (p:=Off xb rb sb mb bb) (base:=base) (aU HB1)).trans (hF2.mono fun i hp=>⟨hp.2.2.1,hp.2.2.2⟩)).trans (GF.of_set (rb:=xb) w2 6 (.int .i64 s1) fun i hp=>hp.1))
  have HS1:=aH hs1
  clear hm2 hR2 hF2 hX2 hQ2 hM2 HSN HM1 HB1 hs1
  go_wp2_with fail
  refine bodyPost_end (v:=.tuple #[]) (by simp [results,Tryz.results163]) rfl ?_
  rw [← aU HS1]
  exact ⟨rfl,aU HM3,aU HF3⟩
theorem answer_drop (xb zb rb sb mb bb base cnt st rav rus sav sus n s d:Nat) (mac ip bs f o:Str) (wild br:Bool) (rout sout:List Bool) (w:World) (h:Mac w xb zb rb sb mb bb base mac ip bs wild cnt st rav rus rout sav sus sout n s d br)
  (hH:Calls Tryz.prog 37 #[.pointer (some ⟨zb,0,none⟩),.agg #[.string (B mac),.string (B ip)],.string (B f)] w.drew fun e w'=>e=.returned (.string (B o))∧Below w.drew.heap.size w.drew w')
  (ho:o≠[]) (hpre : ∀ i,i<8→sout[i]? = some true) (hs:d≤1000000) :
  Calls Tryz.prog 163 #[.pointer (some ⟨xb,0,none⟩),.string (B f)] w fun e w' =>
   e=.returned (.tuple #[])∧Mac w' xb zb rb sb mb bb base mac ip bs wild cnt st rav rus rout sav sus sout n s (d+1) br∧GF (Off xb rb sb mb bb) base w w':=by
 obtain ⟨a1,a2,a3,a4,a5,a6,a7,a8,a9⟩:=h.apart
 have HM:=aH h
 have HH:=aH hH
 have hne:((B o).toList == [])=false:=by
  rw [beq_eq_false_iff_ne,ByteArray.toList_eq]; exact ho
 have m0:w.drew.cell? ⟨xb,0,none⟩=some (.pointer (some ⟨zb,0,none⟩)):=aB.cell h.mac 0 (by simp)
 have m1:w.drew.cell? ⟨xb,1,none⟩=some (.string (B mac)):=aB.cell h.mac 1 (by simp)
 have m2:w.drew.cell? ⟨xb,2,none⟩=some (.string (B ip)):=aB.cell h.mac 2 (by simp)
 have HKP:Hid (∀ W,Below w.drew.heap.size w.drew W→W.cell? ⟨xb,0,none⟩=some (.pointer (some ⟨zb,0,none⟩))∧W.cell? ⟨xb,1,none⟩=some (.string (B mac))∧W.cell? ⟨xb,2,none⟩=some (.string (B ip))):=fun W hb=>by
  have e:MacAt W xb zb rb sb mac ip n s d br:=(hb.block xb (aB.lt h.mac)).trans h.mac
  exact ⟨aB.cell e 0 (by simp),aB.cell e 1 (by simp),aB.cell e 2 (by simp)⟩
 clear h hH
 go_enter Tryz.func163,Tryz.ntmps163
 go_wp2_with fail
 go_region_held (fun w'=>w'.cell? ⟨xb,0,none⟩=some (.pointer (some ⟨zb,0,none⟩))∧w'.cell? ⟨xb,1,none⟩=some (.string (B mac))∧w'.cell? ⟨xb,2,none⟩=some (.string (B ip))) (first | assumption | exact ⟨m0,m1,m2⟩ | go_keep)
  (first | (go_at_call 37; go_loud (refine (aU HH).mono ?_; rintro e w1 ⟨rfl,hb1⟩; have hS1:=aU HKP w1 hb1)))
 all_goals
  have hB1:Below w.heap.size w w1:=(Below.refl _ _).drew.trans hb1
  have hM1:=(aU HM).below hB1
  have HSN:=aH (send_none sb mb 512 13312 sav sus _ sout o w1 hM1.sr hpre)
  have c4:w1.cell? ⟨xb,4,none⟩=some (.pointer (some ⟨sb,0,none⟩)):=aB.cell hM1.mac 4 (by simp)
  have c7:w1.cell? ⟨xb,7,none⟩=some (.int .i64 d):=aB.cell hM1.mac 7 (by simp)
  have hf:=aB.frozen hM1.mac
  obtain ⟨s1,hs1⟩ : ∃ s1,s1=d+1:=⟨_,rfl⟩
  have k6:(d:Int)+1=(s1:Int):=by omega
  have HM3:=aH (hM1.counts (Keeps_set (Keeps_refl _ _) 7 (.int .i64 s1)) (mac_set _ _ _ _ _ _ _ _ _ _ _ hM1.mac s1).2.2)
  have HF3:=aH ((GF.of_below (p:=Off xb rb sb mb bb) (base:=base) hB1).trans (GF.of_set (rb:=xb) w1 7 (.int .i64 s1) fun i hp=>hp.1))
  have HS1:=aH hs1
  clear hM1 hB1 hb1 hS1 HH hs1
  go_wp2_with fail
  refine (aU HSN).mono ?_
  rintro e w1 ⟨rfl,rfl⟩
  go_wp2_with fail
  refine bodyPost_end (v:=.tuple #[]) (by simp [results,Tryz.results163]) rfl ?_
  rw [← aU HS1]
  exact ⟨rfl,aU HM3,aU HF3⟩
end Na
namespace Nf
open Ka Wa Wb Wc Wd We Wf Wg Wh Wi Wj Wk Wl Wm Ha Hb Hc Re Qa Qb Qc Qd Qe Qf Qg Qh Qi Qj Qk Ql Qm Qn Qr Qq Qs Na
theorem guard_end (p q:Addr) (w:World) (hp:w.cell? p=some (.bool true)) :
  CallsD Tryz.prog 151 #[.pointer (some p),.pointer (some q)] .returning w fun e u' w'=>e=.returned (.tuple #[])∧u'=.returning∧w'=w:=by
 refine callsD_of_wpS Tryz.func151 rfl fun c₀ cs hu=>?_
 apply wpS_seq
 apply wpS_region
 simp [wpOpsS,go_sem,recoverD,hu,hp,Tryz.ntmps151,Exit.thenS]
 refine wpS_cond (t:=false) (by simp [Act.eval,Array.replicate]) ?_
 simp only [Bool.false_eq_true,if_false]
 refine wpS_of_wp (wp_skip ?_)
 cases c₀
 simp_all [bodyPostS,results,Tryz.results151]
theorem cf_work (args:Array Value) (W:World):(callFunc 95 args).run Tryz.prog W=.ok (.enter 95 args) W:=by kernel_rfl
theorem cf_new1 (args:Array Value) (W:World):(callFunc 89 args).run Tryz.prog W=.ok (.enter 89 args) W:=by kernel_rfl
def gW (w:World) (xb:Nat):World:=(w.alloc (.cells #[.pointer (some ⟨xb,0,none⟩)] 73)).alloc (.cells #[.bool false] 4)
theorem gW_two (w:World) (xb:Nat):aB (gW w xb) (w.heap.size+1) [.bool false] 4:=by
 have:=aB.new (w.alloc (.cells #[.pointer (some ⟨xb,0,none⟩)] 73)) [.bool false] 4
 rw [World.size_alloc] at this
 exact this
theorem gW_below (w:World) (xb:Nat):Below w.heap.size w (gW w xb):=((Below.refl _ _).alloc (Nat.le_refl _) _).alloc (by simp) _
theorem gW_size (w:World) (xb:Nat):(gW w xb).heap.size=w.heap.size+2:=by simp [gW]
theorem guard_work (xb:Nat) (w:World) (K:World→Prop) (hC:Calls Tryz.prog 95 #[.pointer (some ⟨xb,0,none⟩)] (gW w xb) fun e W'=>e=.returned (.bool true)∧K W'∧aB W' (w.heap.size+1) [.bool false] 4) :
  Calls Tryz.prog 88 #[.pointer (some ⟨xb,0,none⟩),.func (.func 95) #[.pointer (some ⟨xb,0,none⟩)] #[]] w fun e w'=>e=.returned (.tuple #[])∧∃ W',K W'∧aB W' (w.heap.size+1) [.bool false] 4∧w'=W'.setCell ⟨w.heap.size+1,0,none⟩ (.bool true):=by
 have hmf : ∀ (fn:Fn) (first cap:Array Value) (w:World),(Instr.makeFunc fn first cap).run Tryz.prog w=.ok (.func fn first cap) w:=fun _ _ _ _=>rfl
 have hcf:=cf_work
 have HC:=aH hC
 unfold gW at HC
 have c0:=aB.cell (gW_two w xb) 0 (by simp)
 have f0:=aB.frozen (gW_two w xb) 0
 unfold gW at c0 f0
 clear hC
 go_enter_defers Tryz.func88,Tryz.ntmps88
 go_wp2_with fail
 refine (aU HC).mono ?_
 rintro e W' ⟨rfl,hK,hb⟩
 have HK:=aH hK
 have c1:W'.cell? ⟨w.heap.size+1,0,none⟩=some (.bool false):=aB.cell hb 0 (by simp)
 have f1:=aB.frozen hb 0
 have h2:=aB.cell (aB.set hb 0 (.bool true)) 0 (by simp)
 have HB:=aH hb
 clear hK HC hb
 go_wp2_with fail
 refine leaves_cons (f:=151) (args:=#[.pointer (some ⟨w.heap.size+1,0,none⟩),.pointer (some ⟨w.heap.size,0,none⟩)]) (by simp) (by simp [go_sem]) ?_
 refine (guard_end ⟨w.heap.size+1,0,none⟩ ⟨w.heap.size,0,none⟩ _ h2).mono ?_
 rintro e u' w'' ⟨rfl,rfl,rfl⟩
 simp [Leaves,settle,results,Tryz.results88,go_sem]
 exact ⟨W',aU HK,aU HB,rfl⟩
theorem guard_new (xb b1 b2:Nat) (w:World) (K:World→Prop) (hC:Calls Tryz.prog 89 #[.pointer (some ⟨b1,0,none⟩),.pointer (some ⟨b2,0,none⟩)] (gW w xb) fun e W'=>e=.returned (.bool true)∧K W'∧aB W' (w.heap.size+1) [.bool false] 4) :
  Calls Tryz.prog 88 #[.pointer (some ⟨xb,0,none⟩),.func (.func 89) #[] #[.pointer (some ⟨b1,0,none⟩),.pointer (some ⟨b2,0,none⟩)]] w fun e w'=>e=.returned (.tuple #[])∧∃ W',K W'∧aB W' (w.heap.size+1) [.bool false] 4∧w'=W'.setCell ⟨w.heap.size+1,0,none⟩ (.bool true):=by
 have hmf : ∀ (fn:Fn) (first cap:Array Value) (w:World),(Instr.makeFunc fn first cap).run Tryz.prog w=.ok (.func fn first cap) w:=fun _ _ _ _=>rfl
 have hcf:=cf_new1
 have HC:=aH hC
 unfold gW at HC
 have c0:=aB.cell (gW_two w xb) 0 (by simp)
 have f0:=aB.frozen (gW_two w xb) 0
 unfold gW at c0 f0
 clear hC
 go_enter_defers Tryz.func88,Tryz.ntmps88
 go_wp2_with fail
 refine (aU HC).mono ?_
 rintro e W' ⟨rfl,hK,hb⟩
 have HK:=aH hK
 have c1:W'.cell? ⟨w.heap.size+1,0,none⟩=some (.bool false):=aB.cell hb 0 (by simp)
 have f1:=aB.frozen hb 0
 have h2:=aB.cell (aB.set hb 0 (.bool true)) 0 (by simp)
 have HB:=aH hb
 clear hK HC hb
 go_wp2_with fail
 refine leaves_cons (f:=151) (args:=#[.pointer (some ⟨w.heap.size+1,0,none⟩),.pointer (some ⟨w.heap.size,0,none⟩)]) (by simp) (by simp [go_sem]) ?_
 refine (guard_end ⟨w.heap.size+1,0,none⟩ ⟨w.heap.size,0,none⟩ _ h2).mono ?_
 rintro e u' w'' ⟨rfl,rfl,rfl⟩
 simp [Leaves,settle,results,Tryz.results88,go_sem]
 exact ⟨W',aU HK,aU HB,rfl⟩
theorem counts_any (xb zb rb sb:Nat) (mac ip:Str) (n s d:Nat) (br:Bool) (w:World) (h:MacAt w xb zb rb sb mac ip n s d br) :
  Calls Tryz.prog 55 #[.pointer (some ⟨xb,0,none⟩)] w fun e w'=>e=.returned (.agg #[.int .i64 n,.int .i64 s,.int .i64 d,.bool br])∧Below w.heap.size w w':=by
 have hb:MacAt (w.alloc (.cells #[.int .i64 0,.int .i64 0,.int .i64 0,.bool false] 101)) xb zb rb sb mac ip n s d br:=(Below.heap_alloc _ _ _ (aB.lt h)).trans h
 have c5:=aB.cell hb 5 (by simp)
 have c6:=aB.cell hb 6 (by simp)
 have c7:=aB.cell hb 7 (by simp)
 have c8:=aB.cell hb 8 (by simp)
 simp only [List.getElem_cons_zero,List.getElem_cons_succ] at c5 c6 c7 c8
 have d5:=aB.cell h 5 (by simp)
 have d6:=aB.cell h 6 (by simp)
 have d7:=aB.cell h 7 (by simp)
 have d8:=aB.cell h 8 (by simp)
 simp only [List.getElem_cons_zero,List.getElem_cons_succ] at d5 d6 d7 d8
 have hne:xb≠w.heap.size:=by have:=aB.lt h; omega
 clear h hb
 go_enter Tryz.func55,Tryz.ntmps55
 go_wp2
 refine bodyPost_ret (v:=.agg #[.int .i64 n,.int .i64 s,.int .i64 d,.bool br]) ?_ rfl ?_
 ·simp [results,Tryz.results55,go_sem]
 ·refine ⟨rfl,?_⟩
  repeat (first | exact Below.refl _ _ | refine Below.alloc ?_ (Nat.le_refl _) _ | refine Below.setCell ?_ (Nat.le_refl _) _)
end Nf
namespace Nc
open Qg Qh Qr Qw
def tr (m:Nat):List Bool:=List.replicate m true++List.replicate (8 - m) false
theorem tr_len : ∀ m,m<9→(tr m).length=8:=by decide
theorem tr_lt : ∀ m,m<9→∀ i,i<m→(tr m)[i]? = some true:=by decide
theorem tr_at : ∀ m,m<8→(tr m)[m]? = some false:=by decide
theorem tr_set : ∀ m,m<8→(tr m).set m true=tr (m+1):=by decide
theorem tr_all : ∀ i,i<8→(tr 8).set i true=tr 8:=by decide
theorem tr_all_at : ∀ i,i<8→(tr 8)[i]? = some true:=by decide
def sk (o k:Nat):Nat:=min k (8 - o)
def bsK (bs:Str) (rav sav o:Nat) (id:Nat→Nat) (ans:Nat→Str):Nat→Str
 | 0=>bs
 | k+1=>if o+k<8 then snB (nxB (bsK bs rav sav o id ans k) 0 (rav+k) (id k)) 512 13312 (sav+k) (o+k) (ans k) else nxB (bsK bs rav sav o id ans k) 0 (rav+k) (id k)
def cntK (cnt:Nat) (fr:Nat→Str):Nat→Nat
 | 0=>cnt
 | k+1=>cntK cnt fr k+8+(fr k).length
def stK (st o:Nat) (ans:Nat→Str):Nat→Nat
 | 0=>st
 | k+1=>if o+k<8 then stK st o ans k+4+20+(ans k).length else stK st o ans k+4
theorem nxB_len (bs:Str) (ba av id:Nat):(nxB bs ba av id).length=bs.length:=by unfold nxB; rw [aT,aT]
theorem snB_len (bs:Str) (ba bu av j:Nat) (s:Str):(snB bs ba bu av j s).length=bs.length:=by unfold snB; rw [aT,aT,aT,wrS_len,aT]
theorem bsK_len (bs:Str) (rav sav o:Nat) (id:Nat→Nat) (ans:Nat→Str) (k:Nat):(bsK bs rav sav o id ans k).length=bs.length:=by
 induction k with
 | zero=>rfl
 | succ k ih=>rw [bsK]; split <;> simp [nxB_len,snB_len,ih]
theorem nxB_get (bs:Str) (av id i:Nat) (h:i<130∨148≤i):(nxB bs 0 av id)[i]? = bs[i]?:=by
 unfold nxB; rw [wrN_get _ _ _ _ _ (by omega),wrN_get _ _ _ _ _ (by omega)]
theorem snB_get (bs:Str) (av j:Nat) (s:Str) (i:Nat) (hj:j<8) (hs:s.length≤1524) (h:i<520∨(660≤i∧i<13312)):(snB bs 512 13312 av j s)[i]? = bs[i]?:=by
 unfold snB; rw [wrN_get _ _ _ _ _ (by omega),wrN_get _ _ _ _ _ (by omega),wrN_get _ _ _ _ _ (by omega),wrS_get _ _ _ _ _ (by omega),wrN_get _ _ _ _ _ (by omega)]
theorem bsK_get (bs:Str) (rav sav o:Nat) (id:Nat→Nat) (ans:Nat→Str) (k i:Nat) (ha : ∀ j,j<k→(ans j).length≤1524) (h:i<130∨(148≤i∧i<520)∨(660≤i∧i<13312)):(bsK bs rav sav o id ans k)[i]? = bs[i]?:=by
 induction k with
 | zero=>rfl
 | succ k ih =>
  have ih:=ih (fun j hj=>ha j (by omega))
  rw [bsK]; split
  ·rw [snB_get _ _ _ _ _ (by assumption) (ha k (by omega)) (by omega),nxB_get _ _ _ _ (by omega),ih]
  ·rw [nxB_get _ _ _ _ (by omega),ih]
theorem bsK_rd (bs:Str) (rav sav o:Nat) (id:Nat→Nat) (ans:Nat→Str) (k p l:Nat) (ha : ∀ j,j<k→(ans j).length≤1524) (h:p+l≤130∨(148≤p∧p+l≤520)∨(660≤p∧p+l≤13312)):rdN (bsK bs rav sav o id ans k) p l=rdN bs p l :=
 rdN_congr l fun i h1 h2=>bsK_get bs rav sav o id ans k i ha (by omega)
theorem bsK_lies (bs:Str) (rav sav o:Nat) (id:Nat→Nat) (ans:Nat→Str) (k p:Nat) (s:Str) (ha : ∀ j,j<k→(ans j).length≤1524) (h:1024≤p∧p+s.length≤13312) (hs:LiesB bs p s):LiesB (bsK bs rav sav o id ans k) p s :=
 lies_congr hs fun i h1 h2=>bsK_get bs rav sav o id ans k i ha (by omega)
theorem cntK_le (cnt:Nat) (fr:Nat→Str) (k:Nat) (hf : ∀ j,j<k→(fr j).length≤1524):cntK cnt fr k≤cnt+1532*k:=by
 induction k with
 | zero=>simp [cntK]
 | succ k ih=>have:=ih (fun j hj=>hf j (by omega)); have:=hf k (by omega); rw [cntK]; omega
theorem stK_le (st o:Nat) (ans:Nat→Str) (k:Nat) (hf : ∀ j,j<k→(ans j).length≤1524):stK st o ans k≤st+1548*k:=by
 induction k with
 | zero=>simp [stK]
 | succ k ih=>have:=ih (fun j hj=>hf j (by omega)); have:=hf k (by omega); rw [stK]; split <;> omega
end Nc
end Go.Proofs.YtkkpahmoljiepaaGreatDoor
