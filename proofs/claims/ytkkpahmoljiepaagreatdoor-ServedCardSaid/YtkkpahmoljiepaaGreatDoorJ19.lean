/- Contract: rings' countOut. -/
import Derived.Test.YtkkpahmoljiepaaGreatDoorJ18
set_option linter.unusedSimpArgs false
set_option linter.unusedVariables false
set_option maxRecDepth 1000000
set_option maxHeartbeats 12800000
namespace Go.Proofs.YtkkpahmoljiepaaGreatDoor
open Go.RowKit
open Pu (Str aH aU)
namespace Qo
open Ka Wa Wb Wc Wd We Wf Wg Wh Wi Wj Wk Wl Wm Ha Hb Hc Re Qa Qb Qc Qd Qe Qf Qg Qi Qj Qk Ql Qm Qn
def cOut (l:List Bool):Nat:=(l.filter id).length
theorem cOut_take (l:List Bool) (k:Nat) (h:k<l.length):cOut (l.take (k+1))=cOut (l.take k)+(if (l[k]?.getD false)=true then 1 else 0):=by
 unfold cOut
 rw [List.getElem?_eq_getElem h,Option.getD_some]
 rw [List.take_succ_eq_append_getElem h,List.filter_append,List.length_append]
 cases l[k] <;> simp
theorem idx_0 (o0 o1 o2 o3 o4 o5 o6 o7:Bool) (W:World):(Instr.index 169 (.agg #[.bool o0,.bool o1,.bool o2,.bool o3,.bool o4,.bool o5,.bool o6,.bool o7]) (.int .i64 0)).run Tryz.prog W=.ok (.bool o0) W:=by kernel_rfl
theorem idx_1 (o0 o1 o2 o3 o4 o5 o6 o7:Bool) (W:World):(Instr.index 169 (.agg #[.bool o0,.bool o1,.bool o2,.bool o3,.bool o4,.bool o5,.bool o6,.bool o7]) (.int .i64 1)).run Tryz.prog W=.ok (.bool o1) W:=by kernel_rfl
theorem idx_2 (o0 o1 o2 o3 o4 o5 o6 o7:Bool) (W:World):(Instr.index 169 (.agg #[.bool o0,.bool o1,.bool o2,.bool o3,.bool o4,.bool o5,.bool o6,.bool o7]) (.int .i64 2)).run Tryz.prog W=.ok (.bool o2) W:=by kernel_rfl
theorem idx_3 (o0 o1 o2 o3 o4 o5 o6 o7:Bool) (W:World):(Instr.index 169 (.agg #[.bool o0,.bool o1,.bool o2,.bool o3,.bool o4,.bool o5,.bool o6,.bool o7]) (.int .i64 3)).run Tryz.prog W=.ok (.bool o3) W:=by kernel_rfl
theorem idx_4 (o0 o1 o2 o3 o4 o5 o6 o7:Bool) (W:World):(Instr.index 169 (.agg #[.bool o0,.bool o1,.bool o2,.bool o3,.bool o4,.bool o5,.bool o6,.bool o7]) (.int .i64 4)).run Tryz.prog W=.ok (.bool o4) W:=by kernel_rfl
theorem idx_5 (o0 o1 o2 o3 o4 o5 o6 o7:Bool) (W:World):(Instr.index 169 (.agg #[.bool o0,.bool o1,.bool o2,.bool o3,.bool o4,.bool o5,.bool o6,.bool o7]) (.int .i64 5)).run Tryz.prog W=.ok (.bool o5) W:=by kernel_rfl
theorem idx_6 (o0 o1 o2 o3 o4 o5 o6 o7:Bool) (W:World):(Instr.index 169 (.agg #[.bool o0,.bool o1,.bool o2,.bool o3,.bool o4,.bool o5,.bool o6,.bool o7]) (.int .i64 6)).run Tryz.prog W=.ok (.bool o6) W:=by kernel_rfl
theorem idx_7 (o0 o1 o2 o3 o4 o5 o6 o7:Bool) (W:World):(Instr.index 169 (.agg #[.bool o0,.bool o1,.bool o2,.bool o3,.bool o4,.bool o5,.bool o6,.bool o7]) (.int .i64 7)).run Tryz.prog W=.ok (.bool o7) W:=by kernel_rfl
theorem idx8 (o0 o1 o2 o3 o4 o5 o6 o7:Bool) (k:Nat) (h:k<8) (W:World):(Instr.index 169 (.agg #[.bool o0,.bool o1,.bool o2,.bool o3,.bool o4,.bool o5,.bool o6,.bool o7]) (.int .i64 (k:Int))).run Tryz.prog W=.ok (.bool ([o0,o1,o2,o3,o4,o5,o6,o7][k]?.getD false)) W:=by
 have hk:k=0∨k=1∨k=2∨k=3∨k=4∨k=5∨k=6∨k=7:=by omega
 rcases hk with rfl | rfl | rfl | rfl | rfl | rfl | rfl | rfl
 ·exact idx_0 o0 o1 o2 o3 o4 o5 o6 o7 W
 ·exact idx_1 o0 o1 o2 o3 o4 o5 o6 o7 W
 ·exact idx_2 o0 o1 o2 o3 o4 o5 o6 o7 W
 ·exact idx_3 o0 o1 o2 o3 o4 o5 o6 o7 W
 ·exact idx_4 o0 o1 o2 o3 o4 o5 o6 o7 W
 ·exact idx_5 o0 o1 o2 o3 o4 o5 o6 o7 W
 ·exact idx_6 o0 o1 o2 o3 o4 o5 o6 o7 W
 ·exact idx_7 o0 o1 o2 o3 o4 o5 o6 o7 W
theorem countOut_any (rb mb ba bu av us:Nat) (t:TypeId) (o0 o1 o2 o3 o4 o5 o6 o7:Bool) (w:World) (hr:aO w rb t mb ba bu av us [o0,o1,o2,o3,o4,o5,o6,o7]) :
  Calls Tryz.prog 259 #[.pointer (some ⟨rb,0,none⟩)] w fun e w'=>e=.returned (.int .i64 (cOut [o0,o1,o2,o3,o4,o5,o6,o7]))∧w'=w:=by
 have c0:=ring_at hr 0 o0 rfl
 have c1:=ring_at hr 1 o1 rfl
 have c2:=ring_at hr 2 o2 rfl
 have c3:=ring_at hr 3 o3 rfl
 have c4:=ring_at hr 4 o4 rfl
 have c5:=ring_at hr 5 o5 rfl
 have c6:=ring_at hr 6 o6 rfl
 have c7:=ring_at hr 7 o7 rfl
 clear hr
 go_enter Tryz.func259,Tryz.ntmps259
 go_wp2_with fail
 go_loopw [3,10] (fun n i wr=>∃ k:Nat,n=.int .i64 (cOut ([o0,o1,o2,o3,o4,o5,o6,o7].take k):Nat)∧i=.int .i64 k∧k≤8∧wr=w) (fun _ i _=>8 - (intOf i).toNat)
 case atStart=>exact ⟨0,rfl,rfl,by omega,rfl⟩
 case round =>
  obtain ⟨k,rfl,rfl,hk,rfl⟩:=hrel
  by_cases hlk:k<8
  ·have hix:=idx8 o0 o1 o2 o3 o4 o5 o6 o7 k hlk wr
   have HT:=aH (cOut_take [o0,o1,o2,o3,o4,o5,o6,o7] k (by simpa using hlk))
   have hcl:cOut ([o0,o1,o2,o3,o4,o5,o6,o7].take k)≤8:=by
    unfold cOut
    exact Nat.le_trans (List.length_filter_le _ _) (by simp; omega)
   generalize [o0,o1,o2,o3,o4,o5,o6,o7][k]?.getD false=b at *
   generalize cOut ([o0,o1,o2,o3,o4,o5,o6,o7].take k)=x at *
   obtain ⟨z,hz⟩ : ∃ z,z=cOut ([o0,o1,o2,o3,o4,o5,o6,o7].take (k+1)):=⟨_,rfl⟩
   rw [← hz] at HT
   have HZ:=aH hz
   clear hz
   cases b with
   | true =>
    have hz1:z=x+1:=by have:=aU HT; simpa using this
    have kz:(x:Int)+1=(z:Int):=by omega
    clear hz1 HT
    go_wp2
    exact ⟨⟨k+1,by rw [aU HZ],by go_num,by omega,trivial⟩,by simp [intOf]; omega⟩
   | false =>
    have hz1:z=x:=by have:=aU HT; simpa using this
    subst hz1
    clear HT
    go_wp2
    exact ⟨⟨k+1,by rw [aU HZ],by go_num,by omega,trivial⟩,by simp [intOf]; omega⟩
  ·have hkl:k=8:=by omega
   subst hkl
   go_wp2
   go_ret
   exact ⟨rfl,rfl⟩
end Qo
namespace Qh
open Ka Wa Wb Wc Wd We Wf Wg Wh Wi Wj Wk Wl Wm Ha Hb Hc Re Qa Qb Qc Qd Qe Qf Qg
def rdN (bs:Str) (p:Nat):Nat→Nat
 | 0=>0
 | k+1=>rdN bs p k+(bs[p+k]?.getD 0).toNat*2 ^ (8*k)
theorem rdN_lt (bs:Str) (p k:Nat):rdN bs p k<2 ^ (8*k):=by
 induction k with
 | zero=>simp [rdN]
 | succ k ih =>
  rw [rdN,show 8*(k+1)=8*k+8 by omega,Nat.pow_add]
  have:=UInt8.toNat_lt (bs[p+k]?.getD 0)
  have h2:(bs[p+k]?.getD 0).toNat*2 ^ (8*k)≤255*2 ^ (8*k):=Nat.mul_le_mul_right _ (by omega)
  omega
theorem u32_or (x y s:Nat) (hx:x<2 ^ s) (b:Nat) (hy:y=b*2 ^ s) (hz:x+y<4294967296):bits .or .u32 (x:Int) (y:Int)=((x+y:Nat):Int):=by
 show IntKind.u32.wrap ((BitVec.ofInt 32 (x:Int) ||| BitVec.ofInt 32 (y:Int)).toNat:Int)=_
 rw [BitVec.toNat_or,BitVec.ofInt_natCast,BitVec.ofInt_natCast,BitVec.toNat_ofNat,BitVec.toNat_ofNat,Nat.mod_eq_of_lt (by omega),Nat.mod_eq_of_lt (by omega)]
 have e:x ||| y=x+y:=by
  rw [hy,Nat.or_comm,← Nat.shiftLeft_eq b s,← Nat.shiftLeft_add_eq_or_of_lt hx]; omega
 rw [e,IntKind.wrap_u32]; omega
theorem rload_any (rb mb bb base ba bu av us p size:Nat) (t:TypeId) (out:List Bool) (wild:Bool) (cnt st:Nat) (bs:Str) (w:World) (h:Mem w mb bb base bs wild cnt st) (hr:aO w rb t mb ba bu av us out) (hbs:base≤w.heap.size) (hsz:size≤4) (hp:ba+p+size≤25600) (hl:bs.length=25600) (hst:cnt≤900000) (ht1:t≠3) (ht2:t≠177) (hrm:rb≠mb) (hrb:rb≠bb) :
  Calls Tryz.prog 217 #[.pointer (some ⟨rb,0,none⟩),.int .i64 p,.int .i64 size] w fun e w' =>
   e=.returned (.int .u32 (rdN bs (ba+p) size))∧Mem w' mb bb base bs wild (cnt+size) st∧MF mb bb base w w':=by
 have HM:=aH h
 have HR:=aH hr
 clear h hr
 go_enter Tryz.func217,Tryz.ntmps217
 go_wp2_with fail
 go_loopw [7,10] (fun n i wr=>∃ k:Nat,n=.int .u32 (rdN bs (ba+p) k:Nat)∧i=.int .i64 k∧k≤size∧Mem wr mb bb base bs wild (cnt+k) st∧MF mb bb base w wr) (fun _ i _=>size - (intOf i).toNat)
 case atStart=>exact ⟨0,rfl,rfl,Nat.zero_le _,aU HM,Qf.MF.refl _ _ _ _⟩
 case round =>
  obtain ⟨k,rfl,rfl,hk,hm,hF⟩:=hrel
  have HM1:=aH hm
  have HF1:=aH hF
  have hR1:aO wr rb t mb ba bu av us out:=(hF.block rb (aB.lt (aU HR)) hrm hrb (.inr ⟨fun cur e=>ht1 (by have:=(aU HR).symm.trans e; simp at this; exact this.2),fun cur e=>ht2 (by have:=(aU HR).symm.trans e; simp at this; exact this.2)⟩)).trans (aU HR)
  have r0:=aB.cell hR1 0 (by simp)
  have r1:=aB.cell hR1 1 (by simp)
  simp only [List.cons_append,List.getElem_cons_zero,List.getElem_cons_succ] at r0 r1
  have hsz1:=hF.size
  clear hm hF
  by_cases hlk:k<size
  ·have hms:=m_load mb
   have hcf:=cf_load
   obtain ⟨q,hq⟩ : ∃ q,q=ba+p:=⟨_,rfl⟩
   obtain ⟨pk,hpk⟩ : ∃ pk,pk=q+k:=⟨_,rfl⟩
   obtain ⟨k8,hk8⟩ : ∃ k8,k8=8*k:=⟨_,rfl⟩
   have hpl:pk<bs.length:=by omega
   obtain ⟨cb,hcb⟩ : ∃ cb:UInt8,bs[pk]? = some cb:=⟨bs[pk],List.getElem?_eq_getElem hpl⟩
   obtain ⟨b,hb⟩ : ∃ b,b=cb.toNat:=⟨_,rfl⟩
   have hbl:b<256:=by rw [hb]; exact UInt8.toNat_lt cb
   obtain ⟨y,hy⟩ : ∃ y,y=b*2 ^ k8:=⟨_,rfl⟩
   have hx:=rdN_lt bs (ba+p) k
   have HE:Hid (rdN bs (ba+p) (k+1)=rdN bs (ba+p) k+y):=by
    rw [Hid,rdN,hy,hk8,hb,← hq,← hpk,hcb]; rfl
   have hz:=rdN_lt bs (ba+p) (k+1)
   rw [aU HE] at hz
   have hp4:(2:Nat) ^ (8*(k+1))≤2 ^ 32:=Nat.pow_le_pow_right (by omega) (by omega)
   have hz2:rdN bs (ba+p) k+y<4294967296:=by omega
   have e1:IntKind.i64.wrap ((ba:Int)+(p:Int))=(q:Int):=by rw [IntKind.wrap_i64]; omega
   have e2:IntKind.i64.wrap ((q:Int)+(k:Int))=(pk:Int):=by rw [IntKind.wrap_i64]; omega
   have e3:IntKind.i64.wrap (8*(k:Int))=(k8:Int):=by rw [IntKind.wrap_i64]; omega
   have e4:IntKind.u32.wrap (b:Int)=(b:Int):=by rw [IntKind.wrap_u32]; omega
   have e5:IntKind.u32.wrap ((b:Int)*2 ^ min k8 32)=(y:Int):=by
    rw [Nat.min_eq_left (by omega),show (b:Int)*2 ^ k8=(y:Int) by rw [hy]; simp,IntKind.wrap_u32]; omega
   have e6:=u32_or (rdN bs (ba+p) k) y (8*k) hx b (by rw [hy,hk8]) hz2
   rw [← aU HE] at e6
   obtain ⟨z,hz0⟩ : ∃ z,z=rdN bs (ba+p) (k+1):=⟨_,rfl⟩
   have HZ:=aH hz0
   rw [← hz0] at e6
   clear hz0 HE
   generalize rdN bs (ba+p) k=x at *
   have HLD:=aH (mem_load mb bb base pk wild (cnt+k) st bs cb wr.drew (aU HM1) (by show base≤wr.heap.size; omega) hcb (by omega))
   rw [← hb] at HLD
   have hS0:wr.drew.cell? ⟨rb,0,none⟩=some (.iface 71 (.pointer (some ⟨mb,0,none⟩)))∧wr.drew.cell? ⟨rb,1,none⟩=some (.int .i64 ba):=⟨r0,r1⟩
   have HKP:Hid (∀ W':World,MF mb bb base wr.drew W'→W'.cell? ⟨rb,0,none⟩=some (.iface 71 (.pointer (some ⟨mb,0,none⟩)))∧W'.cell? ⟨rb,1,none⟩=some (.int .i64 ba)):=fun W' hF=>by
    have e:W'.heap[rb]? = wr.heap[rb]?:=hF.block rb (aB.lt hR1) hrm hrb (.inr ⟨fun cur e=>ht1 (by have:=hR1.symm.trans e; simp at this; exact this.2),fun cur e=>ht2 (by have:=hR1.symm.trans e; simp at this; exact this.2)⟩)
    exact ⟨(World.cell?_of_block e).trans r0,(World.cell?_of_block e).trans r1⟩
   clear hq hpk hk8 hcb hb hy hx hz hp4 hpl hR1
   go_wp2_with fail
   go_region_held (fun w'=>w'.cell? ⟨rb,0,none⟩=some (.iface 71 (.pointer (some ⟨mb,0,none⟩)))∧w'.cell? ⟨rb,1,none⟩=some (.int .i64 ba)) (first | assumption | go_keep)
    (first | (go_at_call 159; go_loud (refine (aU HLD).mono ?_; rintro e w' ⟨rfl,hm2,hF2⟩; have hS2:=aU HKP w' hF2)))
   all_goals
    have HM2:=aH hm2
    have HF2:=aH (Qf.MF.trans (aU HF1) (Qf.MF.trans (Qf.MF.of_below (Below.refl _ _).drew) hF2))
    clear hm2 hF2
    go_wp2_with fail
    exact ⟨⟨k+1,by rw [aU HZ],by go_num,by omega,by have:=aU HM2; rwa [Nat.add_assoc] at this,aU HF2⟩,by simp [intOf]; omega⟩
  ·have hkl:k=size:=by omega
   subst hkl
   go_wp2
   go_ret
   exact ⟨rfl,aU HM1,aU HF1⟩
end Qh
namespace Qp
open Ka Wa Wb Wc Wd We Wf Wg Wh Wi Wj Wk Wl Wm Ha Hb Hc Re Qa Qb Qc Qd Qe Qf Qg Qh Qi Qj Qk Ql Qm Qn Qo
theorem fresh_any (rb mb bb base ba bu av us n:Nat) (t:TypeId) (o0 o1 o2 o3 o4 o5 o6 o7:Bool) (wild:Bool) (cnt st:Nat) (bs:Str) (w:World) (h:Mem w mb bb base bs wild cnt st) (hr:aO w rb t mb ba bu av us [o0,o1,o2,o3,o4,o5,o6,o7]) (hbs:base≤w.heap.size) (hba:ba≤1000) (hl:bs.length=25600) (hcnt:cnt≤900000) (hus:us<65536) (hn:n=(rdN bs (ba+258) 2+65536 - us)%65536) (ht1:t≠3) (ht2:t≠177) (hrm:rb≠mb) (hrb:rb≠bb) :
  Calls Tryz.prog 215 #[.pointer (some ⟨rb,0,none⟩)] w fun e w'=>e=.returned (.tuple #[.int .i64 n,.bool (decide ((n:Int)≤(cOut [o0,o1,o2,o3,o4,o5,o6,o7]:Nat)))])∧Mem w' mb bb base bs wild (cnt+2) st∧MF mb bb base w w':=by
 have hx:=rdN_lt bs (ba+258) 2
 have HL:Hid (Calls Tryz.prog 217 #[.pointer (some ⟨rb,0,none⟩),.int .i64 258,.int .i64 2] w.drew _):=rload_any rb mb bb base ba bu av us 258 2 t _ wild cnt st bs w.drew h hr hbs (by omega) (by omega) hl hcnt ht1 ht2 hrm hrb
 generalize rdN bs (ba+258) 2=x at *
 have e1:IntKind.u16.wrap (x:Int)=(x:Int):=by rw [IntKind.wrap_u16]; omega
 have e2:IntKind.u16.wrap ((x:Int) - (us:Int))=(n:Int):=by rw [IntKind.wrap_u16]; omega
 have c4:=aB.cell hr 4 (by simp)
 simp only [List.cons_append,List.getElem_cons_zero,List.getElem_cons_succ] at c4
 have hS0:w.drew.cell? ⟨rb,4,none⟩=some (.int .u16 us):=c4
 have HR:=aH hr
 have hnb:n<65536:=by omega
 have e5:IntKind.i64.wrap (n:Int)=(n:Int):=by rw [IntKind.wrap_i64]; omega
 clear h hr hn
 go_enter Tryz.func215,Tryz.ntmps215
 go_wp2_with fail
 go_region_held (fun w'=>w'.cell? ⟨rb,4,none⟩=some (.int .u16 us)) (first | assumption | go_keep)
  (first | (go_at_call 217; go_loud (refine (aU HL).mono ?_; rintro e w1 ⟨rfl,hm1,hF1⟩; have hR1:=ring_keep (w:=w.drew) (aU HR) hF1 ht1 ht2 hrm hrb; have hS1:w1.cell? ⟨rb,4,none⟩=some (.int .u16 us):=aB.cell hR1 4 (by simp))))
 all_goals
  have HC:=aH (countOut_any rb mb ba bu av us t o0 o1 o2 o3 o4 o5 o6 o7 w1 hR1)
  have HM1:=aH hm1
  have HF1:=aH (Qf.MF.trans (Qf.MF.of_below (Below.refl _ _).drew) hF1)
  clear hm1 hF1 hR1
  go_wp2_with fail
  refine (aU HC).mono ?_
  rintro e w1 ⟨rfl,rfl⟩
  go_wp2_with fail
  refine bodyPost_ret (v:=.tuple #[.int .i64 n,.bool (decide ((n:Int)≤(cOut [o0,o1,o2,o3,o4,o5,o6,o7]:Nat)))]) ?_ rfl ?_
  ·simp [results,Tryz.results215,go_sem,e5]
  ·exact ⟨rfl,aU HM1,aU HF1⟩
end Qp
namespace Qr
open Qg Qh
theorem wrN_get (bs:Str) (p v k i:Nat) (h:i<p∨p+k≤i):(wrN bs p v k)[i]? = bs[i]?:=by
 induction k with
 | zero=>rfl
 | succ k ih=>rw [wrN,List.getElem?_set_ne (by omega),ih (by omega)]
theorem rdN_congr {a b:Str} {p:Nat} : ∀ k,(∀ i,p≤i→i<p+k→a[i]? = b[i]?)→rdN a p k=rdN b p k
 | 0,_=>rfl
 | k+1,h=>by rw [rdN,rdN,rdN_congr k (fun i h1 h2=>h i h1 (by omega)),h (p+k) (by omega) (by omega)]
theorem rdN_wrN (bs:Str) (p v:Nat) : ∀ k,p+k≤bs.length→rdN (wrN bs p v k) p k=v%2 ^ (8*k)
 | 0,_=>by simp [rdN,Nat.mod_one]
 | k+1,h=>by
  rw [rdN,rdN_congr (b:=wrN bs p v k) k (fun i h1 h2=>by rw [wrN,List.getElem?_set_ne (by omega)]),rdN_wrN bs p v k (by omega)]
  rw [wrN,List.getElem?_set_self (by rw [aT]; omega)]
  simp only [Option.getD_some,UInt8.toNat_ofNat']
  rw [show 8*(k+1)=8*k+8 by omega,Nat.pow_add,Nat.mod_mul,Nat.mul_comm (2 ^ (8*k)) (v/2 ^ (8*k)%2 ^ 8)]
theorem aR (bs:Str) (p v k q l:Nat) (h:q+l≤p∨p+k≤q):rdN (wrN bs p v k) q l=rdN bs q l :=
 rdN_congr l fun i h1 h2=>wrN_get bs p v k i (by omega)
def wrS (bs:Str) (p:Nat) (s:Str):Nat→Str
 | 0=>bs
 | k+1=>(wrS bs p s k).set (p+k) (s[k]?.getD 0)
theorem wrS_len (bs:Str) (p:Nat) (s:Str) (k:Nat):(wrS bs p s k).length=bs.length:=by
 induction k with
 | zero=>rfl
 | succ k ih=>rw [wrS,List.length_set,ih]
theorem wrS_get (bs:Str) (p:Nat) (s:Str) (k i:Nat) (h:i<p∨p+k≤i):(wrS bs p s k)[i]? = bs[i]?:=by
 induction k with
 | zero=>rfl
 | succ k ih=>rw [wrS,List.getElem?_set_ne (by omega),ih (by omega)]
theorem wrS_at (bs:Str) (p:Nat) (s:Str) (k i:Nat) (h:i<k) (hl:p+k≤bs.length):(wrS bs p s k)[p+i]? = some (s[i]?.getD 0):=by
 induction k with
 | zero=>omega
 | succ k ih =>
  rw [wrS]
  by_cases hi:i=k
  ·subst hi; rw [List.getElem?_set_self (by rw [wrS_len]; omega)]
  ·rw [List.getElem?_set_ne (by omega),ih (by omega) (by omega)]
def LiesB (bs:Str) (p:Nat) (s:Str):Prop:=∀ i,i<s.length→bs[p+i]? = s[i]?
theorem lies_wrS (bs:Str) (p:Nat) (s:Str) (hl:p+s.length≤bs.length):LiesB (wrS bs p s s.length) p s:=fun i hi=>by
 rw [wrS_at bs p s _ i hi hl]; simp [List.getElem?_eq_getElem hi]
theorem lies_congr {a b:Str} {p:Nat} {s:Str} (h:LiesB a p s) (hc : ∀ i,p≤i→i<p+s.length→b[i]? = a[i]?):LiesB b p s:=fun i hi=>(hc (p+i) (by omega) (by omega)).trans (h i hi)
def nxB (bs:Str) (ba av id:Nat):Str:=wrN (wrN bs (ba+(132+2*(av%8))) id 2) (ba+130) ((av+1)%65536) 2
end Qr
structure GF (p:Nat→Prop) (base:Nat) (A B:World):Prop where
 os:B.os=A.os
 tape:B.tape=A.tape
 output:B.output=A.output
 size:A.heap.size≤B.heap.size
 block : ∀ i,i<A.heap.size→p i→(i<base∨((∀ cur,A.heap[i]?≠some (.cells cur 3 (0,0)))∧∀ cur,A.heap[i]?≠some (.cells cur 177 (0,0))))→B.heap[i]? = A.heap[i]?
open Ka Wa Wb Wc Wd We Wf Wg Wh Wi Wj Wk Wl Wm Ha Hb Hc Re Qa Qb Qc Qd Qe Qf Qg Qh Qi Qj Qk Ql Qm Qn
section
variable {p q:Nat→Prop} {base mb bb rb:Nat} {A B C:World}
theorem GF.refl (p:Nat→Prop) (base:Nat) (w:World):GF p base w w:=⟨rfl,rfl,rfl,Nat.le_refl _,fun _ _ _ _=>rfl⟩
theorem GF.trans (h:GF p base A B) (k:GF p base B C):GF p base A C :=
 ⟨k.os.trans h.os,k.tape.trans h.tape,k.output.trans h.output,Nat.le_trans h.size k.size,fun i hi h1 hp=>by
  have e:=h.block i hi h1 hp
  refine (k.block i (Nat.lt_of_lt_of_le hi h.size) h1 ?_).trans e
  rw [e]; exact hp⟩
theorem GF.mono (h:GF p base A B) (hq : ∀ i,q i→p i):GF q base A B:=⟨h.os,h.tape,h.output,h.size,fun i hi h1 hp=>h.block i hi (hq i h1) hp⟩
theorem GF.of_mf (h:MF mb bb base A B) (hp : ∀ i,p i→i≠mb∧i≠bb):GF p base A B:=⟨h.os,h.tape,h.output,h.size,fun i hi h1 hq=>h.block i hi (hp i h1).1 (hp i h1).2 hq⟩
theorem GF.of_rf (h:RF rb mb bb base A B) (hp : ∀ i,p i→i≠rb∧i≠mb∧i≠bb):GF p base A B:=⟨h.os,h.tape,h.output,h.size,fun i hi h1 hq=>h.block i hi (hp i h1).1 (hp i h1).2.1 (hp i h1).2.2 (hq.imp id And.right)⟩
theorem GF.of_below (h:Below A.heap.size A B):GF p base A B:=⟨h.os,h.tape,h.output,h.size,fun i hi _ _=>h.block i hi⟩
theorem GF.of_keeps (h:It.Keeps rb A B) (hs:A.heap.size≤B.heap.size) (hp : ∀ i,p i→i≠rb):GF p base A B:=⟨h.os,h.tape,h.output,hs,fun i hi h1 _=>h.block i hi (hp i h1)⟩
theorem GF.of_set (A:World) (o:Nat) (v:Value) (hp : ∀ i,p i→i≠rb):GF p base A (A.setCell ⟨rb,o,none⟩ v):=⟨rfl,rfl,rfl,by simp [World.setCell],fun i _ h1 _=>Below.heap_setCell _ _ _ _ (hp i h1)⟩
theorem GF.blk {b:Nat} {cs:List Value} {t:TypeId} (h:GF p base A B) (hb:aB A b cs t) (hp:p b) (ht1:t≠3) (ht2:t≠177):aB B b cs t :=
 (h.block b hb.lt hp (.inr ⟨fun cur e=>ht1 (by have:=hb.symm.trans e; simp at this; exact this.2),fun cur e=>ht2 (by have:=hb.symm.trans e; simp at this; exact this.2)⟩)).trans hb
theorem GF.low (h:GF p base A B) {i:Nat} (hb:base≤A.heap.size) (hi:i<base) (hp:p i):B.heap[i]? = A.heap[i]?:=h.block i (by omega) hp (.inl hi)
theorem GF.own {b0:Nat} {t:TypeId} {sz n:Nat} {v:Value} {xs:List Value} (h:GF p base A B) (ho:A.ownsRow b0 t sz v n xs) (hp : ∀ g,v.ownBlock=some g→p g) (ht1:t≠3) (ht2:t≠177):B.ownsRow b0 t sz v n xs :=
 own_keep ho fun g hg=>by
  obtain ⟨_,cur,hc⟩:=own_at ho hg
  exact h.block g (own_lt ho hg) (hp g hg) (.inr ⟨fun c e=>ht1 (by have:=hc.symm.trans e; simp at this; exact this.2),fun c e=>ht2 (by have:=hc.symm.trans e; simp at this; exact this.2)⟩)
end
namespace Qq
end Qq
def Seen (w:World) (mb bb:Nat) (bs:Str):Prop:=w.cell? ⟨mb,0,none⟩=some (.slice (some ⟨bb,0,none⟩) 25600 25600)∧RowB w bb bs
namespace Qs
open Ka Wa Wb Wc Wd We Wf Wg Wh Wi Wj Wk Wl Wm Ha Hb Hc Re Qa Qb Qc Qd Qe Qf Qg Qh Qr
theorem mem_seen {w:World} {mb bb base:Nat} {bs:Str} {wild:Bool} {cnt st:Nat} (h:Mem w mb bb base bs wild cnt st):Seen w mb bb bs:=by
 obtain ⟨vl,vm,ns,⟨early,d0,d1,hm⟩,hr,_⟩:=h
 exact ⟨aF.at0 hm,hr⟩
theorem mem_ne {w:World} {mb bb base:Nat} {bs:Str} {wild:Bool} {cnt st:Nat} (h:Mem w mb bb base bs wild cnt st):mb≠bb:=by
 obtain ⟨vl,vm,ns,⟨early,d0,d1,hm⟩,hr,_⟩:=h
 exact blk_ne hm hr.2 (by decide)
theorem mem_row {w w':World} {mb bb base:Nat} {bs bs':Str} {wild:Bool} {cnt st:Nat} (h:Mem w mb bb base bs wild cnt st) (hr':RowB w' bb bs') (hk:It.Keeps bb w w'):Mem w' mb bb base bs' wild cnt st:=by
 obtain ⟨vl,vm,ns,⟨early,d0,d1,hm⟩,hr,ho,hl,ms,hms,hml⟩:=h
 exact ⟨vl,vm,ns,⟨early,d0,d1,aF.of hm (hk.block mb (aF.lt hm) (blk_ne hm hr.2 (by decide)))⟩,hr',own_keep ho fun g hg=>hk.block g (own_lt ho hg) (fun e=>own_ne hr.2 ho (by decide) (by rw [hg,e])),hl,ms,own_keep hms fun g hg=>hk.block g (own_lt hms hg) (fun e=>own_ne hr.2 hms (by decide) (by rw [hg,e])),hml⟩
theorem rdN_le (bs:Str) (p:Nat) : ∀ {k l:Nat},k≤l→rdN bs p k≤rdN bs p l
 | k,l,h=>by
  induction l with
  | zero=>rw [Nat.le_zero.1 h]; exact Nat.le_refl _
  | succ l ih =>
   by_cases e:k=l+1
   ·rw [e]; exact Nat.le_refl _
   ·have:=ih (by omega); rw [rdN]; omega
theorem number_any (mb bb p size:Nat) (bs:Str) (w:World) (h:Seen w mb bb bs) (hsz:size≤8) (hp:p+size≤25600) (hv:rdN bs p size<4611686018427387904) :
  Calls Tryz.prog 53 #[.pointer (some ⟨mb,0,none⟩),.int .i64 p,.int .i64 size] w fun e w'=>e=.returned (.int .i64 (rdN bs p size))∧w'=w:=by
 have h0:=h.1
 have HH:=aH h
 have hl:=h.2.1
 clear h
 go_enter Tryz.func53,Tryz.ntmps53
 go_wp2_with fail
 go_loopw [7,8] (fun n i wr=>∃ k:Nat,n=.int .i64 (rdN bs p k:Nat)∧i=.int .i64 k∧k≤size∧wr=w) (fun _ i _=>size - (intOf i).toNat)
 case atStart=>exact ⟨0,rfl,rfl,Nat.zero_le _,rfl⟩
 case round =>
  obtain ⟨k,rfl,rfl,hk,rfl⟩:=hrel
  by_cases hlk:k<size
  ·obtain ⟨pk,hpk⟩ : ∃ pk,pk=p+k:=⟨_,rfl⟩
   obtain ⟨k8,hk8⟩ : ∃ k8,k8=8*k:=⟨_,rfl⟩
   have hpl:pk<bs.length:=by omega
   obtain ⟨cb,hcb⟩ : ∃ cb:UInt8,bs[pk]? = some cb:=⟨bs[pk],List.getElem?_eq_getElem hpl⟩
   obtain ⟨b,hb⟩ : ∃ b,b=cb.toNat:=⟨_,rfl⟩
   have hbl:b<256:=by rw [hb]; exact UInt8.toNat_lt cb
   have hcell:wr.cell? ⟨bb,pk,none⟩=some (.int .u8 b):=by
    have:=(aU HH).2.2.cell pk (by simpa using hpl)
    rw [this]; obtain ⟨_,e⟩:=List.getElem?_eq_some_iff.1 hcb; simp [e,hb]
   obtain ⟨y,hy⟩ : ∃ y,y=b*2 ^ k8:=⟨_,rfl⟩
   have hle:=rdN_le bs p (show k+1≤size by omega)
   have HE:rdN bs p (k+1)=rdN bs p k+y:=by
    rw [rdN,hy,hk8,hb,← hpk,hcb]; rfl
   rw [HE] at hle
   obtain ⟨z,hz⟩ : ∃ z,z=rdN bs p (k+1):=⟨_,rfl⟩
   have HZ:=aH hz
   rw [HE] at hz
   generalize rdN bs p k=x at *
   have hz2:z<4611686018427387904:=by omega
   have e2:IntKind.i64.wrap ((p:Int)+(k:Int))=(pk:Int):=by rw [IntKind.wrap_i64]; omega
   have e3:IntKind.i64.wrap (8*(k:Int))=(k8:Int):=by rw [IntKind.wrap_i64]; omega
   have e4:IntKind.i64.wrap (b:Int)=(b:Int):=by rw [IntKind.wrap_i64]; omega
   have e5:IntKind.i64.wrap ((b:Int)*2 ^ min k8 64)=(y:Int):=by
    rw [Nat.min_eq_left (by omega),show (b:Int)*2 ^ k8=(y:Int) by rw [hy]; simp,IntKind.wrap_i64]; omega
   have e6:IntKind.i64.wrap ((x:Int)+(y:Int))=(z:Int):=by rw [IntKind.wrap_i64]; omega
   have hn':pk<25600:=by omega
   clear hpk hk8 hcb hb hy hle HE hz hz2 hpl
   go_wp2_with fail
   exact ⟨⟨k+1,by rw [aU HZ],by go_num,by omega,by first | trivial | rfl⟩,by simp [intOf]; omega⟩
  ·have hkl:k=size:=by omega
   subst hkl
   go_wp2
   go_ret
   exact ⟨rfl,rfl⟩
theorem set_any (mb bb base p size v:Nat) (wild:Bool) (cnt st:Nat) (bs:Str) (w:World) (h:Mem w mb bb base bs wild cnt st) (hsz:size≤8) (hp:p+size≤25600) (hv:v<4294967296) :
  Calls Tryz.prog 52 #[.pointer (some ⟨mb,0,none⟩),.int .i64 p,.int .i64 size,.int .i64 v] w fun e w'=>e=.returned (.tuple #[])∧Mem w' mb bb base (wrN bs p v size) wild cnt st∧It.Keeps bb w w'∧w'.heap.size=w.heap.size:=by
 have HM:=aH h
 have hne:=mem_ne h
 clear h
 go_enter Tryz.func52,Tryz.ntmps52
 go_wp2_with fail
 go_loopw [8] (fun i wr=>∃ k:Nat,i=.int .i64 k∧k≤size∧Mem wr mb bb base (wrN bs p v k) wild cnt st∧It.Keeps bb w wr∧wr.heap.size=w.heap.size) (fun i _=>size - (intOf i).toNat)
 case atStart=>exact ⟨0,rfl,Nat.zero_le _,aU HM,Keeps_refl _ _,rfl⟩
 case round =>
  obtain ⟨k,rfl,hk,hm,hK,hsz1⟩:=hrel
  by_cases hlk:k<size
  ·obtain ⟨pk,hpk⟩ : ∃ pk,pk=p+k:=⟨_,rfl⟩
   obtain ⟨k8,hk8⟩ : ∃ k8,k8=8*k:=⟨_,rfl⟩
   obtain ⟨x,hx⟩ : ∃ x,x=v/2 ^ k8:=⟨_,rfl⟩
   obtain ⟨cb,hcb⟩ : ∃ cb:UInt8,cb=UInt8.ofNat x:=⟨_,rfl⟩
   have e2:IntKind.i64.wrap ((p:Int)+(k:Int))=(pk:Int):=by rw [IntKind.wrap_i64]; omega
   have e3:IntKind.i64.wrap (8*(k:Int))=(k8:Int):=by rw [IntKind.wrap_i64]; omega
   have e4:IntKind.u8.wrap (x:Int)=(cb.toNat:Int):=by rw [IntKind.wrap_u8,hcb,UInt8.toNat_ofNat']; omega
   have e6:IntKind.u8.wrap ((v:Int)/2 ^ min k8 64)=(cb.toNat:Int):=by
    rw [Nat.min_eq_left (by omega),← e4,hx]; simp
   have hs:=mem_seen hm
   have h0:=hs.1
   have hpl:pk<(wrN bs p v k).length:=by rw [hs.2.1]; omega
   obtain ⟨v0,hv0⟩ : ∃ v0,wr.cell? ⟨bb,pk,none⟩=some v0:=⟨_,hs.2.2.cell pk (by simpa using hpl)⟩
   have hf:=hs.2.2.frozen
   have HWN:Hid ((wrN bs p v k).set pk cb=wrN bs p v (k+1)):=by rw [Hid,wrN,hpk,hcb,hx,hk8]
   have HR1:=aH (RowB.set hs.2 pk cb)
   rw [aU HWN] at HR1
   have hR2:RowB (wr.drew.setCell ⟨bb,pk,none⟩ (.int .u8 cb.toNat)) bb (wrN bs p v (k+1)):=aU HR1
   have hK2:It.Keeps bb wr (wr.drew.setCell ⟨bb,pk,none⟩ (.int .u8 cb.toNat)):=Keeps_set (It.Keeps.of_below (Below.refl _ _).drew) _ _
   have HM2:=aH (mem_row hm hR2 hK2)
   have HK2:=aH (Keeps_trans hK hK2)
   have HS:=aH hsz1
   have hn':pk<25600:=by omega
   clear hm hK hs hpk hk8 hx hcb e4 hpl hsz1 hR2 hK2 HR1 HWN
   go_wp2_with fail
   go_region
   all_goals
    go_wp2_with fail
    exact ⟨⟨k+1,by go_num,by omega,aU HM2,aU HK2,by simpa [World.setCell,World.drew] using aU HS⟩,by simp [intOf]; omega⟩
  ·have hkl:k=size:=by omega
   subst hkl
   have HM2:=aH hm
   have HK2:=aH hK
   have HS:=aH hsz1
   clear hm hK hsz1
   go_wp2
   refine bodyPost_end (v:=.tuple #[]) (by simp [results,Tryz.results52]) rfl ?_
   exact ⟨rfl,aU HM2,aU HK2,aU HS⟩
end Qs
namespace Qw
open Ka Wa Wb Wc Wd We Wf Wg Wh Wi Wj Wk Wl Wm Ha Hb Hc Re Qa Qb Qc Qd Qe Qf Qg Qh Qi Qj Qk Ql Qm Qn Qr Qq Qs
theorem index_at (rb mb ba bu av us j:Nat) (t:TypeId) (out:List Bool) (w:World) (hr:aO w rb t mb ba bu av us out) (hj:j<8) (hpre : ∀ i,i<j→out[i]? = some true) (hat:out[j]? = some false) :
  Calls Tryz.prog 261 #[.slice (some ⟨rb,5,none⟩) 8 8,.bool false] w fun e w'=>e=.returned (.int .i64 j)∧w'=w:=by
 have HR:=aH hr
 have HP:=aH hpre
 have cj:=ring_at hr j false hat
 clear hr hpre
 go_enter Tryz.func261,Tryz.ntmps261
 go_wp2_with fail
 go_loopw [8] (fun i wr=>∃ k:Nat,i=.int .i64 k∧k≤j∧wr=w) (fun i _=>8 - (intOf i).toNat)
 case atStart=>exact ⟨0,rfl,by omega,rfl⟩
 case round =>
  obtain ⟨k,rfl,hk,rfl⟩:=hrel
  have hk8:k<8:=by omega
  by_cases hlk:k<j
  ·have ck:=ring_at (aU HR) k true (aU HP k hlk)
   go_wp2
   exact ⟨⟨k+1,by go_num,by omega,by first | trivial | rfl⟩,by simp [intOf]; omega⟩
  ·have hkl:k=j:=by omega
   subst hkl
   go_wp2
   go_ret
   exact ⟨rfl,rfl⟩
theorem index_none (rb mb ba bu av us:Nat) (t:TypeId) (out:List Bool) (w:World) (hr:aO w rb t mb ba bu av us out) (hpre : ∀ i,i<8→out[i]? = some true) :
  Calls Tryz.prog 261 #[.slice (some ⟨rb,5,none⟩) 8 8,.bool false] w fun e w'=>e=.returned (.int .i64 (-1))∧w'=w:=by
 have HR:=aH hr
 have HP:=aH hpre
 clear hr hpre
 go_enter Tryz.func261,Tryz.ntmps261
 go_wp2_with fail
 go_loopw [8] (fun i wr=>∃ k:Nat,i=.int .i64 k∧k≤8∧wr=w) (fun i _=>8 - (intOf i).toNat)
 case atStart=>exact ⟨0,rfl,by omega,rfl⟩
 case round =>
  obtain ⟨k,rfl,hk,rfl⟩:=hrel
  by_cases hlk:k<8
  ·have ck:=ring_at (aU HR) k true (aU HP k hlk)
   go_wp2
   exact ⟨⟨k+1,by go_num,by omega,by first | trivial | rfl⟩,by simp [intOf]; omega⟩
  ·have hkl:k=8:=by omega
   subst hkl
   go_wp2
   go_ret
   exact ⟨rfl,rfl⟩
theorem write_any (rb mb bb base ba bu av us slot:Nat) (t:TypeId) (out:List Bool) (wild:Bool) (cnt st:Nat) (bs s:Str) (w:World) (h:Mem w mb bb base bs wild cnt st) (hr:aO w rb t mb ba bu av us out) (hbs:base≤w.heap.size) (hbu:bu≤100000) (hsl:slot≤100) (hp:bu+1536*slot+12+s.length≤25600) (hst:st≤800000) (ht1:t≠3) (ht2:t≠177) (hrm:rb≠mb) (hrb:rb≠bb) :
  Calls Tryz.prog 262 #[.pointer (some ⟨rb,0,none⟩),.int .i64 slot,.string (B s)] w fun e w' =>
   e=.returned (.tuple #[])∧Mem w' mb bb base (wrS (wrN bs (bu+1536*slot) 0 12) (bu+1536*slot+12) s s.length) wild cnt (st+12+s.length)∧SF mb bb base w w':=by
 obtain ⟨q,hq⟩ : ∃ q,q=bu+1536*slot:=⟨_,rfl⟩
 have HBU:=aH (buffer_any rb mb ba bu av us slot t out w hr hbu hsl)
 rw [← hq] at HBU ⊢
 have hql:q+12+s.length≤25600:=by omega
 have hms:=m_store mb
 have hcf:=cf_store
 have sz:(B s).size=s.length:=size_B s
 have HM:=aH h
 have HR:=aH hr
 have HRK:Hid (∀ W,SF mb bb base w W→W.cell? ⟨rb,0,none⟩=some (.iface 71 (.pointer (some ⟨mb,0,none⟩)))):=fun W hF=>aB.cell (ring_keep hr (Qf.SF.mf hF) ht1 ht2 hrm hrb) 0 (by simp)
 clear h hr hq hp
 go_enter Tryz.func262,Tryz.ntmps262
 go_wp2_with fail
 refine (aU HBU).mono ?_
 rintro e w ⟨rfl,rfl⟩
 go_wp2_with fail
 go_loopw [14] (fun i wr=>∃ k:Nat,i=.int .i64 k∧k≤12∧Mem wr mb bb base (wrN bs q 0 k) wild cnt (st+k)∧SF mb bb base w wr) (fun i _=>12 - (intOf i).toNat)
 case atStart=>exact ⟨0,rfl,Nat.zero_le _,aU HM,Qf.SF.refl _ _ _ _⟩
 case round =>
  obtain ⟨k,rfl,hk,hm,hF⟩:=hrel
  have hsz1:=hF.size
  by_cases hlk:k<12
  ·obtain ⟨pk,hpk⟩ : ∃ pk,pk=q+k:=⟨_,rfl⟩
   have e2:IntKind.i64.wrap ((q:Int)+(k:Int))=(pk:Int):=by rw [IntKind.wrap_i64]; omega
   have e2':(q:Int)+(k:Int)=(pk:Int):=by omega
   have r0:=aU HRK wr hF
   have HST:Hid (Calls Tryz.prog 155 #[.pointer (some ⟨mb,0,none⟩),.int .i64 pk,.int .u8 0] wr _):=mem_store mb bb base pk 0 wild cnt (st+k) (wrN bs q 0 k) wr hm (by omega) (by omega) (by omega)
   have HWN:Hid ((wrN bs q 0 k).set pk 0=wrN bs q 0 (k+1)):=by rw [Hid,wrN,hpk]; simp
   have HF1:=aH hF
   clear hm hF hpk
   go_wp2_with fail
   refine (aU HST).mono ?_
   rintro e w1 ⟨rfl,hm1,hF1⟩
   rw [aU HWN] at hm1
   have HM1:=aH hm1
   have HF2:=aH (Qf.SF.trans (aU HF1) hF1)
   clear hm1 hF1 HST
   go_wp2_with fail
   exact ⟨⟨k+1,by go_num,by omega,by have:=aU HM1; rwa [Nat.add_assoc] at this,aU HF2⟩,by simp [intOf]; omega⟩
  ·have hkl:k=12:=by omega
   subst hkl
   have HM1:=aH hm
   have HF1:=aH hF
   clear hm hF
   go_wp2_with fail
   go_loopw [8,29] (fun _ i wr=>∃ k:Nat,i=.int .i64 k∧k≤s.length∧Mem wr mb bb base (wrS (wrN bs q 0 12) (q+12) s k) wild cnt (st+12+k)∧SF mb bb base w wr) (fun _ i _=>s.length - (intOf i).toNat)
   case atStart=>exact ⟨0,rfl,Nat.zero_le _,aU HM1,aU HF1⟩
   case round =>
    obtain ⟨k,rfl,hk2,hm,hF⟩:=hrel
    have hsz2:=hF.size
    by_cases hlk2:k<s.length
    ·obtain ⟨q12,hq12⟩ : ∃ q12,q12=q+12:=⟨_,rfl⟩
     obtain ⟨pk,hpk⟩ : ∃ pk,pk=q12+k:=⟨_,rfl⟩
     have e1:IntKind.i64.wrap ((q:Int)+12)=(q12:Int):=by rw [IntKind.wrap_i64]; omega
     have e2:IntKind.i64.wrap ((q12:Int)+(k:Int))=(pk:Int):=by rw [IntKind.wrap_i64]; omega
     have r0:=aU HRK wr hF
     obtain ⟨cb,hcb⟩ : ∃ cb:UInt8,s[k]=cb:=⟨_,rfl⟩
     have g1 : ∀ h:k<(B s).size,(B s)[k]=cb:=fun h=>hcb
     have HST:=aH (mem_store mb bb base pk cb wild cnt (st+12+k) (wrS (wrN bs q 0 12) (q+12) s k) wr.drew hm (by show base≤wr.heap.size; omega) (by omega) (by omega))
     have HWN:Hid ((wrS (wrN bs q 0 12) (q+12) s k).set pk cb=wrS (wrN bs q 0 12) (q+12) s (k+1)):=by
      rw [Hid,wrS,hpk,hq12,List.getElem?_eq_getElem hlk2,hcb]; rfl
     have HF1:=aH hF
     have hS0:wr.drew.cell? ⟨rb,0,none⟩=some (.iface 71 (.pointer (some ⟨mb,0,none⟩))):=r0
     have HKP:Hid (∀ W':World,SF mb bb base wr.drew W'→W'.cell? ⟨rb,0,none⟩=some (.iface 71 (.pointer (some ⟨mb,0,none⟩)))):=fun W' hF'=>aU HRK W' (Qf.SF.trans hF (Qf.SF.trans (Qf.SF.of_below (Below.refl _ _).drew) hF'))
     clear hm hF hpk hq12 hcb
     go_wp2_with fail
     go_region_held (fun w'=>w'.cell? ⟨rb,0,none⟩=some (.iface 71 (.pointer (some ⟨mb,0,none⟩)))) (first | assumption | go_keep)
      (first | (go_at_call 155; go_loud (refine (aU HST).mono ?_; rintro e w1 ⟨rfl,hm1,hF1⟩; have hS2:=aU HKP w1 hF1)))
     all_goals
      rw [aU HWN] at hm1
      have HM2:=aH hm1
      have HF2:=aH (Qf.SF.trans (aU HF1) (Qf.SF.trans (Qf.SF.of_below (Below.refl _ _).drew) hF1))
      clear hm1 hF1
      go_wp2_with fail
      refine ⟨⟨_,_,_,_,_,_,_,_,_,_,_,_,_,_,_,_,_,_,_,_,⟨k+1,by go_num,by omega,by have:=aU HM2; rwa [Nat.add_assoc] at this,aU HF2⟩,rfl⟩,by simp [intOf]; omega⟩
    ·have hkl:k=s.length:=by omega
     subst hkl
     have HM2:=aH hm
     have HF2:=aH hF
     clear hm hF
     go_wp2
     refine bodyPost_end (v:=.tuple #[]) (by simp [results,Tryz.results262]) rfl ?_
     exact ⟨rfl,aU HM2,aU HF2⟩
def snB (bs:Str) (ba bu av j:Nat) (s:Str):Str :=
 wrN (wrN (wrN (wrS (wrN bs (bu+1536*j) 0 12) (bu+1536*j+12) s s.length) (ba+(16*j+8)) (12+s.length) 4) (ba+(132+2*(av%8))) j 2) (ba+130) ((av+1)%65536) 2
theorem send_none (rb mb ba bu av us:Nat) (t:TypeId) (out:List Bool) (s:Str) (w:World) (hr:aO w rb t mb ba bu av us out) (hpre : ∀ i,i<8→out[i]? = some true) :
  Calls Tryz.prog 221 #[.pointer (some ⟨rb,0,none⟩),.string (B s)] w fun e w'=>e=.returned (.bool false)∧w'=w:=by
 have HI:=aH (index_none rb mb ba bu av us t out w hr hpre)
 clear hr hpre
 go_enter Tryz.func221,Tryz.ntmps221
 go_wp2_with fail
 refine (aU HI).mono ?_
 rintro e w ⟨rfl,rfl⟩
 go_wp2_with fail
 go_ret
 exact ⟨rfl,rfl⟩
theorem send_ok (rb mb bb base ba bu av us j:Nat) (t:TypeId) (out:List Bool) (wild:Bool) (cnt st:Nat) (bs s:Str) (w:World) (h:Mem w mb bb base bs wild cnt st) (hr:aO w rb t mb ba bu av us out) (hbs:base≤w.heap.size) (hba:ba≤1000) (hbu:bu≤13312) (hav:av<65536) (hol:out.length=8) (hj:j<8) (hpre : ∀ i,i<j→out[i]? = some true) (hat:out[j]? = some false) (hsl:s.length≤1524) (hst:st≤700000) (ht1:t≠3) (ht2:t≠177) (hrm:rb≠mb) (hrb:rb≠bb) :
  Calls Tryz.prog 221 #[.pointer (some ⟨rb,0,none⟩),.string (B s)] w fun e w' =>
   e=.returned (.bool true)∧Mem w' mb bb base (snB bs ba bu av j s) wild cnt (st+20+s.length)∧aO w' rb t mb ba bu ((av+1)%65536) us (out.set j true)∧GF (fun i=>i≠rb∧i≠mb∧i≠bb) base w w':=by
 obtain ⟨hmlt,hblt⟩:=mem_lt h
 have HI:=aH (index_at rb mb ba bu av us j t out w hr hj hpre hat)
 have HW:=aH (write_any rb mb bb base ba bu av us j t out wild cnt st bs s w h hr hbs (by omega) (by omega) (by omega) (by omega) ht1 ht2 hrm hrb)
 have HR:=aH hr
 have sz:(B s).size=s.length:=size_B s
 obtain ⟨p8,hp8⟩ : ∃ p8,p8=16*j+8:=⟨_,rfl⟩
 obtain ⟨l12,hl12⟩ : ∃ l12,l12=12+s.length:=⟨_,rfl⟩
 have k1:(16:Int)*(j:Int)+8=(p8:Int):=by omega
 have k2:(12:Int)+(s.length:Int)=(l12:Int):=by omega
 have hp8l:p8≤120:=by omega
 have hl12l:l12≤1536:=by omega
 have HP8:=aH hp8
 have HL12:=aH hl12
 clear h hr hpre hat hp8 hl12
 go_enter Tryz.func221,Tryz.ntmps221
 go_wp2_with fail
 refine (aU HI).mono ?_
 rintro e w ⟨rfl,rfl⟩
 go_wp2_with fail
 refine (aU HW).mono ?_
 rintro e w1 ⟨rfl,hm1,hF1⟩
 have hR1:=ring_keep (aU HR) (Qf.SF.mf hF1) ht1 ht2 hrm hrb
 have hz1:=hF1.size
 have HST:=aH (rstore_any rb mb bb base ba bu av us p8 4 l12 t out wild cnt (st+12+s.length) _ w1 hm1 hR1 (by omega) (by omega) (by omega) (by omega) (by omega) ht2 hrm hrb)
 have HF1:=aH hF1
 have HR1:=aH hR1
 clear HW HI HR hm1 hF1 hR1
 go_wp2_with fail
 refine (aU HST).mono ?_
 rintro e w4 ⟨rfl,hm4,hF4⟩
 have hR4:=ring_keep (aU HR1) (Qf.SF.mf hF4) ht1 ht2 hrm hrb
 have hz4:=hF4.size
 have hB5:Below w4.heap.size w4 (w4.alloc (.cells #[.int .i64 j] 3)):=(Below.refl _ _).alloc (Nat.le_refl _) _
 have hR5:aO (w4.alloc (.cells #[.int .i64 j] 3)) rb t mb ba bu av us out:=(Below.heap_alloc _ _ _ (aB.lt hR4)).trans hR4
 have hc5:(w4.alloc (.cells #[.int .i64 j] 3)).cell? ⟨w4.heap.size,0,none⟩=some (.int .i64 j):=aB.cell (aB.new w4 [.int .i64 j] 3) 0 (by simp)
 have hrlt:=aB.lt hR4
 have HOF:Hid (Calls Tryz.prog 153 #[.pointer (some ⟨rb,0,none⟩),.slice (some ⟨w4.heap.size,0,none⟩) 1 1] (w4.alloc (.cells #[.int .i64 j] 3)) _) :=
  offer_any rb mb bb base ba bu av us w4.heap.size 1 t out wild cnt (st+12+s.length+4) _ [j] _ _ (mem_below hm4 hB5) hR5 (by simp; omega) hba (by omega) hav hol (fun x hx=>by simp at hx; omega) (by simp) (.inr rfl) (fun e=>by cases e) (fun i hi=>by
   have:i=0:=by simp at hi; omega
   subst this; exact hc5) (fun _=>⟨by simp,by omega,by omega,by omega,fun cur e=>by have:=(World.alloc_heap_new w4 _).symm.trans e; simp at this⟩) ht1 ht2 hrm hrb
 have HF5:=aH ((GF.of_mf (p:=fun i=>i≠rb∧i≠mb∧i≠bb) (Qf.SF.mf (Qf.SF.trans (aU HF1) hF4)) fun i hp=>hp.2).trans (GF.of_below hB5))
 clear HST HR1 HF1 hm4 hF4 hR4 hR5 hc5 hB5
 go_wp2_with fail
 refine (aU HOF).mono ?_
 rintro e w5 ⟨rfl,hm5,hR5,hF5⟩
 have HM6:Hid (Mem w5 mb bb base (snB bs ba bu av j s) wild cnt (st+20+s.length)):=by
  have e1:st+12+s.length+4+2 * [j].length+2=st+20+s.length:=by simp; omega
  rw [e1,aU HP8,aU HL12] at hm5
  exact hm5
 have HR6:Hid (aO w5 rb t mb ba bu ((av+1)%65536) us (out.set j true)):=hR5
 have HF6:=aH ((aU HF5).trans (GF.of_rf hF5 fun i hp=>hp))
 clear HOF hm5 hR5 hF5 HF5
 go_wp2_with fail
 go_ret
 exact ⟨rfl,aU HM6,aU HR6,aU HF6⟩
end Qw
end Go.Proofs.YtkkpahmoljiepaaGreatDoor
