/- Contract: rings' load of a number. -/
import Derived.Test.YtkkpahmoljiepaaGreatDoorJ11
import Derived.Test.YtkkpahmoljiepaaGreatDoorJ12
import Derived.Test.YtkkpahmoljiepaaGreatDoorJ09
import Derived.Deep.RegionLaw
import Derived.Deep.AppendLies
import Derived.Deep.LoopGhost
import Derived.Test.YtkkpahmoljiepaaGreatDoorJ03
import Derived.Maps.AppendAt
set_option linter.unusedSimpArgs false
set_option linter.unusedVariables false
set_option maxRecDepth 1000000
set_option maxHeartbeats 12800000
namespace Go.Proofs.YtkkpahmoljiepaaGreatDoor
open Go.RowKit
open Pu (Str aH aU)
namespace Qh
open Ka Wa Wb Wc Wd We Wf Wg Wh Wi Wj Wk Wl Wm Ha Hb Hc Re Qa Qb Qc Qd Qe Qf Qg
def rdN (bs:Str) (p:Nat):Nat→Nat
 | 0=>0
 | k+1=>rdN bs p k+(bs[p+k]?.getD 0).toNat*2 ^ (8*k)
theorem rdN_lt (bs:Str) (p k:Nat):rdN bs p k<2 ^ (8*k):=by
 induction k with
 | zero=>simp [rdN]
 | succ k ih =>
  rw [rdN,show 8*(k+1)=8*k+8 by omega,Nat.pow_add]
  have:=UInt8.toNat_lt (bs[p+k]?.getD 0)
  have h2:(bs[p+k]?.getD 0).toNat*2 ^ (8*k)≤255*2 ^ (8*k):=Nat.mul_le_mul_right _ (by omega)
  omega
theorem u32_or (x y s:Nat) (hx:x<2 ^ s) (b:Nat) (hy:y=b*2 ^ s) (hz:x+y<4294967296):bits .or .u32 (x:Int) (y:Int)=((x+y:Nat):Int):=by
 show IntKind.u32.wrap ((BitVec.ofInt 32 (x:Int) ||| BitVec.ofInt 32 (y:Int)).toNat:Int)=_
 rw [BitVec.toNat_or,BitVec.ofInt_natCast,BitVec.ofInt_natCast,BitVec.toNat_ofNat,BitVec.toNat_ofNat,Nat.mod_eq_of_lt (by omega),Nat.mod_eq_of_lt (by omega)]
 have e:x ||| y=x+y:=by
  rw [hy,Nat.or_comm,← Nat.shiftLeft_eq b s,← Nat.shiftLeft_add_eq_or_of_lt hx]; omega
 rw [e,IntKind.wrap_u32]; omega
theorem rload_any (rb mb bb base ba bu av us p size:Nat) (t:TypeId) (out:List Bool) (wild:Bool) (cnt st:Nat) (bs:Str) (w:World) (h:Mem w mb bb base bs wild cnt st) (hr:aO w rb t mb ba bu av us out) (hbs:base≤w.heap.size) (hsz:size≤4) (hp:ba+p+size≤25600) (hl:bs.length=25600) (hst:cnt≤900000) (ht1:t≠3) (ht2:t≠177) (hrm:rb≠mb) (hrb:rb≠bb) :
  Calls Tryz.prog 217 #[.pointer (some ⟨rb,0,none⟩),.int .i64 p,.int .i64 size] w fun e w' =>
   e=.returned (.int .u32 (rdN bs (ba+p) size))∧Mem w' mb bb base bs wild (cnt+size) st∧MF mb bb base w w':=by
 have HM:=aH h
 have HR:=aH hr
 clear h hr
 go_enter Tryz.func217,Tryz.ntmps217
 go_wp2_with fail
 go_loopw [7,10] (fun n i wr=>∃ k:Nat,n=.int .u32 (rdN bs (ba+p) k:Nat)∧i=.int .i64 k∧k≤size∧Mem wr mb bb base bs wild (cnt+k) st∧MF mb bb base w wr) (fun _ i _=>size - (intOf i).toNat)
 case atStart=>exact ⟨0,rfl,rfl,Nat.zero_le _,aU HM,Qf.MF.refl _ _ _ _⟩
 case round =>
  obtain ⟨k,rfl,rfl,hk,hm,hF⟩:=hrel
  have HM1:=aH hm
  have HF1:=aH hF
  have hR1:aO wr rb t mb ba bu av us out:=(hF.block rb (aB.lt (aU HR)) hrm hrb (.inr ⟨fun cur e=>ht1 (by have:=(aU HR).symm.trans e; simp at this; exact this.2),fun cur e=>ht2 (by have:=(aU HR).symm.trans e; simp at this; exact this.2)⟩)).trans (aU HR)
  have r0:=aB.cell hR1 0 (by simp)
  have r1:=aB.cell hR1 1 (by simp)
  simp only [List.cons_append,List.getElem_cons_zero,List.getElem_cons_succ] at r0 r1
  have hsz1:=hF.size
  clear hm hF
  by_cases hlk:k<size
  ·have hms:=m_load mb
   have hcf:=cf_load
   obtain ⟨q,hq⟩ : ∃ q,q=ba+p:=⟨_,rfl⟩
   obtain ⟨pk,hpk⟩ : ∃ pk,pk=q+k:=⟨_,rfl⟩
   obtain ⟨k8,hk8⟩ : ∃ k8,k8=8*k:=⟨_,rfl⟩
   have hpl:pk<bs.length:=by omega
   obtain ⟨cb,hcb⟩ : ∃ cb:UInt8,bs[pk]? = some cb:=⟨bs[pk],List.getElem?_eq_getElem hpl⟩
   obtain ⟨b,hb⟩ : ∃ b,b=cb.toNat:=⟨_,rfl⟩
   have hbl:b<256:=by rw [hb]; exact UInt8.toNat_lt cb
   obtain ⟨y,hy⟩ : ∃ y,y=b*2 ^ k8:=⟨_,rfl⟩
   have hx:=rdN_lt bs (ba+p) k
   have HE:Hid (rdN bs (ba+p) (k+1)=rdN bs (ba+p) k+y):=by
    rw [Hid,rdN,hy,hk8,hb,← hq,← hpk,hcb]; rfl
   have hz:=rdN_lt bs (ba+p) (k+1)
   rw [aU HE] at hz
   have hp4:(2:Nat) ^ (8*(k+1))≤2 ^ 32:=Nat.pow_le_pow_right (by omega) (by omega)
   have hz2:rdN bs (ba+p) k+y<4294967296:=by omega
   have e1:IntKind.i64.wrap ((ba:Int)+(p:Int))=(q:Int):=by rw [IntKind.wrap_i64]; omega
   have e2:IntKind.i64.wrap ((q:Int)+(k:Int))=(pk:Int):=by rw [IntKind.wrap_i64]; omega
   have e3:IntKind.i64.wrap (8*(k:Int))=(k8:Int):=by rw [IntKind.wrap_i64]; omega
   have e4:IntKind.u32.wrap (b:Int)=(b:Int):=by rw [IntKind.wrap_u32]; omega
   have e5:IntKind.u32.wrap ((b:Int)*2 ^ min k8 32)=(y:Int):=by
    rw [Nat.min_eq_left (by omega),show (b:Int)*2 ^ k8=(y:Int) by rw [hy]; simp,IntKind.wrap_u32]; omega
   have e6:=u32_or (rdN bs (ba+p) k) y (8*k) hx b (by rw [hy,hk8]) hz2
   rw [← aU HE] at e6
   obtain ⟨z,hz0⟩ : ∃ z,z=rdN bs (ba+p) (k+1):=⟨_,rfl⟩
   have HZ:=aH hz0
   rw [← hz0] at e6
   clear hz0 HE
   generalize rdN bs (ba+p) k=x at *
   have HLD:=aH (mem_load mb bb base pk wild (cnt+k) st bs cb wr.drew (aU HM1) (by show base≤wr.heap.size; omega) hcb (by omega))
   rw [← hb] at HLD
   have hS0:wr.drew.cell? ⟨rb,0,none⟩=some (.iface 71 (.pointer (some ⟨mb,0,none⟩)))∧wr.drew.cell? ⟨rb,1,none⟩=some (.int .i64 ba):=⟨r0,r1⟩
   have HKP:Hid (∀ W':World,MF mb bb base wr.drew W'→W'.cell? ⟨rb,0,none⟩=some (.iface 71 (.pointer (some ⟨mb,0,none⟩)))∧W'.cell? ⟨rb,1,none⟩=some (.int .i64 ba)):=fun W' hF=>by
    have e:W'.heap[rb]? = wr.heap[rb]?:=hF.block rb (aB.lt hR1) hrm hrb (.inr ⟨fun cur e=>ht1 (by have:=hR1.symm.trans e; simp at this; exact this.2),fun cur e=>ht2 (by have:=hR1.symm.trans e; simp at this; exact this.2)⟩)
    exact ⟨(World.cell?_of_block e).trans r0,(World.cell?_of_block e).trans r1⟩
   clear hq hpk hk8 hcb hb hy hx hz hp4 hpl hR1
   go_wp2_with fail
   go_region_held (fun w'=>w'.cell? ⟨rb,0,none⟩=some (.iface 71 (.pointer (some ⟨mb,0,none⟩)))∧w'.cell? ⟨rb,1,none⟩=some (.int .i64 ba)) (first | assumption | go_keep)
    (first | (go_at_call 159; go_loud (refine (aU HLD).mono ?_; rintro e w' ⟨rfl,hm2,hF2⟩; have hS2:=aU HKP w' hF2)))
   all_goals
    have HM2:=aH hm2
    have HF2:=aH (Qf.MF.trans (aU HF1) (Qf.MF.trans (Qf.MF.of_below (Below.refl _ _).drew) hF2))
    clear hm2 hF2
    go_wp2_with fail
    exact ⟨⟨k+1,by rw [aU HZ],by go_num,by omega,by have:=aU HM2; rwa [Nat.add_assoc] at this,aU HF2⟩,by simp [intOf]; omega⟩
  ·have hkl:k=size:=by omega
   subst hkl
   go_wp2
   go_ret
   exact ⟨rfl,aU HM1,aU HF1⟩
end Qh
namespace Qp
open Ka Wa Wb Wc Wd We Wf Wg Wh Wi Wj Wk Wl Wm Ha Hb Hc Re Qa Qb Qc Qd Qe Qf Qg Qh Qi Qj Qk Ql Qm Qn Qo
theorem fresh_any (rb mb bb base ba bu av us n:Nat) (t:TypeId) (o0 o1 o2 o3 o4 o5 o6 o7:Bool) (wild:Bool) (cnt st:Nat) (bs:Str) (w:World) (h:Mem w mb bb base bs wild cnt st) (hr:aO w rb t mb ba bu av us [o0,o1,o2,o3,o4,o5,o6,o7]) (hbs:base≤w.heap.size) (hba:ba≤1000) (hl:bs.length=25600) (hcnt:cnt≤900000) (hus:us<65536) (hn:n=(rdN bs (ba+258) 2+65536 - us)%65536) (ht1:t≠3) (ht2:t≠177) (hrm:rb≠mb) (hrb:rb≠bb) :
  Calls Tryz.prog 215 #[.pointer (some ⟨rb,0,none⟩)] w fun e w'=>e=.returned (.tuple #[.int .i64 n,.bool (decide ((n:Int)≤(cOut [o0,o1,o2,o3,o4,o5,o6,o7]:Nat)))])∧Mem w' mb bb base bs wild (cnt+2) st∧MF mb bb base w w':=by
 have hx:=rdN_lt bs (ba+258) 2
 have HL:Hid (Calls Tryz.prog 217 #[.pointer (some ⟨rb,0,none⟩),.int .i64 258,.int .i64 2] w.drew _):=rload_any rb mb bb base ba bu av us 258 2 t _ wild cnt st bs w.drew h hr hbs (by omega) (by omega) hl hcnt ht1 ht2 hrm hrb
 generalize rdN bs (ba+258) 2=x at *
 have e1:IntKind.u16.wrap (x:Int)=(x:Int):=by rw [IntKind.wrap_u16]; omega
 have e2:IntKind.u16.wrap ((x:Int) - (us:Int))=(n:Int):=by rw [IntKind.wrap_u16]; omega
 have c4:=aB.cell hr 4 (by simp)
 simp only [List.cons_append,List.getElem_cons_zero,List.getElem_cons_succ] at c4
 have hS0:w.drew.cell? ⟨rb,4,none⟩=some (.int .u16 us):=c4
 have HR:=aH hr
 have hnb:n<65536:=by omega
 have e5:IntKind.i64.wrap (n:Int)=(n:Int):=by rw [IntKind.wrap_i64]; omega
 clear h hr hn
 go_enter Tryz.func215,Tryz.ntmps215
 go_wp2_with fail
 go_region_held (fun w'=>w'.cell? ⟨rb,4,none⟩=some (.int .u16 us)) (first | assumption | go_keep)
  (first | (go_at_call 217; go_loud (refine (aU HL).mono ?_; rintro e w1 ⟨rfl,hm1,hF1⟩; have hR1:=ring_keep (w:=w.drew) (aU HR) hF1 ht1 ht2 hrm hrb; have hS1:w1.cell? ⟨rb,4,none⟩=some (.int .u16 us):=aB.cell hR1 4 (by simp))))
 all_goals
  have HC:=aH (countOut_any rb mb ba bu av us t o0 o1 o2 o3 o4 o5 o6 o7 w1 hR1)
  have HM1:=aH hm1
  have HF1:=aH (Qf.MF.trans (Qf.MF.of_below (Below.refl _ _).drew) hF1)
  clear hm1 hF1 hR1
  go_wp2_with fail
  refine (aU HC).mono ?_
  rintro e w1 ⟨rfl,rfl⟩
  go_wp2_with fail
  refine bodyPost_ret (v:=.tuple #[.int .i64 n,.bool (decide ((n:Int)≤(cOut [o0,o1,o2,o3,o4,o5,o6,o7]:Nat)))]) ?_ rfl ?_
  ·simp [results,Tryz.results215,go_sem,e5]
  ·exact ⟨rfl,aU HM1,aU HF1⟩
end Qp
namespace Qr
open Qg Qh
theorem wrN_get (bs:Str) (p v k i:Nat) (h:i<p∨p+k≤i):(wrN bs p v k)[i]? = bs[i]?:=by
 induction k with
 | zero=>rfl
 | succ k ih=>rw [wrN,List.getElem?_set_ne (by omega),ih (by omega)]
theorem rdN_congr {a b:Str} {p:Nat} : ∀ k,(∀ i,p≤i→i<p+k→a[i]? = b[i]?)→rdN a p k=rdN b p k
 | 0,_=>rfl
 | k+1,h=>by rw [rdN,rdN,rdN_congr k (fun i h1 h2=>h i h1 (by omega)),h (p+k) (by omega) (by omega)]
theorem rdN_wrN (bs:Str) (p v:Nat) : ∀ k,p+k≤bs.length→rdN (wrN bs p v k) p k=v%2 ^ (8*k)
 | 0,_=>by simp [rdN,Nat.mod_one]
 | k+1,h=>by
  rw [rdN,rdN_congr (b:=wrN bs p v k) k (fun i h1 h2=>by rw [wrN,List.getElem?_set_ne (by omega)]),rdN_wrN bs p v k (by omega)]
  rw [wrN,List.getElem?_set_self (by rw [aT]; omega)]
  simp only [Option.getD_some,UInt8.toNat_ofNat']
  rw [show 8*(k+1)=8*k+8 by omega,Nat.pow_add,Nat.mod_mul,Nat.mul_comm (2 ^ (8*k)) (v/2 ^ (8*k)%2 ^ 8)]
theorem aR (bs:Str) (p v k q l:Nat) (h:q+l≤p∨p+k≤q):rdN (wrN bs p v k) q l=rdN bs q l :=
 rdN_congr l fun i h1 h2=>wrN_get bs p v k i (by omega)
def wrS (bs:Str) (p:Nat) (s:Str):Nat→Str
 | 0=>bs
 | k+1=>(wrS bs p s k).set (p+k) (s[k]?.getD 0)
theorem wrS_len (bs:Str) (p:Nat) (s:Str) (k:Nat):(wrS bs p s k).length=bs.length:=by
 induction k with
 | zero=>rfl
 | succ k ih=>rw [wrS,List.length_set,ih]
theorem wrS_get (bs:Str) (p:Nat) (s:Str) (k i:Nat) (h:i<p∨p+k≤i):(wrS bs p s k)[i]? = bs[i]?:=by
 induction k with
 | zero=>rfl
 | succ k ih=>rw [wrS,List.getElem?_set_ne (by omega),ih (by omega)]
theorem wrS_at (bs:Str) (p:Nat) (s:Str) (k i:Nat) (h:i<k) (hl:p+k≤bs.length):(wrS bs p s k)[p+i]? = some (s[i]?.getD 0):=by
 induction k with
 | zero=>omega
 | succ k ih =>
  rw [wrS]
  by_cases hi:i=k
  ·subst hi; rw [List.getElem?_set_self (by rw [wrS_len]; omega)]
  ·rw [List.getElem?_set_ne (by omega),ih (by omega) (by omega)]
def LiesB (bs:Str) (p:Nat) (s:Str):Prop:=∀ i,i<s.length→bs[p+i]? = s[i]?
theorem lies_wrS (bs:Str) (p:Nat) (s:Str) (hl:p+s.length≤bs.length):LiesB (wrS bs p s s.length) p s:=fun i hi=>by
 rw [wrS_at bs p s _ i hi hl]; simp [List.getElem?_eq_getElem hi]
theorem lies_congr {a b:Str} {p:Nat} {s:Str} (h:LiesB a p s) (hc : ∀ i,p≤i→i<p+s.length→b[i]? = a[i]?):LiesB b p s:=fun i hi=>(hc (p+i) (by omega) (by omega)).trans (h i hi)
def nxB (bs:Str) (ba av id:Nat):Str:=wrN (wrN bs (ba+(132+2*(av%8))) id 2) (ba+130) ((av+1)%65536) 2
end Qr
structure GF (p:Nat→Prop) (base:Nat) (A B:World):Prop where
 os:B.os=A.os
 tape:B.tape=A.tape
 output:B.output=A.output
 size:A.heap.size≤B.heap.size
 block : ∀ i,i<A.heap.size→p i→(i<base∨((∀ cur,A.heap[i]?≠some (.cells cur 3 (0,0)))∧∀ cur,A.heap[i]?≠some (.cells cur 177 (0,0))))→B.heap[i]? = A.heap[i]?
open Ka Wa Wb Wc Wd We Wf Wg Wh Wi Wj Wk Wl Wm Ha Hb Hc Re Qa Qb Qc Qd Qe Qf Qg Qh Qi Qj Qk Ql Qm Qn
section
variable {p q:Nat→Prop} {base mb bb rb:Nat} {A B C:World}
theorem GF.trans (h:GF p base A B) (k:GF p base B C):GF p base A C :=
 ⟨k.os.trans h.os,k.tape.trans h.tape,k.output.trans h.output,Nat.le_trans h.size k.size,fun i hi h1 hp=>by
  have e:=h.block i hi h1 hp
  refine (k.block i (Nat.lt_of_lt_of_le hi h.size) h1 ?_).trans e
  rw [e]; exact hp⟩
theorem GF.mono (h:GF p base A B) (hq : ∀ i,q i→p i):GF q base A B:=⟨h.os,h.tape,h.output,h.size,fun i hi h1 hp=>h.block i hi (hq i h1) hp⟩
theorem GF.of_mf (h:MF mb bb base A B) (hp : ∀ i,p i→i≠mb∧i≠bb):GF p base A B:=⟨h.os,h.tape,h.output,h.size,fun i hi h1 hq=>h.block i hi (hp i h1).1 (hp i h1).2 hq⟩
theorem GF.of_rf (h:RF rb mb bb base A B) (hp : ∀ i,p i→i≠rb∧i≠mb∧i≠bb):GF p base A B:=⟨h.os,h.tape,h.output,h.size,fun i hi h1 hq=>h.block i hi (hp i h1).1 (hp i h1).2.1 (hp i h1).2.2 (hq.imp id And.right)⟩
theorem GF.of_below (h:Below A.heap.size A B):GF p base A B:=⟨h.os,h.tape,h.output,h.size,fun i hi _ _=>h.block i hi⟩
theorem GF.of_keeps (h:It.Keeps rb A B) (hs:A.heap.size≤B.heap.size) (hp : ∀ i,p i→i≠rb):GF p base A B:=⟨h.os,h.tape,h.output,hs,fun i hi h1 _=>h.block i hi (hp i h1)⟩
theorem GF.of_set (A:World) (o:Nat) (v:Value) (hp : ∀ i,p i→i≠rb):GF p base A (A.setCell ⟨rb,o,none⟩ v):=⟨rfl,rfl,rfl,by simp [World.setCell],fun i _ h1 _=>Below.heap_setCell _ _ _ _ (hp i h1)⟩
theorem GF.blk {b:Nat} {cs:List Value} {t:TypeId} (h:GF p base A B) (hb:aB A b cs t) (hp:p b) (ht1:t≠3) (ht2:t≠177):aB B b cs t :=
 (h.block b hb.lt hp (.inr ⟨fun cur e=>ht1 (by have:=hb.symm.trans e; simp at this; exact this.2),fun cur e=>ht2 (by have:=hb.symm.trans e; simp at this; exact this.2)⟩)).trans hb
end
namespace Qq
end Qq
def Seen (w:World) (mb bb:Nat) (bs:Str):Prop:=w.cell? ⟨mb,0,none⟩=some (.slice (some ⟨bb,0,none⟩) 25600 25600)∧RowB w bb bs
namespace Qs
open Ka Wa Wb Wc Wd We Wf Wg Wh Wi Wj Wk Wl Wm Ha Hb Hc Re Qa Qb Qc Qd Qe Qf Qg Qh Qr
theorem mem_seen {w:World} {mb bb base:Nat} {bs:Str} {wild:Bool} {cnt st:Nat} (h:Mem w mb bb base bs wild cnt st):Seen w mb bb bs:=by
 obtain ⟨fg,vl,vm,ns,hm,hr,_⟩:=h
 exact ⟨aF.at0 hm,hr⟩
theorem mem_ne {w:World} {mb bb base:Nat} {bs:Str} {wild:Bool} {cnt st:Nat} (h:Mem w mb bb base bs wild cnt st):mb≠bb:=by
 obtain ⟨fg,vl,vm,ns,hm,hr,_⟩:=h
 exact blk_ne hm hr.2 (by decide)
theorem mem_row {w w':World} {mb bb base:Nat} {bs bs':Str} {wild:Bool} {cnt st:Nat} (h:Mem w mb bb base bs wild cnt st) (hr':RowB w' bb bs') (hk:It.Keeps bb w w'):Mem w' mb bb base bs' wild cnt st:=by
 obtain ⟨fg,vl,vm,ns,hm,hr,ho,hl,ms,hms,hml⟩:=h
 exact ⟨fg,vl,vm,ns,aF.of hm (hk.block mb (aF.lt hm) (blk_ne hm hr.2 (by decide))),hr',own_keep ho fun g hg=>hk.block g (own_lt ho hg) (fun e=>own_ne hr.2 ho (by decide) (by rw [hg,e])),hl,ms,own_keep hms fun g hg=>hk.block g (own_lt hms hg) (fun e=>own_ne hr.2 hms (by decide) (by rw [hg,e])),hml⟩
theorem rdN_le (bs:Str) (p:Nat) : ∀ {k l:Nat},k≤l→rdN bs p k≤rdN bs p l
 | k,l,h=>by
  induction l with
  | zero=>rw [Nat.le_zero.1 h]; exact Nat.le_refl _
  | succ l ih =>
   by_cases e:k=l+1
   ·rw [e]; exact Nat.le_refl _
   ·have:=ih (by omega); rw [rdN]; omega
end Qs
namespace Qt
open Ka Wa Wb Wc Wd We Wf Wg Wh Wi Wj Wk Wl Wm Ha Hb Hc Re Qa Qb Qc Qd Qe Qf Qg Qh Qr Qs
def New (w:World) (mb bb:Nat) (bs:Str):Prop:=aF w mb bb (.slice none 0 0) (.slice none 0 0) false 0 false false false 0∧RowB w bb bs
theorem new_memx {w:World} {mb bb:Nat} {bs:Str} (h:New w mb bb bs) (base:Nat):MemX w mb bb base bs false 0 0 (false,false,false) :=
 ⟨_,_,[],h.1,h.2,⟨rfl,.inl ⟨rfl,rfl⟩⟩,Nat.le_refl _,[],⟨rfl,.inl ⟨rfl,rfl⟩⟩,Nat.le_refl _⟩
theorem new_mem {w:World} {mb bb:Nat} {bs:Str} (h:New w mb bb bs) (base:Nat):Mem w mb bb base bs false 0 0:=⟨_,new_memx h base⟩
theorem zeros (n:Nat):madeCells (Value.int .u8 0).cells n=((List.replicate n (0:UInt8)).map fun c=>Value.int .u8 c.toNat).toArray:=by
 apply Array.ext'
 simp only [madeCells,Value.cells,Array.toList_map,Array.toList_range]
 apply List.ext_getElem
 ·simp
 ·intro i h1 h2
  simp [Nat.mod_one]
end Qt
namespace Be
open Ka Wa Wb Wc Wd We Wf Wg Wh Wi Wj Wk Wl Wm Ha Hb Hc Re Qa Qb Qc Qd Qe Qf Qg Qh Qr Qs Qt
def frN (sd:Str):Nat→Str
 | 0=>List.replicate 25600 0
 | k+1=>(frN sd k).set k (sd.getD (k%sd.length) 0)
def frB (sd:Str):Str:=if sd = [] then List.replicate 25600 0 else frN sd 25600
theorem fresh_x (sb cap n:Nat) (sd:Str) (w:World) (hn:sd.length=n) (hn0:0<n) (hnb:n≤9223372036854775807) (hsd:BytesAt w sb sd) :
  Calls Tryz.prog 42 #[.slice (some ⟨sb,0,none⟩) n cap] w fun e w'=>e=.returned (.pointer (some ⟨w.heap.size+1,0,none⟩))∧New w' (w.heap.size+1) w.heap.size (frN sd 25600)∧Below w.heap.size w w':=by
 have hsb:=hsd.1
 have hz:List.replicate 25600 0=frN sd 0:=rfl
 have HE:Hid (∀ j,sd.getD (j%sd.length) 0=sd.getD (j%n) 0):=fun j=>by rw [hn]
 obtain ⟨L,hL⟩ : ∃ L:Nat,L=25600:=⟨_,rfl⟩
 have hLb:(L:Int)≤1000000:=by omega
 have HLL:=aH hL
 clear hL
 obtain ⟨i0,hi,hz0,hz1,hz2⟩:=info_parts infoB
 have km:(Instr.makeSlice 58 (.int .i64 25600) (.int .i64 25600)).run Tryz.prog w=.ok (.slice (some ⟨w.heap.size,0,none⟩) 25600 25600) (w.alloc (.cells (madeCells (Value.int .u8 0).cells 25600) 5)):=by
  have:=run_make (P:=Tryz.prog) w 58 5 i0 (.int .u8 0) underB hi hz0 .i64 .i64 25600 25600 (by omega) (Int.le_refl _) (by rw [hz2]; omega) (by omega)
  rw [hz1] at this
  exact this
 obtain ⟨w1,hw1⟩ : ∃ w1,w1=w.alloc (.cells (madeCells (Value.int .u8 0).cells 25600) 5):=⟨_,rfl⟩
 have HR1:Hid (RowB w1 w.heap.size (List.replicate 25600 0)):=by
  refine ⟨by simp,?_⟩
  rw [hw1,zeros]
  exact aB.new _ _ _
 have hs1:w1.heap.size=w.heap.size+1:=by rw [hw1]; simp
 have HB1:Hid (Below w.heap.size w w1):=by rw [Hid,hw1]; exact (Below.refl _ _).alloc (Nat.le_refl _) _
 rw [← hw1] at km
 have HH:Hid (∀ j,j<n→w.cell? ⟨sb,j,none⟩=some (.int .u8 (sd.getD j 0).toNat)):=fun j hj=>by
  have hj':j<sd.length:=by omega
  rw [hsd.2.1 j hj',List.getD_eq_getElem?_getD,List.getElem?_eq_getElem hj']; rfl
 rw [hz] at HR1
 have hM0:aF (w1.alloc (.cells #[.slice (some ⟨w.heap.size,0,none⟩) 25600 25600,.slice none 0 0,.bool false,.slice none 0 0,.int .i64 0,.slice none 0 0,.bool false,.bool false,.bool false,.int .i64 0] 84)) (w.heap.size+1) w.heap.size (.slice none 0 0) (.slice none 0 0) false 0 false false false 0:=by
  have:=aB.new w1 [.slice (some ⟨w.heap.size,0,none⟩) 25600 25600,.slice none 0 0,.bool false,.slice none 0 0,.int .i64 (0:Nat),.slice none 0 0,.bool false,.bool false,.bool false,.int .i64 (0:Nat)] 84
  rw [hs1] at this
  exact this
 have HM0:=aH hM0
 have HR0:=aH (RowB.of (aU HR1) (Below.heap_alloc w1 (.cells #[.slice (some ⟨w.heap.size,0,none⟩) 25600 25600,.slice none 0 0,.bool false,.slice none 0 0,.int .i64 0,.slice none 0 0,.bool false,.bool false,.bool false,.int .i64 0] 84) _ (by omega)))
 have HB0:=aH ((aU HB1).alloc (by omega) (.cells #[.slice (some ⟨w.heap.size,0,none⟩) 25600 25600,.slice none 0 0,.bool false,.slice none 0 0,.int .i64 0,.slice none 0 0,.bool false,.bool false,.bool false,.int .i64 0] 84))
 clear hi hz0 hz1 hz2 hsd hM0 hw1 HR1 HB1 hz hn
 go_enter Tryz.func42,Tryz.ntmps42
 go_wp2_with fail
 try simp only [hs1]
 go_loopw [4] (fun i wr=>∃ k:Nat,i=.int .i64 k∧k≤L∧aF wr (w.heap.size+1) w.heap.size (.slice none 0 0) (.slice none 0 0) false 0 false false false 0∧RowB wr w.heap.size (frN sd k)∧Below w.heap.size w wr) (fun i _=>L - (intOf i).toNat)
 case atStart=>exact ⟨0,rfl,Nat.zero_le _,aU HM0,aU HR0,aU HB0⟩
 case round =>
  obtain ⟨k,rfl,hk,hm,hr,hB⟩:=hrel
  have a0:=aF.at0 hm
  have HM:=aH hm
  have HR:=aH hr
  have HB:=aH hB
  rw [← aU HLL] at a0
  by_cases hlk:k<L
  ·obtain ⟨r,hr3⟩ : ∃ r,r=k%n:=⟨_,rfl⟩
   have hr3l:r<n:=by rw [hr3]; exact Nat.mod_lt _ hn0
   have e1:(k:Int).tmod n=(r:Int):=by rw [Int.tmod_eq_emod_of_nonneg (by omega),hr3]; exact (Int.natCast_emod k n).symm
   have e2:(k:Int)%n=(r:Int):=by rw [hr3]; exact (Int.natCast_emod k n).symm
   have hc:=aU HH r hr3l
   have HFN:Hid ((frN sd k).set k (sd.getD r 0)=frN sd (k+1)):=by rw [Hid,frN,aU HE k,hr3]
   generalize sd.getD r 0=c at *
   have hn0I:(0:Int)<(n:Int):=by omega
   have hnz : ¬ (n:Int)=0:=by omega
   have hrI:(r:Int)<(n:Int):=by omega
   have hc':wr.cell? ⟨sb,r,none⟩=some (.int .u8 c.toNat):=(hB.cell (p:=⟨sb,r,none⟩) hsb).trans hc
   obtain ⟨v0,hv0⟩ : ∃ v0,wr.cell? ⟨w.heap.size,k,none⟩=some v0:=⟨_,hr.2.cell k (by simp; rw [hr.1,← aU HLL]; exact hlk)⟩
   have hf : ∀ i,wr.frozen? ⟨w.heap.size,i,none⟩=false:=fun i=>hr.2.frozen i
   have HR2:Hid (RowB (wr.drew.setCell ⟨w.heap.size,k,none⟩ (.int .u8 c.toNat)) w.heap.size (frN sd (k+1))):=by rw [← aU HFN]; exact RowB.set hr k c
   have HM2:Hid (aF (wr.drew.setCell ⟨w.heap.size,k,none⟩ (.int .u8 c.toNat)) (w.heap.size+1) w.heap.size (.slice none 0 0) (.slice none 0 0) false 0 false false false 0):=aF.of (w:=wr) hm (Below.heap_setCell _ _ _ _ (by simp))
   have HB2:=aH ((hB.drew).setCell (p:=⟨w.heap.size,k,none⟩) (Nat.le_refl _) (.int .u8 c.toNat))
   have hkI:(k:Int)<(L:Int):=by omega
   obtain ⟨k1,hk1⟩ : ∃ k1,k1=k+1:=⟨_,rfl⟩
   have kk1:IntKind.i64.wrap ((k:Int)+1)=(k1:Int):=by rw [IntKind.wrap_i64]; omega
   have HK1:=aH hk1
   have hS0:wr.drew.cell? ⟨w.heap.size+1,0,none⟩=some (.slice (some ⟨w.heap.size,0,none⟩) L L)∧wr.drew.cell? ⟨sb,r,none⟩=some (.int .u8 c.toNat):=⟨a0,hc'⟩
   have hne1:sb≠w.heap.size:=by omega
   clear hm hr hB hr3 hk hk1
   go_wp2_with fail
   go_region
   all_goals
    go_wp2_with fail
    exact ⟨⟨k+1,by rw [← aU HK1],by omega,aU HM2,aU HR2,aU HB2⟩,by have:=aU HK1; simp [intOf]; omega⟩
  ·have hkl:k=L:=by omega
   have HLK:Hid (k=25600):=hkl.trans (aU HLL)
   subst hkl
   have hkI : ¬ (k:Int)<(k:Int):=by omega
   clear hm hr hB hlk hk
   go_wp2
   go_ret
   have hr2:=aU HR
   rw [aU HLK] at hr2
   exact ⟨rfl,⟨aU HM,hr2⟩,aU HB⟩
theorem fresh_none (adr:Option Addr) (cap:Nat) (w:World) :
  Calls Tryz.prog 42 #[.slice adr 0 cap] w fun e w'=>e=.returned (.pointer (some ⟨w.heap.size+1,0,none⟩))∧New w' (w.heap.size+1) w.heap.size (List.replicate 25600 0)∧Below w.heap.size w w':=by
 obtain ⟨L,hL⟩ : ∃ L:Nat,L=25600:=⟨_,rfl⟩
 have hLb:(L:Int)≤1000000:=by omega
 have HLL:=aH hL
 clear hL
 obtain ⟨i0,hi,hz0,hz1,hz2⟩:=info_parts infoB
 have km:(Instr.makeSlice 58 (.int .i64 25600) (.int .i64 25600)).run Tryz.prog w=.ok (.slice (some ⟨w.heap.size,0,none⟩) 25600 25600) (w.alloc (.cells (madeCells (Value.int .u8 0).cells 25600) 5)):=by
  have:=run_make (P:=Tryz.prog) w 58 5 i0 (.int .u8 0) underB hi hz0 .i64 .i64 25600 25600 (by omega) (Int.le_refl _) (by rw [hz2]; omega) (by omega)
  rw [hz1] at this
  exact this
 obtain ⟨w1,hw1⟩ : ∃ w1,w1=w.alloc (.cells (madeCells (Value.int .u8 0).cells 25600) 5):=⟨_,rfl⟩
 have HR1:Hid (RowB w1 w.heap.size (List.replicate 25600 0)):=by
  refine ⟨by simp,?_⟩
  rw [hw1,zeros]
  exact aB.new _ _ _
 have hs1:w1.heap.size=w.heap.size+1:=by rw [hw1]; simp
 have HB1:Hid (Below w.heap.size w w1):=by rw [Hid,hw1]; exact (Below.refl _ _).alloc (Nat.le_refl _) _
 rw [← hw1] at km
 have hM0:aF (w1.alloc (.cells #[.slice (some ⟨w.heap.size,0,none⟩) 25600 25600,.slice none 0 0,.bool false,.slice none 0 0,.int .i64 0,.slice none 0 0,.bool false,.bool false,.bool false,.int .i64 0] 84)) (w.heap.size+1) w.heap.size (.slice none 0 0) (.slice none 0 0) false 0 false false false 0:=by
  have:=aB.new w1 [.slice (some ⟨w.heap.size,0,none⟩) 25600 25600,.slice none 0 0,.bool false,.slice none 0 0,.int .i64 (0:Nat),.slice none 0 0,.bool false,.bool false,.bool false,.int .i64 (0:Nat)] 84
  rw [hs1] at this
  exact this
 have HM0:=aH hM0
 have HR0:=aH (RowB.of (aU HR1) (Below.heap_alloc w1 (.cells #[.slice (some ⟨w.heap.size,0,none⟩) 25600 25600,.slice none 0 0,.bool false,.slice none 0 0,.int .i64 0,.slice none 0 0,.bool false,.bool false,.bool false,.int .i64 0] 84) _ (by omega)))
 have HB0:=aH ((aU HB1).alloc (by omega) (.cells #[.slice (some ⟨w.heap.size,0,none⟩) 25600 25600,.slice none 0 0,.bool false,.slice none 0 0,.int .i64 0,.slice none 0 0,.bool false,.bool false,.bool false,.int .i64 0] 84))
 clear hi hz0 hz1 hz2 hw1 HR1 HB1
 have a0:=aF.at0 hM0
 clear hM0
 go_enter Tryz.func42,Tryz.ntmps42
 go_wp2_with fail
 try simp only [hs1]
 refine wp_loop_rounds 1 ?_
 rw [rounds_succ]
 go_wp2
 go_ret
 exact ⟨rfl,⟨aU HM0,aU HR0⟩,aU HB0⟩
end Be
namespace Lm
open Ka Kd Rf Rg Ia Iow Ie Zb Zc Za La Lb Re Lc Le Lf Lg Lh Li Ld Lj
end Lm
namespace Ln
open Ka Kd Rf Rg Ia Iow Ie Zb Zc Za La Lb Re Lc Le Lf Lg Lh Li Ld Lj Lm
end Ln
namespace Lo
open Ka Kd Rf Rg Ia Iow Ie Zb Zc Za La Lb Re Lc Le Lf Lg Lh Li Ld Lj Lm Ln
end Lo
namespace Lp
open Ka Kd Rf Rg Ia Iow Ie Zb Zc Za La Lb Re Lc Le Lf Lg Lh
end Lp
namespace Ls
open Ka Kd Rf Rg Ia Iow Ie Zb Zc Za La Lb Re Lc Le Lf Lg Lh Li Ld Lj Lm Ln Lp
end Ls
namespace Ea
open Ka Re Wa Wb
def At (c:UInt8) (s:Str) (i f:Nat) (L:List Str):Prop:=(i≤s.length∧f≤i∧c ∉ (s.drop f).take (i - f)∧Sp.spl c s=L++Sp.spl c (s.drop f))∨(i=s.length+1∧L=Sp.spl c s)
section
variable {c:UInt8} {s:Str} {i f:Nat} {L:List Str}
theorem At.piece (h:At c s i f L) (hi:i≤s.length):f≤i∧c ∉ (s.drop f).take (i - f)∧Sp.spl c s=L++Sp.spl c (s.drop f):=by
 rcases h with h | h
 ·exact h.2
 ·omega
theorem at_end (h:At c s s.length f L):At c s (s.length+1) (s.length+1) (L++[(s.drop f).take (s.length - f)]):=by
 obtain ⟨h1,h2,h3⟩:=h.piece (Nat.le_refl _)
 have e:(s.drop f).take (s.length - f)=s.drop f:=List.take_of_length_le (by simp)
 rw [e] at h2 ⊢
 exact .inr ⟨rfl,by rw [h3,Sp.spl_none c _ h2]⟩
theorem at_hit (h:At c s i f L) (hi:i<s.length) (hc:s[i]=c):At c s (i+1) (i+1) (L++[(s.drop f).take (i - f)]):=by
 obtain ⟨h1,h2,h3⟩:=h.piece (by omega)
 refine .inl ⟨by omega,Nat.le_refl _,by simp,?_⟩
 have e:s.drop f=(s.drop f).take (i - f)++c :: s.drop (i+1):=by
  have:=(List.take_append_drop (i - f) (s.drop f)).symm
  rw [List.drop_drop,show f+(i - f)=i by omega,List.drop_eq_getElem_cons hi,hc] at this
  exact this
 rw [h3]
 conv=>lhs; rw [e,Sp.spl_some c _ _ h2]
 simp
theorem at_miss (h:At c s i f L) (hi:i<s.length) (hc:s[i]≠c):At c s (i+1) f L:=by
 obtain ⟨h1,h2,h3⟩:=h.piece (by omega)
 refine .inl ⟨by omega,by omega,?_,h3⟩
 have e:(s.drop f).take (i+1 - f)=(s.drop f).take (i - f)++[s[i]]:=by
  rw [show i+1 - f=i - f+1 by omega,List.take_succ_eq_append_getElem (by simp; omega),List.getElem_drop]
  simp only [show f+(i - f)=i by omega]
 rw [e,List.mem_append]
 rintro (h | h)
 ·exact h2 h
 ·simp at h; exact hc h.symm
end
theorem B_part (s:Str) (i j:Nat):(B s).extract i j=B ((s.drop i).take (j - i)):=by
 have ext : ∀ {a b:ByteArray},a.data=b.data→a=b:=fun {a b} h=>by cases a; cases b; exact congrArg _ h
 apply ext
 apply Array.ext'
 simp [B,ByteArray.data_extract,List.extract_eq_take_drop]
theorem split_any (s:Str) (c:UInt8) (w:World) (hl:s.length≤2000000) :
  Calls Tryz.prog 62 #[.string (B s),.int .u8 c.toNat] w fun e w'=>(∃ v,e=.returned v∧StrsOwn w' w.heap.size v (Sp.spl c s))∧Below w.heap.size w w':=by
 obtain ⟨i0,hi0,hz0,hz1,hz2⟩:=info_parts infoS
 have hs:(B s).size=s.length:=size_B s
 go_enter Tryz.func62,Tryz.ntmps62
 go_wp2_with fail
 go_loopw [5,6,7] (fun v vf vi wr=>∃ (i f:Nat) (L:List Str),vi=.int .i64 i∧vf=.int .i64 f∧i≤s.length+1∧f≤s.length+1∧L.length≤i∧At c s i f L∧wr.ownsRow w.heap.size 9 1 v L.length (L.map fun l=>.string (B l))∧(v=.slice none 0 0 ↔ L = [])∧Below w.heap.size w wr) (fun _ _ i _=>s.length+1 - (intOf i).toNat)
 case atStart=>exact ⟨0,0,[],rfl,rfl,by omega,by omega,by simp,.inl ⟨by omega,by omega,by simp,rfl⟩,World.ownsRow_nil _ _ _ _,by simp,Below.refl _ _⟩
 case round =>
  obtain ⟨i,f,L,rfl,rfl,hi,hf,hLi,hat,hown,hnil,hb⟩:=hrel
  have HAT:=aH hat
  have HO:=aH (And.intro hown (And.intro hnil hb))
  have hbs:=hb.size
  clear hat hown hnil hb
  by_cases hlt:i≤s.length
  ·have hltI:(i:Int)≤(s.length:Int):=by omega
   obtain ⟨h1,_,_⟩:=(aU HAT).piece hlt
   have HX:=aH (B_part s f i)
   by_cases he:i=s.length
   ·have heI:((i:Int) == (s.length:Int))=true:=by rw [beq_iff_eq]; omega
    have HE:=aH he
    clear he
    go_wp2_with (at_builtin; go_loud (refine wpList_append_own_at _ rfl (.tmp 25) (.tmp 30) 49 rfl w.heap.size 9 i0 (.string ⟨#[]⟩) 1 16 underS hi0 hz0 hz1 hz2 rfl (by decide) _ L.length _ rfl ((aU HO).1.alloc _) ⟨wr.heap.size,0,none⟩ 1 1 [.string ((B s).extract f i)] rfl rfl (cell_one_new _ _ _) (fun u hu=>by simp at hu; subst hu; rfl) (by unfold maxLen; omega) (by omega) (by simp; omega) ?_))
    intro v' w3 hown' hgrow hnil' _
    have HO3:Hid (w3.ownsRow w.heap.size 9 1 v' (L++[(s.drop f).take (i - f)]).length ((L++[(s.drop f).take (i - f)]).map fun l=>.string (B l))∧(v'=.slice none 0 0 ↔ L++[(s.drop f).take (i - f)] = [])∧Below w.heap.size w w3):=by
     rw [Hid,List.length_append,List.map_append]
     refine ⟨by rw [aU HX] at hown'; exact hown',⟨fun h=>absurd h (by simpa using hnil'),fun h=>by simp at h⟩,?_⟩
     have hB:=(aU HO).2.2
     exact (hB.alloc hbs _).trans ⟨hgrow.os,hgrow.tape,hgrow.output,hgrow.size,fun k hk=>hgrow.block k (by simp; omega) (fun e=>by have:=(World.ownsRow.lt (aU HO).1 k e.symm).1; omega)⟩
    clear hown' hgrow hnil'
    go_wp2_with fail
    obtain ⟨k1,k2,k3⟩:=aU HO3
    exact ⟨⟨i+1,i+1,_,by go_num,by go_num,by omega,by omega,by simp; omega,by have h:=aU HAT; rw [aU HE] at h ⊢; exact at_end h,k1,k2,k3⟩,by simp [intOf]; omega⟩
   ·have heI:((i:Int) == (s.length:Int))=false:=by rw [beq_eq_false_iff_ne]; omega
    have hlt2:i<s.length:=by omega
    obtain ⟨x,hx⟩ : ∃ x,x=s[i]:=⟨_,rfl⟩
    have g1 : ∀ h:i<(B s).size,(B s)[i]=x:=fun h=>hx.symm
    have HXX:=aH hx
    clear he hx
    by_cases hc:x=c
    ·have hcI:((x.toNat:Int) == (c.toNat:Int))=true:=by rw [hc]; simp
     have HC:=aH hc
     clear hc
     go_wp2_with (at_builtin; go_loud (refine wpList_append_own_at _ rfl (.tmp 25) (.tmp 30) 49 rfl w.heap.size 9 i0 (.string ⟨#[]⟩) 1 16 underS hi0 hz0 hz1 hz2 rfl (by decide) _ L.length _ rfl ((aU HO).1.alloc _) ⟨wr.heap.size,0,none⟩ 1 1 [.string ((B s).extract f i)] rfl rfl (cell_one_new _ _ _) (fun u hu=>by simp at hu; subst hu; rfl) (by unfold maxLen; omega) (by omega) (by simp; omega) ?_))
     intro v' w3 hown' hgrow hnil' _
     have HO3:Hid (w3.ownsRow w.heap.size 9 1 v' (L++[(s.drop f).take (i - f)]).length ((L++[(s.drop f).take (i - f)]).map fun l=>.string (B l))∧(v'=.slice none 0 0 ↔ L++[(s.drop f).take (i - f)] = [])∧Below w.heap.size w w3):=by
      rw [Hid,List.length_append,List.map_append]
      refine ⟨by rw [aU HX] at hown'; exact hown',⟨fun h=>absurd h (by simpa using hnil'),fun h=>by simp at h⟩,?_⟩
      have hB:=(aU HO).2.2
      exact (hB.alloc hbs _).trans ⟨hgrow.os,hgrow.tape,hgrow.output,hgrow.size,fun k hk=>hgrow.block k (by simp; omega) (fun e=>by have:=(World.ownsRow.lt (aU HO).1 k e.symm).1; omega)⟩
     clear hown' hgrow hnil'
     go_wp2_with fail
     obtain ⟨k1,k2,k3⟩:=aU HO3
     exact ⟨⟨i+1,i+1,_,by go_num,by go_num,by omega,by omega,by simp; omega,at_hit (aU HAT) hlt2 ((aU HXX).symm.trans (aU HC)),k1,k2,k3⟩,by simp [intOf]; omega⟩
    ·have hcI:((x.toNat:Int) == (c.toNat:Int))=false:=by
      rw [beq_eq_false_iff_ne]
      intro h
      exact hc (UInt8.toNat_inj.1 (by omega))
     have HC:=aH hc
     clear hc
     go_wp2_with fail
     obtain ⟨k1,k2,k3⟩:=aU HO
     exact ⟨⟨i+1,f,L,by go_num,rfl,by omega,by omega,by omega,at_miss (aU HAT) hlt2 (fun h=>aU HC ((aU HXX).trans h)),k1,k2,k3⟩,by simp [intOf]; omega⟩
  ·have hltI : ¬ (i:Int)≤(s.length:Int):=by omega
   go_wp2_with fail
   go_ret
   obtain ⟨k1,k2,k3⟩:=aU HO
   rcases aU HAT with h | ⟨_,h⟩
   ·omega
   ·rw [← h]
    exact ⟨⟨_,rfl,k1,k2⟩,k3⟩
end Ea
end Go.Proofs.YtkkpahmoljiepaaGreatDoor
