/- Contracts: (*search).follow, (*Table).Answer, (*Zone).Lookup of a name whose records are no CNAME, where no record names another. -/
import Derived.Test.YtkkpahmoljiepaaGreatDoorJ14
import Derived.Test.YtkkpahmoljiepaaGreatDoorJ01
import Derived.Test.YtkkpahmoljiepaaGreatDoorJ12
import Derived.Deep.RegionHeld
set_option linter.unusedSimpArgs false
set_option linter.unusedVariables false
set_option maxRecDepth 1000000
set_option maxHeartbeats 12800000
namespace Go.Proofs.YtkkpahmoljiepaaGreatDoor
open Go.RowKit
open Pu (Str aH aU)
def boolN:Value→Nat
 | .bool true=>1
 | _=>0
structure Plain (o n:Str) (rs:List Rec) (k:Int):Prop where
 fit:Fit o rs
 len:n.length≤2900
 soa : ∀ r∈setP (ofP rs o) 6,soaOk r∧r.data.length≤3000∧r.ttl≤1000000000
 ne5:(k == 5)=false
 ne255:(k == 255)=false
 alias:aliasP (matchP rs n).1=false
 mlen:(matchP rs n).1.length≤3001
 under:Sp.under n o=true
 names : ∀ r∈aQ o rs k n++aP o rs k n,(r.type != 2)=true∧(r.type != 15)=true∧r.data.length≤3000
 alen:(aQ o rs k n).length≤4000
 blen:(aP o rs k n).length≤4000
def aL (w:World) (rb:Nat) (c0 c1 c2 c3 c4:Value):Prop:=w.heap[rb]? = some (.cells #[c0,c1,c2,c3,c4] 43)
theorem aL.cells {w:World} {rb:Nat} {c0 c1 c2 c3 c4:Value} (h:aL w rb c0 c1 c2 c3 c4):w.cell? ⟨rb,0,none⟩=some c0∧w.cell? ⟨rb,1,none⟩=some c1∧w.cell? ⟨rb,2,none⟩=some c2∧w.cell? ⟨rb,3,none⟩=some c3∧w.cell? ⟨rb,4,none⟩=some c4:=by
 unfold aL at h
 refine ⟨?_,?_,?_,?_,?_⟩ <;> simp [World.cell?,h]
theorem aL.frozen {w:World} {rb:Nat} {c0 c1 c2 c3 c4:Value} (h:aL w rb c0 c1 c2 c3 c4) (i:Nat):w.frozen? ⟨rb,i,none⟩=false:=by
 unfold aL at h; simp [World.frozen?,h]
theorem aL.set0 {w:World} {rb:Nat} {c0 c1 c2 c3 c4:Value} (h:aL w rb c0 c1 c2 c3 c4) (x:Value):aL (w.setCell ⟨rb,0,none⟩ x) rb x c1 c2 c3 c4:=by
 unfold aL at *; simp only [World.setCell]; rw [Array.getElem?_modify,if_pos rfl,h]; rfl
theorem aL.set1 {w:World} {rb:Nat} {c0 c1 c2 c3 c4:Value} (h:aL w rb c0 c1 c2 c3 c4) (x:Value):aL (w.setCell ⟨rb,1,none⟩ x) rb c0 x c2 c3 c4:=by
 unfold aL at *; simp only [World.setCell]; rw [Array.getElem?_modify,if_pos rfl,h]; rfl
theorem aL.set2 {w:World} {rb:Nat} {c0 c1 c2 c3 c4:Value} (h:aL w rb c0 c1 c2 c3 c4) (x:Value):aL (w.setCell ⟨rb,2,none⟩ x) rb c0 c1 x c3 c4:=by
 unfold aL at *; simp only [World.setCell]; rw [Array.getElem?_modify,if_pos rfl,h]; rfl
theorem aL.set3 {w:World} {rb:Nat} {c0 c1 c2 c3 c4:Value} (h:aL w rb c0 c1 c2 c3 c4) (x:Value):aL (w.setCell ⟨rb,3,none⟩ x) rb c0 c1 c2 x c4:=by
 unfold aL at *; simp only [World.setCell]; rw [Array.getElem?_modify,if_pos rfl,h]; rfl
theorem aL.set4 {w:World} {rb:Nat} {c0 c1 c2 c3 c4:Value} (h:aL w rb c0 c1 c2 c3 c4) (x:Value):aL (w.setCell ⟨rb,4,none⟩ x) rb c0 c1 c2 c3 x:=by
 unfold aL at *; simp only [World.setCell]; rw [Array.getElem?_modify,if_pos rfl,h]; rfl
namespace Lj
open Ka Kd Rf Rg Ia Iow Ie Zb Zc Za La Lb Re Lc Le Lf Lg Lh Li Ld
theorem follow_plain (sb zb cb c b off cap:Nat) (k:Int) (au:Bool) (va vb vc:Value) (o n:Str) (rs:List Rec) (w:World) (hs:aM w sb zb k 0 au va vb vc cb) (hva:va=.slice none 0 0) (hvb:vb=.slice none 0 0)
  (hz:aN w zb o b off cap rs) (hg:G w) (hzs:zb<sb) (hbs:b<sb) (h0:0<sb) (hc:CancelAt w cb c false) (hp:Plain o n rs k) :
  Calls Tryz.prog 127 #[.pointer (some ⟨sb,0,none⟩),.string (B n)] w fun e w'=>e=.returned (.bool true)∧(∃ va' vb',aM w' sb zb k (stepRc o rs n) au va' vb' vc cb∧OwnR w' (sb+1) va' (aQ o rs k n)∧OwnR w' (sb+1) vb' (aP o rs k n))∧Below sb w w':=by
 have HST:=aH (step_plain sb zb cb b off cap k au va vb vc o n rs [] w hs (by subst hva; exact World.ownsRow_nil _ _ _ _) hvb hz hg hzs hbs h0 hp.fit hp.len (by simp) hp.soa hp.ne5 hp.ne255 hp.alias hp.mlen)
 have HAS:=aH (asked_any cb c false w hc)
 obtain ⟨s0,s1,s2,s3,s4,s5,s6,s7⟩:=hs.cells
 clear hs hz hg hc hp s0 s1 s2 s3 s4 s5 s6
 go_enter Tryz.func127,Tryz.ntmps127
 go_wp2_with fail
 go_loopw [1,5] (fun nm mr wr=>(nm=.string (B n)∧mr=.bool true∧wr=w)∨(mr=.bool false∧(∃ va' vb',aM wr sb zb k (stepRc o rs n) au va' vb' vc cb∧OwnR wr (sb+1) va' (aQ o rs k n)∧OwnR wr (sb+1) vb' (aP o rs k n))∧Below sb w wr)) (fun _ mr _=>boolN mr)
 case atStart=>exact .inl ⟨rfl,rfl,rfl⟩
 case round =>
  rcases hrel with ⟨rfl,rfl,rfl⟩ | ⟨rfl,hpost⟩
  ·go_wp2_with fail
   refine (aU HAS).mono ?_
   rintro e w ⟨rfl,rfl⟩
   go_wp2_with fail
   refine (aU HST).mono ?_
   rintro e w1 ⟨rfl,hpost⟩
   rw [List.nil_append] at hpost
   have HP:=aH hpost
   clear hpost
   go_wp2_with fail
   go_roundw
   case rel=>exact .inr ⟨rfl,aU HP⟩
   case measure=>simp [boolN]
  ·have HP:=aH hpost
   clear hpost
   go_wp2_with fail
   go_ret
   exact ⟨rfl,aU HP⟩
theorem answer_plain (zb b off cap:Nat) (k:Int) (o n:Str) (rs:List Rec) (w:World) (hz:aN w zb o b off cap rs) (hg:G w) (hp:Plain o n rs k) :
  Calls Tryz.prog 69 #[.pointer (some ⟨zb,0,none⟩),.string (B n),.int .i64 k] w fun e w' =>
   (∃ va vb,e=.returned (.agg #[.int .i64 (stepRc o rs n),.bool (decide ((cutP o rs n).length=0)),va,vb,.slice none 0 0])∧OwnR w' w.heap.size va (aQ o rs k n)∧OwnR w' w.heap.size vb (aP o rs k n))∧Below w.heap.size w w':=by
 have hzb:=hz.1
 have hblt:=hz.2.2.2.2.1
 have hz0:=hz.2.1
 have hg0:=hg.1
 have HZ:=aH hz
 have HG:=aH hg
 have HP:=aH hp
 have hu:=hp.under
 have hol:=hp.fit.2.1
 have hnl:=hp.len
 have hlen:=hp.fit.1
 have hbx:Below w.heap.size w (w.alloc (.cells #[.int .i64 0,.bool false,.slice none 0 0,.slice none 0 0,.slice none 0 0] 43)):=(Below.refl _ _).alloc (Nat.le_refl _) _
 have HU:Hid (∀ W,Calls Tryz.prog 110 #[.string (B n),.string (B o)] W fun e w'=>e=.returned (.bool true)∧w'=W):=fun W=>by
  have:=under_any (B n) (B o) W (by rw [size_B]; omega) (by rw [size_B]; omega)
  rw [data_B,data_B,hu] at this
  exact this
 clear hz hg hp hu
 go_enter Tryz.func69,Tryz.ntmps69
 go_wp2_with fail
 refine (aU HU _).mono ?_
 rintro e w1 ⟨rfl,hw1⟩
 have hb1:Below w.heap.size w w1:=by rw [hw1]; exact hbx
 have r1:w1.heap[w.heap.size]? = some (.cells #[.int .i64 0,.bool false,.slice none 0 0,.slice none 0 0,.slice none 0 0] 43):=by rw [hw1]; exact heap_alloc_new w _
 clear hw1 hbx HU
 go_wp2_with fail
 refine (newCancel_any w1).mono ?_
 rintro e w2 ⟨cb,c,rfl,hc2,hcb,hcc,hne,hb2⟩
 have HC2:=aH hc2
 have hcl:=hc2.lt
 have hcbl:=hc2.1
 have hb12:=hb1.trans (hb2.mono hb1.size)
 have r2:=(hb2.block w.heap.size (Array.getElem?_eq_some_iff.1 r1).1).trans r1
 clear hc2 r1
 go_wp2_with fail
 have hb3:Below w2.heap.size w2 (w2.alloc (.cells #[.pointer (some ⟨zb,0,none⟩),.int .i64 k,.int .i64 0,.bool false,.slice none 0 0,.slice none 0 0,.slice none 0 0,.pointer (some ⟨cb,0,none⟩)] 210)):=(Below.refl _ _).alloc (Nat.le_refl _) _
 have S3:aM (w2.alloc (.cells #[.pointer (some ⟨zb,0,none⟩),.int .i64 k,.int .i64 0,.bool false,.slice none 0 0,.slice none 0 0,.slice none 0 0,.pointer (some ⟨cb,0,none⟩)] 210)) w2.heap.size zb k 0 false (.slice none 0 0) (.slice none 0 0) (.slice none 0 0) cb:=heap_alloc_new w2 _
 have hs2:=hb2.size
 have hs1:=hb1.size
 refine (cutOver_any zb b off cap o n rs _ (((aU HZ).below hb12).below hb3) (((aU HG).below hb12).below hb3) hlen (by omega) hol).mono ?_
 rintro e w4 ⟨⟨v4,rfl,hv4⟩,hb4⟩
 obtain ⟨a4,c4,rfl⟩:=hv4.slice
 have S4:=S3.kept (hb4.block w2.heap.size (by simp))
 have hb24:Below w2.heap.size w2 w4:=hb3.trans (hb4.mono (by simp <;> omega))
 have hs4:w2.heap.size<w4.heap.size:=S4.lt
 clear S3 hv4 hb3 hb4
 obtain ⟨x0,x1,x2,x3,x4,x5,x6,x7⟩:=S4.cells
 have xf:=S4.frozen 3
 have H4:=aH S4
 clear S4 x0 x1 x2 x4 x5 x6 x7
 obtain ⟨au,hcI,hau⟩ : ∃ au:Bool,(((cutP o rs n).length:Int) == 0)=au∧decide ((cutP o rs n).length=0)=au:=⟨_,rfl,by
  by_cases h:(cutP o rs n).length=0
  ·rw [h]; rfl
  ·rw [decide_eq_false h,eq_comm,beq_eq_false_iff_ne]; omega⟩
 have HAU:=aH hau
 clear hau
 have S5:=(aU H4).set3 au
 have hb45:Below w2.heap.size w2 (w4.setCell ⟨w2.heap.size,3,none⟩ (.bool au)):=hb24.setCell (p:=⟨w2.heap.size,3,none⟩) (Nat.le_refl _) _
 have hs5:(w4.setCell ⟨w2.heap.size,3,none⟩ (.bool au)).heap.size=w4.heap.size:=by simp [World.setCell]
 have HF:=aH (follow_plain w2.heap.size zb cb c b off cap k au _ _ _ o n rs _ S5 rfl rfl ((aU HZ).below (hb12.trans (hb45.mono hb12.size))) ((aU HG).below (hb12.trans (hb45.mono hb12.size))) (by omega) (by omega) (by omega) ((aU HC2).below hb45 hcbl hcl) (aU HP))
 clear S5 H4
 go_wp2_with fail
 refine (aU HF).mono ?_
 rintro e w6 ⟨rfl,⟨va,vb,hs6,hov,hrv⟩,hb6⟩
 have hB6:Below w2.heap.size w2 w6:=hb45.trans hb6
 have r6:=(hB6.block w.heap.size (by omega)).trans r2
 obtain ⟨y0,y1,y2,y3,y4,y5,y6,y7⟩:=hs6.cells
 obtain ⟨aa,ca,rfl⟩:=hov.slice
 obtain ⟨ab,cb',rfl⟩:=hrv.slice
 have HAD:=aH (additional_plain zb (stepRc o rs n) au _ _ (.slice none 0 0) _ _ w6 hov.rv hrv.rv (aU HP).alen (aU HP).blen (aU HP).names)
 have HS6:=aH hs6
 have HOV:=aH hov
 have HRV:=aH hrv
 have hs6l:=hs6.lt
 clear HF hs6 hov hrv
 go_wp2_with fail
 refine (aU HAD).mono ?_
 rintro e w7 ⟨rfl,hb7⟩
 have hs7:=(aU HS6).kept (hb7.block w2.heap.size hs6l)
 obtain ⟨z0,z1,z2,z3,z4,z5,z6,z7⟩:=hs7.cells
 have zf:=hs7.frozen 6
 have hs8:=hs7.set6 (.slice none 0 0)
 obtain ⟨p0,p1,p2,p3,p4,p5,p6,p7⟩:=hs8.cells
 have r7:=(hb7.block w.heap.size (by have:=hb6.size; rw [hs5] at this; omega)).trans r6
 have hRV7:=aH (And.intro ((aU HOV).below hb7) ((aU HRV).below hb7))
 obtain ⟨k0,k1,k2,k3,k4⟩:=aL.cells r7
 have kf0:=aL.frozen r7 0
 have kf1:=aL.frozen r7 1
 have kf2:=aL.frozen r7 2
 have kf3:=aL.frozen r7 3
 have kf4:=aL.frozen r7 4
 clear hs7 hs8 y0 y1 y2 y3 y4 y5 y6 y7 x3 xf r2 r6
 go_wp2_with fail
 have A9:=((((aL.set0 (show aL (w7.setCell ⟨w2.heap.size,6,none⟩ (.slice none 0 0)) w.heap.size _ _ _ _ _ from (Below.heap_setCell _ _ _ _ (by show w.heap.size≠w2.heap.size; omega)).trans r7) (.int .i64 (stepRc o rs n))).set1 (.bool au)).set2 (.slice aa (aQ o rs k n).length ca)).set3 (.slice ab (aP o rs k n).length cb')).set4 (.slice none 0 0)
 obtain ⟨n0,n1,n2,n3,n4⟩:=A9.cells
 have hB7:Below w2.heap.size w2 w7:=hB6.trans (hb7.mono (by omega))
 have hrvs:=aU hRV7
 refine bodyPost_ret (v:=.agg #[.int .i64 (stepRc o rs n),.bool au,.slice aa (aQ o rs k n).length ca,.slice ab (aP o rs k n).length cb',.slice none 0 0]) ?_ rfl ?_
 ·simp [results,Tryz.results69,go_sem,n0,n1,n2,n3,n4]
 ·refine ⟨⟨_,_,by rw [aU HAU],?_,?_⟩,?_⟩
  ·exact (((((((hrvs.1.set_low (k:=w2.heap.size) (i:=6) (by omega) _).set_low (k:=w.heap.size) (i:=0) (by omega) _).set_low (k:=w.heap.size) (i:=1) (by omega) _).set_low (k:=w.heap.size) (i:=2) (by omega) _).set_low (k:=w.heap.size) (i:=3) (by omega) _).set_low (k:=w.heap.size) (i:=4) (by omega) _)).base (by omega)
  ·exact (((((((hrvs.2.set_low (k:=w2.heap.size) (i:=6) (by omega) _).set_low (k:=w.heap.size) (i:=0) (by omega) _).set_low (k:=w.heap.size) (i:=1) (by omega) _).set_low (k:=w.heap.size) (i:=2) (by omega) _).set_low (k:=w.heap.size) (i:=3) (by omega) _).set_low (k:=w.heap.size) (i:=4) (by omega) _)).base (by omega)
  ·have h7:=hb12.trans (hB7.mono hb12.size)
   exact (((((h7.setCell (p:=⟨w2.heap.size,6,none⟩) (by show w.heap.size≤w2.heap.size; omega) _).setCell (p:=⟨w.heap.size,0,none⟩) (Nat.le_refl _) _).setCell (p:=⟨w.heap.size,1,none⟩) (Nat.le_refl _) _).setCell (p:=⟨w.heap.size,2,none⟩) (Nat.le_refl _) _).setCell (p:=⟨w.heap.size,3,none⟩) (Nat.le_refl _) _).setCell (p:=⟨w.heap.size,4,none⟩) (Nat.le_refl _) _
end Lj
namespace Lk
open Ka Kd Rf Rg Ia Iow Ie Zb Zc Za La Lb Re Lc Le Lf Lg Lh Li Ld Lj
end Lk
end Go.Proofs.YtkkpahmoljiepaaGreatDoor

set_option maxRecDepth 1000000
set_option maxHeartbeats 12800000
namespace Go.Proofs.YtkkpahmoljiepaaGreatDoor
open Go.RowKit
open Pu (aH aU)
namespace Kc
open Ka
theorem conv1 (w:World) (c:Int):Sem.run Tryz.prog (convert 58 9 (.slice (some ⟨w.heap.size,0,none⟩) 1 1)) (w.alloc (.cells #[.int .u8 c] 5))=.ok (.string (strOfNums [c])) (w.alloc (.cells #[.int .u8 c] 5)) :=
 run_convert_bytes_arg _ 58 5 (by kernel_rfl) (by kernel_rfl) w.heap.size 0 1 1 [c] rfl (fun i hi=>by
  obtain rfl:i=0:=by omega
  simp) 9 (by kernel_rfl)
def digitsI (n:Nat):Pu.Str:=if h:n<10 then [UInt8.ofNat (48+n)] else digitsI (n/10)++[UInt8.ofNat (48+n%10)]
theorem digitsI_small (n:Nat) (h:n<10):digitsI n = [UInt8.ofNat (48+n)]:=by rw [digitsI,dif_pos h]
theorem digitsI_great (n:Nat) (h : ¬ n<10):digitsI n=digitsI (n/10)++[UInt8.ofNat (48+n%10)]:=by rw [digitsI,dif_neg h]
theorem digitsI_len : ∀ (f n:Nat),n<10 ^ f→(digitsI n).length≤f+1
 | 0,n,h=>by rw [digitsI_small n (by omega)]; simp
 | f+1,n,h=>by
  by_cases h1:n<10
  ·rw [digitsI_small n h1]; simp
  ·rw [digitsI_great n h1,List.length_append]
   have:=digitsI_len f (n/10) (by rw [Nat.pow_succ] at h; omega)
   simp; omega
def hd (k:Nat):Pu.Str:=if k<10 then [] else digitsI (k/10)
theorem digitsI_hd (k:Nat):digitsI k=hd k++[UInt8.ofNat (48+k%10)]:=by
 unfold hd
 split
 ·rw [digitsI_small k (by assumption),Nat.mod_eq_of_lt (by assumption)]; rfl
 ·rw [digitsI_great k (by assumption)]
theorem str1 (c:Nat):strOfNums [48+(c:Int)%10]=⟨[UInt8.ofNat (48+c%10)].toArray⟩:=by
 unfold strOfNums
 have:(48+(c:Int)%10).toNat=48+c%10:=by omega
 simp [this]
theorem digits_any (n:Nat) (w:World) (hn:n≤1000000) :
  Calls Tryz.prog 21 #[.int .i64 n] w fun e w'=>e=.returned (.string ⟨(digitsI n).toArray⟩)∧Below w.heap.size w w':=by
 have hcv:=conv1
 have hlen:=digitsI_len 7 n (by omega)
 have hsz : ∀ c:Int,(strOfNums [c]).size=1:=fun _=>rfl
 go_enter Tryz.func21,Tryz.ntmps21
 go_wp2
 go_loopw [0,3] (fun a s wr=>∃ (k:Nat) (t:ByteArray),a=.int .i64 k∧k≤1000000∧s=.string t∧digitsI n=hd k++t.data.toList∧Below w.heap.size w wr) (fun a _ _=>(intOf a).toNat)
 case atStart =>
  exact ⟨n,_,rfl,hn,rfl,by rw [str1,digitsI_hd n],(Below.refl _ _).alloc (Nat.le_refl _) _⟩
 case round =>
  obtain ⟨k,t,rfl,hk,rfl,hd1,hb⟩:=hrel
  have H:=aH hd1
  have hts:t.size≤8:=by
   have:=congrArg List.length hd1
   rw [List.length_append,Pu.len_eq] at this
   omega
  clear hd1
  by_cases h10:k<10
  ·have hfin:Hid (digitsI n=t.data.toList):=by
    rw [aU H,hd,if_pos h10]; rfl
   go_wp2
   go_ret
   refine ⟨?_,hb⟩
   rw [aU hfin]
   rfl
  ·have hgt:(10:Int)≤k:=by omega
   have hstep:digitsI n=hd (k/10)++(UInt8.ofNat (48+k/10%10) :: t.data.toList):=by
    rw [aU H,hd,if_neg h10,digitsI_hd (k/10)]; simp
   have Hs:=aH hstep
   clear hstep
   go_wp2
   go_roundw
   case rel =>
    refine ⟨k/10,_,by go_num,by omega,rfl,?_,hb.trans ((Below.refl _ _).alloc hb.size _)⟩
    rw [aU Hs,show ((k:Int)/10)=((k/10:Nat):Int) from by omega,str1 (k/10)]
    simp
   case measure=>simp [intOf]; omega
theorem host_any (n:Nat) (w:World) (hn:n≤1000000) :
  Calls Tryz.prog 25 #[.int .i64 n] w fun e w'=>e=.returned (.string ⟨(104 :: digitsI n).toArray⟩)∧Below w.heap.size w w':=by
 have hlen:=digitsI_len 7 n (by omega)
 have hsz:(⟨(digitsI n).toArray⟩:ByteArray).size≤8:=by simpa [ByteArray.size] using hlen
 go_enter Tryz.func25,Tryz.ntmps25
 go_wp2_with (go_at_call 21; refine (digits_any n w hn).mono ?_; rintro e w' ⟨rfl,hb⟩)
 go_ret
 exact ⟨ret_str (by simp),hb⟩
end Kc
end Go.Proofs.YtkkpahmoljiepaaGreatDoor

namespace Go.Proofs.YtkkpahmoljiepaaGreatDoor
open Go.RowKit
open Pu (Str aH aU)
namespace Tb
open Ta Kc
end Tb
namespace Va
open Go.Sort
open Ta (headS zz)
def lineS (k:UInt8):Str:=[104,k,46,122,122,32,k,32,65,32,49,48,46,48,46,k,46,55,10]
def linesT:Str:=lineS 49++lineS 50++lineS 51
def aJ (k:UInt8):Str:=[104,k,46,122,122]
def dataN (k:UInt8):Str:=[49,48,46,48,46,k,46,55]
def recs0:List Rec:=[([122,122],50,6,[97,46,122,122,32,98,46,122,122,32,57,32,52,48]),([122,122],50,2,[97,46,122,122]),([104,49,46,122,122],1,1,[49,48,46,48,46,49,46,55]),([104,50,46,122,122],2,1,[49,48,46,48,46,50,46,55]),([104,51,46,122,122],3,1,[49,48,46,48,46,51,46,55])]
def recs:List Rec:=[([104,49,46,122,122],1,1,[49,48,46,48,46,49,46,55]),([104,50,46,122,122],2,1,[49,48,46,48,46,50,46,55]),([104,51,46,122,122],3,1,[49,48,46,48,46,51,46,55]),([122,122],50,2,[97,46,122,122]),([122,122],50,6,[97,46,122,122,32,98,46,122,122,32,57,32,52,48])]
theorem read1:readZ (headS++linesT)=some (zz,recs0):=by kernel_rfl
theorem read2:readZ (headS++linesT++[10])=none:=by kernel_rfl
theorem sort1:sortL recs0=recs:=by
 unfold sortL Sort.insertionSort
 simp only [show recs0.length=5 from rfl]
 rw [insOuter_go _ _ _ _ _ (by decide),insOuter_go _ _ _ _ _ (by decide),insOuter_go _ _ _ _ _ (by decide),insOuter_go _ _ _ _ _ (by decide),insOuter_stop _ _ _ _ _ (by decide)]
 kernel_rfl
theorem starts1:Rf.startsR zz recs0=true:=by kernel_rfl
theorem right1:rightP zz recs=true:=by kernel_rfl
theorem parse1:parseP (headS++linesT)=some (zz,recs):=by
 unfold parseP
 rw [read1]
 show (if Rf.startsR zz recs0 && rightP zz (sortL recs0) then some (zz,sortL recs0) else none)=_
 rw [sort1,starts1,right1]; rfl
theorem parse2:parseP (headS++linesT++[10])=none:=by
 unfold parseP
 rw [read2]; rfl
theorem fit1:Fit zz recs:=by
 refine ⟨by decide,by decide,?_⟩
 intro r hr
 simp only [recs,List.mem_cons,List.mem_nil_iff,or_false] at hr
 rcases hr with rfl | rfl | rfl | rfl | rfl <;> decide
theorem soa1 : ∀ r∈setP (ofP recs zz) 6,soaOk r∧r.data.length≤3000∧r.ttl≤1000000000:=by
 rw [show setP (ofP recs zz) 6 = [([122,122],50,6,[97,46,122,122,32,98,46,122,122,32,57,32,52,48])] from by kernel_rfl]
 intro r hr
 simp only [List.mem_cons,List.mem_nil_iff,or_false] at hr
 subst hr
 refine ⟨⟨?_,40,?_,by omega⟩,by decide,by decide⟩
 ·have:(lastW (Rec.data ([122,122],50,6,[97,46,122,122,32,98,46,122,122,32,57,32,52,48]))).length=2:=by kernel_rfl
  omega
 ·kernel_rfl
def recN (k:UInt8):Rec:=(aJ k,k.toNat - 48,1,dataN k)
theorem ans1:aQ zz recs 1 (aJ 49) = [recN 49]:=by kernel_rfl
theorem auth1:aP zz recs 1 (aJ 49) = []:=by kernel_rfl
theorem rc1:stepRc zz recs (aJ 49)=0:=by kernel_rfl
theorem cut1:cutP zz recs (aJ 49) = []:=by kernel_rfl
theorem plain1:Plain zz (aJ 49) recs 1 where
 fit:=fit1
 len:=by decide
 soa:=soa1
 ne5:=rfl
 ne255:=rfl
 alias:=by kernel_rfl
 mlen:=by
  have:(matchP recs (aJ 49)).1.length≤1:=of_decide_eq_true (by kernel_rfl)
  omega
 under:=by kernel_rfl
 names:=by
  rw [ans1,auth1]
  intro r hr
  simp only [List.append_nil,List.mem_cons,List.mem_nil_iff,or_false] at hr
  subst hr
  exact ⟨rfl,rfl,by decide⟩
 alen:=by rw [ans1]; simp
 blen:=by rw [auth1]; simp
theorem ans2:aQ zz recs 1 (aJ 50) = [recN 50]:=by kernel_rfl
theorem auth2:aP zz recs 1 (aJ 50) = []:=by kernel_rfl
theorem rc2:stepRc zz recs (aJ 50)=0:=by kernel_rfl
theorem cut2:cutP zz recs (aJ 50) = []:=by kernel_rfl
theorem plain2:Plain zz (aJ 50) recs 1 where
 fit:=fit1
 len:=by decide
 soa:=soa1
 ne5:=rfl
 ne255:=rfl
 alias:=by kernel_rfl
 mlen:=by
  have:(matchP recs (aJ 50)).1.length≤1:=of_decide_eq_true (by kernel_rfl)
  omega
 under:=by kernel_rfl
 names:=by
  rw [ans2,auth2]
  intro r hr
  simp only [List.append_nil,List.mem_cons,List.mem_nil_iff,or_false] at hr
  subst hr
  exact ⟨rfl,rfl,by decide⟩
 alen:=by rw [ans2]; simp
 blen:=by rw [auth2]; simp
theorem ans3:aQ zz recs 1 (aJ 51) = [recN 51]:=by kernel_rfl
theorem auth3:aP zz recs 1 (aJ 51) = []:=by kernel_rfl
theorem rc3:stepRc zz recs (aJ 51)=0:=by kernel_rfl
theorem cut3:cutP zz recs (aJ 51) = []:=by kernel_rfl
theorem plain3:Plain zz (aJ 51) recs 1 where
 fit:=fit1
 len:=by decide
 soa:=soa1
 ne5:=rfl
 ne255:=rfl
 alias:=by kernel_rfl
 mlen:=by
  have:(matchP recs (aJ 51)).1.length≤1:=of_decide_eq_true (by kernel_rfl)
  omega
 under:=by kernel_rfl
 names:=by
  rw [ans3,auth3]
  intro r hr
  simp only [List.append_nil,List.mem_cons,List.mem_nil_iff,or_false] at hr
  subst hr
  exact ⟨rfl,rfl,by decide⟩
 alen:=by rw [ans3]; simp
 blen:=by rw [auth3]; simp
def IsK (k:UInt8):Prop:=k=49∨k=50∨k=51
theorem ansK {k:UInt8} (h:IsK k):aQ zz recs 1 (aJ k) = [recN k]:=by
 rcases h with rfl | rfl | rfl
 ·exact ans1
 ·exact ans2
 ·exact ans3
theorem authK {k:UInt8} (h:IsK k):aP zz recs 1 (aJ k) = []:=by
 rcases h with rfl | rfl | rfl
 ·exact auth1
 ·exact auth2
 ·exact auth3
theorem rcK {k:UInt8} (h:IsK k):stepRc zz recs (aJ k)=0:=by
 rcases h with rfl | rfl | rfl
 ·exact rc1
 ·exact rc2
 ·exact rc3
theorem cutK {k:UInt8} (h:IsK k):cutP zz recs (aJ k) = []:=by
 rcases h with rfl | rfl | rfl
 ·exact cut1
 ·exact cut2
 ·exact cut3
theorem plainK {k:UInt8} (h:IsK k):Plain zz (aJ k) recs 1:=by
 rcases h with rfl | rfl | rfl
 ·exact plain1
 ·exact plain2
 ·exact plain3
end Va
namespace Vb
open Ka Kc Wa Wb Wd Wi Wl Wm Va
theorem ba_ext {a b:ByteArray} (h:a.data.toList=b.data.toList):a=b:=by
 cases a; cases b; simp at h; rw [h]
theorem conv_new (w:World) (l:Str) (n:Nat) (hn:n=l.length) (hl:l.length≤maxLen):(convert 58 9 (.slice (some ⟨w.heap.size,0,none⟩) n n)).run Tryz.prog (w.alloc (.cells (l.map fun c=>Value.int .u8 c.toNat).toArray 5))=.ok (.string (B l)) (w.alloc (.cells (l.map fun c=>Value.int .u8 c.toNat).toArray 5)):=by
 subst hn
 refine own_string (base:=0) ⟨by simp,.inr ⟨w.heap.size,l.length,(l.map fun c=>Value.int .u8 c.toNat).toArray,rfl,Nat.zero_le _,World.alloc_heap_new w _,Nat.le_refl _,hl,by simp,by rw [Nat.mul_one]; exact List.take_of_length_le (by simp)⟩⟩
theorem two_any (n:Nat) (w:World) (hn:n<65536) :
  Calls Tryz.prog 33 #[.int .i64 n] w fun e w'=>e=.returned (.string (B [hi n,lo n]))∧Below w.heap.size w w':=by
 have kc:=conv_new w [hi n,lo n] 2 rfl (by simp [maxLen])
 have eh:((hi n).toNat:Int)=(n:Int)/256:=by unfold hi; rw [UInt8.toNat_ofNat']; omega
 have el:((lo n).toNat:Int)=(n:Int)%256:=by unfold lo; rw [UInt8.toNat_ofNat']; omega
 simp only [List.map_cons,List.map_nil,eh,el] at kc
 go_enter Tryz.func33,Tryz.ntmps33
 go_wp2
 go_ret
 exact ⟨rfl,(Below.refl _ _).alloc (Nat.le_refl _) _⟩
def AdAt (w:World) (b:Nat) (k:Nat):Prop:=w.heap[b]? = some (.cells #[.int .i64 10,.int .i64 0,.int .i64 k,.int .i64 7] 3)
theorem AdAt.cells {w:World} {b k:Nat} (h:AdAt w b k):w.cell? ⟨b,0,none⟩=some (.int .i64 10)∧w.cell? ⟨b,1,none⟩=some (.int .i64 0)∧w.cell? ⟨b,2,none⟩=some (.int .i64 k)∧w.cell? ⟨b,3,none⟩=some (.int .i64 7):=by
 unfold AdAt at h
 refine ⟨?_,?_,?_,?_⟩ <;> simp [World.cell?,h]
theorem address_any (k:Nat) (w:World) (hk:k<250) :
  Calls Tryz.prog 32 #[.int .i64 k] w fun e w'=>e=.returned (.slice (some ⟨w.heap.size,0,none⟩) 4 4)∧AdAt w' w.heap.size k∧w'.heap.size=w.heap.size+1∧Below w.heap.size w w':=by
 have e1:(k:Int)/250=0:=by omega
 have e2:(k:Int)%250=k:=by omega
 go_enter Tryz.func32,Tryz.ntmps32
 go_wp2
 go_ret
 refine ⟨rfl,?_,by simp,(Below.refl _ _).alloc (Nat.le_refl _) _⟩
 have:=World.alloc_heap_new w (.cells #[.int .i64 10,.int .i64 0,.int .i64 k,.int .i64 7] 3)
 first | exact this | simpa [AdAt,e1,e2] using this
theorem dig10:digitsI 10 = [49,48]:=by rw [digitsI_great 10 (by omega),digitsI_small _ (by omega)]; rfl
theorem dig0:digitsI 0 = [48]:=by rw [digitsI_small _ (by omega)]; rfl
theorem dig7:digitsI 7 = [55]:=by rw [digitsI_small _ (by omega)]; rfl
theorem digK (k:Nat) (hk:k<10):digitsI k = [UInt8.ofNat (48+k)]:=digitsI_small k hk
def dg (k:Nat):UInt8:=UInt8.ofNat (48+k)
theorem s_below {w:World} {b k:Nat} {A B:World} (h:(A.cell? ⟨b,0,none⟩=some (.int .i64 10)∧A.cell? ⟨b,1,none⟩=some (.int .i64 0)∧A.cell? ⟨b,2,none⟩=some (.int .i64 k)∧A.cell? ⟨b,3,none⟩=some (.int .i64 7)∧Below w.heap.size w A)) (hlt:b<A.heap.size) (hb:Below A.heap.size A B) (hs:w.heap.size≤A.heap.size):(B.cell? ⟨b,0,none⟩=some (.int .i64 10)∧B.cell? ⟨b,1,none⟩=some (.int .i64 0)∧B.cell? ⟨b,2,none⟩=some (.int .i64 k)∧B.cell? ⟨b,3,none⟩=some (.int .i64 7)∧Below w.heap.size w B) :=
 ⟨(hb.cell (p:=⟨b,0,none⟩) hlt).trans h.1,(hb.cell (p:=⟨b,1,none⟩) hlt).trans h.2.1,(hb.cell (p:=⟨b,2,none⟩) hlt).trans h.2.2.1,(hb.cell (p:=⟨b,3,none⟩) hlt).trans h.2.2.2.1,h.2.2.2.2.trans (hb.mono hs)⟩
theorem line_any (k:Nat) (w:World) (hk:k<10) (hk1:0<k) :
  Calls Tryz.prog 23 #[.int .i64 k] w fun e w'=>e=.returned (.string (B (lineS (dg k))))∧Below w.heap.size w w':=by
 have HD:Hid (∀ (b:Nat) (n:Nat) (l:Str),n≤1000000→digitsI n=l→∀ W,(W.cell? ⟨b,0,none⟩=some (.int .i64 10)∧W.cell? ⟨b,1,none⟩=some (.int .i64 0)∧W.cell? ⟨b,2,none⟩=some (.int .i64 k)∧W.cell? ⟨b,3,none⟩=some (.int .i64 7)∧Below w.heap.size w W)→Calls Tryz.prog 21 #[.int .i64 n] W fun e w'=>e=.returned (.string ⟨l.toArray⟩)∧(w'.cell? ⟨b,0,none⟩=some (.int .i64 10)∧w'.cell? ⟨b,1,none⟩=some (.int .i64 0)∧w'.cell? ⟨b,2,none⟩=some (.int .i64 k)∧w'.cell? ⟨b,3,none⟩=some (.int .i64 7)∧Below w.heap.size w w')):=fun b n l hn hl W hS=>by
  refine (digits_any n W hn).mono ?_
  rintro e w' ⟨rfl,hb⟩
  rw [hl]
  exact ⟨rfl,s_below hS (World.block_lt_of_cell? W ⟨b,0,none⟩ hS.1) hb hS.2.2.2.2.size⟩
 have HH:Hid (∀ (b:Nat),∀ W,(W.cell? ⟨b,0,none⟩=some (.int .i64 10)∧W.cell? ⟨b,1,none⟩=some (.int .i64 0)∧W.cell? ⟨b,2,none⟩=some (.int .i64 k)∧W.cell? ⟨b,3,none⟩=some (.int .i64 7)∧Below w.heap.size w W)→Calls Tryz.prog 25 #[.int .i64 k] W fun e w'=>e=.returned (.string ⟨#[104,dg k]⟩)∧(w'.cell? ⟨b,0,none⟩=some (.int .i64 10)∧w'.cell? ⟨b,1,none⟩=some (.int .i64 0)∧w'.cell? ⟨b,2,none⟩=some (.int .i64 k)∧w'.cell? ⟨b,3,none⟩=some (.int .i64 7)∧Below w.heap.size w w')):=fun b W hS=>by
  refine (host_any k W (by omega)).mono ?_
  rintro e w' ⟨rfl,hb⟩
  rw [digK k hk]
  exact ⟨rfl,s_below hS (World.block_lt_of_cell? W ⟨b,0,none⟩ hS.1) hb hS.2.2.2.2.size⟩
 have HA:=aH (address_any k w (by omega))
 go_enter Tryz.func23,Tryz.ntmps23
 go_wp2_with fail
 refine (aU HA).mono ?_
 rintro e w1 ⟨rfl,had,hsz,hb1⟩
 obtain ⟨b,hbe⟩ : ∃ b,b=w.heap.size:=⟨_,rfl⟩
 have hS0:(w1.drew.cell? ⟨b,0,none⟩=some (.int .i64 10)∧w1.drew.cell? ⟨b,1,none⟩=some (.int .i64 0)∧w1.drew.cell? ⟨b,2,none⟩=some (.int .i64 k)∧w1.drew.cell? ⟨b,3,none⟩=some (.int .i64 7)∧Below w.heap.size w w1.drew):=by
  rw [hbe]
  exact ⟨had.cells.1,had.cells.2.1,had.cells.2.2.1,had.cells.2.2.2,hb1.drew⟩
 rw [← hbe]
 have HBE:=aH hbe
 have HS0:=aH hS0
 have H10:=aH (aU HD b 10 _ (by omega) dig10)
 have H0:=aH (aU HD b 0 _ (by omega) dig0)
 have H7:=aH (aU HD b 7 _ (by omega) dig7)
 have HK:=aH (aU HD b k [dg k] (by omega) (digK k hk))
 have HHB:=aH (aU HH b)
 clear HA had hsz hbe hS0 HD HH hb1
 obtain ⟨hS1,hS2,hS3,hS4,hS5⟩:=aU HS0
 go_wp2_with fail
 go_region_held (fun w'=>w'.cell? ⟨b,0,none⟩=some (.int .i64 10)∧w'.cell? ⟨b,1,none⟩=some (.int .i64 0)∧w'.cell? ⟨b,2,none⟩=some (.int .i64 k)∧w'.cell? ⟨b,3,none⟩=some (.int .i64 7)∧Below w.heap.size w w') (first | assumption | go_keep)
  (first
   | (go_at_call 25; go_loud (refine (aU HHB _ ?_).mono ?_; assumption; rintro e w' ⟨rfl,hq⟩))
   | (go_at_call_of 21 (Value.int IntKind.i64 10); go_loud (refine (aU H10 _ ?_).mono ?_; assumption; rintro e w' ⟨rfl,hq⟩))
   | (go_at_call_of 21 (Value.int IntKind.i64 0); go_loud (refine (aU H0 _ ?_).mono ?_; assumption; rintro e w' ⟨rfl,hq⟩))
   | (go_at_call_of 21 (Value.int IntKind.i64 7); go_loud (refine (aU H7 _ ?_).mono ?_; assumption; rintro e w' ⟨rfl,hq⟩))
   | (go_at_call_of 21 (Value.int IntKind.i64 (k:Int)); go_loud (refine (aU HK _ ?_).mono ?_; assumption; rintro e w' ⟨rfl,hq⟩)))
 rename_i hH
 have HFIN:=aH hH.2.2.2.2
 clear hH hq
 go_wp2_with fail
 go_ret
 refine ⟨congrArg (fun x=>Ending.returned (.string x)) (ba_ext (by simp [B,lineS])),aU HFIN⟩
end Vb
namespace Hb
open Ka Kc Wa Wb Wc Wd We Wf Wg Wh Wi Wj Wk Wl Wm Ha Re
theorem i64_and_ffff (n:Nat) (h:n<9223372036854775808):bits .and .i64 (n:Int) 65535=(n:Int)%65536:=by
 have e:bits .and .i64 (n:Int) 65535=((n%65536:Nat):Int):=by
  show IntKind.i64.wrap ((BitVec.ofInt 64 (n:Int) &&& BitVec.ofInt 64 65535).toNat:Int)=_
  rw [BitVec.toNat_and,ofInt_u64 n (by omega),show (65535:Int)=((65535:Nat):Int) from rfl,ofInt_u64 65535 (by omega),show (65535:Nat)=2 ^ 16 - 1 from rfl,Nat.and_two_pow_sub_one_eq_mod]
  rw [IntKind.wrap_i64]
  first | omega | (unfold wrap64; omega)
 rw [e]; omega
theorem sum_any (g cap:Nat) (fs:List Fd) (w:World) (hok : ∀ f∈fs,f.Ok) (hlt:g<w.heap.size) (hcells : ∀ j (h:j<fs.length),w.cell? ⟨g,j,none⟩=some (.iface fs[j].t fs[j].x))
  (hn:fs.length≤cap) (hc:fs.length≤1000000) (hl:(outs fs).length≤1000000) :
  Calls Tryz.prog 256 #[.slice (some ⟨g,0,none⟩) fs.length cap] w fun e w'=>e=.returned (.int .i64 (fold (ws true (outs fs))))∧Below w.heap.size w w':=by
 have HW:=aH (written_any g cap fs w hok hlt hcells hn hc hl)
 clear hok hcells
 generalize outs fs=l at *
 go_enter Tryz.func256,Tryz.ntmps256
 go_wp2_with fail
 refine (aU HW).mono ?_
 rintro e w1 ⟨rfl,hb1⟩
 have kb:=run_bytes_of_string (P:=Tryz.prog) w1 9 58 5 (B l) Tryz.underlying9 Tryz.underlying58 Tryz.underlying5
 have HA:=aH (bytes_new w1 l (grownCap w1 (B l).size 0 5))
 have HB:Hid (Below w.heap.size w _):=hb1.trans ((((Below.refl w1.heap.size w1).drew.alloc (Nat.le_refl w1.heap.size) (.cells (bytesRow (B l) (grownCap w1 (B l).size 0 5)) 5 ((bytesRow (B l) (grownCap w1 (B l).size 0 5)).size,(bytesRow (B l) (grownCap w1 (B l).size 0 5)).size+1))).mono hb1.size))
 have hcap:l.length≤grownCap w1 (B l).size 0 5:=by
  have:=grownCap_ge w1 (B l).size 0 5
  rw [size_B] at this ⊢
  exact this
 generalize grownCap w1 (B l).size 0 5=cap1 at *
 generalize w1.drew.alloc (.cells (bytesRow (B l) cap1) 5 ((bytesRow (B l) cap1).size,(bytesRow (B l) cap1).size+1))=W at *
 generalize hbq:w1.heap.size=bq at *
 have hs:(B l).size=l.length:=size_B l
 clear hb1 HW hbq
 go_wp2_with fail
 go_loopw [3,10] (fun t i wr=>∃ k:Nat,t=.int .i64 (fold (ws true (l.take k)):Nat)∧i=.int .i64 k∧k≤l.length∧wr=W) (fun _ i _=>l.length - (intOf i).toNat)
 case atStart=>exact ⟨0,rfl,rfl,Nat.zero_le _,rfl⟩
 case round =>
  obtain ⟨k,rfl,rfl,hk,rfl⟩:=hrel
  by_cases hlk:k<l.length
  ·have hcell:wr.cell? ⟨bq,k,none⟩=some (.int .u8 l[k].toNat):=(aU HA).2.1 k hlk
   have HE:=aH (ws_take l k hlk)
   generalize l[k]=c at *
   have hc:=UInt8.toNat_lt c
   generalize c.toNat=n at *
   have HS:=aH (fun x hx=>fold_step (ws true (l.take k)) x hx)
   have hfl:=fold_le (ws true (l.take k))
   generalize ws true (l.take k)=a at *
   generalize fold a=f at *
   by_cases he:k%2=0
   ·have he':(k:Int)%2=0:=by omega
    rw [if_pos he] at HE
    have e1:bits .and .i64 ((f:Int)+(n:Int)*256) 65535=((f:Int)+(n:Int)*256)%65536:=by
     rw [show (f:Int)+(n:Int)*256=((f+n*256:Nat):Int) by omega,i64_and_ffff _ (by omega)]
    have HX:Hid (((f:Int)+(n:Int)*256)%65536+((f:Int)+(n:Int)*256)/65536=((fold (ws true (l.take (k+1))):Nat):Int)):=by
     have:=aU HS (n*256) (by omega)
     rw [← aU HE] at this
     rw [Hid]; omega
    clear HE HS
    go_wp2
    rw [aU HX]
    exact ⟨⟨k+1,rfl,by go_num,by omega,trivial⟩,by simp [intOf]; omega⟩
   ·have he' : ¬ (k:Int)%2=0:=by omega
    rw [if_neg he] at HE
    have e1:bits .and .i64 ((f:Int)+(n:Int)) 65535=((f:Int)+(n:Int))%65536:=by
     rw [show (f:Int)+(n:Int)=((f+n:Nat):Int) by omega,i64_and_ffff _ (by omega)]
    have HX:Hid (((f:Int)+(n:Int))%65536+((f:Int)+(n:Int))/65536=((fold (ws true (l.take (k+1))):Nat):Int)):=by
     have:=aU HS n (by omega)
     rw [← aU HE] at this
     rw [Hid]; omega
    clear HE HS
    go_wp2
    rw [aU HX]
    exact ⟨⟨k+1,rfl,by go_num,by omega,trivial⟩,by simp [intOf]; omega⟩
  ·have hkl:k=l.length:=by omega
   subst hkl
   have HE:=aH (congrArg (fun x=>fold (ws true x)) (List.take_length (l:=l)))
   generalize fold (ws true (l.take l.length))=f at *
   go_wp2
   go_ret
   refine ⟨?_,aU HB⟩
   rw [aU HE]; rfl
theorem at_any (s:Str) (i:Nat) (w:World) (h:i+1<s.length) (hl:s.length≤1000000) :
  Calls Tryz.prog 34 #[.string (B s),.int .i64 i] w fun e w'=>e=.returned (.int .i64 ((256*s[i].toNat+s[i+1].toNat:Nat):Int))∧Below w.heap.size w w':=by
 have hs:(B s).size=s.length:=size_B s
 obtain ⟨j,hj⟩ : ∃ j,j=i+1:=⟨_,rfl⟩
 have kj:(i:Int)+1=(j:Int):=by omega
 have hi':i<s.length:=by omega
 have hj':j<s.length:=by omega
 have g1 : ∀ h:i<(B s).size,(B s)[i]=s[i]:=fun h=>rfl
 have g2 : ∀ h:j<(B s).size,(B s)[j]=s[j]:=fun h=>rfl
 have c1:=UInt8.toNat_lt s[i]
 have c2:=UInt8.toNat_lt s[j]
 have HG:Hid ((256:Int)*(s[i].toNat:Int)+(s[j].toNat:Int)=((256*s[i].toNat+s[i+1].toNat:Nat):Int)):=by subst hj; rw [Hid]; omega
 generalize ((256*s[i].toNat+s[i+1].toNat:Nat):Int)=R at *
 clear h hj
 go_enter Tryz.func34,Tryz.ntmps34
 go_wp2_with fail
 go_region
 all_goals
  go_wp2
  go_ret
  refine ⟨?_,(Below.refl _ _).drew⟩
  rw [← aU HG]; rfl
end Hb
end Go.Proofs.YtkkpahmoljiepaaGreatDoor
