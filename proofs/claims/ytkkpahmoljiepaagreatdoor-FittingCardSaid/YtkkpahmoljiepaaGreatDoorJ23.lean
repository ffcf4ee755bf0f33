/- Contract: (query).reply of a query without an OPT, where all fits. -/
import Derived.Test.YtkkpahmoljiepaaGreatDoorJ20
import Derived.Test.YtkkpahmoljiepaaGreatDoorJ22
import Derived.BigQuiet
import Derived.Test.YtkkpahmoljiepaaGreatDoorJ01
import Derived.Test.YtkkpahmoljiepaaGreatDoorJ14
import Derived.Test.YtkkpahmoljiepaaGreatDoorJ17
import Derived.Deep.RegionHeld
import Derived.LoopN
import Derived.Test.YtkkpahmoljiepaaGreatDoorJ15
import Derived.Test.YtkkpahmoljiepaaGreatDoorJ16
set_option linter.unusedSimpArgs false
set_option linter.unusedVariables false
namespace Go.Proofs.YtkkpahmoljiepaaGreatDoor
open Go.RowKit
open Pu (Str aH aU)
namespace Xa
open Ka Kd Rf Rg Ia Iow Ie Zb Zc Za La Lb Lg Lj Wa Wb Wc Wd We Wf Wg Wh Wi Wj Wk Wl Wm Wn Wo Wp Wq Ws Wt Wu Wv Wy Wz Re
end Xa
end Go.Proofs.YtkkpahmoljiepaaGreatDoor

set_option maxRecDepth 1000000
set_option maxHeartbeats 12800000
namespace Go.Proofs.YtkkpahmoljiepaaGreatDoor
open Go.RowKit
open Pu (aH aU)
namespace Kc
open Ka
theorem conv1 (w:World) (c:Int):Sem.run Tryz.prog (convert 58 9 (.slice (some ⟨w.heap.size,0,none⟩) 1 1)) (w.alloc (.cells #[.int .u8 c] 5))=.ok (.string (strOfNums [c])) (w.alloc (.cells #[.int .u8 c] 5)) :=
 run_convert_bytes_arg _ 58 5 (by kernel_rfl) (by kernel_rfl) w.heap.size 0 1 1 [c] rfl (fun i hi=>by
  obtain rfl:i=0:=by omega
  simp) 9 (by kernel_rfl)
def digitsI (n:Nat):Pu.Str:=if h:n<10 then [UInt8.ofNat (48+n)] else digitsI (n/10)++[UInt8.ofNat (48+n%10)]
theorem digitsI_small (n:Nat) (h:n<10):digitsI n = [UInt8.ofNat (48+n)]:=by rw [digitsI,dif_pos h]
theorem digitsI_great (n:Nat) (h : ¬ n<10):digitsI n=digitsI (n/10)++[UInt8.ofNat (48+n%10)]:=by rw [digitsI,dif_neg h]
theorem digitsI_len : ∀ (f n:Nat),n<10 ^ f→(digitsI n).length≤f+1
 | 0,n,h=>by rw [digitsI_small n (by omega)]; simp
 | f+1,n,h=>by
  by_cases h1:n<10
  ·rw [digitsI_small n h1]; simp
  ·rw [digitsI_great n h1,List.length_append]
   have:=digitsI_len f (n/10) (by rw [Nat.pow_succ] at h; omega)
   simp; omega
def hd (k:Nat):Pu.Str:=if k<10 then [] else digitsI (k/10)
theorem digitsI_hd (k:Nat):digitsI k=hd k++[UInt8.ofNat (48+k%10)]:=by
 unfold hd
 split
 ·rw [digitsI_small k (by assumption),Nat.mod_eq_of_lt (by assumption)]; rfl
 ·rw [digitsI_great k (by assumption)]
theorem str1 (c:Nat):strOfNums [48+(c:Int)%10]=⟨[UInt8.ofNat (48+c%10)].toArray⟩:=by
 unfold strOfNums
 have:(48+(c:Int)%10).toNat=48+c%10:=by omega
 simp [this]
theorem digits_any (n:Nat) (w:World) (hn:n≤1000000) :
  Calls Tryz.prog 21 #[.int .i64 n] w fun e w'=>e=.returned (.string ⟨(digitsI n).toArray⟩)∧Below w.heap.size w w':=by
 have hcv:=conv1
 have hlen:=digitsI_len 7 n (by omega)
 have hsz : ∀ c:Int,(strOfNums [c]).size=1:=fun _=>rfl
 go_enter Tryz.func21,Tryz.ntmps21
 go_wp2
 go_loopw [0,3] (fun a s wr=>∃ (k:Nat) (t:ByteArray),a=.int .i64 k∧k≤1000000∧s=.string t∧digitsI n=hd k++t.data.toList∧Below w.heap.size w wr) (fun a _ _=>(intOf a).toNat)
 case atStart =>
  exact ⟨n,_,rfl,hn,rfl,by rw [str1,digitsI_hd n],(Below.refl _ _).alloc (Nat.le_refl _) _⟩
 case round =>
  obtain ⟨k,t,rfl,hk,rfl,hd1,hb⟩:=hrel
  have H:=aH hd1
  have hts:t.size≤8:=by
   have:=congrArg List.length hd1
   rw [List.length_append,Pu.len_eq] at this
   omega
  clear hd1
  by_cases h10:k<10
  ·have hfin:Hid (digitsI n=t.data.toList):=by
    rw [aU H,hd,if_pos h10]; rfl
   go_wp2
   go_ret
   refine ⟨?_,hb⟩
   rw [aU hfin]
   rfl
  ·have hgt:(10:Int)≤k:=by omega
   have hstep:digitsI n=hd (k/10)++(UInt8.ofNat (48+k/10%10) :: t.data.toList):=by
    rw [aU H,hd,if_neg h10,digitsI_hd (k/10)]; simp
   have Hs:=aH hstep
   clear hstep
   go_wp2
   go_roundw
   case rel =>
    refine ⟨k/10,_,by go_num,by omega,rfl,?_,hb.trans ((Below.refl _ _).alloc hb.size _)⟩
    rw [aU Hs,show ((k:Int)/10)=((k/10:Nat):Int) from by omega,str1 (k/10)]
    simp
   case measure=>simp [intOf]; omega
end Kc
end Go.Proofs.YtkkpahmoljiepaaGreatDoor

namespace Go.Proofs.YtkkpahmoljiepaaGreatDoor
open Go.RowKit
open Pu (Str aH aU)
namespace Tb
open Ta Kc
end Tb
namespace Va
open Go.Sort
open Ta (headS zz)
end Va
namespace Vb
open Ka Kc Wa Wb Wd Wi Wl Wm Va
theorem ba_ext {a b:ByteArray} (h:a.data.toList=b.data.toList):a=b:=by
 cases a; cases b; simp at h; rw [h]
theorem conv_new (w:World) (l:Str) (n:Nat) (hn:n=l.length) (hl:l.length≤maxLen):(convert 58 9 (.slice (some ⟨w.heap.size,0,none⟩) n n)).run Tryz.prog (w.alloc (.cells (l.map fun c=>Value.int .u8 c.toNat).toArray 5))=.ok (.string (B l)) (w.alloc (.cells (l.map fun c=>Value.int .u8 c.toNat).toArray 5)):=by
 subst hn
 refine own_string (base:=0) ⟨by simp,.inr ⟨w.heap.size,l.length,(l.map fun c=>Value.int .u8 c.toNat).toArray,rfl,Nat.zero_le _,World.alloc_heap_new w _,Nat.le_refl _,hl,by simp,by rw [Nat.mul_one]; exact List.take_of_length_le (by simp)⟩⟩
theorem two_any (n:Nat) (w:World) (hn:n<65536) :
  Calls Tryz.prog 33 #[.int .i64 n] w fun e w'=>e=.returned (.string (B [hi n,lo n]))∧Below w.heap.size w w':=by
 have kc:=conv_new w [hi n,lo n] 2 rfl (by simp [maxLen])
 have eh:((hi n).toNat:Int)=(n:Int)/256:=by unfold hi; rw [UInt8.toNat_ofNat']; omega
 have el:((lo n).toNat:Int)=(n:Int)%256:=by unfold lo; rw [UInt8.toNat_ofNat']; omega
 simp only [List.map_cons,List.map_nil,eh,el] at kc
 go_enter Tryz.func33,Tryz.ntmps33
 go_wp2
 go_ret
 exact ⟨rfl,(Below.refl _ _).alloc (Nat.le_refl _) _⟩
end Vb
namespace Vd
open Ka Kc Wa Wb Wd Wi Wl Wm Va Vb
def quest (x y:Str) (t:Nat):Str:=UInt8.ofNat x.length :: x++UInt8.ofNat y.length :: y++[0,hi t,lo t,0,1]
theorem conv_drew (w:World) (c:UInt8):(convert 58 9 (.slice (some ⟨w.heap.size,0,none⟩) 1 1)).run Tryz.prog (w.alloc (.cells #[.int .u8 c.toNat] 5)).drew=.ok (.string ⟨#[c]⟩) (w.alloc (.cells #[.int .u8 c.toNat] 5)).drew :=
 own_string (base:=0) (l:=[c]) ⟨by simp,.inr ⟨w.heap.size,1,#[.int .u8 c.toNat],rfl,Nat.zero_le _,World.alloc_heap_new w _,Nat.le_refl _,by simp [maxLen],by simp,by simp⟩⟩
theorem question_two (b t:Nat) (x y:Str) (w:World) (hx:w.cell? ⟨b,0,none⟩=some (.string (B x))) (hy:w.cell? ⟨b,1,none⟩=some (.string (B y))) (lx:x.length≤60) (ly:y.length≤60) (ht:t<65536) :
  Calls Tryz.prog 29 #[.slice (some ⟨b,0,none⟩) 2 2,.int .i64 t] w fun e w'=>e=.returned (.string (B (quest x y t)))∧Below w.heap.size w w':=by
 have sx:(B x).size=x.length:=size_B x
 have sy:(B y).size=y.length:=size_B y
 obtain ⟨cx,hcx⟩ : ∃ c,c=UInt8.ofNat x.length:=⟨_,rfl⟩
 obtain ⟨cy,hcy⟩ : ∃ c,c=UInt8.ofNat y.length:=⟨_,rfl⟩
 have ax:IntKind.u8.wrap (x.length:Int)=(cx.toNat:Int):=by rw [IntKind.wrap_u8,hcx,UInt8.toNat_ofNat']; omega
 have ay:IntKind.u8.wrap (y.length:Int)=(cy.toNat:Int):=by rw [IntKind.wrap_u8,hcy,UInt8.toNat_ofNat']; omega
 have HQ:Hid (quest x y t=cx :: x++cy :: y++[0,hi t,lo t,0,1]):=by rw [Hid,hcx,hcy]; rfl
 have kx:=conv_drew w cx
 have HT:=aH (fun W=>two_any t W ht)
 have H1:Hid (∀ W,Calls Tryz.prog 33 #[.int .i64 1] W fun e w'=>e=.returned (.string ⟨#[0,1]⟩)∧Below W.heap.size W w'):=fun W=>two_any 1 W (by omega)
 clear hcx hcy ht
 go_enter Tryz.func29,Tryz.ntmps29
 go_wp2_with fail
 refine wp_loop_rounds 3 ?_
 rw [rounds_succ]
 go_wp2_with fail
 go_region_held (fun w'=>w'.cell? ⟨b,0,none⟩=some (.string (B x))∧w'.cell? ⟨b,1,none⟩=some (.string (B y))) (first | assumption | go_keep) (fail)
 rename_i hH
 have hB1:Below w.heap.size w (w.alloc (.cells #[.int .u8 cx.toNat] 5)).drew:=((Below.refl _ _).alloc (Nat.le_refl _) _).drew
 obtain ⟨hx1,hy1⟩:=hH
 clear hx hy kx
 generalize (w.alloc (.cells #[.int .u8 cx.toNat] 5)).drew=w1 at *
 have ky:=conv_drew w1 cy
 go_wp2_with fail
 rw [rounds_succ]
 go_wp2_with fail
 go_region_held (fun w'=>w'.cell? ⟨b,0,none⟩=some (.string (B x))∧w'.cell? ⟨b,1,none⟩=some (.string (B y))) (first | assumption | go_keep) (fail)
 rename_i hH
 have hB2:Below w.heap.size w (w1.alloc (.cells #[.int .u8 cy.toNat] 5)).drew:=hB1.trans ((((Below.refl _ _).alloc (Nat.le_refl _) _).drew).mono hB1.size)
 clear hH hx1 hy1 ky ax ay hB1
 generalize (w1.alloc (.cells #[.int .u8 cy.toNat] 5)).drew=w2 at *
 go_wp2_with fail
 rw [rounds_succ]
 go_wp2_with fail
 refine (aU HT _).mono ?_
 rintro e w3 ⟨rfl,hb3⟩
 have hB3:=hB2.trans (hb3.mono hB2.size)
 have st:(B [hi t,lo t]).size=2:=rfl
 go_wp2_with fail
 refine (aU H1 _).mono ?_
 rintro e w4 ⟨rfl,hb4⟩
 have hB4:=aH (hB3.trans (hb4.mono hB3.size))
 clear hB2 hB3 hb3 hb4
 go_wp2_with fail
 go_ret
 refine ⟨?_,aU hB4⟩
 rw [aU HQ]
 exact congrArg (fun x=>Ending.returned (.string x)) (ba_ext (by simp [B]))
def asks (i:Nat) (q:Str):Str:=[hi i,lo i,1,0,0,1,0,0,0,0,0,0]++q
theorem query_plain (i:Nat) (q:Str) (w:World) (hi':i<65536) (hq:q.length≤1000) :
  Calls Tryz.prog 31 #[.int .i64 i,.string (B q),.int .i64 (-1)] w fun e w'=>e=.returned (.string (B (asks i q)))∧Below w.heap.size w w':=by
 have sq:(B q).size=q.length:=size_B q
 have HT:=aH (fun W=>two_any i W hi')
 have H0:Hid (∀ W,Calls Tryz.prog 33 #[.int .i64 0] W fun e w'=>e=.returned (.string ⟨#[0,0]⟩)∧Below W.heap.size W w'):=fun W=>two_any 0 W (by omega)
 go_enter Tryz.func31,Tryz.ntmps31
 go_wp2_with fail
 refine (aU HT _).mono ?_
 rintro e w3 ⟨rfl,hb3⟩
 have st:(B [hi i,lo i]).size=2:=rfl
 go_wp2_with fail
 refine (aU H0 _).mono ?_
 rintro e w4 ⟨rfl,hb4⟩
 have hB4:=aH (hb3.trans (hb4.mono hb3.size))
 clear hb3 hb4
 go_wp2_with fail
 go_ret
 refine ⟨?_,aU hB4⟩
 exact congrArg (fun x=>Ending.returned (.string x)) (ba_ext (by simp [B,asks]))
end Vd
namespace Vc
open Ka Wa Wb Wd
end Vc
namespace Xb
open Ka Kd Rf Rg Ia Iow Ie Zb Zc Za La Lb Lc Lg Lj Wa Wb Wc Wd We Wf Wg Wh Wi Wj Wk Wl Wm Wn Wo Wp Wq Ws Wt Wu Wv Wx Wy Wz Xa Va Vb Vd Re
open Ta (zz)
theorem hilo (i:Nat) (h:i<65536):(hi i).toNat*256+(lo i).toNat=i:=by
 unfold hi lo
 rw [UInt8.toNat_ofNat',UInt8.toNat_ofNat']
 omega
theorem hdr_asks (i:Nat) (q:Str) (h:i<65536):hdrP (asks i q)=([i,256,1,0,0,0],true):=by
 have:=hilo i h
 simp [hdrP,cntP,shortP,octP,asks,this]
theorem rv_lies {w:World} {v:Value} {rs:List Rec} (h:RV w v rs) (hg:G w) : ∃ b off,Lies v b off rs∧bE w b off rs:=by
 rcases h with ⟨rfl,rfl⟩ | ⟨b,off,cap,rfl,hc,hr⟩
 ·exact ⟨0,0,.inl ⟨rfl,rfl⟩,hg.1,fun j hj=>by simp at hj⟩
 ·exact ⟨b,off,.inr ⟨cap,rfl,hc⟩,hr⟩
end Xb
namespace Mt
open Ka Kd Rf Rg Ia Iow Ie Zb Zc Za La Lb Lc Lg Lj Wa Wb Wc Wd We Wf Wg Wh Wi Wj Wk Wl Wm Wn Wo Wp Wq Ws Wt Wu Wv Wx Wy Wz Xa Xb Va Vb Vd Re
open Ta (zz)
theorem reply_glue (zb i:Nat) (xo sz rc k:Int) (op:Bool) (m qs nm:Str) (ra rb:List Rec) (R:Str) (w:World) (hg:G w) (hml:12≤m.length)
  (hh:Calls Tryz.prog 70 #[.string (B m)] w fun e w'=>e=.returned (.tuple #[.agg #[.int .i64 i,.int .i64 256,.int .i64 1,.int .i64 0,.int .i64 0,.int .i64 xo],.bool true])∧Below w.heap.size w w')
  (hq : ∀ W,Calls Tryz.prog 72 #[.agg #[.int .i64 i,.int .i64 256,.int .i64 1,.int .i64 0,.int .i64 0,.int .i64 xo],.string (B m)] W fun e w'=>e=.returned (.tuple #[qVal i 256 1 0 0 xo qs nm k 1 op sz 0,.bool true])∧Below W.heap.size W w')
  (ha : ∀ W,Below w.heap.size w W→Calls Tryz.prog 74 #[qVal i 256 1 0 0 xo qs nm k 1 op sz 0,.pointer (some ⟨zb,0,none⟩)] W fun e w'=>(∃ va vb,e=.returned (.agg #[.int .i64 rc,.bool true,va,vb,.slice none 0 0])∧OwnR w' W.heap.size va ra∧OwnR w' W.heap.size vb rb)∧Below W.heap.size W w')
  (hr : ∀ W va vb,G W→RV W va ra→RV W vb rb→Calls Tryz.prog 73 #[qVal i 256 1 0 0 xo qs nm k 1 op sz 0,.agg #[.int .i64 rc,.bool true,va,vb,.slice none 0 0]] W fun e w'=>e=.returned (.string (B R))∧Below W.heap.size W w') :
  Calls Tryz.prog 27 #[.pointer (some ⟨zb,0,none⟩),.string (B m)] w fun e w'=>e=.returned (.string (B R))∧Below w.heap.size w w':=by
 have HRH:=aH hh
 have HRQ:=aH hq
 have HQA:=aH ha
 have HRP:=aH hr
 have HG:=aH hg
 have hs:(B m).size=m.length:=size_B m
 have b1:bits .and .i64 256 32768=0:=by kernel_rfl
 have b2:bits .and .i64 256 30720=0:=by kernel_rfl
 clear hh hq ha hr hg
 unfold qVal at HRQ HQA HRP
 go_enter Tryz.func27,Tryz.ntmps27
 go_wp2_with fail
 refine (aU HRH).mono ?_
 rintro e w1 ⟨rfl,hb1⟩
 have hB1:=aH hb1
 have hs1:=hb1.size
 clear hb1
 go_wp2_with fail
 refine (aU HRQ _).mono ?_
 rintro e w2 ⟨rfl,hb2⟩
 have hB2:Below w.heap.size w w2:=((aU hB1).alloc hs1 _).trans (hb2.mono (by simp; omega))
 have HB2:=aH hB2
 have hs2:=hB2.size
 clear hb2 hB2 hB1 HRQ HRH
 go_wp2_with fail
 have hQ:QAt (w2.alloc (.cells #[.int .i64 i,.int .i64 256,.int .i64 1,.int .i64 0,.int .i64 0,.int .i64 xo,.string (B qs),.string (B nm),.int .i64 k,.int .i64 1,.bool op,.int .i64 sz,.int .i64 0] 137)) w2.heap.size i 256 1 0 0 xo qs nm k 1 op sz 0:=World.alloc_heap_new w2 _
 have hBX:Below w.heap.size w (w2.alloc (.cells #[.int .i64 i,.int .i64 256,.int .i64 1,.int .i64 0,.int .i64 0,.int .i64 xo,.string (B qs),.string (B nm),.int .i64 k,.int .i64 1,.bool op,.int .i64 sz,.int .i64 0] 137)):=(aU HB2).alloc hs2 _
 clear HB2
 generalize (w2.alloc (.cells #[.int .i64 i,.int .i64 256,.int .i64 1,.int .i64 0,.int .i64 0,.int .i64 xo,.string (B qs),.string (B nm),.int .i64 k,.int .i64 1,.bool op,.int .i64 sz,.int .i64 0] 137))=X at *
 have kS : ∀ W W':World,Below W.heap.size W W'→(W.cell? ⟨w2.heap.size,0,none⟩=some (.int .i64 i)∧W.cell? ⟨w2.heap.size,1,none⟩=some (.int .i64 256)∧W.cell? ⟨w2.heap.size,2,none⟩=some (.int .i64 1)∧W.cell? ⟨w2.heap.size,3,none⟩=some (.int .i64 0)∧W.cell? ⟨w2.heap.size,4,none⟩=some (.int .i64 0)∧W.cell? ⟨w2.heap.size,5,none⟩=some (.int .i64 xo)∧W.cell? ⟨w2.heap.size,6,none⟩=some (.string (B qs))∧W.cell? ⟨w2.heap.size,7,none⟩=some (.string (B nm))∧W.cell? ⟨w2.heap.size,8,none⟩=some (.int .i64 k)∧W.cell? ⟨w2.heap.size,9,none⟩=some (.int .i64 1)∧W.cell? ⟨w2.heap.size,10,none⟩=some (.bool op)∧W.cell? ⟨w2.heap.size,11,none⟩=some (.int .i64 sz)∧W.cell? ⟨w2.heap.size,12,none⟩=some (.int .i64 0))→(W'.cell? ⟨w2.heap.size,0,none⟩=some (.int .i64 i)∧W'.cell? ⟨w2.heap.size,1,none⟩=some (.int .i64 256)∧W'.cell? ⟨w2.heap.size,2,none⟩=some (.int .i64 1)∧W'.cell? ⟨w2.heap.size,3,none⟩=some (.int .i64 0)∧W'.cell? ⟨w2.heap.size,4,none⟩=some (.int .i64 0)∧W'.cell? ⟨w2.heap.size,5,none⟩=some (.int .i64 xo)∧W'.cell? ⟨w2.heap.size,6,none⟩=some (.string (B qs))∧W'.cell? ⟨w2.heap.size,7,none⟩=some (.string (B nm))∧W'.cell? ⟨w2.heap.size,8,none⟩=some (.int .i64 k)∧W'.cell? ⟨w2.heap.size,9,none⟩=some (.int .i64 1)∧W'.cell? ⟨w2.heap.size,10,none⟩=some (.bool op)∧W'.cell? ⟨w2.heap.size,11,none⟩=some (.int .i64 sz)∧W'.cell? ⟨w2.heap.size,12,none⟩=some (.int .i64 0)):=fun W W' hb h=>by
  have kp : ∀ (a:Addr) (v:Value),W.cell? a=some v→W'.cell? a=some v:=fun a v h=>(hb.cell (World.block_lt_of_cell? W a h)).trans h
  obtain ⟨e0,e1,e2,e3,e4,e5,e6,e7,e8,e9,e10,e11,e12⟩:=h
  exact ⟨kp _ _ e0,kp _ _ e1,kp _ _ e2,kp _ _ e3,kp _ _ e4,kp _ _ e5,kp _ _ e6,kp _ _ e7,kp _ _ e8,kp _ _ e9,kp _ _ e10,kp _ _ e11,kp _ _ e12⟩
 have HQ2:Hid (∀ W,Below w.heap.size w W→(W.cell? ⟨w2.heap.size,0,none⟩=some (.int .i64 i)∧W.cell? ⟨w2.heap.size,1,none⟩=some (.int .i64 256)∧W.cell? ⟨w2.heap.size,2,none⟩=some (.int .i64 1)∧W.cell? ⟨w2.heap.size,3,none⟩=some (.int .i64 0)∧W.cell? ⟨w2.heap.size,4,none⟩=some (.int .i64 0)∧W.cell? ⟨w2.heap.size,5,none⟩=some (.int .i64 xo)∧W.cell? ⟨w2.heap.size,6,none⟩=some (.string (B qs))∧W.cell? ⟨w2.heap.size,7,none⟩=some (.string (B nm))∧W.cell? ⟨w2.heap.size,8,none⟩=some (.int .i64 k)∧W.cell? ⟨w2.heap.size,9,none⟩=some (.int .i64 1)∧W.cell? ⟨w2.heap.size,10,none⟩=some (.bool op)∧W.cell? ⟨w2.heap.size,11,none⟩=some (.int .i64 sz)∧W.cell? ⟨w2.heap.size,12,none⟩=some (.int .i64 0))→Calls Tryz.prog 74 #[(.agg #[.int .i64 i,.int .i64 256,.int .i64 1,.int .i64 0,.int .i64 0,.int .i64 xo,.string (B qs),.string (B nm),.int .i64 k,.int .i64 1,.bool op,.int .i64 sz,.int .i64 0]),.pointer (some ⟨zb,0,none⟩)] W fun e w' =>
   ∃ aa ca ab cb,e=.returned (.agg #[.int .i64 rc,.bool true,.slice aa ra.length ca,.slice ab rb.length cb,.slice none 0 0])∧(w'.cell? ⟨w2.heap.size,0,none⟩=some (.int .i64 i)∧w'.cell? ⟨w2.heap.size,1,none⟩=some (.int .i64 256)∧w'.cell? ⟨w2.heap.size,2,none⟩=some (.int .i64 1)∧w'.cell? ⟨w2.heap.size,3,none⟩=some (.int .i64 0)∧w'.cell? ⟨w2.heap.size,4,none⟩=some (.int .i64 0)∧w'.cell? ⟨w2.heap.size,5,none⟩=some (.int .i64 xo)∧w'.cell? ⟨w2.heap.size,6,none⟩=some (.string (B qs))∧w'.cell? ⟨w2.heap.size,7,none⟩=some (.string (B nm))∧w'.cell? ⟨w2.heap.size,8,none⟩=some (.int .i64 k)∧w'.cell? ⟨w2.heap.size,9,none⟩=some (.int .i64 1)∧w'.cell? ⟨w2.heap.size,10,none⟩=some (.bool op)∧w'.cell? ⟨w2.heap.size,11,none⟩=some (.int .i64 sz)∧w'.cell? ⟨w2.heap.size,12,none⟩=some (.int .i64 0))∧Hid (Below w.heap.size w w'∧G w'∧RV w' (.slice aa ra.length ca) ra∧RV w' (.slice ab rb.length cb) rb)):=by
  intro W hb hS
  refine (aU HQA W hb).mono ?_
  rintro e w' ⟨⟨va,vb,rfl,ha,hv⟩,hb'⟩
  have hB':=hb.trans (hb'.mono hb.size)
  have ra':=ha.rv
  have rb':=hv.rv
  obtain ⟨aa,ca,rfl⟩:=ha.slice
  obtain ⟨ab,cb,rfl⟩:=hv.slice
  exact ⟨aa,ca,ab,cb,rfl,kS W w' hb' hS,hB',(aU HG).below hB',ra',rb'⟩
 have HR2:Hid (∀ W aa ca ab cb,Hid (Below w.heap.size w W∧G W∧RV W (.slice aa ra.length ca) ra∧RV W (.slice ab rb.length cb) rb)→(W.cell? ⟨w2.heap.size,0,none⟩=some (.int .i64 i)∧W.cell? ⟨w2.heap.size,1,none⟩=some (.int .i64 256)∧W.cell? ⟨w2.heap.size,2,none⟩=some (.int .i64 1)∧W.cell? ⟨w2.heap.size,3,none⟩=some (.int .i64 0)∧W.cell? ⟨w2.heap.size,4,none⟩=some (.int .i64 0)∧W.cell? ⟨w2.heap.size,5,none⟩=some (.int .i64 xo)∧W.cell? ⟨w2.heap.size,6,none⟩=some (.string (B qs))∧W.cell? ⟨w2.heap.size,7,none⟩=some (.string (B nm))∧W.cell? ⟨w2.heap.size,8,none⟩=some (.int .i64 k)∧W.cell? ⟨w2.heap.size,9,none⟩=some (.int .i64 1)∧W.cell? ⟨w2.heap.size,10,none⟩=some (.bool op)∧W.cell? ⟨w2.heap.size,11,none⟩=some (.int .i64 sz)∧W.cell? ⟨w2.heap.size,12,none⟩=some (.int .i64 0))→Calls Tryz.prog 73 #[(.agg #[.int .i64 i,.int .i64 256,.int .i64 1,.int .i64 0,.int .i64 0,.int .i64 xo,.string (B qs),.string (B nm),.int .i64 k,.int .i64 1,.bool op,.int .i64 sz,.int .i64 0]),.agg #[.int .i64 rc,.bool true,.slice aa ra.length ca,.slice ab rb.length cb,.slice none 0 0]] W fun e w' =>
   e=.returned (.string (B (R)))∧(w'.cell? ⟨w2.heap.size,0,none⟩=some (.int .i64 i)∧w'.cell? ⟨w2.heap.size,1,none⟩=some (.int .i64 256)∧w'.cell? ⟨w2.heap.size,2,none⟩=some (.int .i64 1)∧w'.cell? ⟨w2.heap.size,3,none⟩=some (.int .i64 0)∧w'.cell? ⟨w2.heap.size,4,none⟩=some (.int .i64 0)∧w'.cell? ⟨w2.heap.size,5,none⟩=some (.int .i64 xo)∧w'.cell? ⟨w2.heap.size,6,none⟩=some (.string (B qs))∧w'.cell? ⟨w2.heap.size,7,none⟩=some (.string (B nm))∧w'.cell? ⟨w2.heap.size,8,none⟩=some (.int .i64 k)∧w'.cell? ⟨w2.heap.size,9,none⟩=some (.int .i64 1)∧w'.cell? ⟨w2.heap.size,10,none⟩=some (.bool op)∧w'.cell? ⟨w2.heap.size,11,none⟩=some (.int .i64 sz)∧w'.cell? ⟨w2.heap.size,12,none⟩=some (.int .i64 0))∧Hid (Below w.heap.size w w')):=by
  intro W aa ca ab cb hB hS
  obtain ⟨hb,hgW,ra',rb'⟩:=aU hB
  refine (aU HRP W _ _ hgW ra' rb').mono ?_
  rintro e w' ⟨rfl,hb'⟩
  exact ⟨rfl,kS W w' hb' hS,hb.trans (hb'.mono hb.size)⟩
 have hS:X.drew.cell? ⟨w2.heap.size,0,none⟩=some (.int .i64 i)∧X.drew.cell? ⟨w2.heap.size,1,none⟩=some (.int .i64 256)∧X.drew.cell? ⟨w2.heap.size,2,none⟩=some (.int .i64 1)∧X.drew.cell? ⟨w2.heap.size,3,none⟩=some (.int .i64 0)∧X.drew.cell? ⟨w2.heap.size,4,none⟩=some (.int .i64 0)∧X.drew.cell? ⟨w2.heap.size,5,none⟩=some (.int .i64 xo)∧X.drew.cell? ⟨w2.heap.size,6,none⟩=some (.string (B qs))∧X.drew.cell? ⟨w2.heap.size,7,none⟩=some (.string (B nm))∧X.drew.cell? ⟨w2.heap.size,8,none⟩=some (.int .i64 k)∧X.drew.cell? ⟨w2.heap.size,9,none⟩=some (.int .i64 1)∧X.drew.cell? ⟨w2.heap.size,10,none⟩=some (.bool op)∧X.drew.cell? ⟨w2.heap.size,11,none⟩=some (.int .i64 sz)∧X.drew.cell? ⟨w2.heap.size,12,none⟩=some (.int .i64 0):=hQ.cells
 have hBD:Below w.heap.size w X.drew:=hBX.drew
 have HBD:=aH hBD
 clear hQ hBX hBD HQA HRP kS
 go_region_held (fun w'=>w'.cell? ⟨w2.heap.size,0,none⟩=some (.int .i64 i)∧w'.cell? ⟨w2.heap.size,1,none⟩=some (.int .i64 256)∧w'.cell? ⟨w2.heap.size,2,none⟩=some (.int .i64 1)∧w'.cell? ⟨w2.heap.size,3,none⟩=some (.int .i64 0)∧w'.cell? ⟨w2.heap.size,4,none⟩=some (.int .i64 0)∧w'.cell? ⟨w2.heap.size,5,none⟩=some (.int .i64 xo)∧w'.cell? ⟨w2.heap.size,6,none⟩=some (.string (B qs))∧w'.cell? ⟨w2.heap.size,7,none⟩=some (.string (B nm))∧w'.cell? ⟨w2.heap.size,8,none⟩=some (.int .i64 k)∧w'.cell? ⟨w2.heap.size,9,none⟩=some (.int .i64 1)∧w'.cell? ⟨w2.heap.size,10,none⟩=some (.bool op)∧w'.cell? ⟨w2.heap.size,11,none⟩=some (.int .i64 sz)∧w'.cell? ⟨w2.heap.size,12,none⟩=some (.int .i64 0)) (first | assumption | go_keep)
  (first
   | (go_at_call 74; go_loud (refine (aU HQ2 _ (aU HBD) ?_).mono ?_; assumption; rintro e w5 ⟨aa,ca,ab,cb,rfl,hS5,HB5⟩))
   | (go_at_call 73; go_loud (refine (aU HR2 _ _ _ _ _ HB5 ?_).mono ?_; assumption; rintro e w6 ⟨rfl,hS6,HB6⟩)))
 rename_i hH
 clear hH hS hS5 hS6 HB5
 go_wp2_with fail
 go_ret
 exact ⟨rfl,aU HB6⟩
end Mt
namespace Mm
open Ka Kd Rg Ia Iow Ie Zb Zc Za La Wa Wb Wc Wd We Wf Wg Wh Wi Wj Wk Wl Wm Wn Wo Wp Wq Ws Wt Ma Mb Mc Md Me Re
theorem rr_TXT (r:Rec) (ho:r.owner.length≤300) (ht:r.type=16) (hl:r.ttl<4294967296) (hd:r.data.length≤3000):RrG r (txtFs r.data) where
 own:=ho
 typ:=by rw [ht]; exact ⟨rfl,by decide⟩
 ttl:=hl
 data:=fun W hG=>dataOf_TXT r W hG ht hd
 ok:=fun mb base I hI hb hm f hf=>by
  simp only [txtFs,List.mem_cons,List.mem_nil_iff,or_false] at hf
  rcases hf with rfl | rfl
  ·exact ofFd_ok (octet_ok _) _ _ _
  ·exact ofFd_ok (raw_ok _) _ _ _
 ne:=by simp [txtFs]
 few:=by simp [txtFs]
end Mm
namespace Mj
open Ka Wa Wb Wc Wd We Wf Re
def skipP (n:Nat) (s:Str) (br:Bool):Str×Bool:=if n≤s.length then (s.drop n,br) else ([],true)
theorem skipP_len (n:Nat) (s:Str) (br:Bool):(skipP n s br).1.length≤s.length:=by unfold skipP; split <;> simp
theorem take_any (b n:Nat) (s:Str) (br:Bool) (w:World) (h:RdAt w b s br) (hn:n≤100000) (hl:s.length≤1000000000) :
  Calls Tryz.prog 148 #[.pointer (some ⟨b,0,none⟩),.int .i64 n] w fun e w' =>
   (∃ x,e=.returned (.string x))∧RdAt w' b (skipP n s br).1 (skipP n s br).2∧It.Keeps b w w'∧w'.heap.size=w.heap.size:=by
 unfold skipP
 split
 ·refine (take_ok b n s br w h (by assumption) hl).mono ?_
  rintro e w' ⟨rfl,h⟩
  exact ⟨⟨_,rfl⟩,h⟩
 ·refine (take_no b n s br w h (by omega) (by omega)).mono ?_
  rintro e w' ⟨rfl,h⟩
  exact ⟨⟨_,rfl⟩,h⟩
section
variable {w:World} {b:Nat} {h0 h1 h2 h3 h4 h5:Int} {q n:Str} {k c:Int} {opt:Bool} {sz ver:Int}
theorem q11 (h:QAt w b h0 h1 h2 h3 h4 h5 q n k c opt sz ver) (x:Int):QAt (w.setCell ⟨b,11,none⟩ (.int .i64 x)) b h0 h1 h2 h3 h4 h5 q n k c opt x ver:=by
 unfold QAt at *; simp only [World.setCell]; rw [Array.getElem?_modify,if_pos rfl,h]; rfl
theorem q12 (h:QAt w b h0 h1 h2 h3 h4 h5 q n k c opt sz ver) (x:Int):QAt (w.setCell ⟨b,12,none⟩ (.int .i64 x)) b h0 h1 h2 h3 h4 h5 q n k c opt sz x:=by
 unfold QAt at *; simp only [World.setCell]; rw [Array.getElem?_modify,if_pos rfl,h]; rfl
end
theorem readOPT_ok (qb rb:Nat) (s0:Str) (b0:Bool) (w0:World) {h0 h1 h2 h3 h4 h5:Int} {q n:Str} {k c:Int} {opt:Bool} {sz ver:Int}
  (hq:QAt w0 qb h0 h1 h2 h3 h4 h5 q n k c opt sz ver) (hr:RdAt w0 rb s0 b0) (hne:qb≠rb) (hl:s0.length≤1000000000)
  {x4 z ve nn:Nat} {s1 s2 s3 s4 s5 s6 s7 s8:Str} {b1 b2 b3 b4 b5 b6 b7 b8:Bool} (e1:octP s0 b0=(0,s1,b1)) (e2:shortP s1 b1=(41,s2,b2)) (e3:shortP s2 b2=(z,s3,b3)) (e4:octP s3 b3=(x4,s4,b4)) (e5:octP s4 b4=(ve,s5,b5))
  (e6:skipP 2 s5 b5=(s6,b6)) (e7:shortP s6 b6=(nn,s7,b7)) (e8:skipP nn s7 b7=(s8,b8)) (hnn:nn≤65535) :
  Calls Tryz.prog 134 #[.pointer (some ⟨qb,0,none⟩),.pointer (some ⟨rb,0,none⟩)] w0 fun e w' =>
   e=.returned (.tuple #[])∧QAt w' qb h0 h1 h2 h3 h4 h5 q n k c opt z ve∧RdAt w' rb s8 b8∧Fr (fun i=>i≠qb∧i≠rb) w0 w':=by
 have l1:=octP_len s0 b0
 have l2:=shortP_len s1 b1
 have l3:=shortP_len s2 b2
 have l4:=octP_len s3 b3
 have l5:=octP_len s4 b4
 have l6:=skipP_len 2 s5 b5
 have l7:=shortP_len s6 b6
 rw [e1] at l1
 rw [e2] at l2
 rw [e3] at l3
 rw [e4] at l4
 rw [e5] at l5
 rw [e6] at l6
 rw [e7] at l7
 simp only at l1 l2 l3 l4 l5 l6 l7
 have HE1:=aH e1
 have HE2:=aH e2
 have HE3:=aH e3
 have HE4:=aH e4
 have HE5:=aH e5
 have HE6:=aH e6
 have HE7:=aH e7
 have HE8:=aH e8
 have HQ0:=aH hq
 have HR0:=aH hr
 have hlt0:=hq.lt
 have HF0:Hid (Fr (fun i=>i≠qb∧i≠rb) w0 w0):=⟨rfl,rfl,rfl,Nat.le_refl _,fun _ _ _=>rfl⟩
 clear hq hr e1 e2 e3 e4 e5 e6 e7 e8
 have HC0:=aH (octet_any rb s0 b0 w0 (aU HR0) (by omega))
 rw [Hid,aU HE1] at HC0
 simp only at HC0
 go_enter Tryz.func134,Tryz.ntmps134
 go_wp2_with fail
 refine HC0.mono ?_
 rintro e w0' ⟨rfl,hr,hk,hz⟩
 have HR1:=aH hr
 have HF1:Hid (Fr (fun i=>i≠qb∧i≠rb) w0 w0'):=(aU HF0).trans ((Fr.of_keeps hk).mono fun i _ h=>h.2)
 have HQ1:=aH ((aU HQ0).kept (hk.block qb hlt0 hne))
 have hlt1:qb<w0'.heap.size:=by omega
 clear hr hk hz HC0 HR0 HF0 HQ0
 have HC1:=aH (short_any rb s1 b1 w0' (aU HR1) (by omega))
 rw [Hid,aU HE2] at HC1
 simp only at HC1
 go_wp2_with fail
 refine HC1.mono ?_
 rintro e w1' ⟨rfl,hr,hk,hz⟩
 have HR2:=aH hr
 have HF2:Hid (Fr (fun i=>i≠qb∧i≠rb) w0 w1'):=(aU HF1).trans ((Fr.of_keeps hk).mono fun i _ h=>h.2)
 have HQ2:=aH ((aU HQ1).kept (hk.block qb hlt1 hne))
 have hlt2:qb<w1'.heap.size:=by omega
 clear hr hk hz HC1 HR1 HF1 HQ1
 have HC2:=aH (short_any rb s2 b2 w1' (aU HR2) (by omega))
 rw [Hid,aU HE3] at HC2
 simp only at HC2
 go_wp2_with fail
 refine HC2.mono ?_
 rintro e w2' ⟨rfl,hr,hk,hz⟩
 have HR3:=aH hr
 have HF3:Hid (Fr (fun i=>i≠qb∧i≠rb) w0 w2'):=(aU HF2).trans ((Fr.of_keeps hk).mono fun i _ h=>h.2)
 have HQ3:=aH ((aU HQ2).kept (hk.block qb hlt2 hne))
 have hlt3:qb<w2'.heap.size:=by omega
 clear hr hk hz HC2 HR2 HF2 HQ2
 have hfz:=(aU HQ3).frozen
 have hcl:=(aU HQ3).cells
 have HN:Hid (QAt (w2'.setCell ⟨qb,11,none⟩ (.int .i64 z)) qb h0 h1 h2 h3 h4 h5 q n k c opt z ver∧RdAt (w2'.setCell ⟨qb,11,none⟩ (.int .i64 z)) rb s3 b3∧Fr (fun i=>i≠qb∧i≠rb) w0 (w2'.setCell ⟨qb,11,none⟩ (.int .i64 z))∧qb<(w2'.setCell ⟨qb,11,none⟩ (.int .i64 z)).heap.size) :=
  ⟨q11 (aU HQ3) _,(Below.heap_setCell _ _ _ _ (Ne.symm hne)).trans (aU HR3),(aU HF3).trans (Fr.of_set _ fun i h=>h.1),by simpa [World.setCell] using hlt3⟩
 obtain ⟨_,_,_,_,_,_,_,_,_,_,_,c11,c12⟩:=hcl
 obtain ⟨hQ,hR,hF,hlt3⟩:=aU HN
 clear HQ3 HR3 HF3 HN
 have HQ3:=aH hQ
 have HR3:=aH hR
 have HF3:=aH hF
 clear hQ hR hF
 have HC3:=aH (octet_any rb s3 b3 (w2'.setCell ⟨qb,11,none⟩ (.int .i64 z)) (aU HR3) (by omega))
 rw [Hid,aU HE4] at HC3
 simp only at HC3
 go_wp2_with fail
 refine HC3.mono ?_
 rintro e w3' ⟨rfl,hr,hk,hz⟩
 have HR4:=aH hr
 have HF4:Hid (Fr (fun i=>i≠qb∧i≠rb) w0 w3'):=(aU HF3).trans ((Fr.of_keeps hk).mono fun i _ h=>h.2)
 have HQ4:=aH ((aU HQ3).kept (hk.block qb hlt3 hne))
 have hlt4:qb<w3'.heap.size:=by omega
 clear hr hk hz HC3 HR3 HF3 HQ3
 have HC4:=aH (octet_any rb s4 b4 w3' (aU HR4) (by omega))
 rw [Hid,aU HE5] at HC4
 simp only at HC4
 go_wp2_with fail
 refine HC4.mono ?_
 rintro e w4' ⟨rfl,hr,hk,hz⟩
 have HR5:=aH hr
 have HF5:Hid (Fr (fun i=>i≠qb∧i≠rb) w0 w4'):=(aU HF4).trans ((Fr.of_keeps hk).mono fun i _ h=>h.2)
 have HQ5:=aH ((aU HQ4).kept (hk.block qb hlt4 hne))
 have hlt5:qb<w4'.heap.size:=by omega
 clear hr hk hz HC4 HR4 HF4 HQ4
 have hfz:=(aU HQ5).frozen
 have hcl:=(aU HQ5).cells
 have HN:Hid (QAt (w4'.setCell ⟨qb,12,none⟩ (.int .i64 ve)) qb h0 h1 h2 h3 h4 h5 q n k c opt z ve∧RdAt (w4'.setCell ⟨qb,12,none⟩ (.int .i64 ve)) rb s5 b5∧Fr (fun i=>i≠qb∧i≠rb) w0 (w4'.setCell ⟨qb,12,none⟩ (.int .i64 ve))∧qb<(w4'.setCell ⟨qb,12,none⟩ (.int .i64 ve)).heap.size) :=
  ⟨q12 (aU HQ5) _,(Below.heap_setCell _ _ _ _ (Ne.symm hne)).trans (aU HR5),(aU HF5).trans (Fr.of_set _ fun i h=>h.1),by simpa [World.setCell] using hlt5⟩
 obtain ⟨_,_,_,_,_,_,_,_,_,_,_,c11,c12⟩:=hcl
 obtain ⟨hQ,hR,hF,hlt5⟩:=aU HN
 clear HQ5 HR5 HF5 HN
 have HQ5:=aH hQ
 have HR5:=aH hR
 have HF5:=aH hF
 clear hQ hR hF
 have HC5:=aH (take_any rb 2 s5 b5 (w4'.setCell ⟨qb,12,none⟩ (.int .i64 ve)) (aU HR5) (by omega) (by omega))
 rw [Hid,aU HE6] at HC5
 simp only at HC5
 go_wp2_with fail
 refine HC5.mono ?_
 rintro e w5' ⟨⟨_,rfl⟩,hr,hk,hz⟩
 have HR6:=aH hr
 have HF6:Hid (Fr (fun i=>i≠qb∧i≠rb) w0 w5'):=(aU HF5).trans ((Fr.of_keeps hk).mono fun i _ h=>h.2)
 have HQ6:=aH ((aU HQ5).kept (hk.block qb hlt5 hne))
 have hlt6:qb<w5'.heap.size:=by omega
 clear hr hk hz HC5 HR5 HF5 HQ5
 have HC6:=aH (short_any rb s6 b6 w5' (aU HR6) (by omega))
 rw [Hid,aU HE7] at HC6
 simp only at HC6
 go_wp2_with fail
 refine HC6.mono ?_
 rintro e w6' ⟨rfl,hr,hk,hz⟩
 have HR7:=aH hr
 have HF7:Hid (Fr (fun i=>i≠qb∧i≠rb) w0 w6'):=(aU HF6).trans ((Fr.of_keeps hk).mono fun i _ h=>h.2)
 have HQ7:=aH ((aU HQ6).kept (hk.block qb hlt6 hne))
 have hlt7:qb<w6'.heap.size:=by omega
 clear hr hk hz HC6 HR6 HF6 HQ6
 have HC7:=aH (take_any rb nn s7 b7 w6' (aU HR7) (by omega) (by omega))
 rw [Hid,aU HE8] at HC7
 simp only at HC7
 go_wp2_with fail
 refine HC7.mono ?_
 rintro e w7' ⟨⟨_,rfl⟩,hr,hk,hz⟩
 have HR8:=aH hr
 have HF8:Hid (Fr (fun i=>i≠qb∧i≠rb) w0 w7'):=(aU HF7).trans ((Fr.of_keeps hk).mono fun i _ h=>h.2)
 have HQ8:=aH ((aU HQ7).kept (hk.block qb hlt7 hne))
 have hlt8:qb<w7'.heap.size:=by omega
 clear hr hk hz HC7 HR7 HF7 HQ7
 go_wp2_with fail
 refine bodyPost_end (v:=.tuple #[]) (by simp [results,Tryz.results134]) rfl ?_
 exact ⟨rfl,aU HQ8,aU HR8,aU HF8⟩
end Mj
end Go.Proofs.YtkkpahmoljiepaaGreatDoor
