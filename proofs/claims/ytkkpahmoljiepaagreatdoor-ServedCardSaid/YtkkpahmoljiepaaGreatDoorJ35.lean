/- Contracts: beaconkeep's sum, frame, right. -/
import Derived.Test.YtkkpahmoljiepaaGreatDoorJ34
import Derived.Test.YtkkpahmoljiepaaGreatDoorJ15
import Derived.Deep.RegionHeld
import Derived.Test.YtkkpahmoljiepaaGreatDoorJ22
import Derived.Test.YtkkpahmoljiepaaGreatDoorJ30
import Derived.Test.YtkkpahmoljiepaaGreatDoorJ19
import Derived.Test.YtkkpahmoljiepaaGreatDoorJ24
import Derived.Test.YtkkpahmoljiepaaGreatDoorJ23
import Derived.Test.YtkkpahmoljiepaaGreatDoorJ14
set_option linter.unusedSimpArgs false
set_option linter.unusedVariables false
set_option maxRecDepth 1000000
set_option maxHeartbeats 12800000
namespace Go.Proofs.YtkkpahmoljiepaaGreatDoor
open Go.RowKit
open Pu (Str aH aU)
namespace Hk
open Ka Kc Kd Wa Wb Wd We Wi Wl Wm Vb Ha Hb He Hh
theorem sum_keep (l:Str) (w:World) (hl:l.length≤100000) :
  Calls Tryz.prog 86 #[.string (B l)] w fun e w'=>e=.returned (.int .i64 (fold (ws true l)))∧Below w.heap.size w w':=by
 have hs:(B l).size=l.length:=size_B l
 go_enter Tryz.func86,Tryz.ntmps86
 by_cases he:l.length%2=1
 ·have he':(l.length:Int)%2=1:=by omega
  obtain ⟨L,hL⟩ : ∃ L,L=l++[0]:=⟨_,rfl⟩
  have hLl:L.length=l.length+1:=by rw [hL]; simp
  have hLz:(B L).size=L.length:=size_B L
  have hB:B l++⟨#[0]⟩=B L:=by rw [hL]; exact ba_ext (by simp [B])
  have HW:Hid (ws true L=ws true l):=by rw [Hid,hL,ws_append]; cases par true l.length <;> simp [ws]
  have hLe:L.length%2=0:=by omega
  have hLm:L.length≤1000000:=by omega
  clear hL
  go_wp2_with fail
  have HLE:=aH hLe
  clear he he' hLe
  go_loopw [3,4] (fun t i wr=>∃ k:Nat,t=.int .i64 (fold (ws true (L.take k)):Nat)∧i=.int .i64 k∧k%2=0∧k≤L.length∧Below w.heap.size w wr) (fun _ i _=>L.length - (intOf i).toNat)
  case atStart=>exact ⟨0,rfl,rfl,rfl,Nat.zero_le _,Below.refl _ _⟩
  case round =>
   obtain ⟨k,rfl,rfl,hk2,hk,hb⟩:=hrel
   have HB:=aH hb
   have hsz:=hb.size
   clear hb
   by_cases hlk:k<L.length
   ·have hk1:k+1<L.length:=by have:=aU HLE; omega
    have HA:=aH (at_any L k wr hk1 (by omega))
    have HE:=aH (ws_take2 L k hk1 hk2)
    have c1:=UInt8.toNat_lt L[k]
    have c2:=UInt8.toNat_lt L[k+1]
    have hx:256*L[k].toNat+L[k+1].toNat≤65535:=by omega
    clear c1 c2
    generalize 256*L[k].toNat+L[k+1].toNat=x at *
    have HS:=aH (fold_step (ws true (L.take k)) x hx)
    have hfl:=fold_le (ws true (L.take k))
    rw [← aU HE] at HS
    generalize fold (ws true (L.take k))=f at *
    have HX:Hid (((f:Int)+(x:Int))%65536+((f:Int)+(x:Int))/65536=((fold (ws true (L.take (k+2))):Nat):Int)):=by
     have:=aU HS
     rw [Hid]; omega
    go_wp2_with fail
    refine (aU HA).mono ?_
    rintro e w2 ⟨rfl,hb2⟩
    have HB2:=aH ((aU HB).trans (hb2.mono hsz))
    clear hb2 HA HB
    go_wp2_with fail
    rw [aU HX]
    exact ⟨⟨k+2,rfl,by go_num,by omega,by omega,aU HB2⟩,by simp [intOf]; omega⟩
   ·have hkl:k=L.length:=by omega
    subst hkl
    have HE:=aH (congrArg (fun x=>fold (ws true x)) (List.take_length (l:=L)))
    generalize fold (ws true (L.take L.length))=f at *
    have HW2:Hid (f=fold (ws true l)):=(aU HE).trans (congrArg fold (aU HW))
    clear HE HW
    go_wp2
    go_ret
    refine ⟨?_,aU HB⟩
    rw [aU HW2]; rfl
 ·have he' : ¬ (l.length:Int)%2=1:=by omega
  obtain ⟨L,hL⟩ : ∃ L,L=l:=⟨_,rfl⟩
  have HW:Hid (ws true L=ws true l):=by rw [Hid,hL]
  subst hL
  have hLe:L.length%2=0:=by omega
  have hLm:L.length≤1000000:=by omega
  go_wp2_with fail
  have HLE:=aH hLe
  clear he he' hLe
  go_loopw [3,4] (fun t i wr=>∃ k:Nat,t=.int .i64 (fold (ws true (L.take k)):Nat)∧i=.int .i64 k∧k%2=0∧k≤L.length∧Below w.heap.size w wr) (fun _ i _=>L.length - (intOf i).toNat)
  case atStart=>exact ⟨0,rfl,rfl,rfl,Nat.zero_le _,Below.refl _ _⟩
  case round =>
   obtain ⟨k,rfl,rfl,hk2,hk,hb⟩:=hrel
   have HB:=aH hb
   have hsz:=hb.size
   clear hb
   by_cases hlk:k<L.length
   ·have hk1:k+1<L.length:=by have:=aU HLE; omega
    have HA:=aH (at_any L k wr hk1 (by omega))
    have HE:=aH (ws_take2 L k hk1 hk2)
    have c1:=UInt8.toNat_lt L[k]
    have c2:=UInt8.toNat_lt L[k+1]
    have hx:256*L[k].toNat+L[k+1].toNat≤65535:=by omega
    clear c1 c2
    generalize 256*L[k].toNat+L[k+1].toNat=x at *
    have HS:=aH (fold_step (ws true (L.take k)) x hx)
    have hfl:=fold_le (ws true (L.take k))
    rw [← aU HE] at HS
    generalize fold (ws true (L.take k))=f at *
    have HX:Hid (((f:Int)+(x:Int))%65536+((f:Int)+(x:Int))/65536=((fold (ws true (L.take (k+2))):Nat):Int)):=by
     have:=aU HS
     rw [Hid]; omega
    go_wp2_with fail
    refine (aU HA).mono ?_
    rintro e w2 ⟨rfl,hb2⟩
    have HB2:=aH ((aU HB).trans (hb2.mono hsz))
    clear hb2 HA HB
    go_wp2_with fail
    rw [aU HX]
    exact ⟨⟨k+2,rfl,by go_num,by omega,by omega,aU HB2⟩,by simp [intOf]; omega⟩
   ·have hkl:k=L.length:=by omega
    subst hkl
    have HE:=aH (congrArg (fun x=>fold (ws true x)) (List.take_length (l:=L)))
    generalize fold (ws true (L.take L.length))=f at *
    have HW2:Hid (f=fold (ws true L)):=aU HE
    clear HE HW
    go_wp2
    go_ret
    refine ⟨?_,aU HB⟩
    rw [aU HW2]; rfl
theorem frame_any (m:Str) (p:Nat) (ck:Bool) (w:World) (hm:m.length≤60000) (hp:p<65536) :
  Calls Tryz.prog 39 #[.string (B m),.int .i64 p,.bool ck] w fun e w'=>e=.returned (.string (B (frI m p ck)))∧Below w.heap.size w w':=by
 have hz:(B m).size=m.length:=size_B m
 obtain ⟨n,hn⟩ : ∃ n,n=8+m.length:=⟨_,rfl⟩
 have kn:(8:Int)+(m.length:Int)=(n:Int):=by omega
 obtain ⟨N,hN⟩ : ∃ N,N=20+n:=⟨_,rfl⟩
 have kn2:(20:Int)+(n:Int)=(N:Int):=by omega
 have HT20:=aH (fun W=>two_any N W (by omega))
 have HTn:=aH (fun W=>two_any n W (by omega))
 have HTp:=aH (fun W=>two_any p W hp)
 have HTk:=aH (fun W=>two_any (ipK n) W (by unfold ipK; omega))
 have HTc:=aH (fun W=>two_any (ckI ck p m) W (ckI_lt _ _ _))
 have HS1:=aH (fun W=>sum_keep (ipA n++aK++ipMe) W (by simp [ipA,aK,ipMe]))
 have HS2:=aH (fun W=>sum_keep (aK++ipMe++[0,17]++[hi n,lo n]++udI p m++m) W (by simp [udI,aK,ipMe]; omega))
 have HCK:Hid (ckI ck p m=if ck=true then (if 65535 - fold (ws true (aK++ipMe++[0,17]++[hi n,lo n]++udI p m++m))=0 then 65535 else 65535 - fold (ws true (aK++ipMe++[0,17]++[hi n,lo n]++udI p m++m))) else 0):=by rw [Hid,hn]; rfl
 have HFR:Hid (frI m p ck=mine++yours++[8,0]++ipH n++dgI p m (ckI ck p m)):=by rw [Hid,hn]; rfl
 have HUD:Hid (udI p m = [hi p,lo p,0,53,hi n,lo n]):=by rw [Hid,hn]; rfl
 have hKn:ipK n=65535 - fold (ws true (ipA n++aK++ipMe)):=rfl
 have hf1:=fold_le (ws true (ipA n++aK++ipMe))
 have hf2:=fold_le (ws true (aK++ipMe++[0,17]++[hi n,lo n]++udI p m++m))
 generalize fold (ws true (ipA n++aK++ipMe))=f1 at *
 generalize fold (ws true (aK++ipMe++[0,17]++[hi n,lo n]++udI p m++m))=f2 at *
 have kk:(65535:Int) - (f1:Int)=(ipK n:Nat):=by omega
 have s1:(B [hi N,lo N]).size=2:=rfl
 have s2:(B [hi n,lo n]).size=2:=rfl
 have s3:(B [hi p,lo p]).size=2:=rfl
 have s4:(B [hi (ipK n),lo (ipK n)]).size=2:=rfl
 have s5:(B [hi (ckI ck p m),lo (ckI ck p m)]).size=2:=rfl
 have E1:(⟨#[69,0]⟩++B [hi N,lo N]++⟨#[0,0,0,0,9,17]⟩:ByteArray)=B (ipA n):=by rw [hN]; exact ba_ext (by simp [B,ipA])
 have E2:(B (ipA n)++⟨#[10,0,0,99]⟩++⟨#[10,0,0,1]⟩:ByteArray)=B (ipA n++aK++ipMe):=ba_ext (by simp [B,aK,ipMe])
 have E3:(B (ipA n)++B [hi (ipK n),lo (ipK n)]++⟨#[10,0,0,99]⟩++⟨#[10,0,0,1]⟩:ByteArray)=B (ipH n):=ba_ext (by simp [B,ipH,aK,ipMe])
 have E4:(B [hi p,lo p]++⟨#[0,53]⟩++B [hi n,lo n]:ByteArray)=B (udI p m):=by rw [aU HUD]; exact ba_ext (by simp [B])
 have E5:(⟨#[10,0,0,99,10,0,0,1,0,17]⟩++B [hi n,lo n]++B (udI p m)++B m:ByteArray)=B (aK++ipMe++[0,17]++[hi n,lo n]++udI p m++m):=ba_ext (by simp [B,aK,ipMe])
 have E6:(⟨#[2,109,121,109,97,99,2,121,111,117,114,115,8,0]⟩++B (ipH n)++B (udI p m)++B [hi (ckI ck p m),lo (ckI ck p m)]++B m:ByteArray)=B (frI m p ck):=by rw [aU HFR]; exact ba_ext (by simp [B,mine,yours,dgI])
 have z1:(B (ipA n)).size=10:=rfl
 have z2:(B (ipH n)).size=20:=rfl
 have z3:(B (udI p m)).size=6:=rfl
 generalize B [hi N,lo N]=t20 at *
 generalize B [hi n,lo n]=tn at *
 generalize B [hi p,lo p]=tp at *
 generalize B [hi (ipK n),lo (ipK n)]=tk at *
 generalize B [hi (ckI ck p m),lo (ckI ck p m)]=tc at *
 generalize B (ipA n++aK++ipMe)=x1 at *
 generalize B (aK++ipMe++[0,17]++[hi n,lo n]++udI p m++m)=x2 at *
 generalize B (frI m p ck)=fr at *
 generalize B (ipA n)=bA at *
 generalize B (ipH n)=bH at *
 generalize B (udI p m)=bU at *
 generalize B m=bm at *
 generalize ckI ck p m=c at *
 generalize ipK n=kn' at *
 have hnb:n≤60008:=by omega
 have hnB:N≤60028:=by omega
 clear HFR HUD hKn hn hN
 go_enter Tryz.func39,Tryz.ntmps39
 go_wp2_with fail
 refine (aU HT20 _).mono ?_
 rintro e w1 ⟨rfl,hB1⟩
 go_wp2_with fail
 refine (aU HS1 _).mono ?_
 rintro e w2 ⟨rfl,hb⟩
 have hB2:=hB1.trans (hb.mono hB1.size)
 clear hb hB1
 go_wp2_with fail
 refine (aU HTk _).mono ?_
 rintro e w3 ⟨rfl,hb⟩
 have hB3:=hB2.trans (hb.mono hB2.size)
 clear hb hB2
 go_wp2_with fail
 refine (aU HTp _).mono ?_
 rintro e w4 ⟨rfl,hb⟩
 have hB4:=hB3.trans (hb.mono hB3.size)
 clear hb hB3
 go_wp2_with fail
 refine (aU HTn _).mono ?_
 rintro e w5 ⟨rfl,hb⟩
 have hB5:=hB4.trans (hb.mono hB4.size)
 clear hb hB4
 have HB5:=aH hB5
 have hz5:=hB5.size
 clear hB5
 cases ck with
 | false =>
  obtain rfl:c=0:=aU HCK
  clear HCK
  go_wp2_with fail
  refine (aU HTc _).mono ?_
  rintro e w6 ⟨rfl,hb⟩
  have HB6:=aH ((aU HB5).trans (hb.mono hz5))
  clear hb
  go_wp2_with fail
  go_ret
  exact ⟨rfl,aU HB6⟩
 | true =>
  go_wp2_with fail
  refine (aU HTn _).mono ?_
  rintro e w6 ⟨rfl,hb⟩
  have HB6:=aH ((aU HB5).trans (hb.mono hz5))
  have hz6:=(aU HB6).size
  clear hb HB5 hz5
  go_wp2_with fail
  refine (aU HS2 _).mono ?_
  rintro e w7 ⟨rfl,hb⟩
  have HB7:=aH ((aU HB6).trans (hb.mono hz6))
  have hz7:=(aU HB7).size
  clear hb HB6 hz6
  have hck:c=if 65535 - f2=0 then 65535 else 65535 - f2:=by simpa using aU HCK
  by_cases h0:f2=65535
  ·subst h0
   obtain rfl:c=65535:=hck
   clear HCK
   go_wp2_with fail
   refine (aU HTc _).mono ?_
   rintro e w8 ⟨rfl,hb⟩
   have HB8:=aH ((aU HB7).trans (hb.mono hz7))
   clear hb
   go_wp2_with fail
   go_ret
   exact ⟨rfl,aU HB8⟩
  ·rw [if_neg (by omega)] at hck
   have kc:(65535:Int) - (f2:Int)=(c:Int):=by omega
   have kc0 : ¬ (c:Int)=0:=by omega
   clear hck HCK
   go_wp2_with fail
   refine (aU HTc _).mono ?_
   rintro e w8 ⟨rfl,hb⟩
   have HB8:=aH ((aU HB7).trans (hb.mono hz7))
   clear hb
   go_wp2_with fail
   go_ret
   exact ⟨rfl,aU HB8⟩
structure RightP (s m:Str) (p:Nat):Prop where
 len:s.length=42+m.length
 small:m.length≤60000
 dst:s.take 14 = [2,121,111,117,114,115,2,109,121,109,97,99,8,0]
 ip:fold (ws true ((s.drop 14).take 20))=65535
 ips:(s.drop 26).take 8 = [10,0,0,1,10,0,0,99]
 size : ∀ (h:17<s.length),256*s[16].toNat+s[17].toNat=28+m.length
 sp : ∀ (h:35<s.length),256*s[34].toNat+s[35].toNat=53
 dp : ∀ (h:37<s.length),256*s[36].toNat+s[37].toNat=p
 n : ∀ (h:39<s.length),256*s[38].toNat+s[39].toNat=8+m.length
 ck : ∀ (h:41<s.length),256*s[40].toNat+s[41].toNat≠0
 msg:s.drop 42=m
 udp:fold (ws true (ipMe++aK++[0,17]++[hi (8+m.length),lo (8+m.length)]++s.drop 34))=65535
end Hk
namespace Hm
open Ka Kc Wa Wb Wc Wd We Wl Wm Ha Hb Hc Hd He Hf Hg Hh Hk
open Xb (hilo)
theorem takP_app (x y:Str) (br:Bool) (n:Nat) (h:n=x.length):takP (x++y) br n=(x,y,br):=by
 subst h
 unfold takP
 rw [if_pos (by simp)]
 simp
theorem readFrame_at (x y:Str) (c d:UInt8) (r:Str) (w:World) (hx:x.length=6) (hy:y.length=6) (hr:r.length≤1000000) :
  Calls Tryz.prog 79 #[.string (B (x++(y++(c :: d :: r))))] w fun e w'=>e=.returned (.tuple #[frm x y (c.toNat*256+d.toNat) r,.bool true])∧Below w.heap.size w w' :=
 readFrame_any _ w (by simp; omega) (takP_app x _ false 6 hx.symm) (takP_app y _ false 6 hy.symm) (shortP_cons c d r false)
theorem hi_lo (n:Nat) (h:n<65536):n=(hi n).toNat*256+(lo n).toNat:=(hilo n h).symm
theorem readPacket_in (n:Nat) (t:Str) (w:World) (hn:8≤n) (hn2:n≤60000) (ht:t.length=n) :
  Calls Tryz.prog 210 #[.string (B (ipH n++t))] w fun e w'=>e=.returned (.tuple #[pkt aK ipMe t,.bool true])∧Below w.heap.size w w':=by
 refine (readPacket_20 69 0 (hi (20+n)) (lo (20+n)) 0 0 0 0 9 17 (hi (ipK n)) (lo (ipK n)) 10 0 0 99 10 0 0 1 t w (by omega) (20+n) 0 65535 (hi_lo _ (by omega)) rfl (sum_ipH n).symm true rfl).mono ?_
 rintro e w' ⟨hp,hb⟩
 refine ⟨?_,hb⟩
 unfold PkPost at hp
 rw [if_neg (by omega),if_pos (by omega),show 20+n - 20=t.length by omega,List.take_length] at hp
 exact hp
theorem readDatagram_in (p:Nat) (ck:Bool) (m:Str) (w:World) (hp:p<65536) (hm:m.length≤50000) :
  Calls Tryz.prog 257 #[pkt aK ipMe (dgI p m (ckI ck p m))] w fun e w'=>e=.returned (.tuple #[dgm p 53 m,.bool true])∧Below w.heap.size w w':=by
 have hs:=sum_in ck p m
 refine (readDatagram_8 aK ipMe (hi p) (lo p) 0 53 (hi (8+m.length)) (lo (8+m.length)) (hi (ckI ck p m)) (lo (ckI ck p m)) m w (by simp [aK]) (by simp [ipMe]) (by omega) p 53 (8+m.length) (ckI ck p m) _ (hi_lo p hp) rfl (hi_lo _ (by omega)) (hi_lo _ (ckI_lt _ _ _)) rfl).mono ?_
 rintro e w' ⟨hq,hb⟩
 refine ⟨?_,hb⟩
 unfold DgPost at hq
 rw [if_neg (by omega),show 8+m.length - 8=m.length by omega,List.take_length] at hq
 rw [hq]
 have e1:((hi p :: lo p :: 0 :: 53 :: hi (8+m.length) :: lo (8+m.length) :: hi (ckI ck p m) :: lo (ckI ck p m) :: m:Str).take (8+m.length))=dgI p m (ckI ck p m):=by
  rw [List.take_of_length_le (by simp; omega)]; rfl
 rw [e1]
 have e2:(ckI ck p m == 0 || uSum aK ipMe (dgI p m (ckI ck p m)) == 65535)=true:=by
  rcases hs with h | h
  ·rw [h]; rfl
  ·rw [h]; simp
 rw [e2]
theorem frI_eq (m:Str) (p:Nat) (ck:Bool):frI m p ck=mine++(yours++(8 :: 0 :: (ipH (8+m.length)++dgI p m (ckI ck p m)))):=by simp [frI]
theorem handle_right (m o:Str) (p:Nat) (ck:Bool) (zv:Value) (w:World) (hm:m.length≤50000) (hp:p<65536) (ho:o≠[]) (hol:o.length≤50000)
  (hR : ∀ W,Below w.heap.size w W→Calls Tryz.prog 27 #[zv,.string (B m)] W fun e w'=>e=.returned (.string (B o))∧Below W.heap.size W w') :
  Calls Tryz.prog 37 #[zv,cfg mine ipMe,.string (B (frI m p ck))] w fun e w'=>e=.returned (.string (B (frO o p)))∧Below w.heap.size w w':=by
 rw [frI_eq]
 have hl:(dgI p m (ckI ck p m)).length=8+m.length:=dgI_len p m _
 have hu:(udO ipMe aK 53 p o).length=8+o.length:=udO_len _ _ _ _ _
 refine handle_mine _ yours _ mine ipMe (frO o p) _ zv w (fun W=>readFrame_at mine yours 8 0 _ W rfl rfl (by simp [ipH,ipA,aK,ipMe,hl]; omega)) fun W hb=>?_
 refine fanswer_ip mine yours _ mine ipMe (frO o p) zv W fun W2 hb2=>?_
 have hb2':Below w.heap.size w W2:=hb.trans (hb2.mono hb.size)
 have e:frO o p=yours++mine++[8,0]++ipO ipMe aK (udO ipMe aK 53 p o):=rfl
 rw [e]
 exact answerPacket_some mine yours _ mine ipMe aK (dgI p m (ckI ck p m)) ipMe aK (udO ipMe aK 53 p o) 2048 zv W2 (by simp [yours]) (by simp [mine]) (by simp [ipMe]) (by simp [aK]) (by omega)
  (fun W3=>readPacket_in (8+m.length) _ W3 (by omega) (by omega) hl)
  (fun W3 hb3=>panswer_some aK ipMe _ m o p zv W3 (by simp [aK]) (by simp [ipMe]) hp ho (by omega) (fun W4=>readDatagram_in p ck m W4 hp hm)
   (fun W4 hb4=>hR W4 ((hb2'.trans (hb3.mono hb2'.size)).trans (hb4.mono (Nat.le_trans hb2'.size hb3.size)))))
end Hm
namespace No
open Ka Kc Kd Wa Wb Wd We Wi Wl Wm Lc Lj Va Vb Vc Vd Xb Xc Mpp Mq Ha Hb Hc He Hh Hm
open Ta (headS zz)
def qd (v:Nat):Str:=quest [104,dg (1+v)] [122,122] 1
def fr1 (k v:Nat):Str:=frI (asks k (qd v)) (1000+k) true
def rep (k v:Nat):Str:=if v<3 then tellS k (qd v) (dg (1+v)) else tell4 k 52
def an1 (k v:Nat):Str:=frO (rep k v) (1000+k)
theorem qd_len (v:Nat):(qd v).length=11:=rfl
theorem asks_len (k v:Nat):(asks k (qd v)).length=23:=rfl
theorem fr1_len (k v:Nat):(fr1 k v).length=65:=by
 have h:(dgI (1000+k) (asks k (qd v)) (ckI true (1000+k) (asks k (qd v)))).length=8+23:=dgI_len _ _ _
 unfold fr1 frI
 simp only [List.length_append,h,asks_len]
 rfl
theorem rep_len (k v:Nat):(rep k v).length≤100∧rep k v≠[]:=by
 unfold rep
 split
 ·exact ⟨by simp [tellS,qd_len],by simp [tellS]⟩
 ·exact ⟨by simp [tell4,qC,soaOut,Wv.hdr_len],by simp [tell4,qC]⟩
theorem an1_len (k v:Nat):(an1 k v).length≤200∧an1 k v≠[]:=by
 have h:=(rep_len k v).1
 have hu:(udO ipMe aK 53 (1000+k) (rep k v)).length=8+(rep k v).length:=udO_len _ _ _ _ _
 unfold an1 frO
 generalize udO ipMe aK 53 (1000+k) (rep k v)=X at *
 exact ⟨by simp [ipO,ipOA,ipMe,aK,mine,yours]; omega,by simp [yours]⟩
theorem handle_ask (zb g cap k v:Nat) (hv:v<4) (hk:k<60000) (W:World) (hz:aN W zb zz g 0 cap recs) (hg:G W) :
  Calls Tryz.prog 37 #[.pointer (some ⟨zb,0,none⟩),.agg #[.string (B mine),.string (B ipMe)],.string (B (fr1 k v))] W fun e w'=>e=.returned (.string (B (an1 k v)))∧Below W.heap.size W w':=by
 refine handle_right (asks k (qd v)) (rep k v) (1000+k) true _ W (by rw [asks_len]; omega) (by omega) (rep_len k v).2 (by have:=(rep_len k v).1; omega) fun W' hb=>?_
 unfold rep
 split
 ·rename_i h3
  have hK:IsK (dg (1+v)):=by
   match v,h3 with
   | 0,_=>exact .inl rfl
   | 1,_=>exact .inr (.inl rfl)
   | 2,_=>exact .inr (.inr rfl)
  refine reply_told zb g cap k (dg (1+v)) hK [104,dg (1+v)] [122,122] rfl rfl ?_ rfl (by omega) W' (hz.below hb) (hg.below hb)
  match v,h3 with
  | 0,_=>rfl
  | 1,_=>rfl
  | 2,_=>rfl
 ·have h3:v=3:=by omega
  subst h3
  exact reply4 zb g cap k 52 rfl (by omega) W' (hz.below hb) (hg.below hb)
theorem fit0:Fit zz recs0:=by
 refine ⟨by decide,by decide,?_⟩
 intro r hr
 simp only [recs0,List.mem_cons,List.mem_nil_iff,or_false] at hr
 rcases hr with rfl | rfl | rfl | rfl | rfl <;> decide
theorem parse_t (s:ByteArray) (hd:s.data.toList=headS++linesT) (w:World) (hg:G w) :
  Calls Tryz.prog 16 #[.string s] w fun e w'=>∃ zb g cap,e=.returned (.tuple #[.pointer (some ⟨zb,0,none⟩),.int .i64 0])∧w.heap.size≤zb∧w.heap.size≤g∧aN w' zb zz g 0 cap recs∧Below w.heap.size w w':=by
 have hss:s.size=106:=by rw [← Pu.len_eq,hd]; decide
 have HP1:=Pa.parse_any s w hg (by omega) (by
  rw [hd,read1]
  rintro o rs ⟨⟩
  exact ⟨by decide,fit0⟩)
 rw [hd,parse1] at HP1
 refine HP1.mono ?_
 rintro e w' ⟨⟨zb,g,cap,rfl,h1,h2,h3⟩,hb⟩
 exact ⟨zb,g,cap,rfl,h1,h2,h3,hb⟩
theorem made_t (s:ByteArray) (hd:s.data.toList=linesT) (w:World) (hg:G w) :
  Calls Tryz.prog 22 #[.string s] w fun e w'=>∃ zb g cap,e=.returned (.pointer (some ⟨zb,0,none⟩))∧aN w' zb zz g 0 cap recs∧Below w.heap.size w w':=by
 have hss:s.size=57:=by rw [← Pu.len_eq,hd]; decide
 obtain ⟨hB,hhB⟩ : ∃ hB:ByteArray,hB=⟨headS.toArray⟩:=⟨_,rfl⟩
 have hhs:hB.size=49:=by rw [hhB]; rfl
 have e1:(hB++s).data.toList=headS++linesT:=by rw [hhB,← hd]; simp
 have e2:(hB++s++⟨#[10]⟩).data.toList=headS++linesT++[10]:=by
  rw [show (hB++s++⟨#[10]⟩:ByteArray).data.toList=(hB++s).data.toList++[10] by simp,e1]
 have HP1:=aH (Pa.parse_any (hB++s) w hg (by simp; omega) (by
  rw [e1,read1]
  rintro o rs ⟨⟩
  exact ⟨by decide,fit0⟩))
 have HP2:=aH (fun W (hb:Below w.heap.size w W)=>Pa.parse_any (hB++s++⟨#[10]⟩) W (hg.below hb) (by have h1:(⟨#[10]⟩:ByteArray).size=1:=rfl; simp; omega) (by
  rw [e2,read2]
  rintro o rs ⟨⟩))
 rw [e1,parse1] at HP1
 rw [e2,parse2] at HP2
 clear e1 e2 hd hg
 have hhd:(⟨#[111,114,105,103,105,110,32,122,122,10,122,122,32,53,48,32,83,79,65,32,97,46,122,122,32,98,46,122,122,32,57,32,52,48,10,122,122,32,53,48,32,78,83,32,97,46,122,122,10]⟩:ByteArray)=hB:=by rw [hhB]; rfl
 clear hhB
 go_enter Tryz.func22,Tryz.ntmps22
 go_wp2_with fail
 refine (aU HP1).mono ?_
 rintro e w1 ⟨⟨zb,g,cap,rfl,hzb,hgb,ht1⟩,hb1⟩
 have HT1:=aH ht1
 clear ht1
 go_wp2_with fail
 refine (aU HP2 w1 hb1).mono ?_
 rintro e w2 ⟨he,hb2⟩
 obtain rfl:e=.returned (.tuple #[.pointer none,.int .i64 1]):=he
 go_wp2_with fail
 go_ret
 exact ⟨zb,g,cap,rfl,(aU HT1).below hb2,hb1.trans (hb2.mono hb1.size)⟩
end No
namespace Qt
open Ka Wa Wb Wc Wd We Wf Wg Wh Wi Wj Wk Wl Wm Ha Hb Hc Re Qa Qb Qc Qd Qe Qf Qg Qh Qr Qs
def New (w:World) (mb bb:Nat) (bs:Str):Prop:=aF w mb bb (.slice none 0 0) (.slice none 0 0) false 0 false false false 0∧RowB w bb bs
theorem new_mem {w:World} {mb bb:Nat} {bs:Str} (h:New w mb bb bs) (base:Nat):Mem w mb bb base bs false 0 0 :=
 ⟨_,_,[],⟨_,_,_,h.1⟩,h.2,⟨rfl,.inl ⟨rfl,rfl⟩⟩,Nat.le_refl _,[],⟨rfl,.inl ⟨rfl,rfl⟩⟩,Nat.le_refl _⟩
theorem zeros (n:Nat):madeCells (Value.int .u8 0).cells n=((List.replicate n (0:UInt8)).map fun c=>Value.int .u8 c.toNat).toArray:=by
 apply Array.ext'
 simp only [madeCells,Value.cells,Array.toList_map,Array.toList_range]
 apply List.ext_getElem
 ·simp
 ·intro i h1 h2
  simp [Nat.mod_one]
theorem fresh_mem (sb cap:Nat) (c0 c1 c2:UInt8) (w:World) (h0:w.cell? ⟨sb,0,none⟩=some (.int .u8 c0.toNat)) (h1:w.cell? ⟨sb,1,none⟩=some (.int .u8 c1.toNat)) (h2:w.cell? ⟨sb,2,none⟩=some (.int .u8 c2.toNat)) (hsb:sb<w.heap.size) :
  Calls Tryz.prog 42 #[.slice (some ⟨sb,0,none⟩) 3 cap] w fun e w'=>∃ bs,e=.returned (.pointer (some ⟨w.heap.size+1,0,none⟩))∧New w' (w.heap.size+1) w.heap.size bs∧Below w.heap.size w w':=by
 obtain ⟨L,hL⟩ : ∃ L:Nat,L=25600:=⟨_,rfl⟩
 have hLb:(L:Int)≤1000000:=by omega
 have HLL:=aH hL
 clear hL
 obtain ⟨i0,hi,hz0,hz1,hz2⟩:=info_parts infoB
 have km:(Instr.makeSlice 58 (.int .i64 25600) (.int .i64 25600)).run Tryz.prog w=.ok (.slice (some ⟨w.heap.size,0,none⟩) 25600 25600) (w.alloc (.cells (madeCells (Value.int .u8 0).cells 25600) 5)):=by
  have:=run_make (P:=Tryz.prog) w 58 5 i0 (.int .u8 0) underB hi hz0 .i64 .i64 25600 25600 (by omega) (Int.le_refl _) (by rw [hz2]; omega) (by omega)
  rw [hz1] at this
  exact this
 obtain ⟨w1,hw1⟩ : ∃ w1,w1=w.alloc (.cells (madeCells (Value.int .u8 0).cells 25600) 5):=⟨_,rfl⟩
 have HR1:Hid (RowB w1 w.heap.size (List.replicate 25600 0)):=by
  refine ⟨by simp,?_⟩
  rw [hw1,zeros]
  exact aB.new _ _ _
 have hs1:w1.heap.size=w.heap.size+1:=by rw [hw1]; simp
 have HB1:Hid (Below w.heap.size w w1):=by rw [Hid,hw1]; exact (Below.refl _ _).alloc (Nat.le_refl _) _
 rw [← hw1] at km
 have HH:Hid (∀ j,j<3→∃ c:UInt8,w.cell? ⟨sb,j,none⟩=some (.int .u8 c.toNat)):=fun j hj=>by
  match j,hj with
  | 0,_=>exact ⟨_,h0⟩
  | 1,_=>exact ⟨_,h1⟩
  | 2,_=>exact ⟨_,h2⟩
 have hM0:aF (w1.alloc (.cells #[.slice (some ⟨w.heap.size,0,none⟩) 25600 25600,.slice none 0 0,.bool false,.slice none 0 0,.int .i64 0,.slice none 0 0,.bool false,.bool false,.bool false,.int .i64 0] 84)) (w.heap.size+1) w.heap.size (.slice none 0 0) (.slice none 0 0) false 0 false false false 0:=by
  have:=aB.new w1 [.slice (some ⟨w.heap.size,0,none⟩) 25600 25600,.slice none 0 0,.bool false,.slice none 0 0,.int .i64 (0:Nat),.slice none 0 0,.bool false,.bool false,.bool false,.int .i64 (0:Nat)] 84
  rw [hs1] at this
  exact this
 have HM0:=aH hM0
 have HR0:=aH (RowB.of (aU HR1) (Below.heap_alloc w1 (.cells #[.slice (some ⟨w.heap.size,0,none⟩) 25600 25600,.slice none 0 0,.bool false,.slice none 0 0,.int .i64 0,.slice none 0 0,.bool false,.bool false,.bool false,.int .i64 0] 84) _ (by omega)))
 have HB0:=aH ((aU HB1).alloc (by omega) (.cells #[.slice (some ⟨w.heap.size,0,none⟩) 25600 25600,.slice none 0 0,.bool false,.slice none 0 0,.int .i64 0,.slice none 0 0,.bool false,.bool false,.bool false,.int .i64 0] 84))
 clear hi hz0 hz1 hz2 h0 h1 h2 hM0 hw1 HR1 HB1
 go_enter Tryz.func42,Tryz.ntmps42
 go_wp2_with fail
 try simp only [hs1]
 go_loopw [4] (fun i wr=>∃ (k:Nat) (bs:Str),i=.int .i64 k∧k≤L∧aF wr (w.heap.size+1) w.heap.size (.slice none 0 0) (.slice none 0 0) false 0 false false false 0∧RowB wr w.heap.size bs∧Below w.heap.size w wr) (fun i _=>L - (intOf i).toNat)
 case atStart=>exact ⟨0,_,rfl,Nat.zero_le _,aU HM0,aU HR0,aU HB0⟩
 case round =>
  obtain ⟨k,bs,rfl,hk,hm,hr,hB⟩:=hrel
  have a0:=aF.at0 hm
  have HM:=aH hm
  have HR:=aH hr
  have HB:=aH hB
  rw [← aU HLL] at a0
  by_cases hlk:k<L
  ·obtain ⟨r,hr3⟩ : ∃ r,r=k%3:=⟨_,rfl⟩
   have hr3l:r<3:=by omega
   have e1:(k:Int).tmod 3=(r:Int):=by rw [Int.tmod_eq_emod_of_nonneg (by omega)]; omega
   have e2:(k:Int)%3=(r:Int):=by omega
   obtain ⟨c,hc⟩:=aU HH r hr3l
   have hc':wr.cell? ⟨sb,r,none⟩=some (.int .u8 c.toNat):=(hB.cell (p:=⟨sb,r,none⟩) hsb).trans hc
   obtain ⟨v0,hv0⟩ : ∃ v0,wr.cell? ⟨w.heap.size,k,none⟩=some v0:=⟨_,hr.2.cell k (by simp; rw [hr.1,← aU HLL]; exact hlk)⟩
   have hf : ∀ i,wr.frozen? ⟨w.heap.size,i,none⟩=false:=fun i=>hr.2.frozen i
   have HR2:Hid (RowB (wr.drew.setCell ⟨w.heap.size,k,none⟩ (.int .u8 c.toNat)) w.heap.size (bs.set k c)):=RowB.set hr k c
   have HM2:Hid (aF (wr.drew.setCell ⟨w.heap.size,k,none⟩ (.int .u8 c.toNat)) (w.heap.size+1) w.heap.size (.slice none 0 0) (.slice none 0 0) false 0 false false false 0):=aF.of (w:=wr) hm (Below.heap_setCell _ _ _ _ (by simp))
   have HB2:=aH ((hB.drew).setCell (p:=⟨w.heap.size,k,none⟩) (Nat.le_refl _) (.int .u8 c.toNat))
   have hkI:(k:Int)<(L:Int):=by omega
   obtain ⟨k1,hk1⟩ : ∃ k1,k1=k+1:=⟨_,rfl⟩
   have kk1:IntKind.i64.wrap ((k:Int)+1)=(k1:Int):=by rw [IntKind.wrap_i64]; omega
   have HK1:=aH hk1
   have hS0:wr.drew.cell? ⟨w.heap.size+1,0,none⟩=some (.slice (some ⟨w.heap.size,0,none⟩) L L)∧wr.drew.cell? ⟨sb,r,none⟩=some (.int .u8 c.toNat):=⟨a0,hc'⟩
   have hne1:sb≠w.heap.size:=by omega
   clear hm hr hB hr3 hk hk1
   go_wp2_with fail
   go_region
   all_goals
    go_wp2_with fail
    exact ⟨⟨k+1,_,by rw [← aU HK1],by omega,aU HM2,aU HR2,aU HB2⟩,by have:=aU HK1; simp [intOf]; omega⟩
  ·have hkl:k=L:=by omega
   subst hkl
   have hkI : ¬ (k:Int)<(k:Int):=by omega
   clear hm hr hB hlk hk
   go_wp2
   go_ret
   exact ⟨rfl,⟨bs,aU HM,aU HR⟩,aU HB⟩
end Qt
namespace Np
open Ka Wa Wb Wc Wd We Wf Wg Wh Wi Wj Wk Wl Wm Ha Hb Hc Hh Re Qa Qb Qc Qd Qe Qf Qg Qh Qi Qj Qk Ql Qm Qn Qo Qp Qr Qq Qs Qu Qv Qw Qx Na Nb Nc Nd Nee Nf Nh Ni Nj No
open Ta (zz)
structure Bs (bs:Str) (n sent:Nat):Prop where
 hl:bs.length=25600
 h130:rdN bs 130 2=n+8
 hav : ∀ j,j<8→rdN bs (132+2*j) 2=j
 hd1 : ∀ j,j<8→rdN bs (16*j) 8=1024+1536*j
 hd2 : ∀ j,j<8→rdN bs (512+16*j) 8=13312+1536*j
 h642:rdN bs 642 2=sent
 h258:rdN bs 258 2=n
def Bk (bs:Str) (back:Bool) (sent sus mp:Nat):Prop :=
 mp≤8∧if back=true then sus+mp=sent∧rdN bs 770 2=sent∧∀ k,k<mp→rdN bs (772+8*((sus+k)%8)) 4=k else sus=0∧mp=sent∧rdN bs 770 2=0
theorem Bs.cd {bs:Str} {n sent:Nat} (h:Bs bs n sent) (fr:Nat→Str) (j:Nat) (hf : ∀ q,q<j→(fr q).length≤1524) :
  (cdK bs n fr j).length=25600∧rdN (cdK bs n fr j) 130 2=n+8∧(∀ i,i<8→rdN (cdK bs n fr j) (132+2*i) 2=i)∧(∀ i,i<8→rdN (cdK bs n fr j) (16*i) 8=1024+1536*i)∧(∀ i,i<8→rdN (cdK bs n fr j) (512+16*i) 8=13312+1536*i)∧rdN (cdK bs n fr j) 642 2=sent:=by
 refine ⟨by rw [cdK_len,h.hl],?_,fun i hi=>?_,fun i hi=>?_,fun i hi=>?_,?_⟩
 ·rw [cdK_rd _ _ _ _ _ _ hf (by omega),h.h130]
 ·rw [cdK_rd _ _ _ _ _ _ hf (by omega),h.hav i hi]
 ·rw [cdK_rd _ _ _ _ _ _ hf (by omega),h.hd1 i hi]
 ·rw [cdK_rd _ _ _ _ _ _ hf (by omega),h.hd2 i hi]
 ·rw [cdK_rd _ _ _ _ _ _ hf (by omega),h.h642]
theorem Bk.cd {bs:Str} {back:Bool} {n sent sus mp:Nat} (h:Bk bs back sent sus mp) (fr:Nat→Str) (j:Nat) (hf : ∀ q,q<j→(fr q).length≤1524):Bk (cdK bs n fr j) back sent sus mp:=by
 obtain ⟨h1,h2⟩:=h
 refine ⟨h1,?_⟩
 split at h2
 ·rename_i hb
  rw [if_pos hb]
  exact ⟨h2.1,by rw [cdK_rd _ _ _ _ _ _ hf (by omega),h2.2.1],fun k hk=>by rw [cdK_rd _ _ _ _ _ _ hf (by omega),h2.2.2 k hk]⟩
 ·rename_i hb
  rw [if_neg hb]
  exact ⟨h2.1,h2.2.1,by rw [cdK_rd _ _ _ _ _ _ hf (by omega),h2.2.2]⟩
theorem Bk.poll {bs:Str} {back:Bool} {sent sus mp:Nat} (h:Bk bs back sent sus mp) : ∃ (f o:Nat) (O:Nat→List Bool),rdN bs 770 2=sus+f∧f≤cOut (tr mp)∧f≤8∧O 0=tr mp∧(∀ k,k<f→O (k+1)=(O k).set k false)∧(∀ k,k<f→k<8∧(O k)[k]? = some true∧rdN bs (772+8*((sus+k)%8)) 4=k)∧O f=tr o∧o≤8∧(if back=true then o=0∧sus+f=sent else o=sent∧f=0):=by
 obtain ⟨h1,h2⟩:=h
 have hc : ∀ m,m<9→cOut (tr m)=m:=by decide
 split at h2
 ·rename_i hb
  refine ⟨mp,0,Ok mp,by omega,by rw [hc mp (by omega)]; exact Nat.le_refl _,h1,Ok_zero mp (by omega),fun k hk=>Ok_step mp (by omega) k hk,fun k hk=>⟨by omega,Ok_at mp (by omega) k hk,h2.2.2 k hk⟩,Ok_all mp (by omega),by omega,?_⟩
  rw [if_pos hb]; exact ⟨rfl,h2.1⟩
 ·rename_i hb
  refine ⟨0,mp,fun _=>tr mp,by omega,by omega,by omega,rfl,fun k hk=>by omega,fun k hk=>by omega,rfl,h1,?_⟩
  rw [if_neg hb]; exact ⟨h2.2.1,rfl⟩
theorem Bs.polled {bs:Str} {n sent:Nat} (h:Bs bs n sent) (fr ans:Nat→Str) (o c:Nat) (hc:c≤8) (ho:o≤8) (hn:n+8+c<65536) (hs:sent+c<65536) (hf : ∀ q,q<c→(fr q).length≤1524) (ha : ∀ q,q<c→(ans q).length≤1524) :
  Bs (bsK (cdK bs n fr c) (n+8) sent o (fun q=>(n+q)%8) ans c) (n+c) (sent+sk o c):=by
 obtain ⟨g1,g2,g3,g4,g5,g6⟩:=h.cd fr c hf
 refine ⟨by rw [bsK_len,g1],?_,?_,fun j hj=>?_,fun j hj=>?_,?_,?_⟩
 ·rw [bsK_130 _ _ _ _ _ _ g1 g2 c (by omega) (by omega) ha]; omega
 ·exact bsK_avail _ _ _ _ _ _ g1 g3 c (fun j _=>by show (n+j)%8=(n+8+j)%8; omega) ha
 ·rw [bsK_rd _ _ _ _ _ _ _ _ _ ha (by omega),g4 j hj]
 ·rw [bsK_desc _ _ _ _ _ _ j hj c ha,g5 j hj]
 ·exact bsK_642 _ _ _ _ _ _ g1 g6 c hs ha
 ·rw [bsK_rd _ _ _ _ _ _ _ _ _ ha (by omega),cdK_258 _ _ _ h.hl h.h258 c (by omega)]
theorem Bs.given {bs:Str} {n sent:Nat} (h:Bs bs n sent) (a k v:Nat):Bs (wrN (bkK bs a k) 770 v 2) n sent:=by
 have e : ∀ p l,p+l≤770→rdN (wrN (bkK bs a k) 770 v 2) p l=rdN bs p l:=fun p l hp=>by rw [aR _ _ _ _ _ _ (by omega),bkK_rd _ _ _ _ _ (by omega)]
 exact ⟨by rw [aT,bkK_len,h.hl],by rw [e _ _ (by omega),h.h130],fun j hj=>by rw [e _ _ (by omega),h.hav j hj],fun j hj=>by rw [e _ _ (by omega),h.hd1 j hj],fun j hj=>by rw [e _ _ (by omega),h.hd2 j hj],by rw [e _ _ (by omega),h.h642],by rw [e _ _ (by omega),h.h258]⟩
theorem Bk.given {bs:Str} {sent k:Nat} (hl:bs.length=25600) (hk:k≤8) (hs:sent+k<65536):Bk (wrN (bkK bs sent k) 770 (sent+k) 2) true (sent+k) sent k:=by
 refine ⟨hk,?_⟩
 rw [if_pos rfl]
 refine ⟨rfl,?_,fun q hq=>?_⟩
 ·rw [rdN_wrN _ _ _ _ (by rw [bkK_len,hl]; omega)]; omega
 ·rw [aR _ _ _ _ _ _ (by omega)]; exact bkK_at bs sent hl k hk q hq
theorem Bk.kept {bs:Str} {n sent:Nat} (fr ans:Nat→Str) (id:Nat→Nat) (rav o c:Nat) (hc:c≤8) (ho:o=sent) (ho8:o≤8) (h:rdN bs 770 2=0) (hf : ∀ q,q<c→(fr q).length≤1524) (ha : ∀ q,q<c→(ans q).length≤1524):Bk (bsK (cdK bs n fr c) rav sent o id ans c) false (sent+sk o c) 0 (o+sk o c):=by
 refine ⟨by unfold sk; omega,?_⟩
 rw [if_neg (by decide)]
 exact ⟨rfl,by omega,by rw [bsK_rd _ _ _ _ _ _ _ _ _ ha (by omega),cdK_rd _ _ _ _ _ _ hf (by omega),h]⟩
structure St (W:World) (zb g cap zb1 g1 cap1 cb:Nat) (ad:Nat→Option Addr) (al:List Int):Prop where
 z:aN W zb zz g 0 cap Va.recs
 z1:aN W zb1 zz g1 0 cap1 Va.recs
 g:G W
 c:aB W cb [.string (B mine),.string (B ipMe)] 62
end Np
namespace Ng
open Ka Wa Wb Wc Wd We Wf Wg Wh Wi Wj Wk Wl Wm Ha Hb Hc Re Qa Qb Qc Qd Qe Qf Qg Qh Qi Qj Qk Ql Qm Qn Qr Qq Qs Na Nc Nf
theorem lay_av (bs:Str):(layS bs).2.1=8:=rfl
theorem lay_out (bs:Str):(layS bs).2.2=tr 8:=rfl
theorem new_below {w w':World} {mb bb:Nat} {bs:Str} (h:Qt.New w mb bb bs) (hb:Below w.heap.size w w'):Qt.New w' mb bb bs:=⟨aF.of h.1 (hb.block mb (aF.lt h.1)),RowB.of h.2 (hb.block bb h.2.2.lt)⟩
theorem new1_ok (b5 b10 xb zb mb bb:Nat) (mac ip bs:Str) (w:World) (h5:aB w b5 [.iface 71 (.pointer (some ⟨mb,0,none⟩))] 160) (h10:aB w b10 [.pointer (some ⟨xb,0,none⟩)] 73)
  (hx:aB w xb [.pointer (some ⟨zb,0,none⟩),.string (B mac),.string (B ip),.pointer none,.pointer none,.int .i64 0,.int .i64 0,.int .i64 0,.bool false] 165) (hm:Qt.New w mb bb bs) :
  Calls Tryz.prog 89 #[.pointer (some ⟨b5,0,none⟩),.pointer (some ⟨b10,0,none⟩)] w fun e w' =>
   e=.returned (.bool true)∧Mac w' xb zb w.heap.size (w.heap.size+1) mb bb w.heap.size mac ip (layB bs) false 0 276 8 0 (tr 8) 0 0 (tr 0) 0 0 0 false∧(∀ i,i<w.heap.size→i≠xb→i≠mb→i≠bb→w'.heap[i]? = w.heap[i]?)∧w'.os=w.os∧w'.tape=w.tape∧w'.output=w.output∧w.heap.size+2≤w'.heap.size:=by
 have n1:xb≠mb:=blk_ne hx hm.1 (by decide)
 have n2:xb≠bb:=blk_ne hx hm.2.2 (by decide)
 have hxl:=hx.lt
 have HL:=aH (lay_any mb bb w.heap.size false 0 0 bs w.drew (Qt.new_mem hm w.heap.size) (Nat.le_refl _) (by omega))
 rw [lay_av,lay_out] at HL
 have c10:w.drew.cell? ⟨b10,0,none⟩=some (.pointer (some ⟨xb,0,none⟩)):=aB.cell h10 0 (by simp)
 have c5:w.drew.cell? ⟨b5,0,none⟩=some (.iface 71 (.pointer (some ⟨mb,0,none⟩))):=aB.cell h5 0 (by simp)
 have HX:=aH hx
 have H10:=aH h10
 have hb10:b10≠mb∧b10≠bb:=⟨blk_ne h10 hm.1 (by decide),blk_ne h10 hm.2.2 (by decide)⟩
 have hb5:b5≠mb∧b5≠bb:=⟨blk_ne h5 hm.1 (by decide),blk_ne h5 hm.2.2 (by decide)⟩
 have h10x:b10≠xb:=blk_ne h10 hx (by decide)
 have h5x:b5≠xb:=blk_ne h5 hx (by decide)
 have H5:=aH h5
 clear h5 h10 hx hm
 obtain ⟨rs,hrs⟩ : ∃ rs,rs=w.heap.size:=⟨_,rfl⟩
 have HL':Hid (Calls Tryz.prog 90 #[.iface 71 (.pointer (some ⟨mb,0,none⟩))] w.drew fun e w'=>e=.returned (.tuple #[.pointer (some ⟨rs,0,none⟩),.pointer (some ⟨rs+1,0,none⟩)])∧(Mem w' mb bb rs (layB bs) false 0 276∧aO w' rs 240 mb 0 1024 8 0 (tr 8)∧aO w' (rs+1) 241 mb 512 13312 0 0 (tr 0)∧(∀ i,i<rs→i≠mb→i≠bb→w'.heap[i]? = w.heap[i]?)∧w'.os=w.os∧w'.tape=w.tape∧w'.output=w.output∧rs+2≤w'.heap.size)):=by
  rw [hrs]
  refine (aU HL).mono ?_
  rintro e w' ⟨rfl,hm',hr',hs',hk',ho',ht',hu',hz'⟩
  exact ⟨rfl,by simpa using hm',hr',hs',fun i hi h1 h2=>hk' i hi h1 h2 (.inl hi),ho',ht',hu',hz'⟩
 rw [← hrs] at hxl ⊢
 have HRS:=aH hrs
 have hl10:b10<rs:=by rw [hrs]; exact (aU H10).lt
 have hl5:b5<rs:=by rw [hrs]; exact (aU H5).lt
 have HKS:Hid (∀ (W:World) (o:Nat) (v:Value),(W.cell? ⟨b10,0,none⟩=some (.pointer (some ⟨xb,0,none⟩))∧W.cell? ⟨b5,0,none⟩=some (.iface 71 (.pointer (some ⟨mb,0,none⟩))))→((W.setCell ⟨xb,o,none⟩ v).cell? ⟨b10,0,none⟩=some (.pointer (some ⟨xb,0,none⟩))∧(W.setCell ⟨xb,o,none⟩ v).cell? ⟨b5,0,none⟩=some (.iface 71 (.pointer (some ⟨mb,0,none⟩))))):=fun W o v h =>
  ⟨(World.cell?_of_block (Below.heap_setCell _ _ _ _ h10x)).trans h.1,(World.cell?_of_block (Below.heap_setCell _ _ _ _ h5x)).trans h.2⟩
 clear HL hrs
 go_enter Tryz.func89,Tryz.ntmps89
 go_wp2_with fail
 go_region_held (fun w'=>w'.cell? ⟨b10,0,none⟩=some (.pointer (some ⟨xb,0,none⟩))∧w'.cell? ⟨b5,0,none⟩=some (.iface 71 (.pointer (some ⟨mb,0,none⟩)))) (first | assumption | exact ⟨c10,c5⟩ | exact ⟨q10,q5⟩ | exact aU HKS _ _ _ ⟨q10,q5⟩ | exact aU HKS _ _ _ (aU HKS _ _ _ ⟨q10,q5⟩) | go_keep)
  (first | (go_at_call 90; go_loud (refine (aU HL').mono ?_; rintro e w2 ⟨rfl,hP⟩; have hx2:=(hP.2.2.2.1 xb hxl n1 n2).trans (aU HX); have q3:=aB.cell hx2 3 (by simp); have q4:=aB.cell hx2 4 (by simp); have qf:=aB.frozen hx2; have q10:w2.cell? ⟨b10,0,none⟩=some (.pointer (some ⟨xb,0,none⟩)):=(World.cell?_of_block (hP.2.2.2.1 b10 hl10 hb10.1 hb10.2)).trans c10; have q5:w2.cell? ⟨b5,0,none⟩=some (.iface 71 (.pointer (some ⟨mb,0,none⟩))):=(World.cell?_of_block (hP.2.2.2.1 b5 hl5 hb5.1 hb5.2)).trans c5)))
 all_goals
  obtain ⟨hm2,hr2,hs2,hk2,ho2,ht2,hu2,hz2⟩:=hP
  have HFIN:Hid (∀ W',(W'=(w2.setCell ⟨xb,3,none⟩ (.pointer (some ⟨rs,0,none⟩))).setCell ⟨xb,4,none⟩ (.pointer (some ⟨rs+1,0,none⟩))∨W'=(w2.setCell ⟨xb,4,none⟩ (.pointer (some ⟨rs+1,0,none⟩))).setCell ⟨xb,3,none⟩ (.pointer (some ⟨rs,0,none⟩))) →
    Mac W' xb zb rs (rs+1) mb bb rs mac ip (layB bs) false 0 276 8 0 (tr 8) 0 0 (tr 0) 0 0 0 false∧(∀ i,i<rs→i≠xb→i≠mb→i≠bb→W'.heap[i]? = w.heap[i]?)∧W'.os=w.os∧W'.tape=w.tape∧W'.output=w.output∧rs+2≤W'.heap.size):=fun W' hW'=>by
   have hX:MacAt W' xb zb rs (rs+1) mac ip 0 0 0 false:=by
    rcases hW' with rfl | rfl
    ·exact aB.set (aB.set hx2 3 _) 4 _
    ·exact aB.set (aB.set hx2 4 _) 3 _
   have hkk : ∀ i,i≠xb→W'.heap[i]? = w2.heap[i]?:=fun i hne=>by
    rcases hW' with rfl | rfl <;> exact (Below.heap_setCell _ _ _ _ hne).trans (Below.heap_setCell _ _ _ _ hne)
   have hsz:W'.heap.size=w2.heap.size:=by rcases hW' with rfl | rfl <;> simp [World.setCell]
   have hoo:W'.os=w2.os∧W'.tape=w2.tape∧W'.output=w2.output:=by rcases hW' with rfl | rfl <;> exact ⟨rfl,rfl,rfl⟩
   refine ⟨⟨mem_keep hm2 xb _ _ hx2 (by decide) (by decide) n1 n2 (fun i _ hne=>hkk i hne),(hkk rs (by omega)).trans hr2,(hkk (rs+1) (by omega)).trans hs2,hX,by omega⟩,fun i hi h0 h1 h2=>(hkk i h0).trans (hk2 i hi h1 h2),hoo.1.trans ho2,hoo.2.1.trans ht2,hoo.2.2.trans hu2,by omega⟩
  clear hm2 hr2 hs2 hk2 ho2 ht2 hu2 hz2 hx2 q3 q4 qf q10 q5
  go_wp2_with fail
  go_ret
  exact ⟨rfl,aU HFIN _ (by first | exact .inl rfl | exact .inr rfl)⟩
end Ng
end Go.Proofs.YtkkpahmoljiepaaGreatDoor
