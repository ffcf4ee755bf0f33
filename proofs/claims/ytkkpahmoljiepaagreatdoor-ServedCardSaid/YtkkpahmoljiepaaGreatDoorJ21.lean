/- Contracts: wire's readPacket. -/
import Derived.Test.YtkkpahmoljiepaaGreatDoorJ16
import Derived.Test.YtkkpahmoljiepaaGreatDoorJ20
set_option linter.unusedSimpArgs false
set_option linter.unusedVariables false
set_option maxRecDepth 1000000
set_option maxHeartbeats 12800000
namespace Go.Proofs.YtkkpahmoljiepaaGreatDoor
open Go.RowKit
open Pu (Str aH aU)
namespace Hd
open Ka Kc Wa Wb Wc Wd We Wf Wg Wh Wi Wj Wk Wl Wm Ha Hb Hc Re
theorem octP_cons (c:UInt8) (s:Str) (br:Bool):octP (c :: s) br=(c.toNat,s,br):=rfl
theorem shortP_cons (c d:UInt8) (s:Str) (br:Bool):shortP (c :: d :: s) br=(c.toNat*256+d.toNat,s,br):=rfl
theorem take4 (a b c d:UInt8) (s:Str) (br:Bool):takP (a :: b :: c :: d :: s) br 4=([a,b,c,d],s,br):=by
 unfold takP; rw [if_pos (by simp)]; rfl
abbrev zp:List Value:=[.string ⟨#[]⟩,.string ⟨#[]⟩,.string ⟨#[]⟩]
structure St (w W:World) (s:Str) (bs:Bool) (t:Str) (bt:Bool):Prop where
 z:aB W w.heap.size zp 307
 r:RdAt W (w.heap.size+1) s bs
 h:RdAt W (w.heap.size+2) t bt
 size:W.heap.size=w.heap.size+3
 below:Below w.heap.size w W
theorem St.call {w W W':World} {s t t':Str} {bs bt bt':Bool} (h:St w W s bs t bt) (hr:RdAt W' (w.heap.size+2) t' bt') (hk:It.Keeps (w.heap.size+2) W W') (hs:W'.heap.size=W.heap.size):St w W' s bs t' bt' :=
 ⟨h.z.kept hk (by omega),h.r.kept hk (by omega),hr,hs.trans h.size,h.below.trans (hk.below (by omega) (by have:=h.size; omega))⟩
theorem headSum (h:Str) (gb:Nat) (W:World) (hgb:gb=W.heap.size) (hl:h.length≤1000):Calls Tryz.prog 256 #[.slice (some ⟨gb,0,none⟩) 1 1] (W.alloc (.cells #[.iface 224 (.string (B h))] 297)) fun e w'=>e=.returned (.int .i64 (fold (ws true h)))∧Below gb W w':=by
 subst hgb
 have:=sum_new [fRaw h] W (by intro f hf; simp at hf; subst hf; exact raw_ok h) (by simp) (by simp [outs,fRaw]; omega)
 rw [show outs [fRaw h]=h by simp [outs,fRaw]] at this
 exact this
structure Sp (w W:World) (s:Str) (bs:Bool) (a b r:Str):Prop where
 z:aB W w.heap.size zp 307
 rd:RdAt W (w.heap.size+1) s bs
 p:aB W (w.heap.size+3) [.string (B a),.string (B b),.string (B r)] 307
 below:Below w.heap.size w W
theorem St.next {w W:World} {s t:Str} {bs bt:Bool} (h:St w W s bs t bt) (a b:Str):Sp w (W.alloc (.cells #[.string (B a),.string (B b),.string ⟨#[]⟩] 307)) s bs a b [] :=
 ⟨h.z.alloc _,(Below.heap_alloc _ _ _ h.r.lt).trans h.r,by rw [← h.size]; exact aB.new _ _ _,h.below.alloc (by have:=h.size; omega) _⟩
theorem Sp.size {w W:World} {s a b r:Str} {bs:Bool} (h:Sp w W s bs a b r):w.heap.size+3<W.heap.size:=h.p.lt
theorem Sp.next {w W W':World} {s a b r:Str} {bs:Bool} (h:Sp w W s bs a b r) (hb:Below W.heap.size W W'):Sp w W' s bs a b r :=
 ⟨h.z.below hb h.z.lt,(hb.block _ h.rd.lt).trans h.rd,h.p.below hb h.p.lt,h.below.trans (hb.mono (by have:=h.size; omega))⟩
theorem Sp.call {w W W':World} {s a b r s':Str} {bs bs':Bool} (h:Sp w W s bs a b r) (hr:RdAt W' (w.heap.size+1) s' bs') (hk:It.Keeps (w.heap.size+1) W W'):Sp w W' s' bs' a b r :=
 ⟨h.z.kept hk (by omega),hr,h.p.kept hk (by omega),h.below.trans (hk.below (by omega) (by have:=h.size; omega))⟩
theorem Sp.setr {w W:World} {s a b r:Str} {bs:Bool} (h:Sp w W s bs a b r) (r':Str):Sp w (W.setCell ⟨w.heap.size+3,2,none⟩ (.string (B r'))) s bs a b r' :=
 ⟨(Below.heap_setCell _ _ _ _ (by show w.heap.size≠w.heap.size+3; omega)).trans h.z,(Below.heap_setCell _ _ _ _ (by show w.heap.size+1≠w.heap.size+3; omega)).trans h.rd,h.p.set 2 _,h.below.setCell (by show w.heap.size≤w.heap.size+3; omega) _⟩
theorem i64_and_3fff (n:Nat) (h:n<65536):bits .and .i64 (n:Int) 16383=(n:Int)%16384:=by
 have e:bits .and .i64 (n:Int) 16383=((n%16384:Nat):Int):=by
  show IntKind.i64.wrap ((BitVec.ofInt 64 (n:Int) &&& BitVec.ofInt 64 16383).toNat:Int)=_
  rw [BitVec.toNat_and,ofInt_u64 n (by omega),show (16383:Int)=((16383:Nat):Int) from rfl,ofInt_u64 16383 (by omega),show (16383:Nat)=2 ^ 14 - 1 from rfl,Nat.and_two_pow_sub_one_eq_mod]
  rw [IntKind.wrap_i64]
  first | omega | (unfold wrap64; omega)
 rw [e]; omega
def PkPost (n sm:Nat) (t a b:Str) (ok:Bool) (e:Ending):Prop :=
 if n<28∨sm≠65535 then e=.returned (.tuple #[.agg #[.string ⟨#[]⟩,.string ⟨#[]⟩,.string ⟨#[]⟩],.bool false])
 else if n - 20≤t.length then e=.returned (.tuple #[.agg #[.string (B a),.string (B b),.string (B (t.take (n - 20)))],.bool ok])
 else ∃ m:Str,e=.returned (.tuple #[.agg #[.string (B a),.string (B b),.string (B m)],.bool false])
theorem readPacket_20 (b0 b1 b2 b3 b4 b5 b6 b7 b8 b9 b10 b11 b12 b13 b14 b15 b16 b17 b18 b19:UInt8) (t:Str) (w:World) (hl:t.length≤1000000) (n pc sm:Nat) (hn:n=b2.toNat*256+b3.toNat) (hpc:pc=b6.toNat*256+b7.toNat) (hsm:sm=fold (ws true [b0,b1,b2,b3,b4,b5,b6,b7,b8,b9,b10,b11,b12,b13,b14,b15,b16,b17,b18,b19])) (ok:Bool) (hok:ok=(b0.toNat == 69 && (pc%16384 == 0 && b9.toNat == 17))) :
  Calls Tryz.prog 210 #[.string (B (b0 :: b1 :: b2 :: b3 :: b4 :: b5 :: b6 :: b7 :: b8 :: b9 :: b10 :: b11 :: b12 :: b13 :: b14 :: b15 :: b16 :: b17 :: b18 :: b19 :: t))] w fun e w'=>PkPost n sm t [b12,b13,b14,b15] [b16,b17,b18,b19] ok e∧Below w.heap.size w w':=by
 have HSM:=aH (fun gb W hgb=>headSum [b0,b1,b2,b3,b4,b5,b6,b7,b8,b9,b10,b11,b12,b13,b14,b15,b16,b17,b18,b19] gb W hgb (by simp))
 rw [← hsm] at HSM
 have HN:=aH hn
 have HPC:=aH hpc
 have HOK:=aH hok
 have hn1:n<65536:=by have:=UInt8.toNat_lt b2; have:=UInt8.toNat_lt b3; omega
 have hpc1:pc<65536:=by have:=UInt8.toNat_lt b6; have:=UInt8.toNat_lt b7; omega
 have hsm1:sm≤65535:=by rw [hsm]; exact fold_le _
 clear hn hpc hok hsm
 have hz0:aB ((w.alloc (.cells #[.string ⟨#[]⟩,.string ⟨#[]⟩,.string ⟨#[]⟩] 307)).alloc (.cells #[.string (B (b0 :: b1 :: b2 :: b3 :: b4 :: b5 :: b6 :: b7 :: b8 :: b9 :: b10 :: b11 :: b12 :: b13 :: b14 :: b15 :: b16 :: b17 :: b18 :: b19 :: t)),.bool false] 215)) w.heap.size zp 307:=(aB.new w _ _).alloc _
 have hr0:RdAt ((w.alloc (.cells #[.string ⟨#[]⟩,.string ⟨#[]⟩,.string ⟨#[]⟩] 307)).alloc (.cells #[.string (B (b0 :: b1 :: b2 :: b3 :: b4 :: b5 :: b6 :: b7 :: b8 :: b9 :: b10 :: b11 :: b12 :: b13 :: b14 :: b15 :: b16 :: b17 :: b18 :: b19 :: t)),.bool false] 215)) (w.heap.size+1) (b0 :: b1 :: b2 :: b3 :: b4 :: b5 :: b6 :: b7 :: b8 :: b9 :: b10 :: b11 :: b12 :: b13 :: b14 :: b15 :: b16 :: b17 :: b18 :: b19 :: t) false:=by
  have:=World.alloc_heap_new (w.alloc (.cells #[.string ⟨#[]⟩,.string ⟨#[]⟩,.string ⟨#[]⟩] 307)) (.cells #[.string (B (b0 :: b1 :: b2 :: b3 :: b4 :: b5 :: b6 :: b7 :: b8 :: b9 :: b10 :: b11 :: b12 :: b13 :: b14 :: b15 :: b16 :: b17 :: b18 :: b19 :: t)),.bool false] 215)
  simpa [RdAt] using this
 have HB0:=aH (((Below.refl w.heap.size w).alloc (Nat.le_refl _) (.cells #[.string ⟨#[]⟩,.string ⟨#[]⟩,.string ⟨#[]⟩] 307)).alloc (by simp) (.cells #[.string (B (b0 :: b1 :: b2 :: b3 :: b4 :: b5 :: b6 :: b7 :: b8 :: b9 :: b10 :: b11 :: b12 :: b13 :: b14 :: b15 :: b16 :: b17 :: b18 :: b19 :: t)),.bool false] 215))
 have HC0:=aH (Wb.take_any _ 20 (b0 :: b1 :: b2 :: b3 :: b4 :: b5 :: b6 :: b7 :: b8 :: b9 :: b10 :: b11 :: b12 :: b13 :: b14 :: b15 :: b16 :: b17 :: b18 :: b19 :: t) false _ hr0 (by omega) (by simp; omega))
 rw [show takP (b0 :: b1 :: b2 :: b3 :: b4 :: b5 :: b6 :: b7 :: b8 :: b9 :: b10 :: b11 :: b12 :: b13 :: b14 :: b15 :: b16 :: b17 :: b18 :: b19 :: t) false 20=([b0,b1,b2,b3,b4,b5,b6,b7,b8,b9,b10,b11,b12,b13,b14,b15,b16,b17,b18,b19],t,false) from by unfold takP; rw [if_pos (by simp)]; rfl] at HC0
 have HZ0:=aH hz0
 clear hz0 hr0
 generalize (b0 :: b1 :: b2 :: b3 :: b4 :: b5 :: b6 :: b7 :: b8 :: b9 :: b10 :: b11 :: b12 :: b13 :: b14 :: b15 :: b16 :: b17 :: b18 :: b19 :: t)=S at *
 generalize hH : [b0,b1,b2,b3,b4,b5,b6,b7,b8,b9,b10,b11,b12,b13,b14,b15,b16,b17,b18,b19]=H at *
 go_enter Tryz.func210,Tryz.ntmps210
 go_wp2_with fail
 refine (aU HC0).mono ?_
 rintro e w1 ⟨rfl,hr1,hk1,hs1⟩
 have hsz:w1.heap.size=w.heap.size+2:=by rw [hs1]; simp
 have HS0:Hid (St w (w1.alloc (.cells #[.string (B H),.bool false] 215)) t false H false) :=
  ⟨((aU HZ0).kept hk1 (by omega)).alloc _,(Below.heap_alloc _ _ _ hr1.lt).trans hr1,by rw [← hsz]; exact World.alloc_heap_new _ _,by simp; omega,((aU HB0).trans (hk1.below (by omega) (by simp; omega))).alloc (by omega) _⟩
 have HSZ:=aH hsz
 clear hr1 hk1 hs1 HC0 HZ0 HB0
 go_wp2_with fail
 generalize w1.alloc (.cells #[.string (B H),.bool false] 215)=v0 at *
 clear hsz HSZ w1
 rw [← hH] at HS0
 have HH:=aH hH
 clear hH
 have HC:=aH (octet_any (w.heap.size+2) [b0,b1,b2,b3,b4,b5,b6,b7,b8,b9,b10,b11,b12,b13,b14,b15,b16,b17,b18,b19] false v0 (aU HS0).h (by simp))
 rw [octP_cons] at HC
 refine (aU HC).mono ?_
 rintro e v1 ⟨rfl,hr,hk,hs⟩
 have HS1:=aH ((aU HS0).call hr hk hs)
 clear hr hk hs HC HS0
 have HC:=aH (octet_any (w.heap.size+2) [b1,b2,b3,b4,b5,b6,b7,b8,b9,b10,b11,b12,b13,b14,b15,b16,b17,b18,b19] false v1 (aU HS1).h (by simp))
 rw [octP_cons] at HC
 go_wp2_with fail
 refine (aU HC).mono ?_
 rintro e v2 ⟨rfl,hr,hk,hs⟩
 have HS2:=aH ((aU HS1).call hr hk hs)
 clear hr hk hs HC HS1
 have HC:=aH (short_any (w.heap.size+2) [b2,b3,b4,b5,b6,b7,b8,b9,b10,b11,b12,b13,b14,b15,b16,b17,b18,b19] false v2 (aU HS2).h (by simp))
 rw [shortP_cons,← aU HN] at HC
 go_wp2_with fail
 refine (aU HC).mono ?_
 rintro e v3 ⟨rfl,hr,hk,hs⟩
 have HS3:=aH ((aU HS2).call hr hk hs)
 clear hr hk hs HC HS2
 have HC:=aH (short_any (w.heap.size+2) [b4,b5,b6,b7,b8,b9,b10,b11,b12,b13,b14,b15,b16,b17,b18,b19] false v3 (aU HS3).h (by simp))
 rw [shortP_cons] at HC
 go_wp2_with fail
 refine (aU HC).mono ?_
 rintro e v4 ⟨rfl,hr,hk,hs⟩
 have HS4:=aH ((aU HS3).call hr hk hs)
 clear hr hk hs HC HS3
 have HC:=aH (short_any (w.heap.size+2) [b6,b7,b8,b9,b10,b11,b12,b13,b14,b15,b16,b17,b18,b19] false v4 (aU HS4).h (by simp))
 rw [shortP_cons,← aU HPC] at HC
 go_wp2_with fail
 refine (aU HC).mono ?_
 rintro e v5 ⟨rfl,hr,hk,hs⟩
 have HS5:=aH ((aU HS4).call hr hk hs)
 clear hr hk hs HC HS4
 have HC:=aH (octet_any (w.heap.size+2) [b8,b9,b10,b11,b12,b13,b14,b15,b16,b17,b18,b19] false v5 (aU HS5).h (by simp))
 rw [octP_cons] at HC
 go_wp2_with fail
 refine (aU HC).mono ?_
 rintro e v6 ⟨rfl,hr,hk,hs⟩
 have HS6:=aH ((aU HS5).call hr hk hs)
 clear hr hk hs HC HS5
 have HC:=aH (octet_any (w.heap.size+2) [b9,b10,b11,b12,b13,b14,b15,b16,b17,b18,b19] false v6 (aU HS6).h (by simp))
 rw [octP_cons] at HC
 go_wp2_with fail
 refine (aU HC).mono ?_
 rintro e v7 ⟨rfl,hr,hk,hs⟩
 have HS7:=aH ((aU HS6).call hr hk hs)
 clear hr hk hs HC HS6
 have HC:=aH (short_any (w.heap.size+2) [b10,b11,b12,b13,b14,b15,b16,b17,b18,b19] false v7 (aU HS7).h (by simp))
 rw [shortP_cons] at HC
 go_wp2_with fail
 refine (aU HC).mono ?_
 rintro e v8 ⟨rfl,hr,hk,hs⟩
 have HS8:=aH ((aU HS7).call hr hk hs)
 clear hr hk hs HC HS7
 have HC:=aH (Wb.take_any (w.heap.size+2) 4 [b12,b13,b14,b15,b16,b17,b18,b19] false v8 (aU HS8).h (by omega) (by simp))
 rw [take4] at HC
 go_wp2_with fail
 refine (aU HC).mono ?_
 rintro e v9 ⟨rfl,hr,hk,hs⟩
 have HS9:=aH ((aU HS8).call hr hk hs)
 clear hr hk hs HC HS8
 have HC:=aH (Wb.take_any (w.heap.size+2) 4 [b16,b17,b18,b19] false v9 (aU HS9).h (by omega) (by simp))
 rw [take4] at HC
 go_wp2_with fail
 refine (aU HC).mono ?_
 rintro e v10 ⟨rfl,hr,hk,hs⟩
 have HS10:=aH ((aU HS9).call hr hk hs)
 clear hr hk hs HC HS9
 have hs10:=(aU HS10).size
 have HP0:=aH ((aU HS10).next [b12,b13,b14,b15] [b16,b17,b18,b19])
 have y0:=(aU HS10).z.cell 0 (by simp)
 have y1:=(aU HS10).z.cell 1 (by simp)
 have y2:=(aU HS10).z.cell 2 (by simp)
 have hfy:=(aU HS10).z.frozen
 simp only [zp,List.getElem_cons_zero,List.getElem_cons_succ] at y0 y1 y2
 have HZY:=aH (((((aU HS10).z.set 0 (.string ⟨#[]⟩)).set 1 (.string ⟨#[]⟩)).set 2 (.string ⟨#[]⟩)).alloc (.cells #[.string (B [b12,b13,b14,b15]),.string (B [b16,b17,b18,b19]),.string ⟨#[]⟩] 307))
 have HBy:=aH (((((aU HS10).below.setCell (Nat.le_refl _) (p:=⟨w.heap.size,0,none⟩) (.string ⟨#[]⟩)).setCell (Nat.le_refl _) (p:=⟨w.heap.size,1,none⟩) (.string ⟨#[]⟩)).setCell (Nat.le_refl _) (p:=⟨w.heap.size,2,none⟩) (.string ⟨#[]⟩)).alloc (by simp [World.setCell]; omega) (.cells #[.string (B [b12,b13,b14,b15]),.string (B [b16,b17,b18,b19]),.string ⟨#[]⟩] 307))
 clear HS10 HN HPC
 by_cases h28:n<28
 ·have HP:Hid (∀ e:Ending,e=.returned (.tuple #[.agg #[.string ⟨#[]⟩,.string ⟨#[]⟩,.string ⟨#[]⟩],.bool false])→PkPost n sm t [b12,b13,b14,b15] [b16,b17,b18,b19] ok e):=fun e he=>by
   unfold PkPost; rw [if_pos (.inl h28)]; exact he
  clear HP0
  go_wp2
  refine bodyPost_ret (v:=.tuple #[.agg #[.string ⟨#[]⟩,.string ⟨#[]⟩,.string ⟨#[]⟩],.bool false]) ?_ rfl ?_
  ·have r0:((((v10.setCell ⟨w.heap.size,0,none⟩ (.string ⟨#[]⟩)).setCell ⟨w.heap.size,1,none⟩ (.string ⟨#[]⟩)).setCell ⟨w.heap.size,2,none⟩ (.string ⟨#[]⟩)).alloc (.cells #[.string (B [b12,b13,b14,b15]),.string (B [b16,b17,b18,b19]),.string ⟨#[]⟩] 307)).cell? ⟨w.heap.size,0,none⟩=some (.string ⟨#[]⟩):=(aU HZY).cell 0 (by simp)
   have r1:((((v10.setCell ⟨w.heap.size,0,none⟩ (.string ⟨#[]⟩)).setCell ⟨w.heap.size,1,none⟩ (.string ⟨#[]⟩)).setCell ⟨w.heap.size,2,none⟩ (.string ⟨#[]⟩)).alloc (.cells #[.string (B [b12,b13,b14,b15]),.string (B [b16,b17,b18,b19]),.string ⟨#[]⟩] 307)).cell? ⟨w.heap.size,1,none⟩=some (.string ⟨#[]⟩):=(aU HZY).cell 1 (by simp)
   have r2:((((v10.setCell ⟨w.heap.size,0,none⟩ (.string ⟨#[]⟩)).setCell ⟨w.heap.size,1,none⟩ (.string ⟨#[]⟩)).setCell ⟨w.heap.size,2,none⟩ (.string ⟨#[]⟩)).alloc (.cells #[.string (B [b12,b13,b14,b15]),.string (B [b16,b17,b18,b19]),.string ⟨#[]⟩] 307)).cell? ⟨w.heap.size,2,none⟩=some (.string ⟨#[]⟩):=(aU HZY).cell 2 (by simp)
   simp [results,Tryz.results210,go_sem,r0,r1,r2]
  ·exact ⟨aU HP _ rfl,aU HBy⟩
 have h28' : ¬ (n:Int)<28:=by omega
 go_wp2_with fail
 refine (aU HSM _ _ (by simp <;> omega)).mono ?_
 rintro e w11 ⟨rfl,hb11⟩
 have HP1:=aH ((aU HP0).next (hb11.mono (by simp <;> omega)))
 clear hb11 HP0 HSM hs10 y0 y1 y2 hfy HBy HZY
 by_cases hsm:sm=65535
 ·subst hsm
  obtain ⟨n',hn'⟩ : ∃ n',n=n'+20:=⟨n - 20,by omega⟩
  have kn:(n:Int) - 20=(n':Int):=by omega
  have kp:=i64_and_3fff pc hpc1
  have hb0:=UInt8.toNat_lt b0
  have hb9:=UInt8.toNat_lt b9
  have HC:=aH (Wb.take_any (w.heap.size+1) n' t false w11 (aU HP1).rd (by omega) (by omega))
  have HQ:Hid (∀ (m:Str) (bs:Bool),takP t false n'=(m,(takP t false n').2.1,bs)→∀ e:Ending,e=.returned (.tuple #[.agg #[.string (B [b12,b13,b14,b15]),.string (B [b16,b17,b18,b19]),.string (B m)],.bool (ok && !bs)])→PkPost n 65535 t [b12,b13,b14,b15] [b16,b17,b18,b19] ok e):=fun m bs hm e he=>by
   unfold PkPost
   rw [if_neg (by omega),show n - 20=n' by omega]
   unfold takP at hm
   split at hm
   ·rename_i hle
    rw [if_pos hle]
    obtain ⟨rfl,rfl⟩:t.take n'=m∧bs=false:=by simpa using hm
    rw [he]; simp
   ·rename_i hle
    rw [if_neg hle]
    obtain ⟨rfl,rfl⟩:m = []∧bs=true:=by simpa using hm
    exact ⟨_,by rw [he,Bool.not_true,Bool.and_false]⟩
  obtain ⟨m,t',bs,htk⟩ : ∃ m t' bs,takP t false n'=(m,t',bs):=⟨_,_,_,rfl⟩
  rw [htk] at HC HQ
  have HP:=aH (aU HQ m bs rfl)
  simp only at HC
  clear HQ htk
  go_wp2_with fail
  refine (aU HC).mono ?_
  rintro e w12 ⟨rfl,hr,hk,-⟩
  have HP2:=aH ((aU HP1).call hr hk)
  have hfp:=(aU HP2).p.frozen
  have hp2:=(aU HP2).p.cell 2 (by simp)
  simp only [List.getElem_cons_zero,List.getElem_cons_succ] at hp2
  have HP3:=aH ((aU HP2).setr m)
  clear hr hk HC HP1 HP2
  have q1:=(aU HP3).rd.cells.2
  have p0:=(aU HP3).p.cell 0 (by simp)
  have p1:=(aU HP3).p.cell 1 (by simp)
  have p2:=(aU HP3).p.cell 2 (by simp)
  have z0:=(aU HP3).z.cell 0 (by simp)
  have z1:=(aU HP3).z.cell 1 (by simp)
  have z2:=(aU HP3).z.cell 2 (by simp)
  have hfz:=(aU HP3).z.frozen
  simp only [zp,List.getElem_cons_zero,List.getElem_cons_succ] at z0 z1 z2 p0 p1 p2
  have HB:=aH (aU HP3).below
  clear HP3
  by_cases c1:b0.toNat=69
  ·by_cases c2:pc%16384=0
   ·by_cases c3:b9.toNat=17
    ·have hok:ok=true:=by rw [aU HOK]; simp [c1,c2,c3]
     have c1':(b0.toNat:Int)=69:=by omega
     have c2':(pc:Int)%16384=0:=by omega
     have c3':(b9.toNat:Int)=17:=by omega
     subst hok
     rw [Bool.true_and] at HP
     clear HOK c1 c2 c3 hb0 hb9
     go_wp2_with fail
     go_region
     all_goals
      go_wp2
      refine bodyPost_ret (v:=.tuple #[.agg #[.string (B [b12,b13,b14,b15]),.string (B [b16,b17,b18,b19]),.string (B m)],.bool (!bs)]) ?_ rfl ?_
      ·simp [results,Tryz.results210,go_sem,z0,z1,z2]
      ·exact ⟨aU HP _ rfl,((((aU HB).drew).setCell (Nat.le_refl _) _).setCell (Nat.le_refl _) _).setCell (Nat.le_refl _) _⟩
    ·have hok:ok=false:=by rw [aU HOK]; simp [c3]
     have c1':(b0.toNat:Int)=69:=by omega
     have c2':(pc:Int)%16384=0:=by omega
     have c3' : ¬ (b9.toNat:Int)=17:=by omega
     have d3:((b9.toNat:Int) == 17)=false:=by simpa using c3'
     subst hok
     rw [Bool.false_and] at HP
     clear HOK c1 c2 hb0 hb9
     go_wp2_with fail
     go_region
     all_goals
      go_wp2
      refine bodyPost_ret (v:=.tuple #[.agg #[.string (B [b12,b13,b14,b15]),.string (B [b16,b17,b18,b19]),.string (B m)],.bool (false)]) ?_ rfl ?_
      ·simp [results,Tryz.results210,go_sem,z0,z1,z2]
      ·exact ⟨aU HP _ rfl,((((aU HB).drew).setCell (Nat.le_refl _) _).setCell (Nat.le_refl _) _).setCell (Nat.le_refl _) _⟩
   ·have hok:ok=false:=by rw [aU HOK]; simp [c2]
    have c1':(b0.toNat:Int)=69:=by omega
    have c2' : ¬ (pc:Int)%16384=0:=by omega
    subst hok
    rw [Bool.false_and] at HP
    clear HOK c1 hb0 hb9
    go_wp2_with fail
    go_region
    all_goals
      go_wp2
      refine bodyPost_ret (v:=.tuple #[.agg #[.string (B [b12,b13,b14,b15]),.string (B [b16,b17,b18,b19]),.string (B m)],.bool (false)]) ?_ rfl ?_
      ·simp [results,Tryz.results210,go_sem,z0,z1,z2]
      ·exact ⟨aU HP _ rfl,((((aU HB).drew).setCell (Nat.le_refl _) _).setCell (Nat.le_refl _) _).setCell (Nat.le_refl _) _⟩
  ·have hok:ok=false:=by rw [aU HOK]; simp [c1]
   have c1' : ¬ (b0.toNat:Int)=69:=by omega
   subst hok
   rw [Bool.false_and] at HP
   clear HOK hb0 hb9
   go_wp2_with fail
   go_region
   all_goals
      go_wp2
      refine bodyPost_ret (v:=.tuple #[.agg #[.string (B [b12,b13,b14,b15]),.string (B [b16,b17,b18,b19]),.string (B m)],.bool (false)]) ?_ rfl ?_
      ·simp [results,Tryz.results210,go_sem,z0,z1,z2]
      ·exact ⟨aU HP _ rfl,((((aU HB).drew).setCell (Nat.le_refl _) _).setCell (Nat.le_refl _) _).setCell (Nat.le_refl _) _⟩
 ·have hsm' : ¬ (sm:Int)=65535:=by omega
  have dsm:((sm:Int) != 65535)=true:=by simpa using hsm'
  have HP:Hid (∀ e:Ending,e=.returned (.tuple #[.agg #[.string ⟨#[]⟩,.string ⟨#[]⟩,.string ⟨#[]⟩],.bool false])→PkPost n sm t [b12,b13,b14,b15] [b16,b17,b18,b19] ok e):=fun e he=>by
   unfold PkPost; rw [if_pos (.inr hsm)]; exact he
  have z0:=(aU HP1).z.cell 0 (by simp)
  have z1:=(aU HP1).z.cell 1 (by simp)
  have z2:=(aU HP1).z.cell 2 (by simp)
  have hfz:=(aU HP1).z.frozen
  simp only [zp,List.getElem_cons_zero,List.getElem_cons_succ] at z0 z1 z2
  have HB:=aH (aU HP1).below
  go_wp2
  refine bodyPost_ret (v:=.tuple #[.agg #[.string ⟨#[]⟩,.string ⟨#[]⟩,.string ⟨#[]⟩],.bool false]) ?_ rfl ?_
  ·simp [results,Tryz.results210,go_sem,z0,z1,z2]
  ·exact ⟨aU HP _ rfl,(((aU HB).setCell (Nat.le_refl _) _).setCell (Nat.le_refl _) _).setCell (Nat.le_refl _) _⟩
end Hd
namespace Hf
open Ka Kc Wa Wb Wc Wd We Wf Wg Wh Wi Wj Wk Wl Wm Ha Hb Hc Hd He Re
structure Dg (w W:World) (a b r s:Str) (bs:Bool):Prop where
 p:aB W w.heap.size [.string (B a),.string (B b),.string (B r)] 307
 z:aB W (w.heap.size+1) [.int .i64 0,.int .i64 0,.string ⟨#[]⟩] 349
 r:RdAt W (w.heap.size+2) s bs
 size:W.heap.size=w.heap.size+3
 below:Below w.heap.size w W
theorem Dg.call {w W W':World} {a b r s t:Str} {bs bt:Bool} (h:Dg w W a b r s bs) (hr:RdAt W' (w.heap.size+2) t bt) (hk:It.Keeps (w.heap.size+2) W W') (hs:W'.heap.size=W.heap.size):Dg w W' a b r t bt :=
 ⟨h.p.kept hk (by omega),h.z.kept hk (by omega),hr,hs.trans h.size,h.below.trans (hk.below (by omega) (by have:=h.size; omega))⟩
theorem Dg.start (w:World) (a b r:Str):Dg w (((w.alloc (.cells #[.string (B a),.string (B b),.string (B r)] 307)).alloc (.cells #[.int .i64 0,.int .i64 0,.string ⟨#[]⟩] 349)).alloc (.cells #[.string (B r),.bool false] 215)) a b r r false where
 p:=((aB.new w _ _).alloc _).alloc _
 z:=by
  have:=(aB.new (w.alloc (.cells #[.string (B a),.string (B b),.string (B r)] 307)) [.int .i64 0,.int .i64 0,.string ⟨#[]⟩] 349).alloc (.cells #[.string (B r),.bool false] 215)
  simpa using this
 r:=by
  have:=World.alloc_heap_new ((w.alloc (.cells #[.string (B a),.string (B b),.string (B r)] 307)).alloc (.cells #[.int .i64 0,.int .i64 0,.string ⟨#[]⟩] 349)) (.cells #[.string (B r),.bool false] 215)
  simpa [RdAt] using this
 size:=by simp
 below:=(((Below.refl _ _).alloc (Nat.le_refl _) _).alloc (by simp) _).alloc (by simp; omega) _
structure Dh (w W:World) (a b r s:Str) (bs:Bool) (sp dp:Nat) (m:Str):Prop where
 p:aB W w.heap.size [.string (B a),.string (B b),.string (B r)] 307
 z:aB W (w.heap.size+1) [.int .i64 0,.int .i64 0,.string ⟨#[]⟩] 349
 r:RdAt W (w.heap.size+2) s bs
 d:aB W (w.heap.size+3) [.int .i64 sp,.int .i64 dp,.string (B m)] 349
 size:W.heap.size=w.heap.size+4
 below:Below w.heap.size w W
theorem Dh.call {w W W':World} {a b r s t m:Str} {bs bt:Bool} {sp dp:Nat} (h:Dh w W a b r s bs sp dp m) (hr:RdAt W' (w.heap.size+2) t bt) (hk:It.Keeps (w.heap.size+2) W W') (hs:W'.heap.size=W.heap.size):Dh w W' a b r t bt sp dp m :=
 ⟨h.p.kept hk (by omega),h.z.kept hk (by omega),hr,h.d.kept hk (by omega),hs.trans h.size,h.below.trans (hk.below (by omega) (by have:=h.size; omega))⟩
theorem Dg.next {w W:World} {a b r s:Str} {bs:Bool} (h:Dg w W a b r s bs) (sp dp:Nat):Dh w (W.alloc (.cells #[.int .i64 sp,.int .i64 dp,.string ⟨#[]⟩] 349)) a b r s bs sp dp [] :=
 ⟨h.p.alloc _,h.z.alloc _,(Below.heap_alloc _ _ _ h.r.lt).trans h.r,by rw [← h.size]; exact aB.new _ _ _,by have:=h.size; simp; omega,h.below.alloc (by have:=h.size; omega) _⟩
theorem Dh.setm {w W:World} {a b r s m:Str} {bs:Bool} {sp dp:Nat} (h:Dh w W a b r s bs sp dp m) (m':Str):Dh w (W.setCell ⟨w.heap.size+3,2,none⟩ (.string (B m'))) a b r s bs sp dp m' :=
 ⟨(Below.heap_setCell _ _ _ _ (by show w.heap.size≠w.heap.size+3; omega)).trans h.p,(Below.heap_setCell _ _ _ _ (by show w.heap.size+1≠w.heap.size+3; omega)).trans h.z,(Below.heap_setCell _ _ _ _ (by show w.heap.size+2≠w.heap.size+3; omega)).trans h.r,h.d.set 2 _,by have:=h.size; simpa [World.setCell] using this,h.below.setCell (by show w.heap.size≤w.heap.size+3; omega) _⟩
def DgPost (sp dp n k:Nat) (t:Str) (us:Nat) (e:Ending):Prop :=
 if n<8∨t.length<n - 8 then e=.returned (.tuple #[.agg #[.int .i64 0,.int .i64 0,.string ⟨#[]⟩],.bool false])
 else e=.returned (.tuple #[.agg #[.int .i64 sp,.int .i64 dp,.string (B (t.take (n - 8)))],.bool (k == 0 || us == 65535)])
theorem readDatagram_8 (a b:Str) (c0 c1 c2 c3 c4 c5 c6 c7:UInt8) (t:Str) (w:World) (ha:a.length≤1000) (hb:b.length≤1000) (hl:t.length≤60000) (sp dp n k us:Nat) (hsp:sp=c0.toNat*256+c1.toNat) (hdp:dp=c2.toNat*256+c3.toNat) (hn:n=c4.toNat*256+c5.toNat) (hk:k=c6.toNat*256+c7.toNat)
  (hus:us=uSum a b ((c0 :: c1 :: c2 :: c3 :: c4 :: c5 :: c6 :: c7 :: t).take n)) :
  Calls Tryz.prog 257 #[.agg #[.string (B a),.string (B b),.string (B (c0 :: c1 :: c2 :: c3 :: c4 :: c5 :: c6 :: c7 :: t))]] w fun e w'=>DgPost sp dp n k t us e∧Below w.heap.size w w':=by
 have HSP:=aH hsp
 have HDP:=aH hdp
 have HN:=aH hn
 have HK:=aH hk
 have hn1:n<65536:=by have:=UInt8.toNat_lt c4; have:=UInt8.toNat_lt c5; omega
 have hk1:k<65536:=by have:=UInt8.toNat_lt c6; have:=UInt8.toNat_lt c7; omega
 have hus1:us≤65535:=by rw [hus]; exact fold_le _
 obtain ⟨r,hr⟩ : ∃ r,r=c0 :: c1 :: c2 :: c3 :: c4 :: c5 :: c6 :: c7 :: t:=⟨_,rfl⟩
 have hrl:r.length=8+t.length:=by rw [hr]; simp; omega
 have hrz:(B r).size=r.length:=size_B r
 rw [← hr] at hus ⊢
 have HSW:=aH (fun W=>sumWith_any a b r (r.take n) W ha hb (by simp; omega))
 rw [← hus] at HSW
 have HS0:=aH (Dg.start w a b r)
 have HR:=aH hr
 clear hsp hdp hn hk hus hr
 go_enter Tryz.func257,Tryz.ntmps257
 go_wp2_with fail
 rw [show w.heap.size+1+1=w.heap.size+2 from rfl]
 generalize ((w.alloc (.cells #[.string (B a),.string (B b),.string (B r)] 307)).alloc (.cells #[.int .i64 0,.int .i64 0,.string ⟨#[]⟩] 349)).alloc (.cells #[.string (B r),.bool false] 215)=v0 at *
 have HC:=aH (short_any (w.heap.size+2) r false v0 (aU HS0).r (by omega))
 rw [aU HR,shortP_cons,← aU HSP] at HC
 refine (aU HC).mono ?_
 rintro e v1 ⟨rfl,hr,hk,hs⟩
 have HS1:=aH ((aU HS0).call hr hk hs)
 clear hr hk hs HC HS0
 have HC:=aH (short_any (w.heap.size+2) _ false v1 (aU HS1).r (by simp; omega))
 rw [shortP_cons,← aU HDP] at HC
 go_wp2_with fail
 refine (aU HC).mono ?_
 rintro e v2 ⟨rfl,hr,hk,hs⟩
 have HS2:=aH ((aU HS1).call hr hk hs)
 clear hr hk hs HC HS1
 have hs2:=(aU HS2).size
 have HT0:=aH ((aU HS2).next sp dp)
 clear HS2
 go_wp2_with fail
 generalize v2.alloc (.cells #[.int .i64 sp,.int .i64 dp,.string ⟨#[]⟩] 349)=u0 at *
 clear hs2
 have HC:=aH (short_any (w.heap.size+2) _ false u0 (aU HT0).r (by simp; omega))
 rw [shortP_cons,← aU HN] at HC
 refine (aU HC).mono ?_
 rintro e u1 ⟨rfl,hr,hk,hs⟩
 have HT1:=aH ((aU HT0).call hr hk hs)
 clear hr hk hs HC HT0
 have HC:=aH (short_any (w.heap.size+2) _ false u1 (aU HT1).r (by simp; omega))
 rw [shortP_cons,← aU HK] at HC
 go_wp2_with fail
 refine (aU HC).mono ?_
 rintro e u2 ⟨rfl,hr,hk,hs⟩
 have HT2:=aH ((aU HT1).call hr hk hs)
 clear hr hk hs HC HT1
 by_cases h8:n<8
 ·have z0:=(aU HT2).z.cell 0 (by simp)
  have z1:=(aU HT2).z.cell 1 (by simp)
  have z2:=(aU HT2).z.cell 2 (by simp)
  have hfz:=(aU HT2).z.frozen
  simp at z0 z1 z2
  have HB:=aH (aU HT2).below
  go_wp2
  refine bodyPost_ret (v:=.tuple #[.agg #[.int .i64 0,.int .i64 0,.string ⟨#[]⟩],.bool false]) (by simp [results,Tryz.results257,go_sem,z0,z1,z2]) rfl ⟨?_,?_⟩
  ·unfold DgPost; rw [if_pos (.inl h8)]
  ·exact (((aU HB).setCell (by show w.heap.size≤w.heap.size+1; omega) _).setCell (by show w.heap.size≤w.heap.size+1; omega) _).setCell (by show w.heap.size≤w.heap.size+1; omega) _
 obtain ⟨n',hn'⟩ : ∃ n',n=n'+8:=⟨n - 8,by omega⟩
 have kn:(n:Int) - 8=(n':Int):=by omega
 have h8' : ¬ (n:Int)<8:=by omega
 have HN':=aH hn'
 have hnm:n'≤65536:=by omega
 clear hn'
 have HC:=aH (Wb.take_any (w.heap.size+2) n' t false u2 (aU HT2).r (by omega) (by omega))
 by_cases ht:n'≤t.length
 ·rw [takP,if_pos ht] at HC
  have HP:Hid (∀ e:Ending,e=.returned (.tuple #[.agg #[.int .i64 sp,.int .i64 dp,.string (B (t.take n'))],.bool (k == 0 || us == 65535)])→DgPost sp dp n k t us e):=fun e he=>by
   unfold DgPost; have:=aU HN'; rw [if_neg (by omega),show n - 8=n' by omega]; exact he
  generalize t.take n'=m at *
  go_wp2_with fail
  refine (aU HC).mono ?_
  rintro e u3 ⟨rfl,hr,hk,hs⟩
  have HT3:=aH (((aU HT2).call hr hk hs).setm m)
  have hfd:=((aU HT2).call hr hk hs).d.frozen
  have hcd:=((aU HT2).call hr hk hs).d.cell 2 (by simp)
  simp at hcd
  clear hr hk hs HC HT2
  have q1:=(aU HT3).r.cells.2
  have hnr:n≤r.length:=by have:=aU HN'; omega
  have hx:(B r).extract 0 n=B (r.take n):=B_take r n hnr
  go_wp2_with fail
  clear hfd hcd
  generalize u3.setCell ⟨w.heap.size+3,2,none⟩ (.string (B m))=u4 at *
  have hH0:(u4.drew.cell? ⟨w.heap.size,0,none⟩=some (.string (B a))∧u4.drew.cell? ⟨w.heap.size,1,none⟩=some (.string (B b))∧u4.drew.cell? ⟨w.heap.size,2,none⟩=some (.string (B r))∧u4.drew.cell? ⟨w.heap.size+3,0,none⟩=some (.int .i64 sp)∧u4.drew.cell? ⟨w.heap.size+3,1,none⟩=some (.int .i64 dp)∧u4.drew.cell? ⟨w.heap.size+3,2,none⟩=some (.string (B m))):=by
   have h:=aU HT3
   exact ⟨h.p.cell 0 (by simp),h.p.cell 1 (by simp),h.p.cell 2 (by simp),h.d.cell 0 (by simp),h.d.cell 1 (by simp),h.d.cell 2 (by simp)⟩
  have hH1:(u4.cell? ⟨w.heap.size,0,none⟩=some (.string (B a))∧u4.cell? ⟨w.heap.size,1,none⟩=some (.string (B b))∧u4.cell? ⟨w.heap.size,2,none⟩=some (.string (B r))∧u4.cell? ⟨w.heap.size+1,0,none⟩=some (.int .i64 0)∧u4.cell? ⟨w.heap.size+1,1,none⟩=some (.int .i64 0)∧u4.cell? ⟨w.heap.size+1,2,none⟩=some (.string ⟨#[]⟩)∧u4.cell? ⟨w.heap.size+3,0,none⟩=some (.int .i64 sp)∧u4.cell? ⟨w.heap.size+3,1,none⟩=some (.int .i64 dp)∧u4.cell? ⟨w.heap.size+3,2,none⟩=some (.string (B m))∧u4.frozen? ⟨w.heap.size+1,0,none⟩=false∧u4.frozen? ⟨w.heap.size+1,1,none⟩=false∧u4.frozen? ⟨w.heap.size+1,2,none⟩=false∧Below w.heap.size w u4):=by
   have h:=aU HT3
   exact ⟨h.p.cell 0 (by simp),h.p.cell 1 (by simp),h.p.cell 2 (by simp),h.z.cell 0 (by simp),h.z.cell 1 (by simp),h.z.cell 2 (by simp),h.d.cell 0 (by simp),h.d.cell 1 (by simp),h.d.cell 2 (by simp),h.z.frozen 0,h.z.frozen 1,h.z.frozen 2,h.below⟩
  have HSH:Hid (Calls Tryz.prog 282 #[.agg #[.string (B a),.string (B b),.string (B r)],.string (B (r.take n))] u4.drew fun e w'=>e=.returned (.int .i64 us)∧(w'.cell? ⟨w.heap.size,0,none⟩=some (.string (B a))∧w'.cell? ⟨w.heap.size,1,none⟩=some (.string (B b))∧w'.cell? ⟨w.heap.size,2,none⟩=some (.string (B r))∧w'.cell? ⟨w.heap.size+3,0,none⟩=some (.int .i64 sp)∧w'.cell? ⟨w.heap.size+3,1,none⟩=some (.int .i64 dp)∧w'.cell? ⟨w.heap.size+3,2,none⟩=some (.string (B m)))∧(w'.cell? ⟨w.heap.size+1,0,none⟩=some (.int .i64 0)∧w'.cell? ⟨w.heap.size+1,1,none⟩=some (.int .i64 0)∧w'.cell? ⟨w.heap.size+1,2,none⟩=some (.string ⟨#[]⟩)∧w'.frozen? ⟨w.heap.size+1,0,none⟩=false∧w'.frozen? ⟨w.heap.size+1,1,none⟩=false∧w'.frozen? ⟨w.heap.size+1,2,none⟩=false∧Below w.heap.size w w')):=by
   refine (aU HSW u4.drew).mono ?_
   rintro e w' ⟨rfl,hb⟩
   have h:=aU HT3
   obtain ⟨h1,h2,h3,h4,h5,h6⟩:=hH0
   have kp : ∀ (x:Addr) (v:Value),u4.drew.cell? x=some v→w'.cell? x=some v:=fun x v h=>(hb.cell (World.block_lt_of_cell? u4.drew x h)).trans h
   have kf : ∀ x:Addr,x.block<u4.heap.size→w'.frozen? x=u4.frozen? x:=fun x hx=>World.frozen?_of_block (hb.block x.block hx)
   exact ⟨rfl,⟨kp _ _ h1,kp _ _ h2,kp _ _ h3,kp _ _ h4,kp _ _ h5,kp _ _ h6⟩,kp _ _ (h.z.cell 0 (by simp)),kp _ _ (h.z.cell 1 (by simp)),kp _ _ (h.z.cell 2 (by simp)),(kf _ h.z.lt).trans (h.z.frozen 0),(kf _ h.z.lt).trans (h.z.frozen 1),(kf _ h.z.lt).trans (h.z.frozen 2),h.below.drew.trans (hb.mono h.below.size)⟩
  clear HSW HT3 q1
  by_cases hk0:k=0
  ·obtain ⟨g1,g2,g3,g4,g5,g6,g7,g8,g9,f1,f2,f3,hB⟩:=hH1
   have HB:=aH hB.drew
   clear hB HSH hH0
   subst hk0
   clear HSP HDP HN HK hus1 hn1 hk1 h8 kn h8' ht hrl hrz hx hl ha hb HR hnr HN'
   go_region
   all_goals
    go_wp2
    refine bodyPost_ret (v:=.tuple #[.agg #[.int .i64 sp,.int .i64 dp,.string (B m)],.bool true]) ?_ rfl ?_
    ·simp [results,Tryz.results257,go_sem,g4,g5,g6]
    ·refine ⟨aU HP _ rfl,?_⟩
     exact (((aU HB).setCell (by show w.heap.size≤w.heap.size+1; omega) _).setCell (by show w.heap.size≤w.heap.size+1; omega) _).setCell (by show w.heap.size≤w.heap.size+1; omega) _
  ·have hk0' : ¬ (k:Int)=0:=by omega
   have dk:((k:Int) == 0)=false:=by simpa using hk0'
   have hkb:(k == 0 || us == 65535)=(us == 65535):=by simp [hk0]
   rw [hkb] at HP
   obtain ⟨g1,g2,g3,g4,g5,g6,g7,g8,g9,f1,f2,f3,hB⟩:=hH1
   clear HSP HDP HN HK h8 kn h8' ht hl ha hb HR hkb hk0 hB HN'
   go_region_held (fun w'=>(w'.cell? ⟨w.heap.size,0,none⟩=some (.string (B a))∧w'.cell? ⟨w.heap.size,1,none⟩=some (.string (B b))∧w'.cell? ⟨w.heap.size,2,none⟩=some (.string (B r))∧w'.cell? ⟨w.heap.size+3,0,none⟩=some (.int .i64 sp)∧w'.cell? ⟨w.heap.size+3,1,none⟩=some (.int .i64 dp)∧w'.cell? ⟨w.heap.size+3,2,none⟩=some (.string (B m)))) (first | assumption | go_keep)
    (first | (go_at_call 282; go_loud (refine (aU HSH).mono ?_; rintro e w' ⟨rfl,hq,hz0,hz1,hz2,hf0,hf1,hf2,hBq⟩)))
   all_goals
    have HBq:=aH hBq
    have eb:((us:Int) == 65535)=(us == 65535):=by
     by_cases h:us=65535
     ·subst h; rfl
     ·have h' : ¬ (us:Int)=65535:=by omega
      rw [beq_eq_false_iff_ne.2 h,beq_eq_false_iff_ne.2 h']
    rw [← eb] at HP
    clear hBq eb
    go_wp2
    refine bodyPost_ret (v:=.tuple #[.agg #[.int .i64 sp,.int .i64 dp,.string (B m)],.bool ((us:Int) == 65535)]) ?_ rfl ?_
    ·simp [results,Tryz.results257,go_sem,hz0,hz1,hz2]
    ·refine ⟨aU HP _ rfl,?_⟩
     exact (((aU HBq).setCell (by show w.heap.size≤w.heap.size+1; omega) _).setCell (by show w.heap.size≤w.heap.size+1; omega) _).setCell (by show w.heap.size≤w.heap.size+1; omega) _
 ·rw [takP,if_neg ht] at HC
  have HP:Hid (∀ e:Ending,e=.returned (.tuple #[.agg #[.int .i64 0,.int .i64 0,.string ⟨#[]⟩],.bool false])→DgPost sp dp n k t us e):=fun e he=>by
   unfold DgPost; have:=aU HN'; rw [if_pos (.inr (by omega))]; exact he
  go_wp2_with fail
  refine (aU HC).mono ?_
  rintro e u3 ⟨rfl,hr,hk,hs⟩
  have HT3:=aH (((aU HT2).call hr hk hs).setm [])
  have hfd:=((aU HT2).call hr hk hs).d.frozen
  have hcd:=((aU HT2).call hr hk hs).d.cell 2 (by simp)
  simp at hcd
  have hz:=((aU HT2).call hr hk hs).z
  have z0:=hz.cell 0 (by simp)
  have z1:=hz.cell 1 (by simp)
  have z2:=hz.cell 2 (by simp)
  have hfz:=hz.frozen
  simp only [List.getElem_cons_zero,List.getElem_cons_succ] at z0 z1 z2
  have y0:=(aU HT3).z.cell 0 (by simp)
  have y1:=(aU HT3).z.cell 1 (by simp)
  have y2:=(aU HT3).z.cell 2 (by simp)
  have hfy:=(aU HT3).z.frozen
  simp only [List.getElem_cons_zero,List.getElem_cons_succ] at y0 y1 y2
  clear hr hk hs HC HT2 hz
  have q1:=(aU HT3).r.cells.2
  go_wp2
  refine bodyPost_ret (v:=.tuple #[.agg #[.int .i64 0,.int .i64 0,.string ⟨#[]⟩],.bool false]) ?_ rfl ?_
  ·simp [results,Tryz.results257,go_sem,y0,y1,y2]
  ·exact ⟨aU HP _ rfl,(((aU HT3).below.setCell (by show w.heap.size≤w.heap.size+1; omega) _).setCell (by show w.heap.size≤w.heap.size+1; omega) _).setCell (by show w.heap.size≤w.heap.size+1; omega) _⟩
end Hf
end Go.Proofs.YtkkpahmoljiepaaGreatDoor
