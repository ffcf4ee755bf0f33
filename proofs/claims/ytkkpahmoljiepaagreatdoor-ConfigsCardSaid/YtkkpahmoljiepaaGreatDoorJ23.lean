/- Contracts: zone.Parse and beaconref.Parse of every text, side by side. -/
import Derived.Test.YtkkpahmoljiepaaGreatDoorJ20
import Derived.Test.YtkkpahmoljiepaaGreatDoorJ22
import Derived.Test.YtkkpahmoljiepaaGreatDoorJ13
set_option linter.unusedSimpArgs false
set_option linter.unusedVariables false
set_option maxRecDepth 1000000
set_option maxHeartbeats 12800000
namespace Go.Proofs.YtkkpahmoljiepaaGreatDoor
open Go.RowKit
open Pu (Str aH aU)
def zoneP (s:Str):Option (Str×List Rec):=if s.length≤3000∧(parseP s).isSome=true then readZ s else none
def ZP (s:Str) (base:Nat) (e:Ending) (w':World):Prop :=
 match zoneP s with
 | none=>e=.returned (.tuple #[.pointer none,.int .i64 1])
 | some p=>ZOk p.1 p.2∧∃ zb g cap,e=.returned (.tuple #[.pointer (some ⟨zb,0,none⟩),.int .i64 0])∧base≤zb∧base≤g∧aN w' zb p.1 g 0 cap (sortL p.2)
def ZR (s:Str) (base:Nat) (e:Ending) (w':World):Prop :=
 match zoneP s with
 | none=>e=.returned (.pointer none)
 | some p=>∃ zb,e=.returned (.pointer (some ⟨zb,0,none⟩))∧base≤zb∧Eh.RZone w' zb p.1 p.2
namespace Da
open Ka Ed Ek Em En Ep Ej Ia Sc Sf Si Lg Eu Ex Oa Ob Oc Od Og Ol Om La Lb Es Ev Er Eh Za Ie Ec Ee Eb Re Lc Ke Lv
theorem lines_ok {ls:List Str} {o:Str} {rs:List Rec} (h:readLines ls=some (o,rs)) (hl : ∀ l∈ls,l.length≤3000):Sp.plain o=true∧(∀ r∈rs,RecOk r)∧rs.length≤ls.length:=by
 cases ls with
 | nil=>cases h
 | cons f ls =>
  have h':(if Lib.hasPrefix f originW && Sp.plain (Lib.trimPrefix f originW) then (readAll ls).map (fun rs=>(Lib.trimPrefix f originW,rs)) else none)=some (o,rs):=h
  split at h'
  ·rename_i hc
   cases ha:readAll ls with
   | none=>rw [ha] at h'; cases h'
   | some rs' =>
    rw [ha] at h'
    have e:=Option.some.inj h'
    have e1:Lib.trimPrefix f originW=o:=congrArg Prod.fst e
    have e2:rs'=rs:=congrArg Prod.snd e
    subst e2
    rw [Bool.and_eq_true,e1] at hc
    refine ⟨hc.2,all_ok ls rs' (fun l hl'=>hl l (List.mem_cons_of_mem _ hl')) ha,?_⟩
    rw [all_len ls rs' ha]; simp
  ·cases h'
theorem zread {s:Str} (hl:s.length≤3000) {o:Str} {rs:List Rec} (h:readZ s=some (o,rs)):Sp.plain o=true∧(∀ r∈rs,RecOk r)∧rs.length≤3001:=by
 rcases List.eq_nil_or_concat s with rfl | ⟨t,c,hs⟩
 ·rw [rz_none (fun t h=>by simp at h)] at h; cases h
 ·rw [List.concat_eq_append] at hs
  by_cases hc:c=10
  ·rw [hs,hc,rz_some] at h
   have htl:t.length≤3000:=by rw [hs] at hl; simp at hl; omega
   obtain ⟨h1,h2,h3⟩:=lines_ok h (fun x hx=>by have:=Sp.spl_mem_len 10 t.length t (Nat.le_refl _) x hx; omega)
   refine ⟨h1,h2,?_⟩
   have:=Sp.spl_len_le 10 t
   have:t.length+1≤3000:=by rw [hs] at hl; simpa using hl
   omega
  ·rw [rz_none (fun t' h'=>by
    rw [hs] at h'
    have:=congrArg List.getLast? h'
    simp at this
    exact hc this)] at h
   cases h
theorem fit_read {s:Str} (hl:s.length≤3000) : ∀ o rs,readZ s=some (o,rs)→Fit o rs:=fun o rs h=>by
 obtain ⟨h1,h2,h3⟩:=zread hl h
 refine ⟨h3,by have:=(plain_nel h1).2; omega,fun r hr=>⟨by have:=(valid_nel (h2 r hr).val).2; omega,(h2 r hr).len⟩⟩
theorem zone_some {s:Str} (hl:s.length≤3000) {p:Str×List Rec} (h:parseP s=some p) : ∃ o rs,readZ s=some (o,rs)∧p=(o,sortL rs)∧ZOk o rs∧zoneP s=some (o,rs):=by
 have h0:=h
 unfold parseP at h
 cases hr:readZ s with
 | none=>rw [hr] at h; cases h
 | some x =>
  obtain ⟨o,rs⟩:=x
  rw [hr] at h
  have h':(if Rf.startsR o rs && rightP o (sortL rs) then some (o,sortL rs) else none)=some p:=h
  split at h'
  ·rename_i hc
   rw [Bool.and_eq_true] at hc
   obtain ⟨h1,h2,_⟩:=zread hl hr
   refine ⟨o,rs,rfl,(Option.some.inj h').symm,⟨h1,h2,hc.1,hc.2⟩,?_⟩
   unfold zoneP
   rw [if_pos ⟨hl,by rw [h0]; rfl⟩,hr]
  ·cases h'
theorem zone_none {s:Str} (h:parseP s=none):zoneP s=none:=by
 unfold zoneP
 rw [if_neg (by rw [h]; simp)]
theorem parse_far (s:Str) (w:World) (hl:3000<s.length) :
  Calls Tryz.prog 16 #[.string (B s)] w fun e w'=>e=.returned (.tuple #[.pointer none,.int .i64 1])∧w'=w:=by
 have hs:(B s).size=s.length:=size_B s
 have hsI:(3000:Int)<(s.length:Int):=by omega
 go_enter Tryz.func16,Tryz.ntmps16
 go_wp2_with fail
 go_ret2
 exact ⟨rfl,by first | rfl | trivial⟩
theorem ref_far (s:Str) (w:World) (hl:3000<s.length) :
  Calls Tryz.prog 17 #[.string (B s)] w fun e w'=>e=.returned (.pointer none)∧w'=w:=by
 have hs:(B s).size=s.length:=size_B s
 have hsI:(3000:Int)<(s.length:Int):=by omega
 have hs1 : ¬ (s.length:Int)<1:=by omega
 go_enter Tryz.func17,Tryz.ntmps17
 go_wp2_with fail
 go_ret
 exact ⟨rfl,by first | rfl | trivial⟩
theorem parse_p (s:Str) (w:World) (hg:G w):Calls Tryz.prog 16 #[.string (B s)] w fun e w'=>ZP s w.heap.size e w'∧Below w.heap.size w w':=by
 by_cases hl:s.length≤3000
 ·refine (Pb.parse_all (B s) w hg (by rw [size_B]; exact hl) (by rw [data_B]; exact fit_read hl)).mono ?_
  rintro e w' ⟨h,hb⟩
  rw [data_B] at h
  refine ⟨?_,hb⟩
  unfold ZP
  cases hp:parseP s with
  | none=>rw [hp] at h; rw [zone_none hp]; exact h
  | some p =>
   rw [hp] at h
   obtain ⟨o,rs,h1,rfl,h3,h4⟩:=zone_some hl hp
   rw [h4]
   exact ⟨h3,h⟩
 ·refine (parse_far s w (by omega)).mono ?_
  rintro e w' ⟨rfl,rfl⟩
  have:zoneP s=none:=by unfold zoneP; rw [if_neg (fun h=>hl h.1)]
  refine ⟨?_,Below.refl _ _⟩
  unfold ZP
  rw [this]
theorem parse_d (s:Str) (w:World):Calls Tryz.prog 17 #[.string (B s)] w fun e w'=>ZR s w.heap.size e w'∧Below w.heap.size w w':=by
 by_cases hl:s.length≤3000
 ·refine (parse_r s w hl).mono ?_
  rintro e w' ⟨h,hb⟩
  refine ⟨?_,hb⟩
  unfold PR at h
  unfold ZR
  cases hp:parseP s with
  | none=>rw [hp] at h; rw [zone_none hp]; exact h
  | some p =>
   rw [hp] at h
   obtain ⟨o,rs,h1,rfl,h3,h4⟩:=zone_some hl hp
   obtain ⟨zb,o',rs',k1,k2,k3,_,k5,_⟩:=h
   rw [h1] at k5
   have e1:=Option.some.inj k5
   have e2:o=o':=congrArg Prod.fst e1
   have e3:rs=rs':=congrArg Prod.snd e1
   subst e2 e3
   rw [h4]
   exact ⟨zb,k1,k2,k3⟩
 ·refine (ref_far s w (by omega)).mono ?_
  rintro e w' ⟨rfl,rfl⟩
  have:zoneP s=none:=by unfold zoneP; rw [if_neg (fun h=>hl h.1)]
  refine ⟨?_,Below.refl _ _⟩
  unfold ZR
  rw [this]
end Da
def cfgOk (mac ip:Str):Bool:=mac.length == 6 && (mac.getD 0 0).toNat%2 == 0 && ip.length == 4
namespace Bf
open Ka Wa Wb Wc Wd We Wf Wg Wh Wi Wj Wk Wl Wm Ha Hb Hc Re Qa Qb Qc Qd Qe Qf Qg Qh Qi Qj Qk Ql Qm Qr Qs Qt
theorem mstore_any (mb bb base p size v:Nat) (wild:Bool) (cnt st:Nat) (bs:Str) (w:World) (h:Mem w mb bb base bs wild cnt st) (hbs:base≤w.heap.size) (hsz:size≤8) (hp:p+size≤25600) (hv:v<4294967296) (hst:st≤900000) :
  Calls Tryz.prog 91 #[.pointer (some ⟨mb,0,none⟩),.int .i64 p,.int .i64 size,.int .i64 v] w fun e w' =>
   e=.returned (.tuple #[])∧Mem w' mb bb base (wrN bs p v size) wild cnt (st+size)∧SF mb bb base w w':=by
 have HM:=aH h
 clear h
 go_enter Tryz.func91,Tryz.ntmps91
 go_wp2_with fail
 go_loopw [8] (fun i wr=>∃ k:Nat,i=.int .i64 k∧k≤size∧Mem wr mb bb base (wrN bs p v k) wild cnt (st+k)∧SF mb bb base w wr) (fun i _=>size - (intOf i).toNat)
 case atStart=>exact ⟨0,rfl,Nat.zero_le _,aU HM,Qf.SF.refl _ _ _ _⟩
 case round =>
  obtain ⟨k,rfl,hk,hm,hF⟩:=hrel
  have HM1:=aH hm
  have HF1:=aH hF
  have hsz1:=hF.size
  clear hm hF
  by_cases hlk:k<size
  ·obtain ⟨pk,hpk⟩ : ∃ pk,pk=p+k:=⟨_,rfl⟩
   obtain ⟨k8,hk8⟩ : ∃ k8,k8=8*k:=⟨_,rfl⟩
   obtain ⟨x,hx⟩ : ∃ x,x=v/2 ^ k8:=⟨_,rfl⟩
   obtain ⟨cb,hcb⟩ : ∃ cb:UInt8,cb=UInt8.ofNat x:=⟨_,rfl⟩
   have e2:IntKind.i64.wrap ((p:Int)+(k:Int))=(pk:Int):=by rw [IntKind.wrap_i64]; omega
   have e3:IntKind.i64.wrap (8*(k:Int))=(k8:Int):=by rw [IntKind.wrap_i64]; omega
   have e4:IntKind.u8.wrap (x:Int)=(cb.toNat:Int):=by rw [IntKind.wrap_u8,hcb,UInt8.toNat_ofNat']; omega
   have e6:(v:Int)/2 ^ k8%256=(cb.toNat:Int):=by rw [← e4,hx,IntKind.wrap_u8]; simp
   have HST:=aH (mem_store mb bb base pk cb wild cnt (st+k) (wrN bs p v k) wr (aU HM1) (by omega) (by omega) (by omega))
   have HWN:Hid ((wrN bs p v k).set pk cb=wrN bs p v (k+1)):=by rw [Hid,wrN,hpk,hcb,hx,hk8]
   have hk8b:k8<64:=by omega
   have hpkb:pk<25600:=by omega
   clear hpk hk8 hx hcb e4
   go_wp2_with fail
   rw [e6]
   refine (aU HST).mono ?_
   rintro e w1 ⟨rfl,hm2,hF2⟩
   rw [aU HWN] at hm2
   have HM2:=aH hm2
   have HF2:=aH (Qf.SF.trans (aU HF1) hF2)
   clear hm2 hF2
   go_wp2_with fail
   exact ⟨⟨k+1,by go_num,by omega,by have:=aU HM2; rwa [Nat.add_assoc] at this,aU HF2⟩,by simp [intOf]; omega⟩
  ·have hkl:k=size:=by omega
   subst hkl
   go_wp2
   refine bodyPost_end (v:=.tuple #[]) (by simp [results,Tryz.results91]) rfl ?_
   exact ⟨rfl,aU HM1,aU HF1⟩
theorem place_any (k i:Nat) (hk:k<2) (hi:i<8) (w:World) :
  Calls Tryz.prog 92 #[.int .i64 (512*k:Nat),.int .i64 i] w fun e w'=>e=.returned (.int .i64 ((if k=0 then 1024 else 13312)+1536*i:Nat))∧w'=w:=by
 match k,hk with
 | 0,_ =>
  go_enter Tryz.func92,Tryz.ntmps92
  go_wp2
  go_ret
  exact ⟨by simp,rfl⟩
 | 1,_ =>
  have e:(1024:Int)+1536*((i:Int)+8)=((13312+1536*i:Nat):Int):=by omega
  go_enter Tryz.func92,Tryz.ntmps92
  go_wp2
  go_ret
  exact ⟨by simp <;> omega,rfl⟩
end Bf
def BootOut (s mac ip bs:Str) (mb bb base:Nat) (wild:Bool) (cnt st:Nat) (w:World) (e:Ending) (w':World):Prop :=
 if (zoneP s).isSome=true then
  if cfgOk mac ip=true then (∃ yb,e=.returned (.tuple #[.pointer (some ⟨yb,0,none⟩),.int .i64 0]))∧Mem w' mb bb base (Qm.layB bs) wild cnt (st+276)∧MF mb bb base w w'
  else e=.returned (.tuple #[.pointer none,.int .i64 3])∧Below w.heap.size w w'
 else e=.returned (.tuple #[.pointer none,.int .i64 1])∧Below w.heap.size w w'
namespace Bg
open Ka Wa Wb Wc Wd We Wf Wg Wh Wi Wj Wk Wl Wm Ha Hb Hc Re Qa Qb Qc Qd Qe Qf Qg Qh Qi Qj Qk Ql Qm Qr Qs Qt Bf Da
def pl (k:Nat):Nat:=if k=0 then 1024 else 13312
def btK (bs:Str):Nat→Str
 | 0=>bs
 | k+1=>dscN (btK bs k) (512*k) (pl k) (2 - 2*k) 8
def offB (bs:Str):Nat→Str
 | 0=>bs
 | k+1=>wrN (offB bs k) (132+2*k) k 2
theorem lay_bt (bs:Str):layB bs=wrN (offB (wrN (btK bs 2) 642 0 2) 8) 130 8 2:=by
 unfold layB layS
 rw [show (512+130:Nat)=642 from rfl,show btK bs 2=dscN (dscN bs 0 1024 2 8) 512 13312 0 8 from rfl]
 generalize wrN (dscN (dscN bs 0 1024 2 8) 512 13312 0 8) 642 0 2=X
 simp [offS,offB]
theorem boot_any (s mac ip bs:Str) (mb bb base:Nat) (wild:Bool) (cnt st:Nat) (w:World) (h:Mem w mb bb base bs wild cnt st) (hbs:base≤w.heap.size) (hst:st≤100000) :
  Calls Tryz.prog 44 #[.string (B s),.agg #[.string (B mac),.string (B ip)],.pointer (some ⟨mb,0,none⟩)] w fun e w'=>BootOut s mac ip bs mb bb base wild cnt st w e w':=by
 obtain ⟨wB,hwB⟩ : ∃ wB,wB=w.alloc (.cells #[.string (B mac),.string (B ip)] 62):=⟨_,rfl⟩
 have hBB:Below w.heap.size w wB:=by rw [hwB]; exact (Below.refl _ _).alloc (Nat.le_refl _) _
 have hsB:wB.heap.size=w.heap.size+1:=by rw [hwB]; simp
 have hc0:aB wB w.heap.size [.string (B mac),.string (B ip)] 62:=by rw [hwB]; exact aB.new w _ _
 have HP:=aH (parse_d s wB)
 have HM:=aH (mem_below h hBB)
 rw [hwB] at HP
 have HBB:=aH hBB
 have HC0:=aH hc0
 have HSB:=aH hsB
 clear h hBB hc0 hsB
 go_enter Tryz.func44,Tryz.ntmps44
 go_wp2_with fail
 refine (aU HP).mono ?_
 rw [← hwB]
 rintro e w1 ⟨hz,hb1⟩
 have hsB:=aU HSB
 have hB1:Below w.heap.size w w1:=(aU HBB).trans (hb1.mono (by omega))
 have hz1:=hb1.size
 have hC0:aB w1 w.heap.size [.string (B mac),.string (B ip)] 62:=(hb1.block _ (by omega)).trans (aU HC0)
 have hM1:=mem_below (aU HM) hb1
 have d0:w1.cell? ⟨w.heap.size,0,none⟩=some (.string (B mac)):=aB.cell hC0 0 (by simp)
 have d1:w1.cell? ⟨w.heap.size,1,none⟩=some (.string (B ip)):=aB.cell hC0 1 (by simp)
 have HB1:=aH hB1
 have HM1:=aH hM1
 have hl1:w.heap.size<w1.heap.size:=by omega
 clear HP hwB hsB HSB hb1 hz1 hB1 hC0 hM1 HC0 HM HBB
 unfold ZR at hz
 cases hp:zoneP s with
 | none =>
  rw [hp] at hz
  subst hz
  have HOUT:Hid (∀ W,Below w.heap.size w W→BootOut s mac ip bs mb bb base wild cnt st w (.returned (.tuple #[.pointer none,.int .i64 1])) W):=fun W hW=>by
   unfold BootOut
   rw [hp]
   exact ⟨rfl,hW⟩
  clear hp
  go_wp2
  refine bodyPost_ret (v:=.tuple #[.pointer none,.int .i64 1]) ?_ rfl (aU HOUT _ (aU HB1))
  simp [results,Tryz.results44,go_sem]
 | some p =>
  rw [hp] at hz
  obtain ⟨zb,rfl,-,-⟩:=hz
  have hsome:(zoneP s).isSome=true:=by rw [hp]; rfl
  clear hp
  obtain ⟨c0,hc0⟩ : ∃ c0:UInt8,c0=mac.getD 0 0:=⟨_,rfl⟩
  have g0 : ∀ h:0<(B mac).size,(B mac)[0]=c0:=fun h=>by
   rw [hc0,List.getD_eq_getElem?_getD,List.getElem?_eq_getElem (by rw [size_B] at h; exact h)]; rfl
  have hc0b:c0.toNat<256:=UInt8.toNat_lt c0
  obtain ⟨r,hr⟩ : ∃ r,r=c0.toNat%2:=⟨_,rfl⟩
  have er:(c0.toNat:Int).tmod 2=(r:Int):=by rw [Int.tmod_eq_emod_of_nonneg (by omega)]; omega
  have er2:(c0.toNat:Int)%2=(r:Int):=by omega
  have HOK:Hid (cfgOk mac ip=((B mac).size == 6 && r == 0 && (B ip).size == 4)):=by
   rw [Hid,cfgOk,size_B,size_B,hr,hc0]
  have HBAD:Hid (∀ W,cfgOk mac ip=false→Below w.heap.size w W→BootOut s mac ip bs mb bb base wild cnt st w (.returned (.tuple #[.pointer none,.int .i64 3])) W):=fun W hc hW=>by
   unfold BootOut
   rw [if_pos hsome,if_neg (by rw [hc]; decide)]
   exact ⟨rfl,hW⟩
  have HGOOD:Hid (∀ yb W,cfgOk mac ip=true→Mem W mb bb base (layB bs) wild cnt (st+276)→MF mb bb base w W→BootOut s mac ip bs mb bb base wild cnt st w (.returned (.tuple #[.pointer (some ⟨yb,0,none⟩),.int .i64 0])) W):=fun yb W hc hm hW=>by
   unfold BootOut
   rw [if_pos hsome,if_pos hc]
   exact ⟨⟨yb,rfl⟩,hm,hW⟩
  clear hsome hc0 hr
  generalize B mac=m at *
  generalize B ip=q at *
  generalize cfgOk mac ip=ok at *
  by_cases h6:m.size=6
  ·have j6:((m.size:Int) != 6)=false:=by simp [h6]
   by_cases h2:r=1
   ·have hok:ok=false:=by rw [aU HOK,h2]; simp
    have j2:((r:Int) == 1)=true:=by simp [h2]
    have HB1':=aH (aU HBAD _ hok (aU HB1))
    subst h2
    clear HOK HBAD HGOOD hok
    go_wp2
    refine bodyPost_ret (v:=.tuple #[.pointer none,.int .i64 3]) ?_ rfl (aU HB1')
    simp [results,Tryz.results44,go_sem]
   ·have j2:((r:Int) == 1)=false:=by simp; omega
    have h2' : ¬ (r:Int)=1:=by omega
    by_cases h4:q.size=4
    ·have hr0:r=0:=by omega
     have hok:ok=true:=by rw [aU HOK,h6,hr0,h4]; rfl
     have j4:((q.size:Int) != 4)=false:=by simp [h4]
     obtain ⟨ob,hob⟩ : ∃ ob:Obj,ob=(.cells #[.pointer (some ⟨zb,0,none⟩),.string m,.string q,.pointer (some ⟨mb,0,none⟩),.bool false,.bool false,.bool false,.bool false,.bool false,.bool false,.bool false,.bool false,.int .i64 0,.int .i64 0,.int .i64 8,.int .i64 0,.int .i64 0,.int .i64 0,.int .i64 0,.bool false] 171:Obj):=⟨_,rfl⟩
     have hb2:Below w1.heap.size w1 (w1.alloc ob):=(Below.refl _ _).alloc (Nat.le_refl _) _
     have HM2:=aH (mem_below (aU HM1) hb2)
     have HF2:Hid (MF mb bb base w (w1.alloc ob)):=Qf.MF.trans (Qf.MF.of_below (aU HB1)) (Qf.MF.of_below hb2)
     have HEND:=aH (fun W=>aU HGOOD w1.heap.size W hok)
     rw [hob] at HM2 HF2
     subst hr0
     clear HOK HBAD HGOOD hok hb2 hob HB1 HM1 er
     go_wp2_with fail
     generalize w1.alloc (.cells #[.pointer (some ⟨zb,0,none⟩),.string m,.string q,.pointer (some ⟨mb,0,none⟩),.bool false,.bool false,.bool false,.bool false,.bool false,.bool false,.bool false,.bool false,.int .i64 0,.int .i64 0,.int .i64 8,.int .i64 0,.int .i64 0,.int .i64 0,.int .i64 0,.bool false] 171)=w2 at *
     clear er2 h2 j2 h2' d0 d1 g0 hc0b j6 j4 h6 h4
     go_loopw [10] (fun kv wr=>∃ k:Nat,kv=.int .i64 k∧k≤2∧Mem wr mb bb base (btK bs k) wild cnt (st+128*k)∧MF mb bb base w wr) (fun kv _=>2 - (intOf kv).toNat)
     case atStart=>exact ⟨0,rfl,by omega,aU HM2,aU HF2⟩
     case round =>
      obtain ⟨k,rfl,hk,hm,hF⟩:=hrel
      have HM3:=aH hm
      have HF3:=aH hF
      clear hm hF HM2 HF2
      by_cases hlk:k<2
      ·obtain ⟨wo,rfl⟩ : ∃ wo:World,wo=wr:=⟨_,rfl⟩
       obtain ⟨q5,hq5⟩ : ∃ x,x=512*k:=⟨_,rfl⟩
       have e5:(512:Int)*(k:Int)=(q5:Int):=by omega
       obtain ⟨k2,hk2⟩ : ∃ x,x=2*k:=⟨_,rfl⟩
       have ek2:(2:Int)*(k:Int)=(k2:Int):=by omega
       obtain ⟨fl,hfl⟩ : ∃ x,x=2 - 2*k:=⟨_,rfl⟩
       have efl:(2:Int) - (k2:Int)=(fl:Int):=by omega
       have hflb:fl≤2:=by omega
       have hq5b:q5≤512:=by omega
       have hplb:pl k≤13312:=by unfold pl; split <;> omega
       have HPL:=aH (fun (i:Nat) (hi:i<8) (W:World)=>place_any k i hlk hi W)
       have HK1:Hid (btK bs (k+1)=dscN (btK bs k) q5 (pl k) fl 8):=by rw [Hid,btK,hq5,hfl]
       rw [← hq5] at HPL
       have HQ5:=aH hq5
       have hlkI:(k:Int)<2:=by omega
       have hst2:st+128*k≤101000:=by omega
       have HLK:=aH hlk
       clear hq5 hfl hk2 hk hlk
       go_wp2_with fail
       go_loopw [11] (fun iv wi=>∃ i:Nat,iv=.int .i64 i∧i≤8∧Mem wi mb bb base (dscN (btK bs k) q5 (pl k) fl i) wild cnt (st+128*k+16*i)∧MF mb bb base w wi) (fun iv _=>8 - (intOf iv).toNat)
       case atStart=>exact ⟨0,rfl,by omega,aU HM3,aU HF3⟩
       case round =>
        obtain ⟨i,rfl,hi,hm,hF⟩:=hrel
        have HM4:=aH hm
        have HF4:=aH hF
        have hz4:=hF.size
        by_cases hli:i<8
        ·obtain ⟨a,ha⟩ : ∃ x,x=16*i:=⟨_,rfl⟩
         have ea:(16:Int)*(i:Int)=(a:Int):=by omega
         obtain ⟨dd,hdd⟩ : ∃ x,x=q5+a:=⟨_,rfl⟩
         have ed:(q5:Int)+(a:Int)=(dd:Int):=by omega
         obtain ⟨a8,ha8⟩ : ∃ x,x=dd+8:=⟨_,rfl⟩
         have e8:(dd:Int)+8=(a8:Int):=by omega
         obtain ⟨a12,ha12⟩ : ∃ x,x=dd+12:=⟨_,rfl⟩
         have e12:(dd:Int)+12=(a12:Int):=by omega
         obtain ⟨a14,ha14⟩ : ∃ x,x=dd+14:=⟨_,rfl⟩
         have e14:(dd:Int)+14=(a14:Int):=by omega
         obtain ⟨v,hv⟩ : ∃ v,v=pl k+1536*i:=⟨_,rfl⟩
         have HB:=aH (aU HPL i hli wr)
         rw [show (if k=0 then 1024 else 13312)+1536*i=v by rw [hv]; rfl] at HB
         have hddb:dd≤700:=by omega
         have H1:=aH (mstore_any mb bb base dd 8 v wild cnt (st+128*k+16*i) _ wr hm (by omega) (by omega) (by omega) (by omega) (by omega))
         have HD:Hid (dscN (btK bs k) q5 (pl k) fl (i+1)=wrN (wrN (wrN (wrN (dscN (btK bs k) q5 (pl k) fl i) dd v 8) a8 1536 4) a12 fl 2) a14 0 2):=by
          rw [Hid,dscN,dsc1,← hv,← ha,← hdd,ha8,ha12,ha14,hdd,← Nat.add_assoc,← Nat.add_assoc,← Nat.add_assoc]
         generalize dscN (btK bs k) q5 (pl k) fl i=b0 at *
         have hb8:a8≤800:=by omega
         have hb12:a12≤800:=by omega
         have hb14:a14≤800:=by omega
         have hvb:v≤30000:=by omega
         have HBN:Hid (a8≤800∧a12≤800∧a14≤800∧v≤30000∧fl≤2∧i<8∧w.heap.size≤wr.heap.size):=⟨hb8,hb12,hb14,hvb,hflb,hli,hz4⟩
         have E8:=aH e8
         have E12:=aH e12
         have E14:=aH e14
         have EK2:=aH ek2
         have EFL:=aH efl
         clear hm hF ha hdd ha8 ha12 ha14 hv e8 e12 e14 ek2 efl hvb hb8 hb12 hb14 hplb hflb hz4
         have HLI:=aH hli
         have hliI:(i:Int)<8:=by omega
         clear hi hli
         go_wp2_with fail
         refine (aU HB).mono ?_
         rintro e wr ⟨rfl,rfl⟩
         go_wp2_with fail
         refine (aU H1).mono ?_
         rintro e x1 ⟨rfl,hm1,hF1⟩
         have H2:Hid (Calls Tryz.prog 91 #[.pointer (some ⟨mb,0,none⟩),.int .i64 a8,.int .i64 4,.int .i64 1536] x1 _):=mstore_any mb bb base a8 4 1536 wild cnt (st+128*k+16*i+8) _ x1 hm1 (by have:=hF1.size; have:=aU HBN; omega) (by omega) (by have:=aU HBN; omega) (by omega) (by have:=aU HBN; omega)
         have HF5:=aH (Qf.MF.trans (aU HF4) (Qf.SF.mf hF1))
         clear hm1 hF1 HB H1 HM4 HF4
         have e8:=aU E8
         have hb8:=(aU HBN).1
         go_wp2_with fail
         refine (aU H2).mono ?_
         rintro e x2 ⟨rfl,hm2,hF2⟩
         have H3:Hid (Calls Tryz.prog 91 #[.pointer (some ⟨mb,0,none⟩),.int .i64 a12,.int .i64 2,.int .i64 fl] x2 _):=mstore_any mb bb base a12 2 fl wild cnt (st+128*k+16*i+8+4) _ x2 hm2 (by have:=hF2.size; have:=(aU HF5).size; omega) (by omega) (by have:=aU HBN; omega) (by have:=aU HBN; omega) (by have:=aU HBN; omega)
         have HF6:=aH (Qf.MF.trans (aU HF5) (Qf.SF.mf hF2))
         clear hm2 hF2 H2 HF5
         have e12:=aU E12
         have ek2:=aU EK2
         have efl:=aU EFL
         have hb12:=(aU HBN).2.1
         have hflb:=(aU HBN).2.2.2.2.1
         have hk2b:(k2:Int)≤2:=by omega
         go_wp2_with fail
         refine (aU H3).mono ?_
         rintro e x3 ⟨rfl,hm3,hF3⟩
         have H4:Hid (Calls Tryz.prog 91 #[.pointer (some ⟨mb,0,none⟩),.int .i64 a14,.int .i64 2,.int .i64 0] x3 _):=mstore_any mb bb base a14 2 0 wild cnt (st+128*k+16*i+8+4+2) _ x3 hm3 (by have:=hF3.size; have:=(aU HF6).size; omega) (by omega) (by have:=aU HBN; omega) (by omega) (by have:=aU HBN; omega)
         have HF7:=aH (Qf.MF.trans (aU HF6) (Qf.SF.mf hF3))
         clear hm3 hF3 H3 HF6
         have e14:=aU E14
         have hb14:=(aU HBN).2.2.1
         go_wp2_with fail
         refine (aU H4).mono ?_
         rintro e x4 ⟨rfl,hm4,hF4⟩
         rw [← aU HD] at hm4
         have HM8:=aH hm4
         have HF8:=aH (Qf.MF.trans (aU HF7) (Qf.SF.mf hF4))
         clear hm4 hF4 H4 HF7
         go_wp2_with fail
         exact ⟨⟨i+1,by go_num,by have:=aU HLI; omega,by have:=aU HM8; rwa [show st+128*k+16*i+8+4+2+2=st+128*k+16*(i+1) by omega] at this,aU HF8⟩,by simp [intOf]; omega⟩
        ·have hil:i=8:=by omega
         subst hil
         rw [← aU HK1] at HM4
         clear hm hF
         go_wp2_with fail
         exact ⟨⟨k+1,by go_num,by have:=aU HLK; omega,by have:=aU HM4; rwa [show st+128*k+16*8=st+128*(k+1) by omega] at this,aU HF4⟩,by simp [intOf]; omega⟩
      ·have hkl:k=2:=by omega
       subst hkl
       have hz3:=(aU HF3).size
       have H1:Hid (Calls Tryz.prog 91 #[.pointer (some ⟨mb,0,none⟩),.int .i64 642,.int .i64 2,.int .i64 0] wr _):=mstore_any mb bb base 642 2 0 wild cnt (st+128*2) _ wr (aU HM3) (by omega) (by omega) (by omega) (by omega) (by omega)
       obtain ⟨X,hX⟩ : ∃ X,X=wrN (btK bs 2) 642 0 2:=⟨_,rfl⟩
       rw [← hX] at H1
       have HX:=aH hX
       clear hX HM3
       go_wp2_with fail
       refine (aU H1).mono ?_
       rintro e x1 ⟨rfl,hm1,hF1⟩
       have HM4:=aH hm1
       have HF4:=aH (Qf.MF.trans (aU HF3) (Qf.SF.mf hF1))
       clear hm1 hF1 H1 HF3
       go_wp2_with fail
       go_loopw [13] (fun iv wi=>∃ i:Nat,iv=.int .i64 i∧i≤8∧Mem wi mb bb base (offB X i) wild cnt (st+128*2+2+2*i)∧MF mb bb base w wi) (fun iv _=>8 - (intOf iv).toNat)
       case atStart=>exact ⟨0,rfl,by omega,aU HM4,aU HF4⟩
       case round =>
        obtain ⟨i,rfl,hi,hm,hF⟩:=hrel
        have HM5:=aH hm
        have HF5:=aH hF
        have hz5:=hF.size
        by_cases hli:i<8
        ·obtain ⟨a,ha⟩ : ∃ x,x=2*i:=⟨_,rfl⟩
         have ea:(2:Int)*(i:Int)=(a:Int):=by omega
         obtain ⟨dd,hdd⟩ : ∃ x,x=132+a:=⟨_,rfl⟩
         have ed:(132:Int)+(a:Int)=(dd:Int):=by omega
         have H2:=aH (mstore_any mb bb base dd 2 i wild cnt (st+128*2+2+2*i) _ wr hm (by omega) (by omega) (by omega) (by omega) (by omega))
         have HD:Hid (wrN (offB X i) dd i 2=offB X (i+1)):=by rw [Hid,offB,hdd,ha]
         have hddb:dd≤200:=by omega
         clear hm hF ha hdd
         go_wp2_with fail
         refine (aU H2).mono ?_
         rintro e x2 ⟨rfl,hm2,hF2⟩
         rw [aU HD] at hm2
         have HM6:=aH hm2
         have HF6:=aH (Qf.MF.trans (aU HF5) (Qf.SF.mf hF2))
         clear hm2 hF2 H2 HM5 HF5
         go_wp2_with fail
         exact ⟨⟨i+1,by go_num,by omega,by have:=aU HM6; rwa [show st+128*2+2+2*i+2=st+128*2+2+2*(i+1) by omega] at this,aU HF6⟩,by simp [intOf]; omega⟩
        ·have hil:i=8:=by omega
         subst hil
         have H2:Hid (Calls Tryz.prog 91 #[.pointer (some ⟨mb,0,none⟩),.int .i64 130,.int .i64 2,.int .i64 8] wr _):=mstore_any mb bb base 130 2 8 wild cnt (st+128*2+2+2*8) _ wr hm (by omega) (by omega) (by omega) (by omega) (by omega)
         clear hm hF HM5
         go_wp2_with fail
         refine (aU H2).mono ?_
         rintro e x2 ⟨rfl,hm2,hF2⟩
         rw [aU HX,← lay_bt] at hm2
         have HEND2:=aH (aU HEND x2 (by rwa [show st+276=st+128*2+2+2*8+2 by omega]) (Qf.MF.trans (aU HF5) (Qf.SF.mf hF2)))
         clear hm2 hF2 H2 HEND
         go_wp2_with fail
         refine bodyPost_ret (v:=.tuple #[.pointer (some ⟨w1.heap.size,0,none⟩),.int .i64 0]) ?_ rfl (aU HEND2)
         simp [results,Tryz.results44,go_sem]
    ·have hok:ok=false:=by rw [aU HOK]; simp [h4]
     have j4:((q.size:Int) != 4)=true:=by simp; omega
     have HB1':=aH (aU HBAD _ hok (aU HB1))
     clear HOK HBAD HGOOD hok
     go_wp2
     refine bodyPost_ret (v:=.tuple #[.pointer none,.int .i64 3]) ?_ rfl (aU HB1')
     simp [results,Tryz.results44,go_sem]
  ·have hok:ok=false:=by rw [aU HOK]; simp [h6]
   have j6:((m.size:Int) != 6)=true:=by simp; omega
   have HB1':=aH (aU HBAD _ hok (aU HB1))
   clear HOK HBAD HGOOD hok
   go_wp2
   refine bodyPost_ret (v:=.tuple #[.pointer none,.int .i64 3]) ?_ rfl (aU HB1')
   simp [results,Tryz.results44,go_sem]
end Bg
namespace Qw
open Ka Wa Wb Wc Wd We Wf Wg Wh Wi Wj Wk Wl Wm Ha Hb Hc Re Qa Qb Qc Qd Qe Qf Qg Qh Qi Qj Qk Ql Qm Qn Qr Qq Qs
theorem index_at (rb mb ba bu av us j:Nat) (t:TypeId) (out:List Bool) (w:World) (hr:aO w rb t mb ba bu av us out) (hj:j<8) (hpre : ∀ i,i<j→out[i]? = some true) (hat:out[j]? = some false) :
  Calls Tryz.prog 261 #[.slice (some ⟨rb,5,none⟩) 8 8,.bool false] w fun e w'=>e=.returned (.int .i64 j)∧w'=w:=by
 have HR:=aH hr
 have HP:=aH hpre
 have cj:=ring_at hr j false hat
 clear hr hpre
 go_enter Tryz.func261,Tryz.ntmps261
 go_wp2_with fail
 go_loopw [8] (fun i wr=>∃ k:Nat,i=.int .i64 k∧k≤j∧wr=w) (fun i _=>8 - (intOf i).toNat)
 case atStart=>exact ⟨0,rfl,by omega,rfl⟩
 case round =>
  obtain ⟨k,rfl,hk,rfl⟩:=hrel
  have hk8:k<8:=by omega
  by_cases hlk:k<j
  ·have ck:=ring_at (aU HR) k true (aU HP k hlk)
   go_wp2
   exact ⟨⟨k+1,by go_num,by omega,by first | trivial | rfl⟩,by simp [intOf]; omega⟩
  ·have hkl:k=j:=by omega
   subst hkl
   go_wp2
   go_ret
   exact ⟨rfl,rfl⟩
theorem index_none (rb mb ba bu av us:Nat) (t:TypeId) (out:List Bool) (w:World) (hr:aO w rb t mb ba bu av us out) (hpre : ∀ i,i<8→out[i]? = some true) :
  Calls Tryz.prog 261 #[.slice (some ⟨rb,5,none⟩) 8 8,.bool false] w fun e w'=>e=.returned (.int .i64 (-1))∧w'=w:=by
 have HR:=aH hr
 have HP:=aH hpre
 clear hr hpre
 go_enter Tryz.func261,Tryz.ntmps261
 go_wp2_with fail
 go_loopw [8] (fun i wr=>∃ k:Nat,i=.int .i64 k∧k≤8∧wr=w) (fun i _=>8 - (intOf i).toNat)
 case atStart=>exact ⟨0,rfl,by omega,rfl⟩
 case round =>
  obtain ⟨k,rfl,hk,rfl⟩:=hrel
  by_cases hlk:k<8
  ·have ck:=ring_at (aU HR) k true (aU HP k hlk)
   go_wp2
   exact ⟨⟨k+1,by go_num,by omega,by first | trivial | rfl⟩,by simp [intOf]; omega⟩
  ·have hkl:k=8:=by omega
   subst hkl
   go_wp2
   go_ret
   exact ⟨rfl,rfl⟩
theorem write_any (rb mb bb base ba bu av us slot:Nat) (t:TypeId) (out:List Bool) (wild:Bool) (cnt st:Nat) (bs s:Str) (w:World) (h:Mem w mb bb base bs wild cnt st) (hr:aO w rb t mb ba bu av us out) (hbs:base≤w.heap.size) (hbu:bu≤100000) (hsl:slot≤100) (hp:bu+1536*slot+12+s.length≤25600) (hst:st≤800000) (ht1:t≠3) (ht2:t≠177) (hrm:rb≠mb) (hrb:rb≠bb) :
  Calls Tryz.prog 262 #[.pointer (some ⟨rb,0,none⟩),.int .i64 slot,.string (B s)] w fun e w' =>
   e=.returned (.tuple #[])∧Mem w' mb bb base (wrS (wrN bs (bu+1536*slot) 0 12) (bu+1536*slot+12) s s.length) wild cnt (st+12+s.length)∧SF mb bb base w w':=by
 obtain ⟨q,hq⟩ : ∃ q,q=bu+1536*slot:=⟨_,rfl⟩
 have HBU:=aH (buffer_any rb mb ba bu av us slot t out w hr hbu hsl)
 rw [← hq] at HBU ⊢
 have hql:q+12+s.length≤25600:=by omega
 have hms:=m_store mb
 have hcf:=cf_store
 have sz:(B s).size=s.length:=size_B s
 have HM:=aH h
 have HR:=aH hr
 have HRK:Hid (∀ W,SF mb bb base w W→W.cell? ⟨rb,0,none⟩=some (.iface 71 (.pointer (some ⟨mb,0,none⟩)))):=fun W hF=>aB.cell (ring_keep hr (Qf.SF.mf hF) ht1 ht2 hrm hrb) 0 (by simp)
 clear h hr hq hp
 go_enter Tryz.func262,Tryz.ntmps262
 go_wp2_with fail
 refine (aU HBU).mono ?_
 rintro e w ⟨rfl,rfl⟩
 go_wp2_with fail
 go_loopw [14] (fun i wr=>∃ k:Nat,i=.int .i64 k∧k≤12∧Mem wr mb bb base (wrN bs q 0 k) wild cnt (st+k)∧SF mb bb base w wr) (fun i _=>12 - (intOf i).toNat)
 case atStart=>exact ⟨0,rfl,Nat.zero_le _,aU HM,Qf.SF.refl _ _ _ _⟩
 case round =>
  obtain ⟨k,rfl,hk,hm,hF⟩:=hrel
  have hsz1:=hF.size
  by_cases hlk:k<12
  ·obtain ⟨pk,hpk⟩ : ∃ pk,pk=q+k:=⟨_,rfl⟩
   have e2:IntKind.i64.wrap ((q:Int)+(k:Int))=(pk:Int):=by rw [IntKind.wrap_i64]; omega
   have e2':(q:Int)+(k:Int)=(pk:Int):=by omega
   have r0:=aU HRK wr hF
   have HST:Hid (Calls Tryz.prog 155 #[.pointer (some ⟨mb,0,none⟩),.int .i64 pk,.int .u8 0] wr _):=mem_store mb bb base pk 0 wild cnt (st+k) (wrN bs q 0 k) wr hm (by omega) (by omega) (by omega)
   have HWN:Hid ((wrN bs q 0 k).set pk 0=wrN bs q 0 (k+1)):=by rw [Hid,wrN,hpk]; simp
   have HF1:=aH hF
   clear hm hF hpk
   go_wp2_with fail
   refine (aU HST).mono ?_
   rintro e w1 ⟨rfl,hm1,hF1⟩
   rw [aU HWN] at hm1
   have HM1:=aH hm1
   have HF2:=aH (Qf.SF.trans (aU HF1) hF1)
   clear hm1 hF1 HST
   go_wp2_with fail
   exact ⟨⟨k+1,by go_num,by omega,by have:=aU HM1; rwa [Nat.add_assoc] at this,aU HF2⟩,by simp [intOf]; omega⟩
  ·have hkl:k=12:=by omega
   subst hkl
   have HM1:=aH hm
   have HF1:=aH hF
   clear hm hF
   go_wp2_with fail
   go_loopw [8,29] (fun _ i wr=>∃ k:Nat,i=.int .i64 k∧k≤s.length∧Mem wr mb bb base (wrS (wrN bs q 0 12) (q+12) s k) wild cnt (st+12+k)∧SF mb bb base w wr) (fun _ i _=>s.length - (intOf i).toNat)
   case atStart=>exact ⟨0,rfl,Nat.zero_le _,aU HM1,aU HF1⟩
   case round =>
    obtain ⟨k,rfl,hk2,hm,hF⟩:=hrel
    have hsz2:=hF.size
    by_cases hlk2:k<s.length
    ·obtain ⟨q12,hq12⟩ : ∃ q12,q12=q+12:=⟨_,rfl⟩
     obtain ⟨pk,hpk⟩ : ∃ pk,pk=q12+k:=⟨_,rfl⟩
     have e1:IntKind.i64.wrap ((q:Int)+12)=(q12:Int):=by rw [IntKind.wrap_i64]; omega
     have e2:IntKind.i64.wrap ((q12:Int)+(k:Int))=(pk:Int):=by rw [IntKind.wrap_i64]; omega
     have r0:=aU HRK wr hF
     obtain ⟨cb,hcb⟩ : ∃ cb:UInt8,s[k]=cb:=⟨_,rfl⟩
     have g1 : ∀ h:k<(B s).size,(B s)[k]=cb:=fun h=>hcb
     have HST:=aH (mem_store mb bb base pk cb wild cnt (st+12+k) (wrS (wrN bs q 0 12) (q+12) s k) wr.drew hm (by show base≤wr.heap.size; omega) (by omega) (by omega))
     have HWN:Hid ((wrS (wrN bs q 0 12) (q+12) s k).set pk cb=wrS (wrN bs q 0 12) (q+12) s (k+1)):=by
      rw [Hid,wrS,hpk,hq12,List.getElem?_eq_getElem hlk2,hcb]; rfl
     have HF1:=aH hF
     have hS0:wr.drew.cell? ⟨rb,0,none⟩=some (.iface 71 (.pointer (some ⟨mb,0,none⟩))):=r0
     have HKP:Hid (∀ W':World,SF mb bb base wr.drew W'→W'.cell? ⟨rb,0,none⟩=some (.iface 71 (.pointer (some ⟨mb,0,none⟩)))):=fun W' hF'=>aU HRK W' (Qf.SF.trans hF (Qf.SF.trans (Qf.SF.of_below (Below.refl _ _).drew) hF'))
     clear hm hF hpk hq12 hcb
     go_wp2_with fail
     go_region_held (fun w'=>w'.cell? ⟨rb,0,none⟩=some (.iface 71 (.pointer (some ⟨mb,0,none⟩)))) (first | assumption | go_keep)
      (first | (go_at_call 155; go_loud (refine (aU HST).mono ?_; rintro e w1 ⟨rfl,hm1,hF1⟩; have hS2:=aU HKP w1 hF1)))
     all_goals
      rw [aU HWN] at hm1
      have HM2:=aH hm1
      have HF2:=aH (Qf.SF.trans (aU HF1) (Qf.SF.trans (Qf.SF.of_below (Below.refl _ _).drew) hF1))
      clear hm1 hF1
      go_wp2_with fail
      refine ⟨⟨_,_,_,_,_,_,_,_,_,_,_,_,_,_,_,_,_,_,_,_,⟨k+1,by go_num,by omega,by have:=aU HM2; rwa [Nat.add_assoc] at this,aU HF2⟩,rfl⟩,by simp [intOf]; omega⟩
    ·have hkl:k=s.length:=by omega
     subst hkl
     have HM2:=aH hm
     have HF2:=aH hF
     clear hm hF
     go_wp2
     refine bodyPost_end (v:=.tuple #[]) (by simp [results,Tryz.results262]) rfl ?_
     exact ⟨rfl,aU HM2,aU HF2⟩
def snB (bs:Str) (ba bu av j:Nat) (s:Str):Str :=
 wrN (wrN (wrN (wrS (wrN bs (bu+1536*j) 0 12) (bu+1536*j+12) s s.length) (ba+(16*j+8)) (12+s.length) 4) (ba+(132+2*(av%8))) j 2) (ba+130) ((av+1)%65536) 2
theorem send_none (rb mb ba bu av us:Nat) (t:TypeId) (out:List Bool) (s:Str) (w:World) (hr:aO w rb t mb ba bu av us out) (hpre : ∀ i,i<8→out[i]? = some true) :
  Calls Tryz.prog 221 #[.pointer (some ⟨rb,0,none⟩),.string (B s)] w fun e w'=>e=.returned (.bool false)∧w'=w:=by
 have HI:=aH (index_none rb mb ba bu av us t out w hr hpre)
 clear hr hpre
 go_enter Tryz.func221,Tryz.ntmps221
 go_wp2_with fail
 refine (aU HI).mono ?_
 rintro e w ⟨rfl,rfl⟩
 go_wp2_with fail
 go_ret
 exact ⟨rfl,rfl⟩
theorem send_ok (rb mb bb base ba bu av us j:Nat) (t:TypeId) (out:List Bool) (wild:Bool) (cnt st:Nat) (bs s:Str) (w:World) (h:Mem w mb bb base bs wild cnt st) (hr:aO w rb t mb ba bu av us out) (hbs:base≤w.heap.size) (hba:ba≤1000) (hbu:bu≤13312) (hav:av<65536) (hol:out.length=8) (hj:j<8) (hpre : ∀ i,i<j→out[i]? = some true) (hat:out[j]? = some false) (hsl:s.length≤1524) (hst:st≤700000) (ht1:t≠3) (ht2:t≠177) (hrm:rb≠mb) (hrb:rb≠bb) :
  Calls Tryz.prog 221 #[.pointer (some ⟨rb,0,none⟩),.string (B s)] w fun e w' =>
   e=.returned (.bool true)∧Mem w' mb bb base (snB bs ba bu av j s) wild cnt (st+20+s.length)∧aO w' rb t mb ba bu ((av+1)%65536) us (out.set j true)∧GF (fun i=>i≠rb∧i≠mb∧i≠bb) base w w':=by
 obtain ⟨hmlt,hblt⟩:=mem_lt h
 have HI:=aH (index_at rb mb ba bu av us j t out w hr hj hpre hat)
 have HW:=aH (write_any rb mb bb base ba bu av us j t out wild cnt st bs s w h hr hbs (by omega) (by omega) (by omega) (by omega) ht1 ht2 hrm hrb)
 have HR:=aH hr
 have sz:(B s).size=s.length:=size_B s
 obtain ⟨p8,hp8⟩ : ∃ p8,p8=16*j+8:=⟨_,rfl⟩
 obtain ⟨l12,hl12⟩ : ∃ l12,l12=12+s.length:=⟨_,rfl⟩
 have k1:(16:Int)*(j:Int)+8=(p8:Int):=by omega
 have k2:(12:Int)+(s.length:Int)=(l12:Int):=by omega
 have hp8l:p8≤120:=by omega
 have hl12l:l12≤1536:=by omega
 have HP8:=aH hp8
 have HL12:=aH hl12
 clear h hr hpre hat hp8 hl12
 go_enter Tryz.func221,Tryz.ntmps221
 go_wp2_with fail
 refine (aU HI).mono ?_
 rintro e w ⟨rfl,rfl⟩
 go_wp2_with fail
 refine (aU HW).mono ?_
 rintro e w1 ⟨rfl,hm1,hF1⟩
 have hR1:=ring_keep (aU HR) (Qf.SF.mf hF1) ht1 ht2 hrm hrb
 have hz1:=hF1.size
 have HST:=aH (rstore_any rb mb bb base ba bu av us p8 4 l12 t out wild cnt (st+12+s.length) _ w1 hm1 hR1 (by omega) (by omega) (by omega) (by omega) (by omega) ht2 hrm hrb)
 have HF1:=aH hF1
 have HR1:=aH hR1
 clear HW HI HR hm1 hF1 hR1
 go_wp2_with fail
 refine (aU HST).mono ?_
 rintro e w4 ⟨rfl,hm4,hF4⟩
 have hR4:=ring_keep (aU HR1) (Qf.SF.mf hF4) ht1 ht2 hrm hrb
 have hz4:=hF4.size
 have hB5:Below w4.heap.size w4 (w4.alloc (.cells #[.int .i64 j] 3)):=(Below.refl _ _).alloc (Nat.le_refl _) _
 have hR5:aO (w4.alloc (.cells #[.int .i64 j] 3)) rb t mb ba bu av us out:=(Below.heap_alloc _ _ _ (aB.lt hR4)).trans hR4
 have hc5:(w4.alloc (.cells #[.int .i64 j] 3)).cell? ⟨w4.heap.size,0,none⟩=some (.int .i64 j):=aB.cell (aB.new w4 [.int .i64 j] 3) 0 (by simp)
 have hrlt:=aB.lt hR4
 have HOF:Hid (Calls Tryz.prog 153 #[.pointer (some ⟨rb,0,none⟩),.slice (some ⟨w4.heap.size,0,none⟩) 1 1] (w4.alloc (.cells #[.int .i64 j] 3)) _) :=
  offer_any rb mb bb base ba bu av us w4.heap.size 1 t out wild cnt (st+12+s.length+4) _ [j] _ _ (mem_below hm4 hB5) hR5 (by simp; omega) hba (by omega) hav hol (fun x hx=>by simp at hx; omega) (by simp) (.inr rfl) (fun e=>by cases e) (fun i hi=>by
   have:i=0:=by simp at hi; omega
   subst this; exact hc5) (fun _=>⟨by simp,by omega,by omega,by omega,fun cur e=>by have:=(World.alloc_heap_new w4 _).symm.trans e; simp at this⟩) ht1 ht2 hrm hrb
 have HF5:=aH ((GF.of_mf (p:=fun i=>i≠rb∧i≠mb∧i≠bb) (Qf.SF.mf (Qf.SF.trans (aU HF1) hF4)) fun i hp=>hp.2).trans (GF.of_below hB5))
 clear HST HR1 HF1 hm4 hF4 hR4 hR5 hc5 hB5
 go_wp2_with fail
 refine (aU HOF).mono ?_
 rintro e w5 ⟨rfl,hm5,hR5,hF5⟩
 have HM6:Hid (Mem w5 mb bb base (snB bs ba bu av j s) wild cnt (st+20+s.length)):=by
  have e1:st+12+s.length+4+2 * [j].length+2=st+20+s.length:=by simp; omega
  rw [e1,aU HP8,aU HL12] at hm5
  exact hm5
 have HR6:Hid (aO w5 rb t mb ba bu ((av+1)%65536) us (out.set j true)):=hR5
 have HF6:=aH ((aU HF5).trans (GF.of_rf hF5 fun i hp=>hp))
 clear HOF hm5 hR5 hF5 HF5
 go_wp2_with fail
 go_ret
 exact ⟨rfl,aU HM6,aU HR6,aU HF6⟩
end Qw
end Go.Proofs.YtkkpahmoljiepaaGreatDoor
