/- Contracts: zone.Parse and beaconref.Parse of every text, side by side. -/
import Derived.Test.YtkkpahmoljiepaaGreatDoorJ25
import Derived.Test.YtkkpahmoljiepaaGreatDoorJ27
import Derived.Test.YtkkpahmoljiepaaGreatDoorJ01
set_option linter.unusedSimpArgs false
set_option linter.unusedVariables false
set_option maxRecDepth 1000000
set_option maxHeartbeats 12800000
namespace Go.Proofs.YtkkpahmoljiepaaGreatDoor
open Go.RowKit
open Pu (Str aH aU)
def zoneP (s:Str):Option (Str×List Rec):=if s.length≤3000∧(parseP s).isSome=true then readZ s else none
def ZP (s:Str) (base:Nat) (e:Ending) (w':World):Prop :=
 match zoneP s with
 | none=>e=.returned (.tuple #[.pointer none,.int .i64 1])
 | some p=>ZOk p.1 p.2∧∃ zb g cap,e=.returned (.tuple #[.pointer (some ⟨zb,0,none⟩),.int .i64 0])∧base≤zb∧base≤g∧aN w' zb p.1 g 0 cap (sortL p.2)
def ZR (s:Str) (base:Nat) (e:Ending) (w':World):Prop :=
 match zoneP s with
 | none=>e=.returned (.pointer none)
 | some p=>∃ zb,e=.returned (.pointer (some ⟨zb,0,none⟩))∧base≤zb∧Eh.RZone w' zb p.1 p.2
namespace Da
open Ka Ed Ek Em En Ep Ej Ia Sc Sf Si Lg Eu Ex Oa Ob Oc Od Og Ol Om La Lb Es Ev Er Eh Za Ie Ec Ee Eb Re Lc Ke Lv
theorem lines_ok {ls:List Str} {o:Str} {rs:List Rec} (h:readLines ls=some (o,rs)) (hl : ∀ l∈ls,l.length≤3000):Sp.plain o=true∧(∀ r∈rs,RecOk r)∧rs.length≤ls.length:=by
 cases ls with
 | nil=>cases h
 | cons f ls =>
  have h':(if Lib.hasPrefix f originW && Sp.plain (Lib.trimPrefix f originW) then (readAll ls).map (fun rs=>(Lib.trimPrefix f originW,rs)) else none)=some (o,rs):=h
  split at h'
  ·rename_i hc
   cases ha:readAll ls with
   | none=>rw [ha] at h'; cases h'
   | some rs' =>
    rw [ha] at h'
    have e:=Option.some.inj h'
    have e1:Lib.trimPrefix f originW=o:=congrArg Prod.fst e
    have e2:rs'=rs:=congrArg Prod.snd e
    subst e2
    rw [Bool.and_eq_true,e1] at hc
    refine ⟨hc.2,all_ok ls rs' (fun l hl'=>hl l (List.mem_cons_of_mem _ hl')) ha,?_⟩
    rw [all_len ls rs' ha]; simp
  ·cases h'
theorem zread {s:Str} (hl:s.length≤3000) {o:Str} {rs:List Rec} (h:readZ s=some (o,rs)):Sp.plain o=true∧(∀ r∈rs,RecOk r)∧rs.length≤3001:=by
 rcases List.eq_nil_or_concat s with rfl | ⟨t,c,hs⟩
 ·rw [rz_none (fun t h=>by simp at h)] at h; cases h
 ·rw [List.concat_eq_append] at hs
  by_cases hc:c=10
  ·rw [hs,hc,rz_some] at h
   have htl:t.length≤3000:=by rw [hs] at hl; simp at hl; omega
   obtain ⟨h1,h2,h3⟩:=lines_ok h (fun x hx=>by have:=Sp.spl_mem_len 10 t.length t (Nat.le_refl _) x hx; omega)
   refine ⟨h1,h2,?_⟩
   have:=Sp.spl_len_le 10 t
   have:t.length+1≤3000:=by rw [hs] at hl; simpa using hl
   omega
  ·rw [rz_none (fun t' h'=>by
    rw [hs] at h'
    have:=congrArg List.getLast? h'
    simp at this
    exact hc this)] at h
   cases h
theorem fit_read {s:Str} (hl:s.length≤3000) : ∀ o rs,readZ s=some (o,rs)→Fit o rs:=fun o rs h=>by
 obtain ⟨h1,h2,h3⟩:=zread hl h
 refine ⟨h3,by have:=(plain_nel h1).2; omega,fun r hr=>⟨by have:=(valid_nel (h2 r hr).val).2; omega,(h2 r hr).len⟩⟩
theorem zone_some {s:Str} (hl:s.length≤3000) {p:Str×List Rec} (h:parseP s=some p) : ∃ o rs,readZ s=some (o,rs)∧p=(o,sortL rs)∧ZOk o rs∧zoneP s=some (o,rs):=by
 have h0:=h
 unfold parseP at h
 cases hr:readZ s with
 | none=>rw [hr] at h; cases h
 | some x =>
  obtain ⟨o,rs⟩:=x
  rw [hr] at h
  have h':(if Rf.startsR o rs && rightP o (sortL rs) then some (o,sortL rs) else none)=some p:=h
  split at h'
  ·rename_i hc
   rw [Bool.and_eq_true] at hc
   obtain ⟨h1,h2,_⟩:=zread hl hr
   refine ⟨o,rs,rfl,(Option.some.inj h').symm,⟨h1,h2,hc.1,hc.2⟩,?_⟩
   unfold zoneP
   rw [if_pos ⟨hl,by rw [h0]; rfl⟩,hr]
  ·cases h'
theorem zone_none {s:Str} (h:parseP s=none):zoneP s=none:=by
 unfold zoneP
 rw [if_neg (by rw [h]; simp)]
theorem parse_far (s:Str) (w:World) (hl:3000<s.length) :
  Calls Tryz.prog 16 #[.string (B s)] w fun e w'=>e=.returned (.tuple #[.pointer none,.int .i64 1])∧w'=w:=by
 have hs:(B s).size=s.length:=size_B s
 have hsI:(3000:Int)<(s.length:Int):=by omega
 go_enter Tryz.func16,Tryz.ntmps16
 go_wp2_with fail
 go_ret2
 exact ⟨rfl,by first | rfl | trivial⟩
theorem ref_far (s:Str) (w:World) (hl:3000<s.length) :
  Calls Tryz.prog 17 #[.string (B s)] w fun e w'=>e=.returned (.pointer none)∧w'=w:=by
 have hs:(B s).size=s.length:=size_B s
 have hsI:(3000:Int)<(s.length:Int):=by omega
 have hs1 : ¬ (s.length:Int)<1:=by omega
 go_enter Tryz.func17,Tryz.ntmps17
 go_wp2_with fail
 go_ret
 exact ⟨rfl,by first | rfl | trivial⟩
theorem parse_p (s:Str) (w:World) (hg:G w):Calls Tryz.prog 16 #[.string (B s)] w fun e w'=>ZP s w.heap.size e w'∧Below w.heap.size w w':=by
 by_cases hl:s.length≤3000
 ·refine (Pb.parse_all (B s) w hg (by rw [size_B]; exact hl) (by rw [data_B]; exact fit_read hl)).mono ?_
  rintro e w' ⟨h,hb⟩
  rw [data_B] at h
  refine ⟨?_,hb⟩
  unfold ZP
  cases hp:parseP s with
  | none=>rw [hp] at h; rw [zone_none hp]; exact h
  | some p =>
   rw [hp] at h
   obtain ⟨o,rs,h1,rfl,h3,h4⟩:=zone_some hl hp
   rw [h4]
   exact ⟨h3,h⟩
 ·refine (parse_far s w (by omega)).mono ?_
  rintro e w' ⟨rfl,rfl⟩
  have:zoneP s=none:=by unfold zoneP; rw [if_neg (fun h=>hl h.1)]
  refine ⟨?_,Below.refl _ _⟩
  unfold ZP
  rw [this]
theorem parse_d (s:Str) (w:World):Calls Tryz.prog 17 #[.string (B s)] w fun e w'=>ZR s w.heap.size e w'∧Below w.heap.size w w':=by
 by_cases hl:s.length≤3000
 ·refine (parse_r s w hl).mono ?_
  rintro e w' ⟨h,hb⟩
  refine ⟨?_,hb⟩
  unfold PR at h
  unfold ZR
  cases hp:parseP s with
  | none=>rw [hp] at h; rw [zone_none hp]; exact h
  | some p =>
   rw [hp] at h
   obtain ⟨o,rs,h1,rfl,h3,h4⟩:=zone_some hl hp
   obtain ⟨zb,o',rs',k1,k2,k3,_,k5,_⟩:=h
   rw [h1] at k5
   have e1:=Option.some.inj k5
   have e2:o=o':=congrArg Prod.fst e1
   have e3:rs=rs':=congrArg Prod.snd e1
   subst e2 e3
   rw [h4]
   exact ⟨zb,k1,k2,k3⟩
 ·refine (ref_far s w (by omega)).mono ?_
  rintro e w' ⟨rfl,rfl⟩
  have:zoneP s=none:=by unfold zoneP; rw [if_neg (fun h=>hl h.1)]
  refine ⟨?_,Below.refl _ _⟩
  unfold ZR
  rw [this]
end Da
namespace Db
open Go.Sort
def exo:Str:=[101,120,97,109,112,108,101,46,111,114,103]
def smp:Str:=[111,114,105,103,105,110,32,101,120,97,109,112,108,101,46,111,114,103,10,101,120,97,109,112,108,101,46,111,114,103,32,51,48,48,32,83,79,65,32,110,115,46,101,120,97,109,112,108,101,46,111,114,103,32,97,100,109,105,110,46,101,120,97,109,112,108,101,46,111,114,103,32,55,32,54,48,10,101,120,97,109,112,108,101,46,111,114,103,32,51,48,48,32,78,83,32,110,115,46,101,120,97,109,112,108,101,46,111,114,103,10,110,115,46,101,120,97,109,112,108,101,46,111,114,103,32,51,48,48,32,65,32,49,57,50,46,48,46,50,46,49,10,119,119,119,46,101,120,97,109,112,108,101,46,111,114,103,32,54,48,32,67,78,65,77,69,32,119,101,98,46,101,120,97,109,112,108,101,46,111,114,103,10,119,101,98,46,101,120,97,109,112,108,101,46,111,114,103,32,54,48,32,65,32,49,57,50,46,48,46,50,46,56,48,10,42,46,119,105,108,100,46,101,120,97,109,112,108,101,46,111,114,103,32,54,48,32,84,88,84,32,104,105,10,115,117,98,46,101,120,97,109,112,108,101,46,111,114,103,32,51,48,48,32,78,83,32,110,115,46,115,117,98,46,101,120,97,109,112,108,101,46,111,114,103,10,110,115,46,115,117,98,46,101,120,97,109,112,108,101,46,111,114,103,32,51,48,48,32,65,32,49,57,50,46,48,46,50,46,57,10]
def recsE:List Rec:=[([101,120,97,109,112,108,101,46,111,114,103],300,6,[110,115,46,101,120,97,109,112,108,101,46,111,114,103,32,97,100,109,105,110,46,101,120,97,109,112,108,101,46,111,114,103,32,55,32,54,48]),([101,120,97,109,112,108,101,46,111,114,103],300,2,[110,115,46,101,120,97,109,112,108,101,46,111,114,103]),([110,115,46,101,120,97,109,112,108,101,46,111,114,103],300,1,[49,57,50,46,48,46,50,46,49]),([119,119,119,46,101,120,97,109,112,108,101,46,111,114,103],60,5,[119,101,98,46,101,120,97,109,112,108,101,46,111,114,103]),([119,101,98,46,101,120,97,109,112,108,101,46,111,114,103],60,1,[49,57,50,46,48,46,50,46,56,48]),([42,46,119,105,108,100,46,101,120,97,109,112,108,101,46,111,114,103],60,16,[104,105]),([115,117,98,46,101,120,97,109,112,108,101,46,111,114,103],300,2,[110,115,46,115,117,98,46,101,120,97,109,112,108,101,46,111,114,103]),([110,115,46,115,117,98,46,101,120,97,109,112,108,101,46,111,114,103],300,1,[49,57,50,46,48,46,50,46,57])]
def recsS:List Rec:=[([42,46,119,105,108,100,46,101,120,97,109,112,108,101,46,111,114,103],60,16,[104,105]),([101,120,97,109,112,108,101,46,111,114,103],300,2,[110,115,46,101,120,97,109,112,108,101,46,111,114,103]),([101,120,97,109,112,108,101,46,111,114,103],300,6,[110,115,46,101,120,97,109,112,108,101,46,111,114,103,32,97,100,109,105,110,46,101,120,97,109,112,108,101,46,111,114,103,32,55,32,54,48]),([110,115,46,101,120,97,109,112,108,101,46,111,114,103],300,1,[49,57,50,46,48,46,50,46,49]),([110,115,46,115,117,98,46,101,120,97,109,112,108,101,46,111,114,103],300,1,[49,57,50,46,48,46,50,46,57]),([115,117,98,46,101,120,97,109,112,108,101,46,111,114,103],300,2,[110,115,46,115,117,98,46,101,120,97,109,112,108,101,46,111,114,103]),([119,101,98,46,101,120,97,109,112,108,101,46,111,114,103],60,1,[49,57,50,46,48,46,50,46,56,48]),([119,119,119,46,101,120,97,109,112,108,101,46,111,114,103],60,5,[119,101,98,46,101,120,97,109,112,108,101,46,111,114,103])]
def wwwN:Str:=[119,119,119,46,101,120,97,109,112,108,101,46,111,114,103]
def noneN:Str:=[110,111,110,101,46,101,120,97,109,112,108,101,46,111,114,103]
def starN:Str:=[42,46,101,120,97,109,112,108,101,46,111,114,103]
def bare:Str:=[111,114,105,103,105,110,32,101,120,97,109,112,108,101,46,111,114,103,10]
def cnE:Rec:=([119,119,119,46,101,120,97,109,112,108,101,46,111,114,103],60,5,[119,101,98,46,101,120,97,109,112,108,101,46,111,114,103])
def webE:Rec:=([119,101,98,46,101,120,97,109,112,108,101,46,111,114,103],60,1,[49,57,50,46,48,46,50,46,56,48])
def soaE:Rec:=([101,120,97,109,112,108,101,46,111,114,103],60,6,[110,115,46,101,120,97,109,112,108,101,46,111,114,103,32,97,100,109,105,110,46,101,120,97,109,112,108,101,46,111,114,103,32,55,32,54,48])
theorem readE:readZ smp=some (exo,recsE):=by kernel_rfl
theorem sortE:sortL recsE=recsS:=by
 unfold sortL Sort.insertionSort
 simp only [show recsE.length=8 from rfl]
 rw [insOuter_go _ _ _ _ _ (by decide),insOuter_go _ _ _ _ _ (by decide),insOuter_go _ _ _ _ _ (by decide),insOuter_go _ _ _ _ _ (by decide),insOuter_go _ _ _ _ _ (by decide),insOuter_go _ _ _ _ _ (by decide),insOuter_go _ _ _ _ _ (by decide),insOuter_stop _ _ _ _ _ (by decide)]
 kernel_rfl
theorem startsE:Rf.startsR exo recsE=true:=by kernel_rfl
theorem rightE:rightP exo recsS=true:=by kernel_rfl
theorem parseE:parseP smp=some (exo,recsS):=by
 unfold parseP
 rw [readE]
 show (if Rf.startsR exo recsE && rightP exo (sortL recsE) then some (exo,sortL recsE) else none)=_
 rw [sortE,startsE,rightE]; rfl
theorem zoneE:zoneP smp=some (exo,recsE):=by
 unfold zoneP
 rw [if_pos ⟨Nat.le_of_ble_eq_true (by kernel_rfl),by rw [parseE]; rfl⟩,readE]
theorem zone0:zoneP bare=none:=by
 unfold zoneP
 have hr:readZ bare=some (exo,[]):=by kernel_rfl
 rw [if_neg]
 intro h
 have h2:=h.2
 unfold parseP at h2
 rw [hr] at h2
 cases h2
theorem ask1:askP exo recsE 1 wwwN=(0,true,[cnE,webE],[]):=by
 unfold askP
 rw [sortE]
 kernel_rfl
theorem ask2:askP exo recsE 1 noneN=(3,true,[],[soaE]):=by
 unfold askP
 rw [sortE]
 kernel_rfl
theorem askb1:askB wwwN 1=true:=by kernel_rfl
theorem askb2:askB noneN 1=true:=by kernel_rfl
theorem askb3:askB starN 1=false:=by kernel_rfl
open Ka Ed Ek Em En Ep Ej Ia Sc Sf Si Lg Eu Ex Oa Ob Oc Od Og Ol Om La Lb Es Ev Er Eh Za Ie Ec Ee Eb Re Lc Ke Lv Da Lj
theorem eq_rec (x y:Rec) (w:World):(binOp .eql 47 (.agg #[.string (B x.owner),.int .i64 x.ttl,.int .i64 x.type,.string (B x.data)]) (.agg #[.string (B y.owner),.int .i64 y.ttl,.int .i64 y.type,.string (B y.data)])).run Tryz.prog w=.ok (.bool (x == y)) w:=Rg.eqR.1 x y w
theorem first_ok (w:World) (hg:G w):Calls Tryz.prog 15 #[] w fun e w'=>e=.returned (.bool true)∧Below w.heap.size w w':=by
 have HP:=aH (fun W (hb:Below w.heap.size w W)=>parse_p smp W (hg.below hb))
 have HP0:=aH (fun W (hb:Below w.heap.size w W)=>parse_p bare W (hg.below hb))
 have HG:=aH hg
 clear hg
 go_enter Tryz.func15,Tryz.ntmps15
 go_wp2_with fail
 refine (aU HP w (Below.refl _ _)).mono ?_
 rintro e w1 ⟨h1,hb1⟩
 unfold ZP at h1
 rw [zoneE] at h1
 obtain ⟨hok,zb,g,cap,rfl,hzb,hgb,htab⟩:=h1
 have HOK:=aH hok
 have HT1:=aH htab
 have HB1:=aH hb1
 clear hok htab hb1 HP
 go_wp2_with fail
 refine (aU HP0 w1 (aU HB1)).mono ?_
 rintro e w2 ⟨h2,hb2⟩
 unfold ZP at h2
 rw [zone0] at h2
 have h2':e=.returned (.tuple #[.pointer none,.int .i64 1]):=h2
 subst h2'
 have HB2:=aH ((aU HB1).trans (hb2.mono (aU HB1).size))
 have HT2:=aH ((aU HT1).below hb2)
 clear hb2 h2 HP0
 have HL1:=aH (fun W (hb:Below w.heap.size w W) (ht:aN W zb exo g 0 cap (sortL recsE))=>lookup_z zb g 0 cap 1 exo wwwN recsE W (aU HOK) ht ((aU HG).below hb) (by decide))
 have HL2:=aH (fun W (hb:Below w.heap.size w W) (ht:aN W zb exo g 0 cap (sortL recsE))=>lookup_z zb g 0 cap 1 exo noneN recsE W (aU HOK) ht ((aU HG).below hb) (by decide))
 have HL3:=aH (fun W (hb:Below w.heap.size w W) (ht:aN W zb exo g 0 cap (sortL recsE))=>lookup_z zb g 0 cap 1 exo starN recsE W (aU HOK) ht ((aU HG).below hb) (by decide))
 go_wp2_with fail
 refine (aU HL1 w2 (aU HB2) (aU HT2)).mono ?_
 rintro e w3 ⟨h3,hb3⟩
 unfold PLook at h3
 rw [askb1,if_pos rfl,ask1] at h3
 obtain ⟨v3,rfl,va,vb,vd,rfl,hA,hU,hD,_,_,_⟩:=h3
 have hrv:=hA.rv
 obtain ⟨aa,ca,rfl⟩:=hA.slice
 obtain ⟨ua,uc,rfl⟩:=hU.slice
 obtain ⟨da,dc,rfl⟩:=hD.slice
 have HRV:=aH hrv
 obtain ⟨O1,hO1⟩ : ∃ O1:Obj,O1=.cells #[.int .i64 0,.bool true,.slice aa 2 ca,.slice ua 0 uc,.slice da (askA exo recsE 1 wwwN).length dc] 43:=⟨_,rfl⟩
 have HB3:=aH ((aU HB2).trans (hb3.mono (aU HB2).size))
 have HT3:=aH ((aU HT2).below hb3)
 have hb4:Below w3.heap.size w3 (w3.alloc O1):=(Below.refl _ _).alloc (Nat.le_refl _) _
 have HB4:=aH ((aU HB3).trans (hb4.mono (aU HB3).size))
 have HT4:=aH ((aU HT3).below hb4)
 have HR4:=aH ((aU HRV).below hb4)
 have HQ4:Hid ((w3.alloc O1).heap[w3.heap.size]? = some O1):=World.alloc_heap_new w3 O1
 have hs4:(w3.alloc O1).heap.size=w3.heap.size+1:=World.size_alloc w3 O1
 generalize (askA exo recsE 1 wwwN).length=dl at *
 clear hA hU hD hrv hb3 hb4 HL1
 go_wp2_with fail
 rw [← hO1]
 refine (aU HL2 _ (aU HB4) (aU HT4)).mono ?_
 rintro e w5 ⟨h5,hb5⟩
 unfold PLook at h5
 rw [askb2,if_pos rfl,ask2] at h5
 obtain ⟨v5,rfl,va5,vb5,vd5,rfl,hA5,hU5,hD5,_,_,_⟩:=h5
 have hrv5:=hU5.rv
 obtain ⟨aa5,ca5,rfl⟩:=hA5.slice
 obtain ⟨ua5,uc5,rfl⟩:=hU5.slice
 obtain ⟨da5,dc5,rfl⟩:=hD5.slice
 have hs5:=hb5.size
 obtain ⟨O2,hO2⟩ : ∃ O2:Obj,O2=.cells #[.int .i64 3,.bool true,.slice aa5 0 ca5,.slice ua5 1 uc5,.slice da5 (askA exo recsE 1 noneN).length dc5] 43:=⟨_,rfl⟩
 have hb6:Below w5.heap.size w5 (w5.alloc O2):=(Below.refl _ _).alloc (Nat.le_refl _) _
 have hb46:=hb5.trans (hb6.mono hb5.size)
 have HB6:=aH ((aU HB4).trans (hb46.mono (aU HB4).size))
 have HT6:=aH ((aU HT4).below hb46)
 have HR6:=aH ((aU HR4).below hb46)
 have HU6:=aH (hrv5.below hb6)
 have HQ6:Hid ((w5.alloc O2).heap[w3.heap.size]? = some O1):=(hb46.block w3.heap.size (by omega)).trans (aU HQ4)
 have HP6:Hid ((w5.alloc O2).heap[w5.heap.size]? = some O2):=World.alloc_heap_new w5 O2
 have hs6:(w5.alloc O2).heap.size=w5.heap.size+1:=World.size_alloc w5 O2
 generalize (askA exo recsE 1 noneN).length=dl5 at *
 clear hA5 hU5 hD5 hrv5 hb5 hb6 hb46 HL2
 go_wp2_with fail
 rw [← hO2]
 refine (aU HL3 _ (aU HB6) (aU HT6)).mono ?_
 rintro e w7 ⟨h7,hb7⟩
 unfold PLook at h7
 rw [askb3] at h7
 have h7':e=.returned (.tuple #[.agg #[.int .i64 0,.bool false,.slice none 0 0,.slice none 0 0,.slice none 0 0],.int .i64 2]):=h7
 subst h7'
 have hs7:=hb7.size
 obtain ⟨O3,hO3⟩ : ∃ O3:Obj,O3=.cells #[.int .i64 0,.bool false,.slice none 0 0,.slice none 0 0,.slice none 0 0] 43:=⟨_,rfl⟩
 have hb8:Below w7.heap.size w7 (w7.alloc O3):=(Below.refl _ _).alloc (Nat.le_refl _) _
 have hb68:=hb7.trans (hb8.mono hb7.size)
 have HB8:=aH ((aU HB6).trans (hb68.mono (aU HB6).size))
 have hr8:=(aU HR6).below hb68
 have hu8:=(aU HU6).below hb68
 have hq8:=(hb68.block w3.heap.size (by omega)).trans (aU HQ6)
 have hp8:=(hb68.block w5.heap.size (by omega)).trans (aU HP6)
 rw [hO1] at hq8
 rw [hO2] at hp8
 rcases hr8 with ⟨_,h⟩ | ⟨b8,o8,c8,e8,hc8,hrec8⟩
 ·cases h
 rcases hu8 with ⟨_,h⟩ | ⟨b9,o9,c9,e9,hc9,hrec9⟩
 ·cases h
 obtain ⟨h81,-,h83⟩:=Value.slice.inj e8
 obtain ⟨h91,-,h93⟩:=Value.slice.inj e9
 rw [h81,h83] at hq8
 rw [h91,h93] at hp8
 obtain ⟨x0,x1,x2,x3⟩:=hrec8.four 1 (by decide)
 obtain ⟨y0,y1,y2,y3⟩:=hrec9.four 0 (by decide)
 have a0:(w7.alloc O3).cell? ⟨w3.heap.size,0,none⟩=some (.int .i64 0):=by unfold World.cell?; rw [hq8]; rfl
 have a1:(w7.alloc O3).cell? ⟨w3.heap.size,1,none⟩=some (.bool true):=by unfold World.cell?; rw [hq8]; rfl
 have a2:(w7.alloc O3).cell? ⟨w3.heap.size,2,none⟩=some (.slice (some ⟨b8,o8,none⟩) 2 c8):=by unfold World.cell?; rw [hq8]; rfl
 have b0:(w7.alloc O3).cell? ⟨w5.heap.size,0,none⟩=some (.int .i64 3):=by unfold World.cell?; rw [hp8]; rfl
 have b3:(w7.alloc O3).cell? ⟨w5.heap.size,3,none⟩=some (.slice (some ⟨b9,o9,none⟩) 1 c9):=by unfold World.cell?; rw [hp8]; rfl
 have z0:(w7.alloc O3).cell? ⟨b8,o8+4,none⟩=some (.string ⟨#[119,101,98,46,101,120,97,109,112,108,101,46,111,114,103]⟩):=x0
 have z1:(w7.alloc O3).cell? ⟨b8,o8+4+1,none⟩=some (.int .i64 60):=x1
 have z2:(w7.alloc O3).cell? ⟨b8,o8+4+2,none⟩=some (.int .i64 1):=x2
 have z3:(w7.alloc O3).cell? ⟨b8,o8+4+3,none⟩=some (.string ⟨#[49,57,50,46,48,46,50,46,56,48]⟩):=x3
 have s1:(w7.alloc O3).cell? ⟨b9,o9+1,none⟩=some (.int .i64 60):=y1
 clear hb7 hb8 hb68 hq8 hp8 h7 e8 e9 h81 h83 h91 h93 hrec8 hrec9 x0 x1 x2 x3 y0 y1 y2 y3 HL3
 have heq : ∀ W:World,(binOp .eql 47 (.agg #[.string ⟨#[119,101,98,46,101,120,97,109,112,108,101,46,111,114,103]⟩,.int .i64 60,.int .i64 1,.string ⟨#[49,57,50,46,48,46,50,46,56,48]⟩]) (.agg #[.string ⟨#[119,101,98,46,101,120,97,109,112,108,101,46,111,114,103]⟩,.int .i64 60,.int .i64 1,.string ⟨#[49,57,50,46,48,46,50,46,56,48]⟩])).run Tryz.prog W=.ok (.bool true) W:=fun W=>by
  have:=eq_rec webE webE W
  rw [show (webE == webE)=true from by kernel_rfl] at this
  exact this
 go_upto_region 8 with fail
 rw [← hO3]
 generalize w7.alloc O3=W8 at *
 clear hO1 hO2 hO3
 go_wp2_with fail
 go_ret
 exact ⟨rfl,aU HB8⟩
end Db
def mkV (m:Int):List Value:=[.string ⟨#[]⟩,.int .i64 m,.int .i64 0,.string ⟨#[]⟩]
def marks (m:Int) (n:Nat):List Value:=(List.replicate n (mkV m)).flatten
def MkR (w:World) (base:Nat) (v:Value) (m:Int) (n:Nat):Prop:=w.ownsRow base 47 4 v n (marks m n)
namespace Dc
theorem marks_len (m:Int) (n:Nat):(marks m n).length=n*4:=by
 unfold marks
 induction n with
 | zero=>rfl
 | succ n ih=>rw [List.replicate_succ,List.flatten_cons,List.length_append,ih]; show 4+_=_; omega
theorem marks_add (m:Int) (n k:Nat):marks m (n+k)=marks m n++marks m k:=by
 unfold marks
 rw [← List.flatten_append,List.replicate_append_replicate]
theorem marks_take (m:Int) {j n:Nat} (h:j≤n):(marks m n).take (j*4)=marks m j:=by
 obtain ⟨k,rfl⟩ : ∃ k,n=j+k:=⟨n - j,by omega⟩
 rw [marks_add,List.take_append_of_le_length (by rw [marks_len]; omega),← marks_len m j,List.take_length]
theorem marks_one (m:Int) (n:Nat) : ∀ u∈marks m n,u.oneCell'=true:=by
 intro u hu
 unfold marks at hu
 obtain ⟨l,hl,hu⟩:=List.mem_flatten.1 hu
 have:=List.eq_of_mem_replicate hl
 subst this
 simp only [mkV,List.mem_cons,List.not_mem_nil,or_false] at hu
 rcases hu with rfl | rfl | rfl | rfl <;> rfl
section
variable {P:Program} (w:World)
theorem run_append_two (base:Nat) (t ty e:TypeId) (i:TypeInfo) (z:Value) (size bytes:Nat) (ht:P.underlying t=some (.slice e)) (hi:P.info? e=some i) (hz:i.zero=some z)
  (hsize:i.size=size) (hby:i.bytes=bytes) (hzs:z.cells.size=size) (hsz:0<size)
  (v:Value) (n:Nat) (xs:List Value) (hown:w.ownsRow base e size v n xs)
  (a:Addr) (m c:Nat) (news:List Value) (hl:news.length=m*size) (hnews : ∀ j u,news[j]? = some u→w.cell? (a.add j)=some u) (h1 : ∀ u∈news,u.oneCell'=true)
  (h63:n+m≤maxLen) (hbytes:(n+m)*bytes≤140737488355328) (hbase:base≤w.heap.size) (hm:0<m) :
  ∃ v' w',(Builtin.append_ #[t,t] ty #[v,.slice (some a) m c]).run P w=.ok v' w'∧w'.ownsRow base e size v' (n+m) (xs++news)∧w.grownBy w' v.ownBlock∧(∃ a' c',v'=.slice a' (n+m) c') ∧
   (v'.ownBlock=v.ownBlock∨(v'.ownBlock=some w.heap.size∧Below w.heap.size w w')):=by
 obtain ⟨v',w',k1,k2,k3,_,k5⟩:=run_append_own_at (P:=P) w base t ty e i z size bytes ht hi hz hsize hby hzs hsz v n xs hown a m c news hl hnews h1 h63 hbytes hbase
 refine ⟨v',w',k1,k2,k3,?_,?_⟩
 ·rcases k2.2 with ⟨_,h0⟩ | ⟨g,cap,_,rfl,_⟩
  ·omega
  ·exact ⟨_,_,rfl⟩
 ·subst hsize
  subst hby
  have hsmall:n+m≤9223372036854775807:=by simp only [maxLen] at h63; omega
  rcases hown.2 with ⟨rfl,rfl⟩ | ⟨g,cap,cur,rfl,hbg,hg,hnc,hcm,hcs,htake⟩
  ·have q:=run_append_nil (P:=P) w t ty e i z ht hi hz a m c news hl hnews hm (by omega) (by simp only [Nat.zero_add] at hbytes; omega)
   rw [q] at k1
   cases k1
   exact .inr ⟨rfl,(Below.refl _ w).drew.alloc (Nat.le_refl _) _⟩
  ·by_cases hroom:n+m≤cap
   ·have hfit:n*i.size+news.length≤cur.size:=by rw [hl,hcs,← Nat.add_mul]; exact Nat.mul_le_mul_right _ hroom
    have q:=run_append_room (P:=P) w t ty e i ht hi g n cap cur hg a m c news hl hnews h1 hroom hfit
    rw [q] at k1
    cases k1
    exact .inl rfl
   ·have holds:=hown.cells (g:=g) rfl
    have q:=run_append_grow (P:=P) w t ty e i z ht hi hz ⟨g,0,none⟩ n cap xs hown.1 holds a m c news hl hnews (by omega) (by omega) (growslice_fits (by omega) hbytes)
    rw [q] at k1
    cases k1
    exact .inr ⟨rfl,(Below.refl _ w).drew.alloc (Nat.le_refl _) _⟩
end
theorem mark_add {w:World} {base:Nat} {v:Value} {m:Int} {n:Nat} (h:MkR w base v m n) (a:Addr) (k c:Nat) (hk:0<k) (hn:n+k≤1000000) (hb:base≤w.heap.size) (hcell : ∀ j u,(marks m k)[j]? = some u→w.cell? (a.add j)=some u) :
  ∃ v' w',(Builtin.append_ #[41,41] 41 #[v,.slice (some a) k c]).run Tryz.prog w=.ok v' w'∧MkR w' base v' m (n+k)∧w.grownBy w' v.ownBlock∧(∃ a' c',v'=.slice a' (n+k) c')∧(v'.ownBlock=v.ownBlock∨v'.ownBlock=some w.heap.size) ∧
   (∀ u j,j≤n+k→MkR w base u m j→MkR w' base u m j):=by
 obtain ⟨i0,hi,hz0,hz1,hz2⟩:=info_parts Re.infoR
 obtain ⟨v',w',k1,k2,k3,k4,k5⟩:=run_append_two (P:=Tryz.prog) w base 41 41 47 i0 _ 4 48 Re.underR hi hz0 hz1 hz2 rfl (by omega) v n (marks m n) h a k c (marks m k) (marks_len m k) hcell (marks_one m k) (by simp [maxLen]; omega) (by omega) hb hk
 have h4:=run_append_stp (P:=Tryz.prog) w base 41 41 47 i0 _ 4 48 Re.underR hi hz0 hz1 hz2 (by omega) v n (marks m n) h a k c (marks m k) (marks_len m k) hcell (marks_one m k) (by simp [maxLen]; omega) (by omega) v' w' k1 hk
 rw [← marks_add] at k2
 refine ⟨v',w',k1,k2,k3,k4,k5.imp id (fun h=>h.1),fun u j hj hu=>?_⟩
 rcases k5 with h5 | ⟨h5,hbl⟩
 ·by_cases he:u.ownBlock=v.ownBlock
  ·refine ⟨hu.1,?_⟩
   rcases hu.2 with hn | ⟨g,cap,cur,rfl,hbg,hg,q1,q2,q3,q4⟩
   ·exact .inl hn
   ·have hv':v'.ownBlock=some g:=by rw [h5,← he]; rfl
    rcases k2.2 with ⟨rfl,_⟩ | ⟨g',cap',cur',rfl,hbg',hg',p1,p2,p3,p4⟩
    ·cases hv'
    ·have e1:g'=g:=by simpa [Value.ownBlock] using hv'
     subst e1
     rcases h.2 with ⟨rfl,_⟩ | ⟨g0,cap0,cur0,rfl,_,hg0,_,_,r3,_⟩
     ·have:(Value.slice none 0 0).ownBlock=some g':=by rw [← he]; rfl
      cases this
     ·have e2:g0=g':=by
       have:(Value.slice (some ⟨g0,0,none⟩) n cap0).ownBlock=some g':=by rw [← he]; rfl
       simpa [Value.ownBlock] using this
      subst e2
      have hsz:cur'.size=cur.size:=by
       obtain ⟨c2,s1,s2,_⟩:=h4.row g0 cur hg
       rw [hg'] at s1
       have:cur'=c2:=by simpa using s1
       rw [this]; exact s2
      refine .inr ⟨g0,cap,cur',rfl,hbg,hg',q1,q2,by rw [hsz]; exact q3,?_⟩
      have:(cur'.toList.take ((n+k)*4)).take (j*4)=(marks m (n+k)).take (j*4):=by rw [p4]
      rw [List.take_take,Nat.min_eq_left (by omega),marks_take m hj] at this
      exact this
  ·refine World.ownsRow.kept hu k3 ?_
   cases hub:u.ownBlock with
   | none=>exact .inl rfl
   | some g=>exact .inr (fun e=>he (by rw [hub]; exact e))
 ·exact own_below hu hbl
end Dc
def kpE (x:Nat×Nat×Value):List Value:=[.int .i64 x.1,x.2.2]
structure KI (w:World) (kb:Nat) (n:Nat) (vk:Value) (ks:List (Nat×Nat×Value)):Prop where
 kn:w.heap[kb]? = some (.cells #[.int .i64 n,vk] 33)
 ko:w.ownsRow (kb+1) 128 2 vk ks.length (ks.flatMap kpE)
 km : ∀ x∈ks,MkR w (kb+1) x.2.2 (-(x.1:Int)) x.2.1∧x.1≤n∧x.2.1≤100000∧(∀ g,x.2.2.ownBlock=some g→vk.ownBlock≠some g)
namespace Dd
open Dc
theorem ne_mark (m:Int) (w:World):(binOp .neq 47 (.agg #[.string ⟨#[]⟩,.int .i64 m,.int .i64 0,.string ⟨#[]⟩]) (.agg #[.string ⟨#[]⟩,.int .i64 m,.int .i64 0,.string ⟨#[]⟩])).run Tryz.prog w=.ok (.bool false) w:=by
 have u3:=Tryz.underlying3
 have a3:=Tryz.isAgg3
 have z3:=Tryz.sizeOf3
 have u9:=Tryz.underlying9
 have a9:=Tryz.isAgg9
 have z9:=Tryz.sizeOf9
 have hS:Tryz.prog.underlying 47=some (.struct (Tryz.prog.fieldsOf 47)):=by kernel_rfl
 have hp:Tryz.prog.stoodInHeld 47=false:=by kernel_rfl
 rw [run_neq_struct,show (10000:Nat)=9999+1 from rfl,run_equalIn_agg w 9999 47 _ _ hS hp]
 simp only [Program.fieldsOf,Tryz.underlying47]
 go_simp
theorem kp_at : ∀ (ks:List (Nat×Nat×Value)) (i:Nat) (h:i<ks.length),(ks.flatMap kpE)[i*2]? = some (.int .i64 ks[i].1)∧(ks.flatMap kpE)[i*2+1]? = some ks[i].2.2
 | [],_,h=>by simp at h
 | x :: ks,0,_=>⟨rfl,rfl⟩
 | x :: ks,i+1,h=>by
  have ih:=kp_at ks i (by simpa using h)
  rw [List.flatMap_cons]
  have h2:(kpE x).length=2:=rfl
  rw [List.getElem?_append_right (by omega),List.getElem?_append_right (by omega),h2,show (i+1)*2 - 2=i*2 by omega,show (i+1)*2+1 - 2=i*2+1 by omega]
  exact ih
theorem mark_at (m:Int) : ∀ (n j r:Nat),j<n→r<4→(marks m n)[j*4+r]? = (mkV m)[r]?
 | 0,j,r,h,_=>by omega
 | n+1,j,r,h,hr=>by
  have e:marks m (n+1)=mkV m++marks m n:=by unfold marks; rw [List.replicate_succ,List.flatten_cons]
  have h4:(mkV m).length=4:=rfl
  rw [e]
  cases j with
  | zero=>rw [Nat.zero_mul,Nat.zero_add,List.getElem?_append_left (by omega)]
  | succ j =>
   rw [List.getElem?_append_right (by omega),h4,show (j+1)*4+r - 4=j*4+r by omega]
   exact mark_at m n j r (by omega) hr
theorem _root_.Go.Proofs.YtkkpahmoljiepaaGreatDoor.MkR.cells {w:World} {base:Nat} {v:Value} {m:Int} {n:Nat} (h:MkR w base v m n) {j:Nat} (hj:j<n) : ∃ g cap,v=.slice (some ⟨g,0,none⟩) n cap∧n≤cap∧g<w.heap.size∧w.cell? ⟨g,j*4,none⟩=some (.string ⟨#[]⟩)∧w.cell? ⟨g,j*4+1,none⟩=some (.int .i64 m)∧w.cell? ⟨g,j*4+2,none⟩=some (.int .i64 0)∧w.cell? ⟨g,j*4+3,none⟩=some (.string ⟨#[]⟩):=by
 rcases h.2 with ⟨_,h0⟩ | ⟨g,cap,cur,rfl,hb,hcur,hc,_,hsz,htk⟩
 ·omega
 ·have hat : ∀ r,r<4→w.cell? ⟨g,j*4+r,none⟩=(mkV m)[r]?:=fun r hr=>by
   rw [← mark_at m n j r hj hr,← htk,List.getElem?_take_of_lt (by omega)]
   unfold World.cell?
   rw [hcur]
   simp
  exact ⟨g,cap,rfl,hc,(Array.getElem?_eq_some_iff.1 hcur).1,hat 0 (by omega),hat 1 (by omega),hat 2 (by omega),hat 3 (by omega)⟩
theorem _root_.Go.Proofs.YtkkpahmoljiepaaGreatDoor.MkR.slice {w:World} {base:Nat} {v:Value} {m:Int} {n:Nat} (h:MkR w base v m n) : ∃ a c,v=.slice a n c:=by
 rcases h.2 with ⟨rfl,h0⟩ | ⟨g,cap,_,rfl,_⟩
 ·exact ⟨none,0,by rw [h0]⟩
 ·exact ⟨_,_,rfl⟩
theorem still_ok (kb n:Nat) (vk:Value) (ks:List (Nat×Nat×Value)) (w:World) (h:KI w kb n vk ks) (hn:n≤1000000000) (hl:ks.length≤1000000000) :
  Calls Tryz.prog 19 #[.pointer (some ⟨kb,0,none⟩)] w fun e w'=>e=.returned (.bool true)∧Below w.heap.size w w':=by
 have HK:=aH h
 have hkb:kb<w.heap.size:=(Array.getElem?_eq_some_iff.1 h.kn).1
 have k1:w.cell? ⟨kb,1,none⟩=some vk:=by unfold World.cell?; rw [h.kn]; rfl
 have K1:=aH k1
 obtain ⟨ka,kc,hvk⟩ : ∃ a c,vk=.slice a ks.length c:=by
  rcases h.ko.2 with ⟨rfl,h0⟩ | ⟨g,cap,_,rfl,_⟩
  ·exact ⟨none,0,by rw [h0]⟩
  ·exact ⟨_,_,rfl⟩
 subst hvk
 clear h k1
 go_enter Tryz.func19,Tryz.ntmps19
 go_wp2_with fail
 go_loopw [3] (fun iv wr=>∃ i:Nat,i≤ks.length∧iv=.int .i64 i∧Below w.heap.size w wr) (fun iv _=>ks.length - (intOf iv).toNat)
 case atStart=>exact ⟨0,Nat.zero_le _,rfl,Below.refl _ _⟩
 case round =>
  obtain ⟨i,hi,rfl,hb⟩:=hrel
  have t1:wr.cell? ⟨kb,1,none⟩=some (.slice ka ks.length kc):=(hb.cell (p:=⟨kb,1,none⟩) hkb).trans (aU K1)
  have hbs:=hb.size
  have HB:=aH hb
  by_cases hlt:i<ks.length
  ·have hltI:(i:Int)<(ks.length:Int):=by omega
   obtain ⟨hm,hmn,hcn,_⟩:=(aU HK).km ks[i] (List.getElem_mem hlt)
   obtain ⟨e1,e2⟩:=kp_at ks i hlt
   have hko:=(aU HK).ko
   rcases hko.2 with ⟨_,h0⟩ | ⟨gk,capk,cur,hv,hbk,hcur,hck,_,hszk,htkk⟩
   ·omega
   obtain ⟨hv1,-,hv3⟩:=Value.slice.inj hv
   subst hv1 hv3
   have hgk:gk<w.heap.size:=(Array.getElem?_eq_some_iff.1 hcur).1
   have hat : ∀ r,r<ks.length*2→w.cell? ⟨gk,r,none⟩=(ks.flatMap kpE)[r]?:=fun r hr=>by
    rw [← htkk,List.getElem?_take_of_lt (by omega)]
    unfold World.cell?
    rw [hcur]
    simp
   have q0:wr.cell? ⟨gk,i*2,none⟩=some (.int .i64 ks[i].1):=(hb.cell (p:=⟨gk,i*2,none⟩) hgk).trans ((hat _ (by omega)).trans e1)
   have q1:wr.cell? ⟨gk,i*2+1,none⟩=some ks[i].2.2:=(hb.cell (p:=⟨gk,i*2+1,none⟩) hgk).trans ((hat _ (by omega)).trans e2)
   have HM:=aH hm
   obtain ⟨va,vc,hvv⟩:=hm.slice
   rw [hvv] at q1 HM
   generalize ks[i].1=m at *
   generalize ks[i].2.1=cn at *
   clear hm hko hcur htkk hat e1 e2 hv hvv hb
   go_wp2_with fail
   have hba : ∀ o,Below wr.heap.size wr (wr.alloc o):=fun o=>(Below.refl _ _).alloc (Nat.le_refl _) _
   have hb2:=(aU HB).trans ((hba (.cells #[.int .i64 m,.slice va cn vc] 128)).mono hbs)
   have hq2:=World.alloc_heap_new wr (.cells #[.int .i64 m,.slice va cn vc] 128)
   have HB2:=aH hb2
   have HQ2:=aH hq2
   have hs2:(wr.alloc (.cells #[.int .i64 m,.slice va cn vc] 128)).heap.size=wr.heap.size+1:=World.size_alloc wr _
   clear hba hb2 hq2 q0 q1 t1
   obtain ⟨WA,hWA⟩ : ∃ WA,wr.alloc (.cells #[.int .i64 m,.slice va cn vc] 128)=WA:=⟨_,rfl⟩
   rw [hWA] at HB2 HQ2 hs2 ⊢
   obtain ⟨q,hq⟩ : ∃ q,wr.heap.size=q:=⟨_,rfl⟩
   rw [hq] at HQ2 hs2 ⊢
   clear hWA
   go_loopw [5] (fun jv wi=>∃ j:Nat,j≤cn∧jv=.int .i64 j∧Below WA.heap.size WA wi) (fun jv _=>cn - (intOf jv).toNat)
   case atStart=>exact ⟨0,Nat.zero_le _,rfl,Below.refl _ _⟩
   case round =>
    obtain ⟨j,hj,rfl,hbj⟩:=hrel
    have hq2:=(hbj.block q (by omega)).trans (aU HQ2)
    have c0:wr.cell? ⟨q,0,none⟩=some (.int .i64 m):=by unfold World.cell?; rw [hq2]; rfl
    have c1:wr.cell? ⟨q,1,none⟩=some (.slice va cn vc):=by unfold World.cell?; rw [hq2]; rfl
    have HBJ:=aH hbj
    have HBW:=aH ((aU HB2).trans (hbj.mono (aU HB2).size))
    clear hq2 hbj
    by_cases hjl:j<cn
    ·have hjlI:(j:Int)<(cn:Int):=by omega
     obtain ⟨g,cap',hv,hcp,hgl,d0,d1,d2,d3⟩:=(aU HM).cells hjl
     obtain ⟨h1,-,h3⟩:=Value.slice.inj hv
     have kc : ∀ (i:Nat) (u:Value),w.cell? ⟨g,i,none⟩=some u→wr.cell? ⟨g,i,none⟩=some u:=fun i u h=>((aU HBW).cell (p:=⟨g,i,none⟩) hgl).trans h
     have e0:=kc _ _ d0
     have e1:=kc _ _ d1
     have e2:=kc _ _ d2
     have e3:=kc _ _ d3
     rw [h1,h3] at c1
     clear kc d0 d1 d2 d3 hv h1 h3
     have hmm : -(9223372036854775808:Int)≤-(m:Int)∧-(m:Int)≤9223372036854775807:=by omega
     have hnm:=ne_mark (-(m:Int))
     go_upto_region 8 with fail
     go_region
     all_goals
      go_wp2_with fail
      exact ⟨⟨j+1,by omega,by go_num,(aU HBJ).drew⟩,by simp [intOf]; omega⟩
    ·have hjlI : ¬ (j:Int)<(cn:Int):=by omega
     go_wp2_with fail
     exact ⟨⟨i+1,by omega,by go_num,aU HBW⟩,by simp [intOf]; omega⟩
  ·have hltI : ¬ (i:Int)<(ks.length:Int):=by omega
   clear hb
   go_wp2_with fail
   go_ret
   exact ⟨rfl,aU HB⟩
end Dd
namespace De
open Dc Dd Re
theorem row_set {w:World} {base:Nat} {e:TypeId} {size g n cap j:Nat} {xs:List Value} {u:Value} (h:w.ownsRow base e size (.slice (some ⟨g,0,none⟩) n cap) n xs) (hj:j<n*size):(w.setCell ⟨g,j,none⟩ u).ownsRow base e size (.slice (some ⟨g,0,none⟩) n cap) n (xs.set j u):=by
 have hl:=h.1
 rcases h.2 with ⟨h0,_⟩ | ⟨g',cap',cur,hv,hb,hcur,hc,hm,hsz,htk⟩
 ·cases h0
 ·cases hv
  refine ⟨by rw [List.length_set]; exact hl,.inr ⟨g,cap,cur.setIfInBounds j u,rfl,hb,?_,hc,hm,by simp [hsz],?_⟩⟩
  ·simp only [World.setCell,Array.getElem?_modify,if_true,hcur]; rfl
  ·rw [Array.toList_setIfInBounds,← htk]
   apply List.ext_getElem?
   intro k
   simp only [List.getElem?_take,List.getElem?_set,List.length_take]
   by_cases hk:k<n*size
   ·by_cases hjk:j=k
    ·subst hjk
     have hjc:j<cur.size:=by rw [hsz]; exact Nat.lt_of_lt_of_le hj (Nat.mul_le_mul_right _ hc)
     simp [hk,hjc]
     exact Nat.lt_min.2 ⟨hk,hjc⟩
    ·simp [hk,hjk]
   ·by_cases hjk:j=k
    ·omega
    ·simp [hk,hjk]
theorem set4 (m:Int) (a0 a1 a2 a3:Value) (pre suf:List Value) (k:Nat) (hk:pre.length=k):((((pre++(a0 :: a1 :: a2 :: a3 :: suf)).set k (.string ⟨#[]⟩)).set (k+1) (.int .i64 m)).set (k+2) (.int .i64 0)).set (k+3) (.string ⟨#[]⟩)=pre++(mkV m++suf):=by
 subst hk
 induction pre with
 | nil=>rfl
 | cons p pre ih =>
  simp only [List.cons_append,List.length_cons]
  rw [show pre.length+1+1=(pre.length+1)+1 from rfl,show pre.length+1+2=(pre.length+2)+1 from rfl,show pre.length+1+3=(pre.length+3)+1 from rfl,List.set_cons_succ,List.set_cons_succ,List.set_cons_succ,List.set_cons_succ,ih]
theorem fill_step {w:World} {base g n cap i:Nat} {m:Int} {rs:List Rec} (hn:rs.length=n) (hi:i<n) (h:w.ownsRow base 47 4 (.slice (some ⟨g,0,none⟩) n cap) n (marks m i++encs (rs.drop i))) :
  ((((w.setCell ⟨g,i*4,none⟩ (.string ⟨#[]⟩)).setCell ⟨g,i*4+1,none⟩ (.int .i64 m)).setCell ⟨g,i*4+2,none⟩ (.int .i64 0)).setCell ⟨g,i*4+3,none⟩ (.string ⟨#[]⟩)).ownsRow base 47 4 (.slice (some ⟨g,0,none⟩) n cap) n (marks m (i+1)++encs (rs.drop (i+1))):=by
 have h1:=row_set (u:=.string ⟨#[]⟩) h (j:=i*4) (by omega)
 have h2:=row_set (u:=.int .i64 m) h1 (j:=i*4+1) (by omega)
 have h3:=row_set (u:=.int .i64 0) h2 (j:=i*4+2) (by omega)
 have h4:=row_set (u:=.string ⟨#[]⟩) h3 (j:=i*4+3) (by omega)
 have hd:rs.drop i=rs[i]'(by omega) :: rs.drop (i+1):=List.drop_eq_getElem_cons (by omega)
 have he:encs (rs.drop i)=.string (B (rs[i]'(by omega)).owner) :: .int .i64 (rs[i]'(by omega)).ttl :: .int .i64 (rs[i]'(by omega)).type :: .string (B (rs[i]'(by omega)).data) :: encs (rs.drop (i+1)):=by
  rw [hd]; rfl
 rw [he,set4 m _ _ _ _ (marks m i) (encs (rs.drop (i+1))) (i*4) (marks_len m i),← List.append_assoc] at h4
 have hm:marks m i++mkV m=marks m (i+1):=by rw [marks_add]; rfl
 rw [hm] at h4
 exact h4
theorem mark_next {w:World} {base:Nat} {v:Value} {m:Int} {n:Nat} (h:MkR w base v m n) (k:Nat) (hk:0<k) (hn:n+k≤1000000) (hb:base≤w.heap.size) :
  ∃ v' w',(Builtin.append_ #[41,41] 41 #[v,.slice (some ⟨w.heap.size,0,none⟩) k k]).run Tryz.prog (w.alloc (.cells (marks m k).toArray 47))=.ok v' w'∧MkR w' base v' m (n+k)∧Fr (fun j=>some j≠v.ownBlock) w w'∧(∃ a' c',v'=.slice a' (n+k) c')∧(v'.ownBlock=v.ownBlock∨∃ q,w.heap.size≤q∧v'.ownBlock=some q) ∧
   (∀ u j,j≤n+k→MkR w base u m j→MkR w' base u m j):=by
 have hba:Below w.heap.size w (w.alloc (.cells (marks m k).toArray 47)):=(Below.refl _ _).alloc (Nat.le_refl _) _
 have hsz:(w.alloc (.cells (marks m k).toArray 47)).heap.size=w.heap.size+1:=World.size_alloc w _
 obtain ⟨v',w',k1,k2,k3,k4,k5,k6⟩:=mark_add (own_below h hba) ⟨w.heap.size,0,none⟩ k k hk hn (by omega) (fun j u hj=>by
  rw [Addr.add_lit,Nat.zero_add]
  have:=World.alloc_heap_new w (.cells (marks m k).toArray 47)
  unfold World.cell?
  rw [this]
  simpa using hj)
 refine ⟨v',w',k1,k2,?_,k4,?_,fun u j hj hu=>k6 u j hj (own_below hu hba)⟩
 ·exact ⟨k3.os,k3.tape,k3.output,Nat.le_trans (by omega) k3.size,fun j hj hn=>(k3.block j (by omega) hn).trans (Below.heap_alloc w _ j hj)⟩
 ·rcases k5 with h5 | h5
  ·exact .inl h5
  ·exact .inr ⟨w.heap.size+1,by omega,by rw [h5,hsz]⟩
end De
end Go.Proofs.YtkkpahmoljiepaaGreatDoor
