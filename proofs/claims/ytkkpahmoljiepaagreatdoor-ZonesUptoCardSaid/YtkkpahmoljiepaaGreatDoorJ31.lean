/- (*World).lookup: one Lookup, by both. -/
import Derived.Test.YtkkpahmoljiepaaGreatDoorJ30
import Derived.Test.YtkkpahmoljiepaaGreatDoorJ01
import Derived.WalkKit
import Derived.ProofKit
import Derived.OpenShut
import Derived.HandedShaped
import Derived.Lay
import Derived.Stop.Joined
import Derived.MakeChecks
import Derived.Shelf.Vars
set_option linter.unusedSimpArgs false
set_option linter.unusedVariables false
set_option maxRecDepth 1000000
set_option maxHeartbeats 12800000
namespace Go.Proofs.YtkkpahmoljiepaaGreatDoor
open Go.RowKit
open Pu (Str aH aU)
def LkOut (wz:World) (kb n:Nat) (ks:List (Nat×Nat×Value)) (w':World):Prop :=
 ∃ vk' ks',KI w' kb (n+3) vk' ks'∧ks'.length=ks.length+12∧Below wz.heap.size wz w'
namespace Di
open Ka Ed Ek Em En Ep Ej Ia Sc Sf Si Lg Eu Ex Oa Ob Oc Od Og Oh Oi Oj On Ol Om La Lb Es Ev Er Eh Za Ie Ec Ee Eb Re Rf Lc Ke Lv Da Dc Dd De Df Dg Dh
theorem num_ok (x:Int) (w:World):Calls Tryz.prog 45 #[.int .i64 x] w fun e w'=>e=.returned (.int .i64 x)∧w'=w:=by
 go_enter Tryz.func45,Tryz.ntmps45
 go_wp2_with fail
 go_ret
 exact ⟨rfl,rfl⟩
theorem carryQ {z s0 S2 E:Nat} {W W':World} {v vl:Value} {l:List Rec} (h:OwnQ (fun k=>z≤k∧(k<S2∨E≤k)) W S2 v l) (hf:Fr (fun k=>k<z∨s0≤k∧k<E∧some k≠vl.ownBlock) W W') (hs:s0≤S2) (hl : ∀ g,vl.ownBlock=some g→g<S2) (hv : ∀ g,v.ownBlock=some g→g<E):OwnQ (fun k=>z≤k∧(k<S2∨E≤k)) W' S2 v l:=by
 refine h.fr hf (fun k hk hx _=>?_) (fun k hk=>?_)
 ·by_cases hz:k<z
  ·exact .inl hz
  ·exact .inr ⟨by omega,by omega,fun e=>by have:=hl k e.symm; omega⟩
 ·have h1:=(h.lt k hk).1
  exact .inr ⟨by omega,hv k hk,fun e=>by have:=hl k e.symm; omega⟩
theorem carryR {z s0 E kb:Nat} {W W':World} {v vl:Value} {l:List Rec} (h:OwnR W (kb+1) v l) (hf:Fr (fun k=>k<z∨s0≤k∧k<E∧some k≠vl.ownBlock) W W') (hv : ∀ g,v.ownBlock=some g→s0≤g∧g<E) (ha:Apart vl v):OwnR W' (kb+1) v l :=
 h.kept (fun g hg=>hf.block g (World.ownsRow.lt h g hg).2 (.inr ⟨(hv g hg).1,(hv g hg).2,fun e=>ha g e.symm hg⟩))
theorem carryB {z s0 E p:Nat} {W W':World} {vl:Value} {o:Obj} (h:W.heap[p]? = some o) (hf:Fr (fun k=>k<z∨s0≤k∧k<E∧some k≠vl.ownBlock) W W') (h1:s0≤p) (h2:p<E) (hl : ∀ g,vl.ownBlock=some g→g<p):W'.heap[p]? = some o :=
 (hf.block p (Array.getElem?_eq_some_iff.1 h).1 (.inr ⟨h1,h2,fun e=>by have:=hl p e.symm; omega⟩)).trans h
theorem look_ok (kb n zp b off cap zd:Nat) (o nm:Str) (rs:List Rec) (t:Int) (vk:Value) (ks:List (Nat×Nat×Value)) (wz w:World) (hok:ZOk o rs) (hP:aN wz zp o b off cap (sortL rs)) (hD:RZone wz zd o rs) (hG:G wz) (hK:KI w kb n vk ks) (hbz:Below wz.heap.size wz w) (hkb:wz.heap.size≤kb) (hnl:nm.length≤2000000) (hn:n≤900000000) (hkl:ks.length≤900000000) :
  Calls Tryz.prog 18 #[.pointer (some ⟨kb,0,none⟩),.pointer (some ⟨zp,0,none⟩),.pointer (some ⟨zd,0,none⟩),.agg #[.string (B nm),.int .i64 t]] w fun e w'=>e=.returned (.bool true)∧LkOut wz kb n ks w':=by
 have hkl0:=hK.lt
 have hwz:=hbz.size
 obtain ⟨O0,hO0⟩ : ∃ O:Obj,O=.cells #[.string (B nm),.int .i64 t] 36:=⟨_,rfl⟩
 obtain ⟨wA,hwA⟩ : ∃ wA,wA=w.alloc O0:=⟨_,rfl⟩
 have hbA:Below w.heap.size w wA:=by rw [hwA]; exact (Below.refl _ _).alloc (Nat.le_refl _) _
 have hsA:wA.heap.size=w.heap.size+1:=by rw [hwA]; exact World.size_alloc w _
 have hqA:wA.heap[w.heap.size]? = some O0:=by rw [hwA]; exact World.alloc_heap_new w _
 have hzA:Below wz.heap.size wz wA:=hbz.trans (hbA.mono hwz)
 have HL1:=aH (lookup_z zp b off cap t o nm rs wA hok (hP.below hzA) (hG.below hzA) hnl)
 have HD:=aH hD
 have HK:=aH hK
 have HBZ:=aH hbz
 have HBA:=aH hbA
 have HZA:=aH hzA
 have HQA:=aH hqA
 have HOK:=aH hok
 have HFI:=aH (ans_fine hok nm t)
 have a0:wA.cell? ⟨w.heap.size,0,none⟩=some (.string (B nm)):=by unfold World.cell?; rw [hqA,hO0]; rfl
 have a1:wA.cell? ⟨w.heap.size,1,none⟩=some (.int .i64 t):=by unfold World.cell?; rw [hqA,hO0]; rfl
 clear hok hP hD hG hK hbz hbA hzA hqA
 go_enter Tryz.func18,Tryz.ntmps18
 go_upto_region 1 with fail
 rw [← hO0,← hwA]
 obtain ⟨s0,hs0⟩ : ∃ s,w.heap.size=s:=⟨_,rfl⟩
 rw [hs0] at HQA a0 a1 hsA hkl0 hwz ⊢
 have HS0:=aH hs0
 have HO0:=aH hO0
 have HRES:Hid (∃ rc au A U D,ansQ o rs nm t=(rc,au,A,U)∧ansA o rs nm t=D):=⟨_,_,_,_,_,rfl,rfl⟩
 obtain ⟨rc,au,A,U,D,hQ,hD⟩:=aU HRES
 have HFA:Hid (Fine A):=by have:=(aU HFI).1; rw [hQ] at this; exact this
 have HFU:Hid (Fine U):=by have:=(aU HFI).2.1; rw [hQ] at this; exact this
 have HFD:Hid (Fine D):=by have:=(aU HFI).2.2; rw [hD] at this; exact this
 have HQ:=aH hQ
 have HDD:=aH hD
 clear hs0 hO0 hwA HRES HFI hQ hD
 go_wp2_with fail
 refine (aU HL1).mono ?_
 rintro e w1 ⟨h1,hb1⟩
 obtain ⟨va,vb,vd,rfl,oa,ob,od,pab,pad,pbd⟩:=plook_eq h1
 rw [aU HQ] at oa ob ⊢
 rw [aU HDD] at od
 simp only at oa ob ⊢
 obtain ⟨aa,ac,ea⟩:=oa.slice
 obtain ⟨ba,bc,eb⟩:=ob.slice
 obtain ⟨da,dc,ed⟩:=od.slice
 have HVA:Hid (∀ g,va.ownBlock=some g→s0+1≤g∧g<w1.heap.size):=fun g hg=>by have:=World.ownsRow.lt oa g hg; rw [hsA] at this; exact this
 have HVB:Hid (∀ g,vb.ownBlock=some g→s0+1≤g∧g<w1.heap.size):=fun g hg=>by have:=World.ownsRow.lt ob g hg; rw [hsA] at this; exact this
 have HVD:Hid (∀ g,vd.ownBlock=some g→s0+1≤g∧g<w1.heap.size):=fun g hg=>by have:=World.ownsRow.lt od g hg; rw [hsA] at this; exact this
 obtain ⟨er,her⟩ : ∃ er,ansE nm t=er:=⟨_,rfl⟩
 have HER:=aH her
 rw [her]
 subst ea eb ed
 have hs1:=hb1.size
 obtain ⟨O1,hO1⟩ : ∃ O:Obj,O=.cells #[.int .i64 rc,.bool au,.slice aa A.length ac,.slice ba U.length bc,.slice da D.length dc] 43:=⟨_,rfl⟩
 obtain ⟨w2,hw2⟩ : ∃ w2,w2=w1.alloc O1:=⟨_,rfl⟩
 have hb2:Below w1.heap.size w1 w2:=by rw [hw2]; exact (Below.refl _ _).alloc (Nat.le_refl _) _
 have hs2:w2.heap.size=w1.heap.size+1:=by rw [hw2]; exact World.size_alloc w1 _
 have hq2:w2.heap[w1.heap.size]? = some O1:=by rw [hw2]; exact World.alloc_heap_new w1 _
 have hbA2:=hb1.trans (hb2.mono hs1)
 have hz2:Below wz.heap.size wz w2:=(aU HZA).trans (hbA2.mono (by omega))
 have c0:w2.cell? ⟨s0,0,none⟩=some (.string (B nm)):=(hbA2.cell (p:=⟨s0,0,none⟩) (by show s0<_; omega)).trans a0
 have c1:w2.cell? ⟨s0,1,none⟩=some (.int .i64 t):=(hbA2.cell (p:=⟨s0,1,none⟩) (by show s0<_; omega)).trans a1
 have HL2:=aH (lookup_r zd o nm rs t (fun k=>wz.heap.size≤k∧k<w2.heap.size) wz w2 (aU HD) hz2 (fun k hk h=>by omega) (fun k hk h=>by omega) (aU HOK) hnl)
 have HOA:=aH (oa.below hb2)
 have HOB:=aH (ob.below hb2)
 have HOD:=aH (od.below hb2)
 have HPA:=aH (And.intro pab (And.intro pad pbd))
 have HQ2:=aH hq2
 have HB2:=aH hbA2
 have HZ2:=aH hz2
 obtain ⟨pa,hpa⟩ : ∃ s,w1.heap.size=s:=⟨_,rfl⟩
 clear HL1 h1 hb1 oa ob od pab pad pbd hb2 hq2 hz2 hbA2 a0 a1 her
 go_upto_region 2 with fail
 rw [← hO1,← hw2]
 rw [hpa] at HQ2 HVA HVB HVD hs2 hs1
 have HO1:=aH hO1
 clear hO1 hw2 hpa
 go_wp2_with fail
 refine (aU HL2).mono ?_
 rintro e w3 ⟨h3,hb3⟩
 obtain ⟨ua,ub,ud,rfl,qa,qb,qd⟩:=look_eq h3
 rw [aU HQ] at qa qb ⊢
 rw [aU HDD] at qd
 simp only at qa qb ⊢
 obtain ⟨xa,xc,ea⟩:=qa.slice
 obtain ⟨ya,yc,eb⟩:=qb.slice
 obtain ⟨za,zc,ed⟩:=qd.slice
 rw [aU HER]
 subst ea eb ed
 have hs3:=hb3.size
 obtain ⟨O2,hO2⟩ : ∃ O:Obj,O=.cells #[.int .i64 rc,.bool au,.slice xa A.length xc,.slice ya U.length yc,.slice za D.length zc] 123:=⟨_,rfl⟩
 obtain ⟨w4,hw4⟩ : ∃ w4,w4=w3.alloc O2:=⟨_,rfl⟩
 have hb4:Below w3.heap.size w3 w4:=by rw [hw4]; exact (Below.refl _ _).alloc (Nat.le_refl _) _
 have hs4:w4.heap.size=w3.heap.size+1:=by rw [hw4]; exact World.size_alloc w3 _
 have hq4:w4.heap[w3.heap.size]? = some O2:=by rw [hw4]; exact World.alloc_heap_new w3 _
 have hb24:=hb3.trans (hb4.mono hs3)
 have hzimp : ∀ k,k<w4.heap.size→¬ (wz.heap.size≤k∧k<w2.heap.size)→¬ (wz.heap.size≤k∧(k<w2.heap.size∨w4.heap.size≤k)):=fun k hk h h'=>by omega
 have qa4:=(qa.below hb4).imp (y:=fun k=>wz.heap.size≤k∧(k<w2.heap.size∨w4.heap.size≤k)) (fun k hk h _=>hzimp k hk h)
 have qb4:=(qb.below hb4).imp (y:=fun k=>wz.heap.size≤k∧(k<w2.heap.size∨w4.heap.size≤k)) (fun k hk h _=>hzimp k hk h)
 have qd4:=(qd.below hb4).imp (y:=fun k=>wz.heap.size≤k∧(k<w2.heap.size∨w4.heap.size≤k)) (fun k hk h _=>hzimp k hk h)
 have hA4:=(hb24.block pa (by omega)).trans (aU HQ2)
 have hZ4:Below wz.heap.size wz w4:=(aU HZ2).trans (hb24.mono (by omega))
 have hS4:LS wz.heap.size s0 w4.heap.size kb n (fun _=>False) w4 vk ks:=by
  have hk4:KI w4 kb n vk ks:=(aU HK).below (((aU HBA).trans ((aU HB2).mono (by rw [aU HS0]; omega))).trans (hb24.mono (by rw [aU HS0]; omega)))
  refine ⟨hk4,fun g hg=>.inl ?_,fun x hx g hg=>.inl ?_,Nat.le_refl _,hkb,hkl0⟩
  ·rw [← aU HS0]; exact (World.ownsRow.lt (aU HK).ko g hg).2
  ·rw [← aU HS0]; exact (World.ownsRow.lt ((aU HK).km x hx).1 g hg).2
 have oA4:=(((aU HOA).below hb24).base (base':=kb+1) (by omega))
 have oB4:=(((aU HOB).below hb24).base (base':=kb+1) (by omega))
 have oD4:=(((aU HOD).below hb24).base (base':=kb+1) (by omega))
 have HA4:=aH hA4
 have HZ4:=aH hZ4
 have HS4:=aH hS4
 have HQA4:=aH qa4
 have HQB4:=aH qb4
 have HQD4:=aH qd4
 have HOA4:=aH oA4
 have HOB4:=aH oB4
 have HOD4:=aH oD4
 obtain ⟨pb,hpb⟩ : ∃ s,w3.heap.size=s:=⟨_,rfl⟩
 have HB4:Hid (w4.heap[pb]? = some O2):=by rw [Hid,← hpb]; exact hq4
 clear h3 hb3 qa qb qd hb4 hq4 hb24 hzimp qa4 qb4 qd4 hA4 hZ4 hS4 oA4 oB4 oD4 c0 c1 HL2 HOA HOB HOD HZ2 HB2 HQ2
 go_upto_region 3 with fail
 rw [← hO2,← hw4]
 rw [hpb] at hs4 hs3
 have HO2:=aH hO2
 clear hO2 hw4 hpb
 obtain ⟨E,hE⟩ : ∃ s,w4.heap.size=s:=⟨_,rfl⟩
 rw [hE] at HS4 HQA4 HQB4 HQD4 hs4
 have HE:=aH hE
 obtain ⟨S2,hS2⟩ : ∃ s,w2.heap.size=s:=⟨_,rfl⟩
 rw [hS2] at HQA4 HQB4 HQD4 hs2 hs3
 have hpsz:s0+1≤pa∧S2=pa+1∧S2≤pb∧E=pb+1:=by omega
 clear hE hS2 hs1 hs2 hs3 hs4 hsA HBA HQA HK HZA HD HOK HBZ
 -- the first list
 have q1:w4.heap[pa]? = some (.cells #[.int .i64 rc,.bool au,.slice aa A.length ac,.slice ba U.length bc,.slice da D.length dc] 43):=by rw [aU HA4,aU HO1]
 have q2:w4.heap[pb]? = some (.cells #[.int .i64 rc,.bool au,.slice xa A.length xc,.slice ya U.length yc,.slice za D.length zc] 123):=by rw [aU HB4,aU HO2]
 have e2:w4.cell? ⟨pa,2,none⟩=some (.slice aa A.length ac):=by unfold World.cell?; rw [q1]; rfl
 have f2:w4.cell? ⟨pb,2,none⟩=some (.slice xa A.length xc):=by unfold World.cell?; rw [q2]; rfl
 have HL5:=aH ((aU HS4).list (aU HOA4) (fun g hg=>by have:=aU HVA g hg; exact ⟨by omega,by omega,fun h=>h⟩) (aU HQA4) (aU HFA) (by omega) (by omega))
 have HP4:=aH (And.intro q1 q2)
 clear q1 q2
 go_wp2_with fail
 refine (aU HL5).mono ?_
 rintro e w5 ⟨rfl,vk5,ks5,hS5,hl5,hf5⟩
 have hvA:=fun g hg=>(aU HVA g hg)
 have hvB:=fun g hg=>(aU HVB g hg)
 have hvD:=fun g hg=>(aU HVD g hg)
 have hxB : ∀ g,(Value.slice ya U.length yc).ownBlock=some g→g<E:=fun g hg=>by have:=((aU HQB4).lt g hg).2; rw [aU HE] at this; exact this
 have hxD : ∀ g,(Value.slice za D.length zc).ownBlock=some g→g<E:=fun g hg=>by have:=((aU HQD4).lt g hg).2; rw [aU HE] at this; exact this
 have HQB5:=aH (carryQ (aU HQB4) hf5 (by omega) (fun g hg=>by have:=hvA g hg; omega) hxB)
 have HQD5:=aH (carryQ (aU HQD4) hf5 (by omega) (fun g hg=>by have:=hvA g hg; omega) hxD)
 have HOB5:=aH (carryR (aU HOB4) hf5 (fun g hg=>by have:=hvB g hg; omega) (aU HPA).1)
 have HOD5:=aH (carryR (aU HOD4) hf5 (fun g hg=>by have:=hvD g hg; omega) (aU HPA).2.1)
 have HZ5:=aH ((aU HZ4).trans (hf5.below (n:=wz.heap.size) (fun k hk=>.inl hk) (by have:=aU HE; omega)))
 have q1:=carryB (aU HP4).1 hf5 (by omega) (by omega) (fun g hg=>(hvA g hg).2)
 have q2:=carryB (aU HP4).2 hf5 (by omega) (by omega) (fun g hg=>by have:=hvA g hg; omega)
 have e3:w5.cell? ⟨pa,3,none⟩=some (.slice ba U.length bc):=by unfold World.cell?; rw [q1]; rfl
 have f3:w5.cell? ⟨pb,3,none⟩=some (.slice ya U.length yc):=by unfold World.cell?; rw [q2]; rfl
 have HL6:=aH (hS5.list (aU HOB5) (fun g hg=>by
  have:=hvB g hg
  refine ⟨by omega,by omega,fun h=>?_⟩
  rcases h with h | h
  ·exact h
  ·exact (aU HPA).1 g h hg) (aU HQB5) (aU HFU) (by omega) (by omega))
 have HP5:=aH (And.intro q1 q2)
 have HV:=aH (And.intro hvA (And.intro hvB (And.intro hvD hxD)))
 clear q1 q2 hS5 hf5 e2 f2 HL5 hvA hvB hvD hxB hxD
 go_wp2_with fail
 refine (aU HL6).mono ?_
 rintro e w6 ⟨rfl,vk6,ks6,hS6,hl6,hf6⟩
 obtain ⟨hvA,hvB,hvD,hxD⟩:=aU HV
 have HQD6:=aH (carryQ (aU HQD5) hf6 (by omega) (fun g hg=>by have:=hvB g hg; omega) hxD)
 have HOD6:=aH (carryR (aU HOD5) hf6 (fun g hg=>by have:=hvD g hg; omega) (aU HPA).2.2)
 have hs5:=(aU HZ5).size
 have HZ6:=aH ((aU HZ5).trans (hf6.below (n:=wz.heap.size) (fun k hk=>.inl hk) hs5))
 have q1:=carryB (aU HP5).1 hf6 (by omega) (by omega) (fun g hg=>(hvB g hg).2)
 have q2:=carryB (aU HP5).2 hf6 (by omega) (by omega) (fun g hg=>by have:=hvB g hg; omega)
 have e4:w6.cell? ⟨pa,4,none⟩=some (.slice da D.length dc):=by unfold World.cell?; rw [q1]; rfl
 have f4:w6.cell? ⟨pb,4,none⟩=some (.slice za D.length zc):=by unfold World.cell?; rw [q2]; rfl
 have HL7:=aH (hS6.list (aU HOD6) (fun g hg=>by
  have:=hvD g hg
  refine ⟨by omega,by omega,fun h=>?_⟩
  rcases h with (h | h) | h
  ·exact h
  ·exact (aU HPA).2.1 g h hg
  ·exact (aU HPA).2.2 g h hg) (aU HQD6) (aU HFD) (by omega) (by omega))
 have HP6:=aH (And.intro q1 q2)
 have HHD:=aH hvD
 clear q1 q2 hS6 hf6 e3 f3 HL6 hvA hvB hvD hxD hs5
 go_wp2_with fail
 refine (aU HL7).mono ?_
 rintro e w7 ⟨rfl,vk7,ks7,hS7,hl7,hf7⟩
 have hs6:=(aU HZ6).size
 have q1:=carryB (aU HP6).1 hf7 (by omega) (by omega) (fun g hg=>(aU HHD g hg).2)
 have q2:=carryB (aU HP6).2 hf7 (by omega) (by omega) (fun g hg=>by have:=aU HHD g hg; omega)
 have HEND:Hid (LkOut wz kb n ks w7):=⟨vk7,ks7,hS7.ki,by omega,(aU HZ6).trans (hf7.below (n:=wz.heap.size) (fun k hk=>.inl hk) hs6)⟩
 have g0:w7.cell? ⟨pa,0,none⟩=some (.int .i64 rc):=by unfold World.cell?; rw [q1]; rfl
 have g1:w7.cell? ⟨pa,1,none⟩=some (.bool au):=by unfold World.cell?; rw [q1]; rfl
 have h0:w7.cell? ⟨pb,0,none⟩=some (.int .i64 rc):=by unfold World.cell?; rw [q2]; rfl
 have h1:w7.cell? ⟨pb,1,none⟩=some (.bool au):=by unfold World.cell?; rw [q2]; rfl
 have HNU:=aH (num_ok er w7)
 clear q1 q2 hS7 hf7 e4 f4 HL7
 go_wp2_with fail
 refine (aU HNU).mono ?_
 rintro e w8 ⟨rfl,rfl⟩
 go_wp2_with fail
 go_ret
 exact ⟨rfl,aU HEND⟩
end Di
def AsksAt (w:World) (v:Value) (ks0:List (Str×Int)):Prop :=
 ((∃ a c,v=.slice a 0 c)∧ks0 = [])∨∃ g off cap,v=.slice (some ⟨g,off,none⟩) ks0.length cap∧ks0.length≤cap∧g<w.heap.size∧∀ i (h:i<ks0.length),w.cell? ⟨g,off+i*2,none⟩=some (.string (B ks0[i].1))∧w.cell? ⟨g,off+i*2+1,none⟩=some (.int .i64 ks0[i].2)
namespace Dj
open Ka Ed Ek Em En Ep Ej Ia Sc Sf Si Lg Eu Ex Oa Ob Oc Od Og Oh Oi Oj On Ol Om La Lb Es Ev Er Eh Za Ie Ec Ee Eb Re Rf Lc Ke Lv Da Dc Dd De Df Dg Dh Di
theorem ki_new {w:World} {kb:Nat} (h:w.heap[kb]? = some (.cells #[.int .i64 0,.slice none 0 0] 33)):KI w kb 0 (.slice none 0 0) [] :=
 ⟨h,World.ownsRow_nil _ _ _ 2,fun x hx=>by cases hx⟩
theorem zones_ok (s:Str) (ks0:List (Str×Int)) (va:Value) (w:World) (hg:G w) (ha:AsksAt w va ks0) (hal:ks0.length≤10000000) (hnl : ∀ a∈ks0,a.1.length≤2000000) :
  Calls Tryz.prog 3 #[.string (B s),va] w fun e w'=>e=.returned (.bool true)∧Below w.heap.size w w':=by
 obtain ⟨sa,sc,hva⟩ : ∃ a c,va=.slice a ks0.length c:=by
  rcases ha with ⟨⟨a,c,rfl⟩,rfl⟩ | ⟨g,off,cap,rfl,_⟩
  ·exact ⟨_,_,rfl⟩
  ·exact ⟨_,_,rfl⟩
 subst hva
 have HF:=aH (Db.first_ok w hg)
 have HG:=aH hg
 have HA:=aH ha
 have HNL:=aH hnl
 clear hg ha hnl
 go_enter Tryz.func3,Tryz.ntmps3
 go_wp2_with fail
 refine (aU HF).mono ?_
 rintro e w1 ⟨rfl,hb1⟩
 have hs1:=hb1.size
 have HP:=aH (parse_p s w1 ((aU HG).below hb1))
 have HB1:=aH hb1
 clear HF hb1
 go_wp2_with fail
 refine (aU HP).mono ?_
 rintro e w2 ⟨h2,hb2⟩
 have hs2:=hb2.size
 have hb2w:=(aU HB1).trans (hb2.mono hs1)
 have HQ:=aH (parse_d s w2)
 have HB2:=aH hb2w
 clear HP hb2 hb2w
 unfold ZP at h2
 cases hz:zoneP s with
 | none =>
  rw [hz] at h2
  have h2':e=.returned (.tuple #[.pointer none,.int .i64 1]):=h2
  subst h2'
  have HZ:=aH hz
  clear h2 hz
  go_wp2_with fail
  refine (aU HQ).mono ?_
  rintro e w3 ⟨h3,hb3⟩
  unfold ZR at h3
  rw [aU HZ] at h3
  have h3':e=.returned (.pointer none):=h3
  subst h3'
  have HB3:=aH ((aU HB2).trans (hb3.mono (by omega)))
  clear h3 hb3
  go_wp2_with fail
  go_ret
  exact ⟨rfl,aU HB3⟩
 | some p =>
  rw [hz] at h2
  obtain ⟨hok,zp,g,cap,rfl,hzp,hgb,htab⟩:=h2
  have HZ:=aH hz
  have HOK:=aH hok
  have HT:=aH htab
  clear hz hok htab
  go_wp2_with fail
  refine (aU HQ).mono ?_
  rintro e w3 ⟨h3,hb3⟩
  unfold ZR at h3
  rw [aU HZ] at h3
  obtain ⟨zd,rfl,hzd,hrz⟩:=h3
  have hs3:=hb3.size
  have HT3:=aH ((aU HT).below hb3)
  have HB3:=aH ((aU HB2).trans (hb3.mono (by omega)))
  have HG3:=aH ((aU HG).below (aU HB3))
  have HRZ:=aH hrz
  obtain ⟨O0,hO0⟩ : ∃ O:Obj,O=.cells #[.int .i64 0,.slice none 0 0] 33:=⟨_,rfl⟩
  obtain ⟨w4,hw4⟩ : ∃ w4,w4=w3.alloc O0:=⟨_,rfl⟩
  have hb4:Below w3.heap.size w3 w4:=by rw [hw4]; exact (Below.refl _ _).alloc (Nat.le_refl _) _
  have hq4:w4.heap[w3.heap.size]? = some O0:=by rw [hw4]; exact World.alloc_heap_new w3 _
  obtain ⟨kb,hkb⟩ : ∃ kb,w3.heap.size=kb:=⟨_,rfl⟩
  have HK4:Hid (KI w4 kb 0 (.slice none 0 0) []):=by
   rw [hkb,hO0] at hq4
   exact ki_new hq4
  have HB4:=aH hb4
  have HKB:=aH hkb
  clear hb3 hrz hb4 hq4 HQ HB2 HT
  go_upto_region 9 with fail
  rw [← hO0,← hw4]
  clear hO0 hw4 hkb
  go_wp2_with fail
  go_loopw [10] (fun iv wr=>∃ i:Nat,i≤ks0.length∧iv=.int .i64 i∧∃ vk ks,KI wr kb (3*i) vk ks∧ks.length=12*i∧Below w3.heap.size w3 wr) (fun iv _=>ks0.length - (intOf iv).toNat)
  case atStart=>exact ⟨0,Nat.zero_le _,rfl,_,_,aU HK4,rfl,aU HB4⟩
  case round =>
   obtain ⟨i,hi,rfl,vk,ks,hK,hkl,hb⟩:=hrel
   have HB:=aH hb
   by_cases hlt:i<ks0.length
   ·have hltI:(i:Int)<(ks0.length:Int):=by omega
    rcases aU HA with ⟨_,h0⟩ | ⟨ag,ao,ac,hv,hac,hag,hcells⟩
    ·rw [h0] at hlt; simp at hlt
    obtain ⟨hv1,-,hv3⟩:=Value.slice.inj hv
    subst hv1 hv3
    obtain ⟨c0,c1⟩:=hcells i hlt
    have hbw:=(aU HB3).trans (hb.mono (by omega))
    have d0:wr.cell? ⟨ag,ao+i*2,none⟩=some (.string (B ks0[i].1)):=(hbw.cell (p:=⟨ag,ao+i*2,none⟩) hag).trans c0
    have d1:wr.cell? ⟨ag,ao+i*2+1,none⟩=some (.int .i64 ks0[i].2):=(hbw.cell (p:=⟨ag,ao+i*2+1,none⟩) hag).trans c1
    have HLK:=aH (look_ok kb (3*i) zp g 0 cap zd p.1 ks0[i].1 p.2 ks0[i].2 vk ks w3 wr (aU HOK) (aU HT3) (aU HRZ) (aU HG3) hK hb (by rw [aU HKB]; omega) (aU HNL _ (List.getElem_mem hlt)) (by omega) (by omega))
    generalize ks0[i]=a at *
    obtain ⟨nm,t⟩:=a
    clear hcells hv hK hb hbw c0 c1
    go_wp2_with fail
    refine (aU HLK).mono ?_
    rintro e w5 ⟨rfl,vk5,ks5,hK5,hkl5,hb5⟩
    have HST:=aH (still_ok kb (3*i+3) vk5 ks5 w5 hK5 (by omega) (by omega))
    have HK5:=aH hK5
    have HB5:=aH hb5
    have hs5:=hb5.size
    clear hK5 hb5 HLK d0 d1
    go_wp2_with fail
    refine (aU HST).mono ?_
    rintro e w6 ⟨rfl,hb6⟩
    have HK6:=aH ((aU HK5).below hb6)
    have HB6:=aH ((aU HB5).trans (hb6.mono hs5))
    clear hb6 HST
    go_wp2_with fail
    exact ⟨⟨i+1,by omega,by go_num,_,_,aU HK6,by omega,aU HB6⟩,by simp [intOf]; omega⟩
   ·have hltI : ¬ (i:Int)<(ks0.length:Int):=by omega
    have HEND:=aH ((aU HB3).trans (hb.mono (by omega)))
    clear hK hb
    go_wp2_with fail
    go_ret
    exact ⟨rfl,aU HEND⟩
end Dj
end Go.Proofs.YtkkpahmoljiepaaGreatDoor

namespace Go.Proofs.YtkkpahmoljiepaaGreatDoor
open Go.ChangeShapes Go.WideShapes Go.ChangeAt Go.RowKit
namespace Uw
variable {H:Type} {enc:TypeId×Value→H}
theorem own:ownKnob Tryz.prog.godebug=none:=by kernel_rfl
theorem g_of_shaped {W:World} (h:W.ShapedOpen Tryz.prog):G W:=by
 have hc : ∃ m,W.cell? ⟨0,0,none⟩=some (.int .i64 m) :=
  cell_of_shapedOpen_int (zero:=#[.int .i64 0]) (t:=3) h (of_decide_eq_true (by kernel_rfl)) (by kernel_rfl) rfl (by kernel_rfl) (by kernel_rfl) Tryz.underlying3
 refine ⟨?_,hc⟩
 obtain ⟨m,hm⟩:=hc
 rcases Nat.eq_zero_or_pos W.heap.size with h0 | h0
 ·simp [World.cell?,Array.getElem?_eq_none (show W.heap.size≤0 by omega)] at hm
 ·exact h0
end Uw
end Go.Proofs.YtkkpahmoljiepaaGreatDoor
