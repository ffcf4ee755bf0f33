/- The document's answer (beaconref): (*Zone).one. -/
import Derived.Test.YtkkpahmoljiepaaGreatDoorJ22
set_option linter.unusedSimpArgs false
set_option linter.unusedVariables false
set_option maxRecDepth 1000000
set_option maxHeartbeats 12800000
namespace Go.Proofs.YtkkpahmoljiepaaGreatDoor
open Go.RowKit
open Pu (Str aH aU)
def oneP (o:Str) (L:List Rec) (t:Int) (first aa:Bool) (ans:List Rec) (n:Str):Int×Bool×List Rec×List Rec×Option Str :=
 if Sp.under n o=false then ((if first then 5 else 0),aa,ans,[],none)
 else if (cutP o L n).length≠0 then (0,aa || !first,ans,cutP o L n,none)
 else match (if t=5∨t=255 then none else linkP o L n) with
  | some r=>if ans.length=8 then (2,true,[],[],none) else (0,true,ans++[r],[],some r.data)
  | none=>(stepRc o L n,true,ans++aQ o L t n,aP o L t n,none)
def NxtV (w:World) (x:Nat→Prop) (v vu:Value):Option Str→Prop
 | none=>v=.slice none 0 0
 | some d=>vu=.slice none 0 0∧∃ g cap,v=.slice (some ⟨g,0,none⟩) (Sp.spl 46 d).length cap∧(Sp.spl 46 d).length≤cap∧Ec.TxAt w g 0 (Sp.spl 46 d)∧¬ x g
def OneR (X:Nat→Prop) (w0 w':World) (ab:Nat) (q:Int×Bool×List Rec×List Rec×Option Str) (e:Ending):Prop :=
 ∃ va vu v,e=.returned v∧AsAt w' ab q.1 q.2.1 va vu (.slice none 0 0)∧OwnQ X w' (ab+1) va q.2.2.1∧OwnQ X w' (ab+1) vu q.2.2.2.1∧NxtV w' (fun k=>X k∨some k=va.ownBlock) v vu q.2.2.2.2∧Below w0.heap.size w0 w'
namespace Oe
open Ka Ed Ek Em En Ep Ia Sc Sf Si Lg Eu Ex Oa Ob Oc Od Of Of Of Of Of Of Of Of Of Of La Lb Es Ev Er Eh Za Ie Ec Ee Eb Re Lc Ke Li
theorem eql_nil (a:Option Addr) (l c:Nat) (w:World):(binOp .eql 113 (.slice a l c) (.slice none 0 0)).run Tryz.prog w=.ok (.bool a.isNone) w:=Lib.run_eql_slice_nil w _ _ a l c 0 0 underN
attribute [local go_sem] eql_nil
section
variable {o n:Str} {L ans:List Rec} {t:Int} {first aa:Bool} (hu:Sp.under n o=true)
include hu
theorem one_cut (hc:(cutP o L n).length≠0):oneP o L t first aa ans n=(0,aa || !first,ans,cutP o L n,none):=by
 unfold oneP; rw [if_neg (by simp [hu]),if_pos hc]
theorem one_none (hc:cutP o L n = []) (hm:(matchP L n).2=false):oneP o L t first aa ans n=(3,true,ans,denyP o L,none):=by
 have hl:linkP o L n=none:=by unfold linkP; rw [if_neg (by simp [hm])]
 unfold oneP
 rw [if_neg (by simp [hu]),if_neg (by simp [hc]),hl,ite_self]
 unfold stepRc aQ aP
 simp [hc,hm]
omit hu in
theorem link_of {r:Rec} (hc:cutP o L n = []) (hm:(matchP L n).2=true) (h1:(matchP L n).1 = [r]) (h5:aliasP [r]=true):linkP o L n=some r:=by
 unfold linkP
 rw [if_pos ⟨by rw [hc]; rfl,hm,by rw [h1]; exact h5⟩,h1]; rfl
theorem one_link {r:Rec} (hc:cutP o L n = []) (hl:linkP o L n=some r) (h5:t≠5) (h255:t≠255) (h8:ans.length≠8):oneP o L t first aa ans n=(0,true,ans++[r],[],some r.data):=by
 unfold oneP
 rw [if_neg (by simp [hu]),if_neg (by simp [hc]),if_neg (by omega),hl]
 show (if _ then _ else _)=_
 rw [if_neg h8]
theorem one_full {r:Rec} (hc:cutP o L n = []) (hl:linkP o L n=some r) (h5:t≠5) (h255:t≠255) (h8:ans.length=8):oneP o L t first aa ans n=(2,true,[],[],none):=by
 unfold oneP
 rw [if_neg (by simp [hu]),if_neg (by simp [hc]),if_neg (by omega),hl]
 show (if _ then _ else _)=_
 rw [if_pos h8]
theorem one_take (hc:cutP o L n = []) (hm:(matchP L n).2=true) (hno:(t=5∨t=255)∨linkP o L n=none):oneP o L t first aa ans n=(0,true,ans++takeP t (matchP L n).1,if takenP t (matchP L n).1 then [] else denyP o L,none):=by
 have hl:(if t=5∨t=255 then none else linkP o L n)=none:=by
  rcases hno with h | h
  ·rw [if_pos h]
  ·rw [h,ite_self]
 unfold oneP
 rw [if_neg (by simp [hu]),if_neg (by simp [hc]),hl]
 unfold stepRc aQ aP
 simp [hc,hm]
end
theorem src_len (rs:List Rec) (ns l:List Str) (h:srcR rs ns=some l):l.length≤ns.length+1:=by
 have key : ∀ f i,upR rs ns i f=some l→l.length≤ns.length+1:=by
  intro f
  induction f with
  | zero=>intro i h; cases h
  | succ f ih =>
   intro i h
   unfold upR at h
   split at h
   ·split at h
    ·have:=Option.some.inj h
     rw [← this]; simp
    ·cases h
   ·exact ih _ h
 unfold srcR at h
 split at h
 ·have:=Option.some.inj h
  rw [← this]; omega
 ·exact key _ _ h
theorem one_any (zb ab gn no nc:Nat) (o n:Str) (rs ans:List Rec) (t:Int) (first aa:Bool) (va:Value) (X:Nat→Prop) (wz w0 w:World) (hzz:RZone wz zb o rs) (hbz:Below wz.heap.size wz w0) (hXa:X ab) (hXz : ∀ k,k<wz.heap.size→¬ X k) (hXn : ∀ k,w0.heap.size≤k→k≠ab→¬ X k) (hXl : ∀ k,X k→k≤ab) (hok:ZOk o rs) (hb0:Below w0.heap.size w0 w) (hab:w0.heap.size≤ab)
  (hs:AsAt w ab 0 aa va (.slice none 0 0) (.slice none 0 0)) (ho:OwnQ X w (ab+1) va ans) (hal:ans.length≤8) (hn:TxAt w gn no (Sp.spl 46 n)) (hnc:(Sp.spl 46 n).length≤nc) (hna:gn≠ab) (hnX : ¬ X gn) (hno:some gn≠va.ownBlock) (hne:NeL n) (hnl:n.length≤60) :
  Calls Tryz.prog 186 #[.pointer (some ⟨zb,0,none⟩),.pointer (some ⟨ab,0,none⟩),.slice (some ⟨gn,no,none⟩) (Sp.spl 46 n).length nc,.int .i64 t,.bool first] w fun e w'=>OneR X w0 w' ab (oneP o (sortL rs) t first aa ans n) e:=by
 have hz:=hzz.below hbz
 have hfit:=zfit hok
 have hty:=zty hok
 have hpos:=spl_pos n
 have hlen:(Sp.spl 46 n).length≤61:=by have:=Sp.spl_len_le 46 n; omega
 have hlo:(Sp.spl 46 o).length≤1000:=spl_small hfit.1
 have HZ:=aH hz
 have HZZ:=aH hzz
 have HZB:Hid (∀ W,Below w0.heap.size w0 W→Below wz.heap.size wz W):=fun W hW=>hbz.trans (hW.mono hbz.size)
 have hzs:=hbz.size
 have HF:=aH hfit
 have HTY:=aH hty
 have HOK:=aH hok
 have HB0:=aH hb0
 have HS:=aH hs
 have HO:=aH ho
 have HN:=aH hn
 have HNE:=aH hne
 have habl:=hs.lt
 have hgl:=hn.1
 have hs0:=hb0.size
 obtain ⟨aa',ac,rfl⟩:=ho.slice
 obtain ⟨s0,s1,s2,s3,s4⟩:=hs.cells
 have sf:=hs.frozen
 obtain ⟨vo,b,off,cap,z0,z1,z2,z3⟩:=hz
 have hzl:zb<w0.heap.size:=(Array.getElem?_eq_some_iff.1 z0).1
 have zw:w.heap[zb]? = w0.heap[zb]?:=hb0.block zb hzl
 have zc:w.cell? ⟨zb,0,none⟩=some vo:=by unfold World.cell?; rw [zw,z0]; rfl
 have HU:Hid (Calls Tryz.prog 119 #[.slice (some ⟨gn,no,none⟩) (Sp.spl 46 n).length nc,vo] w fun e w'=>e=.returned (.bool (Sp.under n o))∧Below w.heap.size w w'):=by
  have:=Ed.under_any (.slice (some ⟨gn,no,none⟩) (Sp.spl 46 n).length nc) vo _ _ w ⟨gn,no,nc,rfl,hnc,hn⟩ (z1.below hb0) (by omega) hlo (spl_pos o)
  rw [und_text] at this
  exact this
 have HVO:=aH z1
 obtain ⟨vg,vof,vcap,rfl,_,_⟩:=z1
 have Z0:=aH z0
 have Z3:=aH z3
 have HXA:=aH hXa
 have HXZ:=aH hXz
 have HXN:=aH hXn
 have HXL:=aH hXl
 have HNX:=aH hnX
 clear hok hb0 hs ho hn hne hfit hty z0 z3 zw hzz hbz hXa hXz hXn hXl hnX
 generalize hNS:(Sp.spl 46 n).length=N at *
 go_enter Tryz.func186,Tryz.ntmps186
 go_wp2_with fail
 refine (aU HU).mono ?_
 rintro e w1 ⟨rfl,hb1⟩
 have hs1:=hb1.size
 have S1:=(aU HS).kept (hb1.block ab habl)
 have O1:=aH ((aU HO).below hb1)
 have HB1:=aH ((aU HB0).trans (hb1.mono hs0))
 have HN1:=aH ((aU HN).below hb1)
 obtain ⟨t0,t1,t2,t3,t4⟩:=S1.cells
 have tf:=S1.frozen
 have HS1:=aH S1
 clear HU hb1 s0 s1 s2 s3 s4 sf zc S1
 cases hu:Sp.under n o with
 | false =>
  have HR:Hid (oneP o (sortL rs) t first aa ans n=((if first then 5 else 0),aa,ans,[],none)):=by
   rw [Hid,oneP,if_pos hu]
  cases first with
  | false =>
   go_wp2_with fail
   go_ret
   rw [aU HR]
   exact ⟨_,_,_,rfl,aU HS1,aU O1,OwnQ.nil _ _ _,rfl,aU HB1⟩
  | true =>
   go_wp2_with fail
   go_ret
   rw [aU HR]
   exact ⟨_,_,_,rfl,(aU HS1).set0 5,(aU O1).set _ (aU HXA) (by show ab<ab+1; omega),OwnQ.nil _ _ _,rfl,(aU HB1).setCell (p:=⟨ab,0,none⟩) hab _⟩
 | true =>
  have HSETQ:Hid (∀ W,Below w0.heap.size w0 W→ab<W.heap.size→∀ (s:Str) (u:Value) (tt:Int),NmV W u (Sp.spl 46 s)→(Sp.spl 46 s).length≤1000→TxAt W gn no (Sp.spl 46 n)→Calls Tryz.prog 237 #[.pointer (some ⟨zb,0,none⟩),u,.int .i64 tt,.slice (some ⟨gn,no,none⟩) N nc] W fun e w'=>(∃ v,e=.returned v∧OwnQ (fun k=>X k∨some k=(Value.slice aa' ans.length ac).ownBlock) w' W.heap.size v ((ownT rs s tt).map (setOwner n)))∧Below W.heap.size W w'):=fun W hW hl s u tt hu hsl hN=>by
   refine set_q (aU HZZ) (aU HOK) (aU HZB W hW) (fun k hk hc=>?_) (Nat.le_refl _) s n u _ tt hu hsl ⟨gn,no,nc,by rw [hNS],by rw [hNS]; exact hnc,hN,fun hc=>hc.elim (aU HNX) hno⟩
   rcases hc with hc | hc
   ·exact aU HXZ k hk hc
   ·have:=((aU HO).lt k hc.symm).1; omega
  have HABV:Hid (Calls Tryz.prog 236 #[.pointer (some ⟨zb,0,none⟩),.slice (some ⟨gn,no,none⟩) N nc] w1 fun e w'=>(∃ v,e=.returned v∧((v=.slice none 0 0∧cutP o (sortL rs) n = [])∨∃ i,i<N∧v=.slice (some ⟨gn,no+i,none⟩) (N - i) (nc - i)∧cutP o (sortL rs) n=own rs (endN n i) 2∧own rs (endN n i) 2≠[]))∧Below w1.heap.size w1 w'):=by
   have h1:=(spl_under hu).1
   rw [Hid,← hNS]
   refine (above_any zb o rs gn no nc (Sp.spl 46 n) w1 ((aU HZ).below (aU HB1)) (aU HF) (aU HN1) (by rw [hNS]; exact hnc) (by omega) h1).mono ?_
   rintro e w' ⟨⟨v,rfl,hv⟩,hb⟩
   refine ⟨⟨v,rfl,?_⟩,hb⟩
   rcases ab_val hv with ⟨rfl,k1⟩ | ⟨i,k1,k2,rfl⟩ <;> rcases cut_two (aU HTY) (aU HNE) hu with ⟨c1,c2⟩ | ⟨j,c0,c1,c2,c3⟩
   ·exact .inl ⟨rfl,c2⟩
   ·rw [k1] at c1; cases c1
   ·rw [k2] at c1; cases c1
   ·rw [k2] at c1
    obtain rfl:=Option.some.inj c1
    exact .inr ⟨i,by omega,rfl,c2,c3⟩
  have HN1':=aH (aU HN1)
  go_wp2_with fail
  refine (aU HABV).mono ?_
  rintro e w2 ⟨⟨v2,rfl,hv2⟩,hb2⟩
  have hs2:=hb2.size
  have S2:=(aU HS1).kept (hb2.block ab (by omega))
  have O2:=aH ((aU O1).below hb2)
  have HB2:=aH ((aU HB1).trans (hb2.mono (aU HB1).size))
  have HN2:=aH ((aU HN1).below hb2)
  obtain ⟨u0,u1,u2,u3,u4⟩:=S2.cells
  have uf:=S2.frozen
  have HS2:=aH S2
  clear HABV hb2 t0 t1 t2 t3 t4 tf S2
  rcases hv2 with ⟨rfl,hcut⟩ | ⟨i,hi,rfl,hcut,hcne⟩
  ·have S3:=(aU HS2).set1 true
   have O3:=aH ((aU O2).set (a:=⟨ab,1,none⟩) (.bool true) (aU HXA) (by show ab<ab+1; omega))
   have HB3:=aH ((aU HB2).setCell (p:=⟨ab,1,none⟩) hab (.bool true))
   have HN3:=aH ((aU HN2).fr (p:=fun k=>k≠ab) (Fr.of_set (a:=⟨ab,1,none⟩) (.bool true) (fun _ h=>h)) hna)
   have hs3:(w2.setCell ⟨ab,1,none⟩ (.bool true)).heap.size=w2.heap.size:=by simp [World.setCell]
   have HS3:=aH S3
   have HSRC:Hid (Calls Tryz.prog 238 #[.pointer (some ⟨zb,0,none⟩),.slice (some ⟨gn,no,none⟩) N nc] (w2.setCell ⟨ab,1,none⟩ (.bool true)) fun e w'=>(∃ v,e=.returned v∧((v=.slice none 0 0∧(matchP (sortL rs) n).2=false)∨∃ s,NmV w' v (Sp.spl 46 s)∧(Sp.spl 46 s).length≤1000∧(matchP (sortL rs) n).2=true∧(matchP (sortL rs) n).1=(ofP (sortL rs) s).map (setOwner n)))∧Below (w2.setCell ⟨ab,1,none⟩ (.bool true)).heap.size (w2.setCell ⟨ab,1,none⟩ (.bool true)) w'):=by
    rw [Hid,← hNS]
    refine (source_any zb o rs gn no nc (Sp.spl 46 n) _ ((aU HZ).below (aU HB3)) (aU HF) (aU HN3) (by rw [hNS]; exact hnc) (by omega) (by omega)).mono ?_
    rintro e w' ⟨⟨v,rfl,hv⟩,hb⟩
    refine ⟨⟨v,rfl,?_⟩,hb⟩
    rcases src_two rs (aU HTY) (aU HNE) with ⟨c1,c2⟩ | ⟨s,c1,c2,c3⟩
    ·rw [c1] at hv; exact .inl ⟨hv,c2⟩
    ·have:=src_len rs _ _ c1
     rw [c1] at hv; exact .inr ⟨s,hv,by omega,c2,c3⟩
   clear S3
   go_wp2_with fail
   refine (aU HSRC).mono ?_
   rintro e w4 ⟨⟨v4,rfl,hv4⟩,hb4⟩
   have hs4:=hb4.size
   have S4:=(aU HS3).kept (hb4.block ab (by omega))
   have O4:=aH ((aU O3).below hb4)
   have HB4:=aH ((aU HB3).trans (hb4.mono (aU HB3).size))
   have HN4:=aH ((aU HN3).below hb4)
   obtain ⟨q0,q1,q2,q3,q4⟩:=S4.cells
   have qf:=S4.frozen
   have HS4:=aH S4
   clear HSRC hb4 u0 u1 u2 u3 u4 uf S4
   rcases hv4 with ⟨rfl,hm⟩ | ⟨s,hvs,hsl,hm,hml⟩
   ·have HR:=aH (one_none (L:=sortL rs) (ans:=ans) (t:=t) (first:=first) (aa:=aa) hu hcut hm)
    have S5:=(aU HS4).set0 3
    have O5:=aH ((aU O4).set (a:=⟨ab,0,none⟩) (.int .i64 3) (aU HXA) (by show ab<ab+1; omega))
    have HB5:=aH ((aU HB4).setCell (p:=⟨ab,0,none⟩) hab (.int .i64 3))
    have hs5:(w4.setCell ⟨ab,0,none⟩ (.int .i64 3)).heap.size=w4.heap.size:=by simp [World.setCell]
    have HS5:=aH S5
    have HSO:=aH (soa_q (W:=w4.setCell ⟨ab,0,none⟩ (.int .i64 3)) (x:=X) (base:=ab+1) (aU HZZ) (aU HOK) (aU HZB _ (aU HB5)) (aU HXZ) (by omega))
    clear S5
    go_wp2_with fail
    refine (aU HSO).mono ?_
    rintro e w7 ⟨⟨vd,rfl,hd7⟩,hb7⟩
    have hs7:=hb7.size
    have S7:=(aU HS5).kept (hb7.block ab (by omega))
    have O7:=aH ((aU O5).below hb7)
    have HB7:=aH ((aU HB5).trans (hb7.mono (aU HB5).size))
    obtain ⟨da,dc,rfl⟩:=hd7.slice
    obtain ⟨y0,y1,y2,y3,y4⟩:=S7.cells
    have yf:=S7.frozen
    have HD7:=aH hd7
    have HS7:=aH S7
    clear S7 hd7 hb7 q0 q1 q2 q3 q4 qf HSO
    go_wp2_with fail
    go_ret
    rw [aU HR]
    exact ⟨_,_,_,rfl,(aU HS7).set3 _,(aU O7).set _ (aU HXA) (by show ab<ab+1; omega),(aU HD7).set _ (aU HXA) (by show ab<ab+1; omega),rfl,(aU HB7).setCell (p:=⟨ab,3,none⟩) hab _⟩
   have HRT0:Hid (((t=5∨t=255)∨linkP o (sortL rs) n=none)→oneP o (sortL rs) t first aa ans n=(0,true,ans++(ownT rs s t).map (setOwner n),if ownT rs s t = [] then denyP o (sortL rs) else [],none)):=fun hno=>by
    rw [one_take hu hcut hm hno,hml,take_star rs s n t (aU HTY)]
    congr 4
    rw [taken_eq (srt_owner (of_srt rs s) (of_same rs s) n),take_star rs s n t (aU HTY)]
    cases ownT rs s t <;> simp
   have HV4:=aH hvs
   obtain ⟨gs,os,cs,rfl,hcs,htx⟩:=hvs
   clear hcs htx
   by_cases h5:t=5
   ·have HRT:=aH (aU HRT0 (.inl (.inl h5)))
    have HRT5:Hid (oneP o (sortL rs) 5 first aa ans n=(0,true,ans++(ownT rs s 5).map (setOwner n),if ownT rs s 5 = [] then denyP o (sortL rs) else [],none)):=by rw [← h5]; exact aU HRT
    subst h5
    go_wp2_with fail
    refine (aU HSETQ w4 (aU HB4) (by omega) s _ _ (aU HV4) hsl (aU HN4)).mono ?_
    rintro e w6 ⟨⟨vl,rfl,hl6⟩,hb6⟩
    have hs6:=hb6.size
    have S6:=(aU HS4).kept (hb6.block ab (by omega))
    have O6:=aH ((aU O4).below hb6)
    have HB6:=aH ((aU HB4).trans (hb6.mono (aU HB4).size))
    obtain ⟨x0,x1,x2,x3,x4⟩:=S6.cells
    have xf:=S6.frozen
    have HS6:=aH S6
    obtain ⟨la,lc,rfl⟩:=hl6.slice
    rw [List.length_map]
    have HL6:=aH hl6
    have hbl6:=hl6.lt
    have HHB6:=aH hb6
    clear S6 hl6 hb6
    by_cases hem:(ownT rs s 5).length=0
    ·have hemI:(((ownT rs s 5).length:Int) == 0)=true:=by simp [hem]
     have hnil:ownT rs s 5 = []:=List.eq_nil_of_length_eq_zero hem
     have HR:=aH (aU HRT5)
     have HSO:=aH (soa_q (W:=w6) (x:=X) (base:=ab+1) (aU HZZ) (aU HOK) (aU HZB _ (aU HB6)) (aU HXZ) (by omega))
     clear HL6 hbl6
     go_wp2_with fail
     refine (aU HSO).mono ?_
     rintro e w7 ⟨⟨vd,rfl,hd7⟩,hb7⟩
     have hs7:=hb7.size
     have S7:=(aU HS6).kept (hb7.block ab (by omega))
     have O7:=aH ((aU O6).below hb7)
     have HB7:=aH ((aU HB6).trans (hb7.mono (aU HB6).size))
     obtain ⟨da,dc,rfl⟩:=hd7.slice
     obtain ⟨y0,y1,y2,y3,y4⟩:=S7.cells
     have yf:=S7.frozen
     have HD7:=aH hd7
     have HS7:=aH S7
     clear S7 hd7 hb7 x0 x1 x2 x3 x4 xf
     go_wp2_with fail
     go_ret
     rw [aU HR,hnil]
     refine ⟨_,_,_,rfl,(aU HS7).set3 _,?_,?_,rfl,(aU HB7).setCell (p:=⟨ab,3,none⟩) hab _⟩
     ·rw [List.map_nil,List.append_nil]
      exact (aU O7).set (a:=⟨ab,3,none⟩) _ (aU HXA) (by show ab<ab+1; omega)
     ·exact (aU HD7).set (a:=⟨ab,3,none⟩) _ (aU HXA) (by show ab<ab+1; omega)
    ·have hemI:(((ownT rs s 5).length:Int) == 0)=false:=by rw [beq_eq_false_iff_ne]; omega
     have hnn:ownT rs s 5≠[]:=fun h=>hem (by rw [h]; rfl)
     have hll:=ownT_len (aU HOK) s 5
     have hlq:((ownT rs s 5).map (setOwner n)).length≤2000:=by rw [List.length_map]; omega
     obtain ⟨v8,w8,hrun,ho8,hg8,hbk8⟩:=append_q (aU O6) (aU HL6) (fun k hk h=>h) (by omega) (by omega) (fun k hk=>by have:=aU HXL k hk; omega)
     rw [List.length_map] at hrun
     have hna8:some ab≠(Value.slice aa' ans.length ac).ownBlock:=fun e=>by have:=((aU HO).lt ab e.symm).1; omega
     have S8:=(aU HS6).kept (hg8.block ab (by omega) hna8)
     have hsz8:=hg8.size
     have HB8:Hid (Below w0.heap.size w0 w8):=(aU HB6).trans ⟨hg8.os,hg8.tape,hg8.output,hg8.size,fun k hk=>hg8.block k (by have:=(aU HB6).size; omega) (fun e=>by have:=((aU HO).lt k e.symm).1; omega)⟩
     have HO8:=aH ho8
     obtain ⟨a8,c8,hv8⟩:=ho8.slice
     rw [List.length_append,List.length_map] at hv8
     subst hv8
     obtain ⟨y0,y1,y2,y3,y4⟩:=S8.cells
     have yf:=S8.frozen
     have HS8:=aH S8
     have HR:=aH (aU HRT5)
     have HRUN:=aH hrun
     clear S8 ho8 hrun HL6 hbl6 hg8 hbk8
     go_wp2_with (at_builtin; go_loud (refine wpL_append (by rfl) (.tmp 127) (.tmp 128) 115 (by rfl) _ _ _ _ (by rfl) (by rfl) (aU HRUN) ?_))
     go_ret
     rw [aU HR,if_neg hnn]
     exact ⟨_,_,_,rfl,(aU HS8).set2 _,(aU HO8).set (a:=⟨ab,2,none⟩) _ (aU HXA) (by show ab<ab+1; omega),OwnQ.nil _ _ _,rfl,(aU HB8).setCell (p:=⟨ab,2,none⟩) hab _⟩
   by_cases h255:t=255
   ·have HRT:=aH (aU HRT0 (.inl (.inr h255)))
    have HRT5:Hid (oneP o (sortL rs) 255 first aa ans n=(0,true,ans++(ownT rs s 255).map (setOwner n),if ownT rs s 255 = [] then denyP o (sortL rs) else [],none)):=by rw [← h255]; exact aU HRT
    subst h255
    go_wp2_with fail
    refine (aU HSETQ w4 (aU HB4) (by omega) s _ _ (aU HV4) hsl (aU HN4)).mono ?_
    rintro e w6 ⟨⟨vl,rfl,hl6⟩,hb6⟩
    have hs6:=hb6.size
    have S6:=(aU HS4).kept (hb6.block ab (by omega))
    have O6:=aH ((aU O4).below hb6)
    have HB6:=aH ((aU HB4).trans (hb6.mono (aU HB4).size))
    obtain ⟨x0,x1,x2,x3,x4⟩:=S6.cells
    have xf:=S6.frozen
    have HS6:=aH S6
    obtain ⟨la,lc,rfl⟩:=hl6.slice
    rw [List.length_map]
    have HL6:=aH hl6
    have hbl6:=hl6.lt
    have HHB6:=aH hb6
    clear S6 hl6 hb6
    by_cases hem:(ownT rs s 255).length=0
    ·have hemI:(((ownT rs s 255).length:Int) == 0)=true:=by simp [hem]
     have hnil:ownT rs s 255 = []:=List.eq_nil_of_length_eq_zero hem
     have HR:=aH (aU HRT5)
     have HSO:=aH (soa_q (W:=w6) (x:=X) (base:=ab+1) (aU HZZ) (aU HOK) (aU HZB _ (aU HB6)) (aU HXZ) (by omega))
     clear HL6 hbl6
     go_wp2_with fail
     refine (aU HSO).mono ?_
     rintro e w7 ⟨⟨vd,rfl,hd7⟩,hb7⟩
     have hs7:=hb7.size
     have S7:=(aU HS6).kept (hb7.block ab (by omega))
     have O7:=aH ((aU O6).below hb7)
     have HB7:=aH ((aU HB6).trans (hb7.mono (aU HB6).size))
     obtain ⟨da,dc,rfl⟩:=hd7.slice
     obtain ⟨y0,y1,y2,y3,y4⟩:=S7.cells
     have yf:=S7.frozen
     have HD7:=aH hd7
     have HS7:=aH S7
     clear S7 hd7 hb7 x0 x1 x2 x3 x4 xf
     go_wp2_with fail
     go_ret
     rw [aU HR,hnil]
     refine ⟨_,_,_,rfl,(aU HS7).set3 _,?_,?_,rfl,(aU HB7).setCell (p:=⟨ab,3,none⟩) hab _⟩
     ·rw [List.map_nil,List.append_nil]
      exact (aU O7).set (a:=⟨ab,3,none⟩) _ (aU HXA) (by show ab<ab+1; omega)
     ·exact (aU HD7).set (a:=⟨ab,3,none⟩) _ (aU HXA) (by show ab<ab+1; omega)
    ·have hemI:(((ownT rs s 255).length:Int) == 0)=false:=by rw [beq_eq_false_iff_ne]; omega
     have hnn:ownT rs s 255≠[]:=fun h=>hem (by rw [h]; rfl)
     have hll:=ownT_len (aU HOK) s 255
     have hlq:((ownT rs s 255).map (setOwner n)).length≤2000:=by rw [List.length_map]; omega
     obtain ⟨v8,w8,hrun,ho8,hg8,hbk8⟩:=append_q (aU O6) (aU HL6) (fun k hk h=>h) (by omega) (by omega) (fun k hk=>by have:=aU HXL k hk; omega)
     rw [List.length_map] at hrun
     have hna8:some ab≠(Value.slice aa' ans.length ac).ownBlock:=fun e=>by have:=((aU HO).lt ab e.symm).1; omega
     have S8:=(aU HS6).kept (hg8.block ab (by omega) hna8)
     have hsz8:=hg8.size
     have HB8:Hid (Below w0.heap.size w0 w8):=(aU HB6).trans ⟨hg8.os,hg8.tape,hg8.output,hg8.size,fun k hk=>hg8.block k (by have:=(aU HB6).size; omega) (fun e=>by have:=((aU HO).lt k e.symm).1; omega)⟩
     have HO8:=aH ho8
     obtain ⟨a8,c8,hv8⟩:=ho8.slice
     rw [List.length_append,List.length_map] at hv8
     subst hv8
     obtain ⟨y0,y1,y2,y3,y4⟩:=S8.cells
     have yf:=S8.frozen
     have HS8:=aH S8
     have HR:=aH (aU HRT5)
     have HRUN:=aH hrun
     clear S8 ho8 hrun HL6 hbl6 hg8 hbk8
     go_wp2_with (at_builtin; go_loud (refine wpL_append (by rfl) (.tmp 127) (.tmp 128) 115 (by rfl) _ _ _ _ (by rfl) (by rfl) (aU HRUN) ?_))
     go_ret
     rw [aU HR,if_neg hnn]
     exact ⟨_,_,_,rfl,(aU HS8).set2 _,(aU HO8).set (a:=⟨ab,2,none⟩) _ (aU HXA) (by show ab<ab+1; omega),OwnQ.nil _ _ _,rfl,(aU HB8).setCell (p:=⟨ab,2,none⟩) hab _⟩
   have h5b:(t != 5)=true:=by simpa using h5
   have h255b:(t != 255)=true:=by simpa using h255
   have HAS:=aH ((aU HZ).below (aU HB4))
   have HHS:Hid (Calls Tryz.prog 118 #[.pointer (some ⟨zb,0,none⟩),.slice (some ⟨gs,os,none⟩) (Sp.spl 46 s).length cs,.int .i64 5] w4 fun e w'=>e=.returned (.bool (hasR rs (Sp.spl 46 s) 5))∧Below w4.heap.size w4 w'):=has_any zb o rs _ _ 5 w4 (aU HAS) (aU HF) (aU HV4) hsl
   go_wp2_with fail
   refine (aU HHS).mono ?_
   rintro e w5 ⟨rfl,hb5⟩
   have hs5:=hb5.size
   have S5:=(aU HS4).kept (hb5.block ab (by omega))
   have O5:=aH ((aU O4).below hb5)
   have HB5:=aH ((aU HB4).trans (hb5.mono (aU HB4).size))
   have HN5:=aH ((aU HN4).below hb5)
   have HV5:=aH ((aU HV4).below hb5)
   obtain ⟨p0,p1,p2,p3,p4⟩:=S5.cells
   have pf:=S5.frozen
   have HS5:=aH S5
   clear HHS HAS hb5 q0 q1 q2 q3 q4 qf S5
   cases hh:hasR rs (Sp.spl 46 s) 5 with
   | false =>
    have hlk:linkP o (sortL rs) n=none:=by
     unfold linkP
     rw [if_neg]
     rintro ⟨_,_,h3⟩
     rw [hml,← (alias_two (aU HOK) s n).1,hh] at h3
     cases h3
    have HRT:=aH (aU HRT0 (.inr hlk))
    go_wp2_with fail
    refine (aU HSETQ w5 (aU HB5) (by omega) s _ _ (aU HV5) hsl (aU HN5)).mono ?_
    rintro e w6 ⟨⟨vl,rfl,hl6⟩,hb6⟩
    have hs6:=hb6.size
    have S6:=(aU HS5).kept (hb6.block ab (by omega))
    have O6:=aH ((aU O5).below hb6)
    have HB6:=aH ((aU HB5).trans (hb6.mono (aU HB5).size))
    obtain ⟨x0,x1,x2,x3,x4⟩:=S6.cells
    have xf:=S6.frozen
    have HS6:=aH S6
    obtain ⟨la,lc,rfl⟩:=hl6.slice
    rw [List.length_map]
    have HL6:=aH hl6
    have hbl6:=hl6.lt
    have HHB6:=aH hb6
    clear S6 hl6 hb6
    by_cases hem:(ownT rs s t).length=0
    ·have hemI:(((ownT rs s t).length:Int) == 0)=true:=by simp [hem]
     have hnil:ownT rs s t = []:=List.eq_nil_of_length_eq_zero hem
     have HR:=aH (aU HRT)
     have HSO:=aH (soa_q (W:=w6) (x:=X) (base:=ab+1) (aU HZZ) (aU HOK) (aU HZB _ (aU HB6)) (aU HXZ) (by omega))
     clear HL6 hbl6
     go_wp2_with fail
     refine (aU HSO).mono ?_
     rintro e w7 ⟨⟨vd,rfl,hd7⟩,hb7⟩
     have hs7:=hb7.size
     have S7:=(aU HS6).kept (hb7.block ab (by omega))
     have O7:=aH ((aU O6).below hb7)
     have HB7:=aH ((aU HB6).trans (hb7.mono (aU HB6).size))
     obtain ⟨da,dc,rfl⟩:=hd7.slice
     obtain ⟨y0,y1,y2,y3,y4⟩:=S7.cells
     have yf:=S7.frozen
     have HD7:=aH hd7
     have HS7:=aH S7
     clear S7 hd7 hb7 x0 x1 x2 x3 x4 xf
     go_wp2_with fail
     go_ret
     rw [aU HR,hnil]
     refine ⟨_,_,_,rfl,(aU HS7).set3 _,?_,?_,rfl,(aU HB7).setCell (p:=⟨ab,3,none⟩) hab _⟩
     ·rw [List.map_nil,List.append_nil]
      exact (aU O7).set (a:=⟨ab,3,none⟩) _ (aU HXA) (by show ab<ab+1; omega)
     ·exact (aU HD7).set (a:=⟨ab,3,none⟩) _ (aU HXA) (by show ab<ab+1; omega)
    ·have hemI:(((ownT rs s t).length:Int) == 0)=false:=by rw [beq_eq_false_iff_ne]; omega
     have hnn:ownT rs s t≠[]:=fun h=>hem (by rw [h]; rfl)
     have hll:=ownT_len (aU HOK) s t
     have hlq:((ownT rs s t).map (setOwner n)).length≤2000:=by rw [List.length_map]; omega
     obtain ⟨v8,w8,hrun,ho8,hg8,hbk8⟩:=append_q (aU O6) (aU HL6) (fun k hk h=>h) (by omega) (by omega) (fun k hk=>by have:=aU HXL k hk; omega)
     rw [List.length_map] at hrun
     have hna8:some ab≠(Value.slice aa' ans.length ac).ownBlock:=fun e=>by have:=((aU HO).lt ab e.symm).1; omega
     have S8:=(aU HS6).kept (hg8.block ab (by omega) hna8)
     have hsz8:=hg8.size
     have HB8:Hid (Below w0.heap.size w0 w8):=(aU HB6).trans ⟨hg8.os,hg8.tape,hg8.output,hg8.size,fun k hk=>hg8.block k (by have:=(aU HB6).size; omega) (fun e=>by have:=((aU HO).lt k e.symm).1; omega)⟩
     have HO8:=aH ho8
     obtain ⟨a8,c8,hv8⟩:=ho8.slice
     rw [List.length_append,List.length_map] at hv8
     subst hv8
     obtain ⟨y0,y1,y2,y3,y4⟩:=S8.cells
     have yf:=S8.frozen
     have HS8:=aH S8
     have HR:=aH (aU HRT)
     have HRUN:=aH hrun
     clear S8 ho8 hrun HL6 hbl6 hg8 hbk8
     go_wp2_with (at_builtin; go_loud (refine wpL_append (by rfl) (.tmp 127) (.tmp 128) 115 (by rfl) _ _ _ _ (by rfl) (by rfl) (aU HRUN) ?_))
     go_ret
     rw [aU HR,if_neg hnn]
     exact ⟨_,_,_,rfl,(aU HS8).set2 _,(aU HO8).set (a:=⟨ab,2,none⟩) _ (aU HXA) (by show ab<ab+1; omega),OwnQ.nil _ _ _,rfl,(aU HB8).setCell (p:=⟨ab,2,none⟩) hab _⟩
   | true =>
    obtain ⟨r,hr5,hrm,hof,how⟩:=(alias_two (aU HOK) s n).2 hh
    have hal1:=(alias_two (aU HOK) s n).1
    rw [hh,hof] at hal1
    have hlk:linkP o (sortL rs) n=some (setOwner n r):=link_of hcut hm (by rw [hml,hof]; rfl) hal1.symm
    clear hal1
    have HS0:=aH (aU HSETQ w5 (aU HB5) (by omega) s _ 5 (aU HV5) hsl (aU HN5))
    go_wp2_with fail
    refine (aU HS0).mono ?_
    rintro e w6 ⟨⟨vl,rfl,hl6⟩,hb6⟩
    rw [how] at hl6
    have hs6:=hb6.size
    have S6:=(aU HS5).kept (hb6.block ab (by omega))
    have O6:=aH ((aU O5).below hb6)
    have HB6:=aH ((aU HB5).trans (hb6.mono (aU HB5).size))
    obtain ⟨x0,x1,x2,x3,x4⟩:=S6.cells
    have xf:=S6.frozen
    have HS6:=aH S6
    have HL6:=aH hl6
    have hbl6:=hl6.lt
    rcases hl6.recx with ⟨_,h⟩ | ⟨gl,cl,rfl,hgl6,hcl,hrr⟩
    ·cases h
    obtain ⟨_,vw,_,_,_,_,l4,_,l6⟩:=hrr 0 (by simp)
    rw [Nat.zero_mul,Nat.zero_add] at l4
    obtain ⟨hone,hpl⟩:=one_data (aU HOK) hrm hr5
    obtain ⟨gw,ow,cw,rfl,hcw,tw,hxw⟩:=l6
    have w60:w6.cell? ⟨gw,ow,none⟩=some (.string (B r.data)):=by
     have:=tw.2 0 (by show 0<(Sp.spl 32 r.data).length; rw [hone]; simp)
     rw [Nat.add_zero] at this
     rw [this]
     congr 3
     show (Sp.spl 32 r.data)[0]'_=_
     simp [hone]
    have hgw:=tw.1
    have hw1:(Sp.spl 32 (List.map (setOwner n) [r])[0].data).length=1:=by show (Sp.spl 32 r.data).length=1; rw [hone]; rfl
    rw [hw1] at l4 hcw
    simp only [List.length_map,List.length_cons,List.length_nil] at hcl ⊢
    clear S6 hl6 hb6 p0 p1 p2 p3 p4 pf HS0 hrr tw hw1
    by_cases h8:ans.length=8
    ·have h8I:((ans.length:Int) == 8)=true:=by simp [h8]
     have HR:=aH (one_full (first:=first) (aa:=aa) hu hcut hlk h5 h255 h8)
     have S8:=(aU HS6).set0 2
     clear l4
     go_wp2_with fail
     go_ret
     rw [aU HR]
     exact ⟨_,_,_,rfl,S8.set2 _,OwnQ.nil _ _ _,OwnQ.nil _ _ _,rfl,((aU HB6).setCell (p:=⟨ab,0,none⟩) hab _).setCell (p:=⟨ab,2,none⟩) hab _⟩
    ·have h8I:((ans.length:Int) == 8)=false:=by rw [beq_eq_false_iff_ne]; omega
     have HR:=aH (one_link (first:=first) (aa:=aa) hu hcut hlk h5 h255 h8)
     obtain ⟨v8,w8,hrun,ho8,hg8,hbk8⟩:=append_q (aU O6) (aU HL6) (fun k hk h=>h) (by omega) (by simp; omega) (fun k hk=>by have:=aU HXL k hk; omega)
     have hna8:some ab≠(Value.slice aa' ans.length ac).ownBlock:=fun e=>by have:=((aU HO).lt ab e.symm).1; omega
     have hnl8:some gl≠(Value.slice aa' ans.length ac).ownBlock:=fun e=>by have:=((aU HO).lt gl e.symm).2; omega
     have hnw8:some gw≠(Value.slice aa' ans.length ac).ownBlock:=fun e=>hxw (.inl (.inr e))
     have hgwa:gw≠ab:=fun e=>hxw (.inl (.inl (by rw [e]; exact aU HXA)))
     have hgla:gl≠ab:=by omega
     have hgl6':=(hbl6 gl rfl).2
     have S8:=(aU HS6).kept (hg8.block ab (by omega) hna8)
     have l48:=(World.cell?_of_block (a:=⟨gl,4,none⟩) (hg8.block gl hgl6' hnl8)).trans l4
     have w80:=(World.cell?_of_block (a:=⟨gw,ow,none⟩) (hg8.block gw hgw hnw8)).trans w60
     have hsz8:=hg8.size
     have HB8:Hid (Below w0.heap.size w0 w8):=(aU HB6).trans ⟨hg8.os,hg8.tape,hg8.output,hg8.size,fun k hk=>hg8.block k (by have:=(aU HB6).size; omega) (fun e=>by have:=((aU HO).lt k e.symm).1; omega)⟩
     have HO8:=aH ho8
     obtain ⟨a8,c8,hv8⟩:=ho8.slice
     rw [List.length_append,List.length_map,List.length_singleton] at hv8
     subst hv8
     obtain ⟨y0,y1,y2,y3,y4⟩:=S8.cells
     have yf:=S8.frozen
     have HRUN:=aH hrun
     have S9:=S8.set2 (.slice a8 (ans.length+1) c8)
     have O9:=aH (ho8.set (a:=⟨ab,2,none⟩) (.slice a8 (ans.length+1) c8) (aU HXA) (by show ab<ab+1; omega))
     have HB9:=aH ((aU HB8).setCell (p:=⟨ab,2,none⟩) hab (.slice a8 (ans.length+1) c8))
     have l49:(w8.setCell ⟨ab,2,none⟩ (.slice a8 (ans.length+1) c8)).cell? ⟨gl,4,none⟩=_:=(World.cell?_of_block (a:=⟨gl,4,none⟩) (Below.heap_setCell _ _ _ _ hgla)).trans l48
     have w90:(w8.setCell ⟨ab,2,none⟩ (.slice a8 (ans.length+1) c8)).cell? ⟨gw,ow,none⟩=_:=(World.cell?_of_block (a:=⟨gw,ow,none⟩) (Below.heap_setCell _ _ _ _ hgwa)).trans w80
     have hs9:(w8.setCell ⟨ab,2,none⟩ (.slice a8 (ans.length+1) c8)).heap.size=w8.heap.size:=by simp [World.setCell]
     have HS9:=aH S9
     have hdl:=(plain_nel hpl).2
     have HRN:=aH (fun W=>readName_any r.data false W (by omega))
     have hbk9:=aH (ho8.lt)
     clear S8 S9 ho8 hrun HL6 hbl6 hg8 hbk8 l4 w60
     go_wp2_with (at_builtin; go_loud (refine wpL_append (by rfl) (.tmp 98) (.tmp 99) 115 (by rfl) _ _ _ _ (by rfl) (by rfl) (aU HRUN) ?_))
     refine (aU HRN _).mono ?_
     rintro e w10 ⟨⟨v10,rfl,hv10⟩,hb10⟩
     have hs10:=hb10.size
     have hnm:nmR false r.data=some (Sp.spl 46 r.data):=by
      have:=nmF r.data
      rw [hpl] at this
      unfold nmR at this ⊢
      split at this
      ·rename_i h; rw [if_pos h]
      ·cases this
     rw [hnm] at hv10
     obtain ⟨_,g10,c10,rfl,hc10,hg10,ht10⟩:=hv10
     go_wp2_with fail
     go_ret
     rw [aU HR]
     refine ⟨_,_,_,rfl,(aU HS9).kept (hb10.block ab (by omega)),(aU O9).below hb10,OwnQ.nil _ _ _,⟨rfl,g10,c10,rfl,hc10,ht10,?_⟩,(aU HB9).trans (hb10.mono (aU HB9).size)⟩
     rintro (h | h)
     ·exact aU HXN g10 (by omega) (by omega) h
     ·have:=(aU hbk9 g10 h.symm).2; omega
  ·have hcn:(cutP o (sortL rs) n).length≠0:=by rw [hcut]; intro h; exact hcne (List.eq_nil_of_length_eq_zero h)
   have HR:=aH (one_cut (t:=t) (first:=first) (aa:=aa) (ans:=ans) hu hcn)
   have hown:(ownT rs (endN n i) 2).map (setOwner (endN n i))=cutP o (sortL rs) n:=by rw [own_id,own_two,hcut]
   have HST:Hid (∀ x:Bool,Calls Tryz.prog 237 #[.pointer (some ⟨zb,0,none⟩),.slice (some ⟨gn,no+i,none⟩) (N - i) (nc - i),.int .i64 2,.slice (some ⟨gn,no+i,none⟩) (N - i) (nc - i)] (w2.setCell ⟨ab,1,none⟩ (.bool x)) fun e w'=>(∃ v,e=.returned v∧OwnQ X w' (ab+1) v (cutP o (sortL rs) n))∧Below (w2.setCell ⟨ab,1,none⟩ (.bool x)).heap.size (w2.setCell ⟨ab,1,none⟩ (.bool x)) w'):=fun x=>by
    have hs3:(w2.setCell ⟨ab,1,none⟩ (.bool x)).heap.size=w2.heap.size:=by simp [World.setCell]
    have hN3:=(aU HN2).fr (p:=fun k=>k≠ab) (Fr.of_set (a:=⟨ab,1,none⟩) (.bool x) (fun _ h=>h)) hna
    have hlt:i<(Sp.spl 46 n).length:=by omega
    have hv:=nm_drop hN3 (cap:=nc) (by omega) i (by omega)
    rw [← spl_endN hlt,hNS] at hv
    have hdr:(Sp.spl 46 (endN n i)).length=N - i:=by rw [spl_endN hlt,List.length_drop,hNS]
    rw [← hown]
    refine set_q (aU HZZ) (aU HOK) (aU HZB _ ((aU HB2).setCell (p:=⟨ab,1,none⟩) hab _)) (aU HXZ) (by omega) (endN n i) (endN n i) _ _ 2 hv (by omega) ⟨gn,no+i,nc - i,by rw [hdr],by omega,?_,aU HNX⟩
    obtain ⟨g',o',c',e1,e2,e3⟩:=hv
    obtain ⟨h1,_,_⟩:=Value.slice.inj e1
    cases Option.some.inj h1
    exact e3
   clear HSETQ
   have HCUT:Hid (∀ x:Bool,(aa || !first)=x→∀ (w7:World) (vd:Value),Below (w2.setCell ⟨ab,1,none⟩ (.bool x)).heap.size (w2.setCell ⟨ab,1,none⟩ (.bool x)) w7→OwnQ X w7 (ab+1) vd (cutP o (sortL rs) n)→OneR X w0 (w7.setCell ⟨ab,3,none⟩ vd) ab (oneP o (sortL rs) t first aa ans n) (.returned (.slice none 0 0))∧AsAt w7 ab 0 x (.slice aa' ans.length ac) (.slice none 0 0) (.slice none 0 0)):=fun x hx w7 vd hb7 hd7=>by
    have hs3:(w2.setCell ⟨ab,1,none⟩ (.bool x)).heap.size=w2.heap.size:=by simp [World.setCell]
    have S7:=((aU HS2).set1 x).kept (hb7.block ab (by omega))
    have O7:=((aU O2).set (a:=⟨ab,1,none⟩) (.bool x) (aU HXA) (by show ab<ab+1; omega)).below hb7
    have B3:=(aU HB2).setCell (p:=⟨ab,1,none⟩) hab (.bool x)
    have B7:=B3.trans (hb7.mono B3.size)
    rw [aU HR,hx]
    exact ⟨⟨_,_,_,rfl,S7.set3 _,O7.set _ (aU HXA) (by show ab<ab+1; omega),hd7.set _ (aU HXA) (by show ab<ab+1; omega),rfl,B7.setCell (p:=⟨ab,3,none⟩) hab _⟩,S7⟩
   clear hcut hown hcn
   cases aa with
   | true =>
    go_wp2_with fail
    refine (aU HST true).mono ?_
    rintro e w7 ⟨⟨vd,rfl,hd7⟩,hb7⟩
    obtain ⟨hfin,S7⟩:=aU HCUT true rfl w7 vd hb7 hd7
    have HFIN:=aH hfin
    obtain ⟨da,dc,rfl⟩:=hd7.slice
    obtain ⟨y0,y1,y2,y3,y4⟩:=S7.cells
    have yf:=S7.frozen
    clear S7 hd7 hb7 hfin u0 u1 u2 u3 u4 uf
    go_wp2_with fail
    go_ret
    exact aU HFIN
   | false =>
    obtain ⟨nf,hnf⟩ : ∃ nf:Bool,(!first)=nf:=⟨_,rfl⟩
    have hnf':(false || !first)=nf:=hnf
    go_wp2_with fail
    refine (aU HST nf).mono ?_
    rintro e w7 ⟨⟨vd,rfl,hd7⟩,hb7⟩
    obtain ⟨hfin,S7⟩:=aU HCUT nf hnf' w7 vd hb7 hd7
    have HFIN:=aH hfin
    obtain ⟨da,dc,rfl⟩:=hd7.slice
    obtain ⟨y0,y1,y2,y3,y4⟩:=S7.cells
    have yf:=S7.frozen
    clear S7 hd7 hb7 hfin u0 u1 u2 u3 u4 uf
    go_wp2_with fail
    go_ret
    exact aU HFIN
end Oe
end Go.Proofs.YtkkpahmoljiepaaGreatDoor
