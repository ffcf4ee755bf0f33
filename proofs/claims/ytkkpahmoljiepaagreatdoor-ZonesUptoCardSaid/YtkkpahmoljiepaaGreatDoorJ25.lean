/- The document's answer (beaconref): (*Zone).Ask, (*Zone).Lookup. -/
import Derived.Test.YtkkpahmoljiepaaGreatDoorJ24
import Derived.Test.YtkkpahmoljiepaaGreatDoorJOh
import Derived.Deep.LoopGhost
import Derived.Test.YtkkpahmoljiepaaGreatDoorJ23
set_option linter.unusedSimpArgs false
set_option linter.unusedVariables false
set_option maxRecDepth 1000000
set_option maxHeartbeats 12800000
namespace Go.Proofs.YtkkpahmoljiepaaGreatDoor
open Go.RowKit
open Pu (Str aH aU)
def askP (o:Str) (rs:List Rec) (t:Int) (n:Str):Int×Bool×List Rec×List Rec:=goP o (sortL rs) t 9 true false [] n
def askA (o:Str) (rs:List Rec) (t:Int) (n:Str):List Rec:=(mGo rs (askP o rs t n).2.2.1 ((askP o rs t n).2.2.1++(askP o rs t n).2.2.2)).2
def AskV (Y:Nat→Prop) (w':World) (base:Nat) (v:Value) (q:Int×Bool×List Rec×List Rec) (add:List Rec):Prop :=
 ∃ va vu vd,v=.agg #[.int .i64 q.1,.bool q.2.1,va,vu,vd]∧OwnQ Y w' base va q.2.2.1∧OwnQ Y w' base vu q.2.2.2∧OwnQ Y w' base vd add
namespace Oj
open Ka Ed Ek Em En Ep Ia Sc Sf Si Lg Eu Ex Oa Ob Oc Od Of Oe Og Oh Oi La Lb Es Ev Er Eh Za Ie Ec Ee Eb Re Lc Ke Ln
theorem go_end {o:Str} {L:List Rec} {t:Int} {first aa:Bool} {ans:List Rec} {n:Str} (f:Nat) (h:(oneP o L t first aa ans n).2.2.2.2=none):goP o L t f first aa ans n=((oneP o L t first aa ans n).1,(oneP o L t first aa ans n).2.1,(oneP o L t first aa ans n).2.2.1,(oneP o L t first aa ans n).2.2.2.1):=by
 cases f with
 | zero=>rfl
 | succ f =>
  unfold goP
  generalize oneP o L t first aa ans n=q at h
  obtain ⟨rc,aa',ans',auth,nx⟩:=q
  simp only at h
  subst h
  rfl
theorem go_next {o:Str} {L:List Rec} {t:Int} {first aa:Bool} {ans:List Rec} {n d:Str} (f:Nat) (h:(oneP o L t first aa ans n).2.2.2.2=some d):goP o L t (f+1) first aa ans n=goP o L t f false (oneP o L t first aa ans n).2.1 (oneP o L t first aa ans n).2.2.1 d:=by
 conv=>lhs; unfold goP
 generalize oneP o L t first aa ans n=q at h
 obtain ⟨rc,aa',ans',auth,nx⟩:=q
 simp only at h
 subst h
 rfl
theorem tx_as {w:World} {g off rb:Nat} {ls:List Str} {rc:Int} {aa:Bool} (h:TxAt w g off ls) (hl:0<ls.length) (hr:AsAt w rb rc aa (.slice none 0 0) (.slice none 0 0) (.slice none 0 0)):g≠rb:=by
 rintro rfl
 have h0:=h.2 0 hl
 rw [Nat.add_zero] at h0
 obtain ⟨c0,c1,c2,c3,c4⟩:=hr.cells
 match off,h0 with
 | 0,h0=>rw [c0] at h0; cases h0
 | 1,h0=>rw [c1] at h0; cases h0
 | 2,h0=>rw [c2] at h0; cases h0
 | 3,h0=>rw [c3] at h0; cases h0
 | 4,h0=>rw [c4] at h0; cases h0
 | k+5,h0 =>
  unfold AsAt at hr
  unfold World.cell? at h0
  rw [hr] at h0
  simp at h0
theorem spl_ps (c:UInt8) (s:Str):0<(Sp.spl c s).length:=by
 have:=Sp.spl_ne c s
 cases h:Sp.spl c s with
 | nil=>exact absurd h this
 | cons a t=>simp
theorem own_off {x Y:Nat→Prop} {w:World} {base base' rb:Nat} {v:Value} {l:List Rec} {rc:Int} {aa:Bool} (h:OwnQ x w base v l) (hY : ∀ k,Y k→x k) (hb:base'≤base) (hr:AsAt w rb rc aa (.slice none 0 0) (.slice none 0 0) (.slice none 0 0)):OwnQ (fun k=>k=rb∨Y k) w base' v l:=by
 obtain ⟨xs,h0,h1,h2⟩:=h
 refine ⟨xs,h0,own_base h1 hb,fun y hy=>?_⟩
 obtain ⟨⟨g1,o1,c1,e1,f1,t1,n1⟩,⟨g2,o2,c2,e2,f2,t2,n2⟩⟩:=h2 y hy
 exact ⟨⟨g1,o1,c1,e1,f1,t1,fun hc=>hc.elim (fun hc=>hc.elim (tx_as t1 (spl_ps _ _) hr) (fun hc=>n1 (.inl (hY _ hc)))) (fun hc=>n1 (.inr hc))⟩,⟨g2,o2,c2,e2,f2,t2,fun hc=>hc.elim (fun hc=>hc.elim (tx_as t2 (spl_ps _ _) hr) (fun hc=>n2 (.inl (hY _ hc)))) (fun hc=>n2 (.inr hc))⟩⟩
theorem own_base' {x:Nat→Prop} {w:World} {base base':Nat} {v:Value} {l:List Rec} (h:OwnQ x w base v l) (hb:base'≤base):OwnQ x w base' v l:=by
 obtain ⟨xs,h0,h1,h2⟩:=h
 exact ⟨xs,h0,own_base h1 hb,h2⟩
structure ASt (X:Nat→Prop) (w0 wr:World) (ab:Nat) (o:Str) (rs:List Rec) (t:Int) (RES:Int×Bool×List Rec×List Rec) (first aa:Bool) (ans:List Rec) (n:Str) (va:Value) (g no nc:Nat):Prop where
 an:AsAt wr ab 0 aa va (.slice none 0 0) (.slice none 0 0)
 oq:OwnQ X wr (ab+1) va ans
 tx:TxAt wr g no (Sp.spl 46 n)
 nc:(Sp.spl 46 n).length≤nc
 ga:g≠ab
 gx : ¬ X g
 go:some g≠va.ownBlock
 ne:NeL n
 nl:n.length≤60
 ok : ∀ r∈ans,AnsOk rs r
 eq:goP o (sortL rs) t (9 - ans.length) first aa ans n=RES
 bl:Below w0.heap.size w0 wr
def AFin (X:Nat→Prop) (w0 wr:World) (ab:Nat) (RES:Int×Bool×List Rec×List Rec):Prop:=∃ va vu,AsAt wr ab RES.1 RES.2.1 va vu (.slice none 0 0)∧OwnQ X wr (ab+1) va RES.2.2.1∧OwnQ X wr (ab+1) vu RES.2.2.2∧Below w0.heap.size w0 wr
theorem ask_any (zb gn no nc:Nat) (o n:Str) (rs:List Rec) (t:Int) (Y:Nat→Prop) (wz w:World) (hz:RZone wz zb o rs) (hbz:Below wz.heap.size wz w) (hYz : ∀ k,k<wz.heap.size→¬ Y k) (hYn : ∀ k,w.heap.size≤k→¬ Y k) (hYg : ¬ Y gn) (hok:ZOk o rs) (hn:TxAt w gn no (Sp.spl 46 n)) (hnc:(Sp.spl 46 n).length≤nc) (hne:NeL n) (hnl:n.length≤60) :
  Calls Tryz.prog 121 #[.pointer (some ⟨zb,0,none⟩),.slice (some ⟨gn,no,none⟩) (Sp.spl 46 n).length nc,.int .i64 t] w fun e w'=>(∃ v,e=.returned v∧AskV Y w' w.heap.size v (askP o rs t n) (askA o rs t n))∧Below w.heap.size w w':=by
 obtain ⟨OA,hOA⟩ : ∃ OA:Obj,OA=.cells #[.int .i64 0,.bool false,.slice none 0 0,.slice none 0 0,.slice none 0 0] 123:=⟨_,rfl⟩
 have hb1:Below w.heap.size w (w.alloc OA):=(Below.refl _ _).alloc (Nat.le_refl _) _
 have hs1:(w.alloc OA).heap.size=w.heap.size+1:=World.size_alloc w _
 have hb2:Below (w.alloc OA).heap.size (w.alloc OA) ((w.alloc OA).alloc OA):=(Below.refl _ _).alloc (Nat.le_refl _) _
 have hS0:AsAt ((w.alloc OA).alloc OA) (w.heap.size+1) 0 false (.slice none 0 0) (.slice none 0 0) (.slice none 0 0):=by
  have:=World.alloc_heap_new (w.alloc OA) OA
  rw [hs1] at this
  unfold AsAt
  rw [this,hOA]
 have HZ:=aH hz
 have HBZ:=aH (hbz.trans (hb1.mono hbz.size))
 have hbzs:=hbz.size
 have HOK:=aH hok
 have HR0:Hid ((w.alloc OA).heap[w.heap.size]? = some (.cells #[.int .i64 0,.bool false,.slice none 0 0,.slice none 0 0,.slice none 0 0] 123)):=by
  rw [Hid,World.alloc_heap_new,hOA]
 have HS0:=aH hS0
 have HN0:=aH (((hn.below hb1).below hb2))
 have hgn:=hn.1
 have HNE:=aH hne
 have HB1:=aH hb1
 have HB2:=aH hb2
 obtain ⟨ab,hab⟩ : ∃ ab,w.heap.size+1=ab:=⟨_,rfl⟩
 rw [hab] at HS0 hs1
 have hOK2:=go_ok hok t 9 true false [] n hne hnl (fun r hr=>by cases hr) (Nat.zero_le _)
 have HGO:=aH hOK2
 obtain ⟨X,hX⟩ : ∃ X:Nat→Prop,X=fun k=>k=ab∨Y k:=⟨_,rfl⟩
 have HX:Hid (X ab∧(∀ k,k<wz.heap.size→¬ X k)∧(∀ k,w.heap.size≤k→k≠ab→¬ X k)∧(∀ k,X k→k≤ab)∧(∀ k,Y k→X k)∧(∀ k,k≠ab→¬ Y k→¬ X k)):=by
  subst hX
  refine ⟨.inl rfl,fun k hk hc=>?_,fun k hk hn hc=>?_,fun k hc=>?_,fun k hc=>.inr hc,fun k h1 h2 hc=>hc.elim h1 h2⟩
  ·rcases hc with hc | hc
   ·omega
   ·exact hYz k hk hc
  ·rcases hc with hc | hc
   ·exact hn hc
   ·exact hYn k hk hc
  ·rcases hc with hc | hc
   ·omega
   ·have : ¬ w.heap.size≤k:=fun h=>hYn k h hc
    omega
 have HYG:=aH hYg
 clear hz hok hn hne hb1 hb2 hS0 hOK2 hbz hYz hYn hYg hX
 go_enter Tryz.func121,Tryz.ntmps121
 go_wp2_with fail
 rw [← hOA]
 obtain ⟨w0,hw0⟩ : ∃ w0,w.alloc OA=w0:=⟨_,rfl⟩
 rw [hw0] at HBZ HR0 HS0 HN0 HB1 HB2 hs1 ⊢
 have hb2s:=(aU HB2).size
 obtain ⟨RES,hRES⟩ : ∃ RES,askP o rs t n=RES:=⟨_,rfl⟩
 have HST0:Hid (ASt X w0 (w0.alloc OA) ab o rs t RES true false [] n (.slice none 0 0) gn no nc):=⟨aU HS0,OwnQ.nil _ _ _,aU HN0,hnc,by omega,(aU HX).2.2.2.2.2 gn (by omega) (aU HYG),(fun e=>by cases e),aU HNE,hnl,(fun r hr=>by cases hr),hRES,aU HB2⟩
 have HGO2:Hid ((∀ r∈RES.2.2.1,AnsOk rs r)∧(∀ r∈RES.2.2.2,AnsOk rs r)∧RES.2.2.1.length≤68∧RES.2.2.2.length≤60):=by rw [← hRES]; exact aU HGO
 have HRE:=aH hRES
 clear hRES HGO HS0 HN0 hOA hw0
 go_loopg [1,8] 10 (fun g1 nv fv wr =>
  (∃ (first aa:Bool) (ans:List Rec) (n':Str) (va:Value) (g' no' nc':Nat),nv=.slice (some ⟨g',no',none⟩) (Sp.spl 46 n').length nc'∧fv=.bool first∧g1+ans.length=10∧ans.length≤8∧Hid (ASt X w0 wr ab o rs t RES first aa ans n' va g' no' nc')) ∨
  (nv=.slice none 0 0∧(∃ b:Bool,fv=.bool b)∧Hid (AFin X w0 wr ab RES)))
 case atStart=>exact .inl ⟨true,false,[],n,.slice none 0 0,gn,no,nc,rfl,rfl,rfl,by simp,HST0⟩
 case round =>
  rcases hrel with ⟨first,aa,ans,n',va,g',no',nc',rfl,rfl,hg1,hl8,hst⟩ | ⟨rfl,⟨b,rfl⟩,hfin⟩
  ·have hS:=aU hst
   have HONE:=aH (one_any zb ab g' no' nc' o n' rs ans t first aa va X wz w0 wr (aU HZ) (aU HBZ) (aU HX).1 (aU HX).2.1 (fun k hk hn=>(aU HX).2.2.1 k (by omega) hn) (aU HX).2.2.2.1 (aU HOK) hS.bl (by omega) hS.an hS.oq hl8 hS.tx hS.nc hS.ga hS.gx hS.go hS.ne hS.nl)
   have hstk:=one_ok (aU HOK) hS.ne hS.nl t first aa ans hS.ok
   have HEQ:=aH hS.eq
   obtain ⟨Q,hQ⟩ : ∃ Q,oneP o (sortL rs) t first aa ans n'=Q:=⟨_,rfl⟩
   have HQ:=aH hQ
   rw [hQ] at HONE hstk
   have HSTK:=aH hstk
   clear hst hS hstk hQ
   go_wp2_with fail
   refine (aU HONE).mono ?_
   rintro e w2 ⟨va',vu',v2,rfl,hS2,hA2,hU2,hN2,hB2⟩
   cases hnx:Q.2.2.2.2 with
   | none =>
    rw [hnx] at hN2
    have hN2':v2=.slice none 0 0:=hN2
    subst hN2'
    have HF:Hid (AFin X w0 w2 ab RES):=by
     have he:=aU HEQ
     rw [go_end _ (by rw [aU HQ]; exact hnx),aU HQ] at he
     rw [← he]
     exact ⟨va',vu',hS2,hA2,hU2,hB2⟩
    clear hS2 hA2 hU2 hN2 hB2 HONE
    go_wp2_with fail
    go_roundg 0
    case rel=>exact .inr ⟨rfl,⟨_,rfl⟩,HF⟩
    case measure=>omega
   | some d =>
    obtain ⟨hp,h0,hu0,hln,hn8⟩:=(aU HSTK).nxt d hnx
    rw [hnx] at hN2
    obtain ⟨hU0,g3,c3,rfl,hc3,ht3,hx3⟩:=hN2
    subst hU0
    rw [h0] at hS2
    have HST:Hid (ASt X w0 w2 ab o rs t RES false Q.2.1 Q.2.2.1 d va' g3 0 c3):=by
     refine ⟨hS2,hA2,ht3,hc3,fun e=>hx3 (.inl (by rw [e]; exact (aU HX).1)),fun e=>hx3 (.inl e),fun e=>hx3 (.inr e),(plain_nel hp).1,(plain_nel hp).2,(aU HSTK).ans',?_,hB2⟩
     have he:=aU HEQ
     rw [show 9 - ans.length=(9 - Q.2.2.1.length)+1 by omega,go_next _ (by rw [aU HQ]; exact hnx),aU HQ] at he
     exact he
    clear hS2 hA2 hU2 hB2 HONE hp ht3
    go_wp2_with fail
    go_roundg (10 - (ans.length+1))
    case rel=>exact .inl ⟨_,_,_,_,_,_,_,_,rfl,rfl,by omega,by omega,HST⟩
    case measure=>omega
  ·obtain ⟨va,vu,hS,hA,hU,hB⟩:=aU hfin
   obtain ⟨ok1,ok2,ln1,ln2⟩:=aU HGO2
   have HMO:=aH (more_any zb ab o rs RES.2.2.1 RES.2.2.2 RES.1 RES.2.1 va vu X wz wr (aU HX).1 (aU HX).2.1 (fun k hk=>(aU HX).2.2.1 k (by have:=hB.size; omega) (by have:=hS.lt; omega)) (aU HX).2.2.2.1 (aU HZ) (aU HOK) ((aU HBZ).trans (hB.mono (aU HBZ).size)) (by omega) hS hA hU (by omega) (by omega) (fun r hr hn=>ans_named (aU HOK) (by rcases List.mem_append.1 hr with h | h; exact ok1 r h; exact ok2 r h) hn) (fun r hr=>by have:=(ok1 r hr).own; omega))
   have HA:=aH hA
   have HU:=aH hU
   have HB:=aH hB
   clear hfin hS hA hU hB ok1 ok2
   go_wp2_with fail
   refine (aU HMO).mono ?_
   rintro e w3 ⟨rfl,vd,vs,hM⟩
   have hB3:=hM.zone (aU HB) (by omega)
   have hA3:=hM.own (aU HA)
   have hU3:=hM.own (aU HU)
   have hR3:AsAt w3 w.heap.size 0 false (.slice none 0 0) (.slice none 0 0) (.slice none 0 0):=(hB3.block w.heap.size (by omega)).trans (aU HR0)
   have HQA:=aH (own_off hA3 (aU HX).2.2.2.2.1 (base':=w.heap.size+1) (by omega) hR3)
   have HQU:=aH (own_off hU3 (aU HX).2.2.2.2.1 (base':=w.heap.size+1) (by omega) hR3)
   have HQD:=aH (own_off hM.ad (fun k hk=>.inl ((aU HX).2.2.2.2.1 k hk)) (base':=w.heap.size+1) (by have:=(aU HB).size; omega) hR3)
   have HB3:=aH hB3
   obtain ⟨a1,c1,rfl⟩:=hA3.slice
   obtain ⟨a2,c2,rfl⟩:=hU3.slice
   obtain ⟨a3,c3,rfl⟩:=hM.ad.slice
   obtain ⟨y0,y1,y2,y3,y4⟩:=hM.an.cells
   obtain ⟨z0,z1,z2,z3,z4⟩:=hR3.cells
   have zf:=hR3.frozen
   have HR3:=aH hR3
   have HRE2:Hid (askP o rs t n=RES∧askA o rs t n=(mGo rs RES.2.2.1 (RES.2.2.1++RES.2.2.2)).2):=⟨aU HRE,by unfold askA; rw [aU HRE]⟩
   generalize (mGo rs RES.2.2.1 (RES.2.2.1++RES.2.2.2)).2=AD at *
   obtain ⟨rc,aa,ans,auth⟩:=RES
   simp only at *
   clear hM hB3 hA3 hU3 hR3 HMO
   go_wp2_with fail
   have A9:=((((((aU HR3).set0 rc).set1 aa).set2 (.slice a1 ans.length c1)).set3 (.slice a2 auth.length c2)).set4 (.slice a3 AD.length c3))
   obtain ⟨n0,n1,n2,n3,n4⟩:=A9.cells
   refine bodyPost_ret (v:=.agg #[.int .i64 rc,.bool aa,.slice a1 ans.length c1,.slice a2 auth.length c2,.slice a3 AD.length c3]) ?_ rfl ?_
   ·simp [results,Tryz.results121,go_sem,n0,n1,n2,n3,n4]
   ·rw [(aU HRE2).1,(aU HRE2).2]
    have hset : ∀ {v:Value} {l:List Rec} {W:World} (i:Nat) (u:Value),OwnQ (fun k=>k=w.heap.size∨Y k) W (w.heap.size+1) v l→OwnQ (fun k=>k=w.heap.size∨Y k) (W.setCell ⟨w.heap.size,i,none⟩ u) (w.heap.size+1) v l:=fun i u h=>h.set (a:=⟨w.heap.size,i,none⟩) u (.inl rfl) (by show w.heap.size<_; omega)
    have hfin : ∀ {v:Value} {l:List Rec} {W:World},OwnQ (fun k=>k=w.heap.size∨Y k) W (w.heap.size+1) v l→OwnQ Y W w.heap.size v l:=fun h=>own_base' (h.imp (y:=Y) (fun _ _ hn _ hc=>hn (.inr hc))) (by omega)
    refine ⟨⟨_,rfl,_,_,_,rfl,hfin (hset 4 _ (hset 3 _ (hset 2 _ (hset 1 _ (hset 0 _ (aU HQA)))))),hfin (hset 4 _ (hset 3 _ (hset 2 _ (hset 1 _ (hset 0 _ (aU HQU)))))),hfin (hset 4 _ (hset 3 _ (hset 2 _ (hset 1 _ (hset 0 _ (aU HQD)))))) ⟩,?_⟩
    have hB:=(aU HB1).trans ((aU HB3).mono (by omega))
    exact ((((hB.setCell (p:=⟨w.heap.size,0,none⟩) (Nat.le_refl _) _).setCell (p:=⟨w.heap.size,1,none⟩) (Nat.le_refl _) _).setCell (p:=⟨w.heap.size,2,none⟩) (Nat.le_refl _) _).setCell (p:=⟨w.heap.size,3,none⟩) (Nat.le_refl _) _).setCell (p:=⟨w.heap.size,4,none⟩) (Nat.le_refl _) _
end Oj
def askB (n:Str) (t:Int):Bool:=Sp.plain n && decide (1≤t) && decide (t≤65535)
def LookV (Y:Nat→Prop) (o:Str) (rs:List Rec) (n:Str) (t:Int) (w':World) (base:Nat) (e:Ending):Prop :=
 if askB n t then ∃ v,e=.returned (.tuple #[v,.int .i64 0])∧AskV Y w' base v (askP o rs t n) (askA o rs t n)
 else e=.returned (.tuple #[.agg #[.int .i64 0,.bool false,.slice none 0 0,.slice none 0 0,.slice none 0 0],.int .i64 2])
namespace On
open Ka Ed Ek Em En Ep Ia Sc Sf Si Lg Eu Ex Oa Ob Oc Od Of Oe Og Oh Oi Oj La Lb Es Ev Er Eh Za Ie Ec Ee Eb Re Lc Ke Ln
theorem eql_nil (a:Option Addr) (l c:Nat) (w:World):(binOp .eql 113 (.slice a l c) (.slice none 0 0)).run Tryz.prog w=.ok (.bool a.isNone) w:=Lib.run_eql_slice_nil w _ _ a l c 0 0 Ev.underN
attribute [local go_sem] eql_nil
theorem lookup_r (zb:Nat) (o n:Str) (rs:List Rec) (t:Int) (Y:Nat→Prop) (wz w:World) (hz:RZone wz zb o rs) (hbz:Below wz.heap.size wz w) (hYz : ∀ k,k<wz.heap.size→¬ Y k) (hYn : ∀ k,w.heap.size≤k→¬ Y k) (hok:ZOk o rs) (hnl:n.length≤2000000) :
  Calls Tryz.prog 66 #[.pointer (some ⟨zb,0,none⟩),.string (B n),.int .i64 t] w fun e w'=>LookV Y o rs n t w' w.heap.size e∧Below w.heap.size w w':=by
 obtain ⟨OA,hOA⟩ : ∃ OA:Obj,OA=.cells #[.int .i64 0,.bool false,.slice none 0 0,.slice none 0 0,.slice none 0 0] 123:=⟨_,rfl⟩
 have hb1:Below w.heap.size w (w.alloc OA):=(Below.refl _ _).alloc (Nat.le_refl _) _
 have hs1:(w.alloc OA).heap.size=w.heap.size+1:=World.size_alloc w _
 have hR0:AsAt (w.alloc OA) w.heap.size 0 false (.slice none 0 0) (.slice none 0 0) (.slice none 0 0):=by
  unfold AsAt
  rw [World.alloc_heap_new,hOA]
 have HZ:=aH hz
 have HBZ:=aH (hbz.trans (hb1.mono hbz.size))
 have HYZ:=aH hYz
 have HYN:=aH hYn
 have HOK:=aH hok
 have HR0:=aH hR0
 have HB1:=aH hb1
 have HRN:=aH (readName_any n false (w.alloc OA) hnl)
 clear hz hok hb1 hR0 hbz hYz hYn
 go_enter Tryz.func66,Tryz.ntmps66
 go_wp2_with fail
 rw [← hOA]
 refine (aU HRN).mono ?_
 rintro e w2 ⟨⟨v2,rfl,hv2⟩,hb2⟩
 have hs2:=hb2.size
 have HB2:=aH ((aU HB1).trans (hb2.mono (by omega)))
 have hR2:=(aU HR0).kept (hb2.block w.heap.size (by omega))
 have HR2:=aH hR2
 obtain ⟨z0,z1,z2,z3,z4⟩:=hR2.cells
 have zf:=hR2.frozen
 have HBZ2:=aH ((aU HBZ).trans (hb2.mono (aU HBZ).size))
 clear hR2 hb2 HRN hOA
 have hbad:Hid (∀ b,askB n t=b→b=false→∀ e,e=Ending.returned (.tuple #[.agg #[.int .i64 0,.bool false,.slice none 0 0,.slice none 0 0,.slice none 0 0],.int .i64 2])→LookV Y o rs n t (((((w2.setCell ⟨w.heap.size,0,none⟩ (.int .i64 0)).setCell ⟨w.heap.size,1,none⟩ (.bool false)).setCell ⟨w.heap.size,2,none⟩ (.slice none 0 0)).setCell ⟨w.heap.size,3,none⟩ (.slice none 0 0)).setCell ⟨w.heap.size,4,none⟩ (.slice none 0 0)) w.heap.size e):=fun b hb hf e he=>by
  unfold LookV
  rw [hb,hf]
  exact he
 have hBB:Hid (Below w.heap.size w (((((w2.setCell ⟨w.heap.size,0,none⟩ (.int .i64 0)).setCell ⟨w.heap.size,1,none⟩ (.bool false)).setCell ⟨w.heap.size,2,none⟩ (.slice none 0 0)).setCell ⟨w.heap.size,3,none⟩ (.slice none 0 0)).setCell ⟨w.heap.size,4,none⟩ (.slice none 0 0))):=(((((aU HB2).setCell (p:=⟨w.heap.size,0,none⟩) (Nat.le_refl _) _).setCell (p:=⟨w.heap.size,1,none⟩) (Nat.le_refl _) _).setCell (p:=⟨w.heap.size,2,none⟩) (Nat.le_refl _) _).setCell (p:=⟨w.heap.size,3,none⟩) (Nat.le_refl _) _).setCell (p:=⟨w.heap.size,4,none⟩) (Nat.le_refl _) _
 have A9:=((((((aU HR2).set0 0).set1 false).set2 (.slice none 0 0)).set3 (.slice none 0 0)).set4 (.slice none 0 0))
 have HA9:=aH A9
 clear A9
 cases ho:nmR false n with
 | none =>
  rw [ho] at hv2
  have hv2':v2=.slice none 0 0:=hv2
  subst hv2'
  have HF:Hid (askB n t=false):=by
   have:Sp.plain n=false:=by rw [← nmF,ho]; rfl
   unfold Hid askB
   rw [this]; rfl
  clear hv2 ho
  go_wp2_with fail
  obtain ⟨n0,n1,n2,n3,n4⟩:=(aU HA9).cells
  refine bodyPost_ret (v:=.tuple #[.agg #[.int .i64 0,.bool false,.slice none 0 0,.slice none 0 0,.slice none 0 0],.int .i64 2]) ?_ rfl ⟨aU hbad _ (aU HF) rfl _ rfl,aU hBB⟩
  simp [results,Tryz.results66,go_sem,n0,n1,n2,n3,n4]
 | some l =>
  rw [ho] at hv2
  have hl:l=Sp.spl 46 n:=by
   unfold nmR at ho
   split at ho
   ·exact (Option.some.inj ho).symm
   ·cases ho
  subst hl
  have hpl:Sp.plain n=true:=by rw [← nmF,ho]; rfl
  obtain ⟨_,g2,c2,rfl,hc2,hg2,ht2⟩:=hv2
  have HT2:=aH ht2
  have HPL:=aH hpl
  clear ht2 ho
  by_cases h1:t<1
  ·have HF:Hid (askB n t=false):=by
    unfold Hid askB
    rw [hpl,decide_eq_false (by omega)]; rfl
   clear hpl
   go_wp2_with fail
   obtain ⟨n0,n1,n2,n3,n4⟩:=(aU HA9).cells
   refine bodyPost_ret (v:=.tuple #[.agg #[.int .i64 0,.bool false,.slice none 0 0,.slice none 0 0,.slice none 0 0],.int .i64 2]) ?_ rfl ⟨aU hbad _ (aU HF) rfl _ rfl,aU hBB⟩
   simp [results,Tryz.results66,go_sem,n0,n1,n2,n3,n4]
  by_cases h2:65535<t
  ·have HF:Hid (askB n t=false):=by
    unfold Hid askB
    rw [hpl,decide_eq_true (by omega),decide_eq_false (by omega)]; rfl
   clear hpl
   go_wp2_with fail
   obtain ⟨n0,n1,n2,n3,n4⟩:=(aU HA9).cells
   refine bodyPost_ret (v:=.tuple #[.agg #[.int .i64 0,.bool false,.slice none 0 0,.slice none 0 0,.slice none 0 0],.int .i64 2]) ?_ rfl ⟨aU hbad _ (aU HF) rfl _ rfl,aU hBB⟩
   simp [results,Tryz.results66,go_sem,n0,n1,n2,n3,n4]
  have HF:Hid (askB n t=true):=by
   unfold Hid askB
   rw [hpl,decide_eq_true (by omega),decide_eq_true (by omega)]; rfl
  have HAK:=aH (ask_any zb g2 0 c2 o n rs t Y wz w2 (aU HZ) (aU HBZ2) (aU HYZ) (fun k hk=>aU HYN k (by omega)) (aU HYN g2 (by omega)) (aU HOK) (aU HT2) hc2 (plain_nel hpl).1 (plain_nel hpl).2)
  obtain ⟨AD,hAD⟩ : ∃ AD,askA o rs t n=AD:=⟨_,rfl⟩
  obtain ⟨RES,hRES⟩ : ∃ RES,askP o rs t n=RES:=⟨_,rfl⟩
  rw [hAD,hRES] at HAK
  have HE:=aH (And.intro hRES hAD)
  obtain ⟨rc,aa,ans,auth⟩:=RES
  clear hpl hAD hRES
  go_wp2_with fail
  refine (aU HAK).mono ?_
  rintro e w3 ⟨⟨v3,rfl,hv3⟩,hb3⟩
  obtain ⟨va,vu,vd,rfl,hA,hU,hD⟩:=hv3
  have hs3:=hb3.size
  have hR3:=(aU HR2).kept (hb3.block w.heap.size (by omega))
  have HR3:=aH hR3
  have HB3:=aH ((aU HB2).trans (hb3.mono (aU HB2).size))
  have HQA:=aH (own_off hA (fun _ h=>h) (base':=w.heap.size+1) (by omega) hR3)
  have HQU:=aH (own_off hU (fun _ h=>h) (base':=w.heap.size+1) (by omega) hR3)
  have HQD:=aH (own_off hD (fun _ h=>h) (base':=w.heap.size+1) (by omega) hR3)
  obtain ⟨a1,c1,rfl⟩:=hA.slice
  obtain ⟨a2,cc2,rfl⟩:=hU.slice
  obtain ⟨a3,c3,rfl⟩:=hD.slice
  obtain ⟨y0,y1,y2,y3,y4⟩:=hR3.cells
  have yf:=hR3.frozen
  clear hA hU hD hb3 hR3 HAK z0 z1 z2 z3 z4 zf
  go_wp2_with fail
  have A8:=((((((aU HR3).set0 rc).set1 aa).set2 (.slice a1 ans.length c1)).set3 (.slice a2 auth.length cc2)).set4 (.slice a3 AD.length c3))
  obtain ⟨n0,n1,n2,n3,n4⟩:=A8.cells
  have hset : ∀ {v:Value} {l:List Rec} {W:World} (i:Nat) (u:Value),OwnQ (fun k=>k=w.heap.size∨Y k) W (w.heap.size+1) v l→OwnQ (fun k=>k=w.heap.size∨Y k) (W.setCell ⟨w.heap.size,i,none⟩ u) (w.heap.size+1) v l:=fun i u h=>h.set (a:=⟨w.heap.size,i,none⟩) u (.inl rfl) (by show w.heap.size<_; omega)
  have hfin : ∀ {v:Value} {l:List Rec} {W:World},OwnQ (fun k=>k=w.heap.size∨Y k) W (w.heap.size+1) v l→OwnQ Y W w.heap.size v l:=fun h=>own_base' (h.imp (y:=Y) (fun _ _ hn _ hc=>hn (.inr hc))) (by omega)
  refine bodyPost_ret (v:=.tuple #[.agg #[.int .i64 rc,.bool aa,.slice a1 ans.length c1,.slice a2 auth.length cc2,.slice a3 AD.length c3],.int .i64 0]) ?_ rfl ⟨?_,?_⟩
  ·simp [results,Tryz.results66,go_sem,n0,n1,n2,n3,n4]
  ·unfold LookV
   rw [aU HF,(aU HE).1,(aU HE).2]
   exact ⟨_,rfl,_,_,_,rfl,hfin (hset 4 _ (hset 3 _ (hset 2 _ (hset 1 _ (hset 0 _ (aU HQA)))))),hfin (hset 4 _ (hset 3 _ (hset 2 _ (hset 1 _ (hset 0 _ (aU HQU)))))),hfin (hset 4 _ (hset 3 _ (hset 2 _ (hset 1 _ (hset 0 _ (aU HQD))))))⟩
  ·have hB:=aU HB3
   exact ((((hB.setCell (p:=⟨w.heap.size,0,none⟩) (Nat.le_refl _) _).setCell (p:=⟨w.heap.size,1,none⟩) (Nat.le_refl _) _).setCell (p:=⟨w.heap.size,2,none⟩) (Nat.le_refl _) _).setCell (p:=⟨w.heap.size,3,none⟩) (Nat.le_refl _) _).setCell (p:=⟨w.heap.size,4,none⟩) (Nat.le_refl _) _
end On
end Go.Proofs.YtkkpahmoljiepaaGreatDoor

set_option maxRecDepth 1000000
set_option maxHeartbeats 12800000
namespace Go.Proofs.YtkkpahmoljiepaaGreatDoor
open Go.RowKit
open Pu (Str aH aU)
def PAns (w':World) (base:Nat) (v:Value) (q:Int×Bool×List Rec×List Rec) (add:List Rec):Prop :=
 ∃ va vb vd,v=.agg #[.int .i64 q.1,.bool q.2.1,va,vb,vd]∧OwnR w' base va q.2.2.1∧OwnR w' base vb q.2.2.2∧OwnR w' base vd add∧Apart va vb∧Apart va vd∧Apart vb vd
def PLook (o:Str) (rs:List Rec) (n:Str) (t:Int) (w':World) (base:Nat) (e:Ending):Prop :=
 if askB n t then ∃ v,e=.returned (.tuple #[v,.int .i64 0])∧PAns w' base v (askP o rs t n) (askA o rs t n)
 else e=.returned (.tuple #[.agg #[.int .i64 0,.bool false,.slice none 0 0,.slice none 0 0,.slice none 0 0],.int .i64 2])
namespace Lv
open Ka Kd Rf Rg Ia Iow Ie Zb Zc Za La Lb Re Lc Le Lf Lg Lh Li Ld Lj Lm Ln Lo Lp Ls Lq Lr Lt Lu Oa Ob Oc Oe Of Og Oi Oj
theorem apart_nil (u:Value):Apart (.slice none 0 0) u:=fun g hg=>by cases hg
section
variable {o:Str} {rs:List Rec} (hz:ZOk o rs)
include hz
theorem zfitP:Fit o (sortL rs):=by
 have hl:=(En.sort_perm rs).length_eq
 refine ⟨by rw [hl]; have:=zlen hz; omega,by have:=(plain_nel hz.org).2; omega,fun r hr=>?_⟩
 have hm:=(En.sort_perm rs).mem_iff.1 hr
 exact ⟨by have:=(valid_nel (hz.recs r hm).val).2; omega,(hz.recs r hm).len⟩
theorem zsoa : ∀ r∈setP (ofP (sortL rs) o) 6,soaOk r∧r.data.length≤3000∧r.ttl≤1000000000:=by
 obtain ⟨_,_,_,_,_,_,_,_,h⟩:=deny_two hz
 exact h
theorem mlen {n:Str} (hn:NeL n):(matchP (sortL rs) n).1.length≤3001:=by
 have h:=match_take hz hn 255
 have e:takeP 255 (matchP (sortL rs) n).1=(matchP (sortL rs) n).1:=by
  have hcat:=runs_cat aD (matchP (sortL rs) n).1.length 0 (matchP (sortL rs) n).1 (Nat.le_refl _)
  unfold takeP takeL
  rw [List.filter_eq_self.2 (fun x _=>by unfold takes; simp)]
  exact hcat
 rw [e] at h
 rcases h with h | ⟨s,h⟩
 ·rw [h]; simp
 ·rw [h,List.length_map]
  have:=ownT_len hz s 255
  omega
theorem fol_z (zb b off cap:Nat) (t:Int) {n:Str} (hn:NeL n) (hl:n.length≤60):Fol (resP o (sortL rs) t n) zb b off cap t o n (sortL rs):=by
 intro sb cb c au W hs htab hg hzs hbs h0 hc hne hcb hcs base hba
 by_cases ht:t=5∨t=255
 ·have hr:resP o (sortL rs) t n=some (stepRc o (sortL rs) n,aQ o (sortL rs) t n,aP o (sortL rs) t n):=by unfold resP; rw [if_pos ht]
  refine (follow_kind sb zb cb c b off cap t au _ _ _ o n (sortL rs) W hs rfl rfl htab hg hzs hbs h0 hc ⟨zfitP hz,by omega,zsoa hz,ht,mlen hz hn⟩).mono ?_
  rintro e w' ⟨rfl,⟨va',vb',h1,h2,h3,h4⟩,h5⟩
  exact .inr ⟨_,_,_,va',vb',hr,rfl,h1,h2,h3,h4,h5⟩
 ·have hr:resP o (sortL rs) t n=(chase o (sortL rs) 8 n).map (fun x=>(finRc o (sortL rs) x.2,x.1++finAns o (sortL rs) t x.2,finAuth o (sortL rs) t x.2)):=by unfold resP; rw [if_neg ht]
  refine (follow_any2 (fun m=>NeL m∧m.length≤60) sb zb cb c b off cap base t au _ o n (sortL rs) W hs htab hg hzs hbs h0 hc hne hcb hcs hba (by omega) ⟨hn,hl⟩ ⟨zfitP hz,zsoa hz,by simpa using fun h=>ht (.inl h),by simpa using fun h=>ht (.inr h),fun m hm=>mlen hz hm.1,fun m r hm hlk=>?_⟩).mono ?_
  ·obtain ⟨_,_,_,_,hp⟩:=link_data hz hm.1 hlk
   have:=plain_nel hp
   exact ⟨by omega,this⟩
  ·rintro e w' (⟨h1,rfl,h2⟩ | ⟨ls,fin,h1,_,rfl,⟨va',vb',k1,k2,k3,k4⟩,h2⟩)
   ·exact .inl ⟨by rw [hr,h1]; rfl,rfl,h2⟩
   ·exact .inr ⟨_,_,_,va',vb',by rw [hr,h1]; rfl,rfl,k1,k2,k3,k4,h2⟩
theorem res_len (t:Int) {n:Str} (hn:NeL n) (hl:n.length≤60) (hu:Sp.under n o=true) : ∀ rc ans auth,resP o (sortL rs) t n=some (rc,ans,auth)→ans.length≤500∧auth.length≤500∧∀ r∈ans++auth,r.data.length≤3000:=by
 intro rc ans auth h
 have hg:=go_ok hz t 9 true false [] n hn hl (fun r hr=>by cases hr) (Nat.zero_le _)
 rw [ask_res hu,h] at hg
 obtain ⟨h1,h2,h3,h4⟩:=hg
 refine ⟨by simp only at h3; omega,by simp only at h4; omega,fun r hr=>?_⟩
 have hok:AnsOk rs r:=by
  rcases List.mem_append.1 hr with h | h
  ·exact h1 r h
  ·exact h2 r h
 obtain ⟨r0,hm,_,hd⟩:=hok.dat
 rw [hd]
 exact (hz.recs r0 hm).len
theorem ans_pans {n:Str} (hn:NeL n) (t:Int) (hu:Sp.under n o=true) {w':World} {base:Nat} {v:Value} (h:AnsV (resP o (sortL rs) t n) o n (sortL rs) w' base v):PAns w' base v (askP o rs t n) (askA o rs t n):=by
 have he:askP o rs t n=_:=ask_res hu
 rcases h with ⟨h1,rfl⟩ | ⟨rc,ans,auth,va,vb,vd,h1,rfl,k1,k2,k3,k4,k5,k6⟩
 ·rw [h1] at he
  unfold askA
  rw [he]
  exact ⟨_,_,_,rfl,World.ownsRow_nil _ _ _ _,World.ownsRow_nil _ _ _ _,World.ownsRow_nil _ _ _ _,apart_nil _,apart_nil _,apart_nil _⟩
 ·rw [h1] at he
  unfold askA
  rw [he]
  have ha:=add_eq (res_all hz hn t _ h1) (ans++auth)
  refine ⟨va,vb,vd,rfl,k1,k2,?_,k4,k5,k6⟩
  show OwnR w' base vd (mGo rs ans (ans++auth)).2
  rw [← ha]
  exact k3
end
theorem answer_no (zb b off cap:Nat) (k:Int) (o n:Str) (rs:List Rec) (w:World) (hz:aN w zb o b off cap rs) (hnl:n.length≤2900) (hol:o.length≤2900) (hu:Sp.under n o=false) :
  Calls Tryz.prog 69 #[.pointer (some ⟨zb,0,none⟩),.string (B n),.int .i64 k] w fun e w'=>e=.returned (.agg #[.int .i64 5,.bool false,.slice none 0 0,.slice none 0 0,.slice none 0 0])∧Below w.heap.size w w':=by
 have hz0:=hz.2.1
 have hzb:=hz.1
 have hbx:Below w.heap.size w (w.alloc (.cells #[.int .i64 0,.bool false,.slice none 0 0,.slice none 0 0,.slice none 0 0] 43)):=(Below.refl _ _).alloc (Nat.le_refl _) _
 have HU:Hid (∀ W,Calls Tryz.prog 110 #[.string (B n),.string (B o)] W fun e w'=>e=.returned (.bool false)∧w'=W):=fun W=>by
  have:=Kd.under_any (B n) (B o) W (by rw [size_B]; omega) (by rw [size_B]; omega)
  rw [data_B,data_B,hu] at this
  exact this
 clear hz hu
 go_enter Tryz.func69,Tryz.ntmps69
 go_wp2_with fail
 refine (aU HU _).mono ?_
 rintro e w1 ⟨rfl,hw1⟩
 have hb1:Below w.heap.size w w1:=by rw [hw1]; exact hbx
 have r1:aL w1 w.heap.size (.int .i64 0) (.bool false) (.slice none 0 0) (.slice none 0 0) (.slice none 0 0):=by rw [hw1]; exact heap_alloc_new w _
 obtain ⟨k0,k1,k2,k3,k4⟩:=aL.cells r1
 have kf:=aL.frozen r1
 have A9:=((((aL.set0 r1 (.int .i64 5)).set1 (.bool false)).set2 (.slice none 0 0)).set3 (.slice none 0 0)).set4 (.slice none 0 0)
 obtain ⟨n0,n1,n2,n3,n4⟩:=A9.cells
 have HN:=aH (And.intro n0 (And.intro n1 (And.intro n2 (And.intro n3 n4))))
 clear hw1 hbx HU r1 A9 n0 n1 n2 n3 n4
 go_wp2_with fail
 obtain ⟨n0,n1,n2,n3,n4⟩:=aU HN
 refine bodyPost_ret (v:=.agg #[.int .i64 5,.bool false,.slice none 0 0,.slice none 0 0,.slice none 0 0]) ?_ rfl ⟨rfl,((((hb1.setCell (p:=⟨w.heap.size,0,none⟩) (Nat.le_refl _) _).setCell (p:=⟨w.heap.size,1,none⟩) (Nat.le_refl _) _).setCell (p:=⟨w.heap.size,2,none⟩) (Nat.le_refl _) _).setCell (p:=⟨w.heap.size,3,none⟩) (Nat.le_refl _) _).setCell (p:=⟨w.heap.size,4,none⟩) (Nat.le_refl _) _⟩
 simp [results,Tryz.results69,go_sem,n0,n1,n2,n3,n4]
theorem answer_z (zb b off cap:Nat) (t:Int) (o n:Str) (rs:List Rec) (w:World) (hok:ZOk o rs) (hz:aN w zb o b off cap (sortL rs)) (hg:G w) (hn:NeL n) (hl:n.length≤60) :
  Calls Tryz.prog 69 #[.pointer (some ⟨zb,0,none⟩),.string (B n),.int .i64 t] w fun e w'=>(∃ v,e=.returned v∧PAns w' w.heap.size v (askP o rs t n) (askA o rs t n))∧Below w.heap.size w w':=by
 cases hu:Sp.under n o with
 | false =>
  have ho:=(plain_nel hok.org).2
  refine (answer_no zb b off cap t o n (sortL rs) w hz (by omega) (by omega) hu).mono ?_
  rintro e w' ⟨rfl,hb⟩
  have he:askP o rs t n=(5,false,[],[]):=go_one 9 (one_out hu)
  refine ⟨⟨_,rfl,?_⟩,hb⟩
  unfold askA
  rw [he]
  exact ⟨_,_,_,rfl,World.ownsRow_nil _ _ _ _,World.ownsRow_nil _ _ _ _,World.ownsRow_nil _ _ _ _,apart_nil _,apart_nil _,apart_nil _⟩
 | true =>
  have hlen:=(En.sort_perm rs).length_eq
  refine (answer_g (resP o (sortL rs) t n) zb b off cap t o n (sortL rs) w hz hg (by omega) hu (zfitP hok) (by rw [hlen]; exact zlen hok) (fol_z hok zb b off cap t hn hl) (res_len hok t hn hl hu)).mono ?_
  rintro e w' ⟨⟨v,rfl,hv⟩,hb⟩
  exact ⟨⟨v,rfl,ans_pans hok hn t hu hv⟩,hb⟩
theorem lookup_z (zb b off cap:Nat) (t:Int) (o n:Str) (rs:List Rec) (w:World) (hok:ZOk o rs) (hz:aN w zb o b off cap (sortL rs)) (hg:G w) (hnl:n.length≤2000000) :
  Calls Tryz.prog 24 #[.pointer (some ⟨zb,0,none⟩),.string (B n),.int .i64 t] w fun e w'=>PLook o rs n t w' w.heap.size e∧Below w.heap.size w w':=by
 obtain ⟨OA,hOA⟩ : ∃ OA:Obj,OA=.cells #[.int .i64 0,.bool false,.slice none 0 0,.slice none 0 0,.slice none 0 0] 43:=⟨_,rfl⟩
 have hb1:Below w.heap.size w (w.alloc OA):=(Below.refl _ _).alloc (Nat.le_refl _) _
 have hs1:(w.alloc OA).heap.size=w.heap.size+1:=World.size_alloc w _
 have hR0:aL (w.alloc OA) w.heap.size (.int .i64 0) (.bool false) (.slice none 0 0) (.slice none 0 0) (.slice none 0 0):=by
  unfold aL
  rw [World.alloc_heap_new,hOA]
 have HPL:Hid (Calls Tryz.prog 68 #[.string (B n)] (w.alloc OA) fun e w'=>e=.returned (.bool (Sp.plain n))∧Below (w.alloc OA).heap.size (w.alloc OA) w'):=by
  have:=Kd.plain_any (B n) (w.alloc OA) (hg.below hb1) (by rw [size_B]; simp [maxLen]; omega)
  rw [data_B] at this
  exact this
 have HZ:=aH hz
 have HG:=aH hg
 have HOK:=aH hok
 have HR0:=aH hR0
 have HB1:=aH hb1
 clear hz hg hok hR0 hb1
 go_enter Tryz.func24,Tryz.ntmps24
 go_wp2_with fail
 rw [← hOA]
 refine (aU HPL).mono ?_
 rintro e w2 ⟨rfl,hb2⟩
 have hs2:=hb2.size
 have HB2:=aH ((aU HB1).trans (hb2.mono (by omega)))
 have hR2:aL w2 w.heap.size (.int .i64 0) (.bool false) (.slice none 0 0) (.slice none 0 0) (.slice none 0 0):=(hb2.block w.heap.size (by omega)).trans (aU HR0)
 have HR2:=aH hR2
 obtain ⟨z0,z1,z2,z3,z4⟩:=aL.cells hR2
 have zf:=aL.frozen hR2
 clear hR2 hb2 HPL hOA
 have hbad:Hid (∀ b,askB n t=b→b=false→∀ e,e=Ending.returned (.tuple #[.agg #[.int .i64 0,.bool false,.slice none 0 0,.slice none 0 0,.slice none 0 0],.int .i64 2])→PLook o rs n t (((((w2.setCell ⟨w.heap.size,0,none⟩ (.int .i64 0)).setCell ⟨w.heap.size,1,none⟩ (.bool false)).setCell ⟨w.heap.size,2,none⟩ (.slice none 0 0)).setCell ⟨w.heap.size,3,none⟩ (.slice none 0 0)).setCell ⟨w.heap.size,4,none⟩ (.slice none 0 0)) w.heap.size e):=fun b hb hf e he=>by
  unfold PLook
  rw [hb,hf]
  exact he
 have hBB:Hid (Below w.heap.size w (((((w2.setCell ⟨w.heap.size,0,none⟩ (.int .i64 0)).setCell ⟨w.heap.size,1,none⟩ (.bool false)).setCell ⟨w.heap.size,2,none⟩ (.slice none 0 0)).setCell ⟨w.heap.size,3,none⟩ (.slice none 0 0)).setCell ⟨w.heap.size,4,none⟩ (.slice none 0 0))):=(((((aU HB2).setCell (p:=⟨w.heap.size,0,none⟩) (Nat.le_refl _) _).setCell (p:=⟨w.heap.size,1,none⟩) (Nat.le_refl _) _).setCell (p:=⟨w.heap.size,2,none⟩) (Nat.le_refl _) _).setCell (p:=⟨w.heap.size,3,none⟩) (Nat.le_refl _) _).setCell (p:=⟨w.heap.size,4,none⟩) (Nat.le_refl _) _
 have HA9:=aH (((((aL.set0 (aU HR2) (.int .i64 0)).set1 (.bool false)).set2 (.slice none 0 0)).set3 (.slice none 0 0)).set4 (.slice none 0 0))
 cases hpl:Sp.plain n with
 | false =>
  have HF:Hid (askB n t=false):=by
   unfold Hid askB
   rw [hpl]; rfl
  clear hpl
  go_wp2_with fail
  obtain ⟨n0,n1,n2,n3,n4⟩:=(aU HA9).cells
  refine bodyPost_ret (v:=.tuple #[.agg #[.int .i64 0,.bool false,.slice none 0 0,.slice none 0 0,.slice none 0 0],.int .i64 2]) ?_ rfl ⟨aU hbad _ (aU HF) rfl _ rfl,aU hBB⟩
  simp [results,Tryz.results24,go_sem,n0,n1,n2,n3,n4]
 | true =>
  have HPL2:=aH hpl
  by_cases h1:t<1
  ·have HF:Hid (askB n t=false):=by
    unfold Hid askB
    rw [hpl,decide_eq_false (by omega)]; rfl
   clear hpl
   go_wp2_with fail
   obtain ⟨n0,n1,n2,n3,n4⟩:=(aU HA9).cells
   refine bodyPost_ret (v:=.tuple #[.agg #[.int .i64 0,.bool false,.slice none 0 0,.slice none 0 0,.slice none 0 0],.int .i64 2]) ?_ rfl ⟨aU hbad _ (aU HF) rfl _ rfl,aU hBB⟩
   simp [results,Tryz.results24,go_sem,n0,n1,n2,n3,n4]
  by_cases h2:65535<t
  ·have HF:Hid (askB n t=false):=by
    unfold Hid askB
    rw [hpl,decide_eq_true (by omega),decide_eq_false (by omega)]; rfl
   clear hpl
   go_wp2_with fail
   obtain ⟨n0,n1,n2,n3,n4⟩:=(aU HA9).cells
   refine bodyPost_ret (v:=.tuple #[.agg #[.int .i64 0,.bool false,.slice none 0 0,.slice none 0 0,.slice none 0 0],.int .i64 2]) ?_ rfl ⟨aU hbad _ (aU HF) rfl _ rfl,aU hBB⟩
   simp [results,Tryz.results24,go_sem,n0,n1,n2,n3,n4]
  have HF:Hid (askB n t=true):=by
   unfold Hid askB
   rw [hpl,decide_eq_true (by omega),decide_eq_true (by omega)]; rfl
  have hnp:=plain_nel hpl
  have HAK:=aH (fun W (hb:Below w.heap.size w W)=>answer_z zb b off cap t o n rs W (aU HOK) ((aU HZ).below hb) ((aU HG).below hb) hnp.1 hnp.2)
  obtain ⟨AD,hAD⟩ : ∃ AD,askA o rs t n=AD:=⟨_,rfl⟩
  obtain ⟨RES,hRES⟩ : ∃ RES,askP o rs t n=RES:=⟨_,rfl⟩
  rw [hAD,hRES] at HAK
  have HE:=aH (And.intro hRES hAD)
  obtain ⟨rc,aa,ans,auth⟩:=RES
  clear hpl hAD hRES hnp
  go_wp2_with fail
  refine (Pa.clone_any (B n) w2 (by rw [size_B]; omega)).mono ?_
  rintro e w3 ⟨rfl,hb3⟩
  have hs3:=hb3.size
  have HB3:=aH ((aU HB2).trans (hb3.mono (aU HB2).size))
  have hR3:aL w3 w.heap.size (.int .i64 0) (.bool false) (.slice none 0 0) (.slice none 0 0) (.slice none 0 0):=(hb3.block w.heap.size (by omega)).trans (aU HR2)
  have HR3:=aH hR3
  clear hR3 hb3 z0 z1 z2 z3 z4 zf
  go_wp2_with fail
  refine (aU HAK w3 (aU HB3)).mono ?_
  rintro e w4 ⟨⟨v4,rfl,va,vb,vd,rfl,hA,hU,hD,p1,p2,p3⟩,hb4⟩
  have hs4:=hb4.size
  have HB4:=aH ((aU HB3).trans (hb4.mono (aU HB3).size))
  have hR4:aL w4 w.heap.size (.int .i64 0) (.bool false) (.slice none 0 0) (.slice none 0 0) (.slice none 0 0):=(hb4.block w.heap.size (by omega)).trans (aU HR3)
  have HR4:=aH hR4
  obtain ⟨y0,y1,y2,y3,y4⟩:=aL.cells hR4
  have yf:=aL.frozen hR4
  have HQ:=aH (And.intro hA (And.intro hU (And.intro hD (And.intro p1 (And.intro p2 p3)))))
  obtain ⟨a1,c1,rfl⟩:=hA.slice
  obtain ⟨a2,cc2,rfl⟩:=hU.slice
  obtain ⟨a3,c3,rfl⟩:=hD.slice
  clear hA hU hD p1 p2 p3 hR4 hb4 HAK
  go_wp2_with fail
  have A8:=((((aL.set0 (aU HR4) (.int .i64 rc)).set1 (.bool aa)).set2 (.slice a1 ans.length c1)).set3 (.slice a2 auth.length cc2)).set4 (.slice a3 AD.length c3)
  obtain ⟨n0,n1,n2,n3,n4⟩:=A8.cells
  obtain ⟨hA,hU,hD,p1,p2,p3⟩:=aU HQ
  have hset : ∀ {v:Value} {l:List Rec},OwnR w4 w3.heap.size v l→OwnR (((((w4.setCell ⟨w.heap.size,0,none⟩ (.int .i64 rc)).setCell ⟨w.heap.size,1,none⟩ (.bool aa)).setCell ⟨w.heap.size,2,none⟩ (.slice a1 ans.length c1)).setCell ⟨w.heap.size,3,none⟩ (.slice a2 auth.length cc2)).setCell ⟨w.heap.size,4,none⟩ (.slice a3 AD.length c3)) w.heap.size v l:=fun h=>(((((h.set_low (k:=w.heap.size) (i:=0) (by omega) _).set_low (k:=w.heap.size) (i:=1) (by omega) _).set_low (k:=w.heap.size) (i:=2) (by omega) _).set_low (k:=w.heap.size) (i:=3) (by omega) _).set_low (k:=w.heap.size) (i:=4) (by omega) _).base (by omega)
  refine bodyPost_ret (v:=.tuple #[.agg #[.int .i64 rc,.bool aa,.slice a1 ans.length c1,.slice a2 auth.length cc2,.slice a3 AD.length c3],.int .i64 0]) ?_ rfl ⟨?_,?_⟩
  ·simp [results,Tryz.results24,go_sem,n0,n1,n2,n3,n4]
  ·unfold PLook
   rw [aU HF,(aU HE).1,(aU HE).2]
   exact ⟨_,rfl,_,_,_,rfl,hset hA,hset hU,hset hD,p1,p2,p3⟩
  ·have hB:=aU HB4
   exact ((((hB.setCell (p:=⟨w.heap.size,0,none⟩) (Nat.le_refl _) _).setCell (p:=⟨w.heap.size,1,none⟩) (Nat.le_refl _) _).setCell (p:=⟨w.heap.size,2,none⟩) (Nat.le_refl _) _).setCell (p:=⟨w.heap.size,3,none⟩) (Nat.le_refl _) _).setCell (p:=⟨w.heap.size,4,none⟩) (Nat.le_refl _) _
end Lv
end Go.Proofs.YtkkpahmoljiepaaGreatDoor
