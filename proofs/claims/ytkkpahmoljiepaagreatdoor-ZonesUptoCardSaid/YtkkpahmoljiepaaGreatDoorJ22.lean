/- The document's answer (beaconref): lists of records of the call's own; an answer under way. -/
import Derived.Test.YtkkpahmoljiepaaGreatDoorJ21
import Derived.Maps.AppendAt
import Derived.Laws.OwnMore
import Derived.Test.YtkkpahmoljiepaaGreatDoorJ09
import Derived.Deep.RegionHeld
import Derived.Test.YtkkpahmoljiepaaGreatDoorJ12
import Derived.Test.YtkkpahmoljiepaaGreatDoorShelf
set_option linter.unusedSimpArgs false
set_option linter.unusedVariables false
set_option maxRecDepth 1000000
set_option maxHeartbeats 12800000
namespace Go.Proofs.YtkkpahmoljiepaaGreatDoor
open Go.RowKit
open Pu (Str aH aU)
def NmX (w:World) (x:Nat→Prop) (v:Value) (ls:List Str):Prop:=∃ g off cap,v=.slice (some ⟨g,off,none⟩) ls.length cap∧ls.length≤cap∧Ec.TxAt w g off ls∧¬ x g
def enq (x:Value×Value×Rec):List Value:=[x.1,.int .i64 x.2.2.ttl,.int .i64 x.2.2.type,.string (B x.2.2.data),x.2.1]
def OwnQ (x:Nat→Prop) (w:World) (base:Nat) (v:Value) (l:List Rec):Prop :=
 ∃ xs:List (Value×Value×Rec),xs.map (·.2.2)=l∧w.ownsRow base 119 5 v xs.length (xs.flatMap enq) ∧
  ∀ y∈xs,NmX w (fun k=>x k∨some k=v.ownBlock) y.1 (Sp.spl 46 y.2.2.owner)∧NmX w (fun k=>x k∨some k=v.ownBlock) y.2.1 (Sp.spl 32 y.2.2.data)
def RecX (w:World) (x:Nat→Prop) (b o:Nat) (r:Rec):Prop:=∃ vo vw,w.cell? ⟨b,o,none⟩=some vo∧w.cell? ⟨b,o+1,none⟩=some (.int .i64 r.ttl)∧w.cell? ⟨b,o+2,none⟩=some (.int .i64 r.type)∧w.cell? ⟨b,o+3,none⟩=some (.string (B r.data))∧w.cell? ⟨b,o+4,none⟩=some vw∧NmX w x vo (Sp.spl 46 r.owner)∧NmX w x vw (Sp.spl 32 r.data)
def AsAt (w:World) (ab:Nat) (rc:Int) (aa:Bool) (va vu vd:Value):Prop:=w.heap[ab]? = some (.cells #[.int .i64 rc,.bool aa,va,vu,vd] 123)
section
open Ka Ed Ek Em En Ep Ia Sc Sf Si Lg Eu Ex Oa Ob Oc La Lb Es Ev Er Eh Za Ie Ec Ee Eb Re Lc Ke
section
variable {w w':World} {ab:Nat} {rc:Int} {aa:Bool} {va vu vd:Value} (h:AsAt w ab rc aa va vu vd)
include h
theorem AsAt.lt:ab<w.heap.size:=(Array.getElem?_eq_some_iff.1 h).1
theorem AsAt.cells:w.cell? ⟨ab,0,none⟩=some (.int .i64 rc)∧w.cell? ⟨ab,1,none⟩=some (.bool aa)∧w.cell? ⟨ab,2,none⟩=some va∧w.cell? ⟨ab,3,none⟩=some vu∧w.cell? ⟨ab,4,none⟩=some vd:=by
 unfold AsAt at h
 refine ⟨?_,?_,?_,?_,?_⟩ <;> simp [World.cell?,h]
theorem AsAt.frozen (i:Nat):w.frozen? ⟨ab,i,none⟩=false:=by
 unfold AsAt at h; simp [World.frozen?,h]
theorem AsAt.kept (hb:w'.heap[ab]? = w.heap[ab]?):AsAt w' ab rc aa va vu vd:=hb.trans h
theorem AsAt.set0 (u:Int):AsAt (w.setCell ⟨ab,0,none⟩ (.int .i64 u)) ab u aa va vu vd:=by
 unfold AsAt at *
 simp only [World.setCell,Array.getElem?_modify,if_true,h]; rfl
theorem AsAt.set1 (u:Bool):AsAt (w.setCell ⟨ab,1,none⟩ (.bool u)) ab rc u va vu vd:=by
 unfold AsAt at *
 simp only [World.setCell,Array.getElem?_modify,if_true,h]; rfl
theorem AsAt.set2 (u:Value):AsAt (w.setCell ⟨ab,2,none⟩ u) ab rc aa u vu vd:=by
 unfold AsAt at *
 simp only [World.setCell,Array.getElem?_modify,if_true,h]; rfl
theorem AsAt.set3 (u:Value):AsAt (w.setCell ⟨ab,3,none⟩ u) ab rc aa va u vd:=by
 unfold AsAt at *
 simp only [World.setCell,Array.getElem?_modify,if_true,h]; rfl
theorem AsAt.set4 (u:Value):AsAt (w.setCell ⟨ab,4,none⟩ u) ab rc aa va vu u:=by
 unfold AsAt at *
 simp only [World.setCell,Array.getElem?_modify,if_true,h]; rfl
end
theorem Ec.TxAt.fr {p:Nat→Prop} {A B:World} {g off:Nat} {ls:List Str} (h:TxAt A g off ls) (hf:Fr p A B) (hp:p g):TxAt B g off ls :=
 ⟨Nat.lt_of_lt_of_le h.1 hf.size,fun j hj=>(World.cell?_of_block (a:=⟨g,off+j,none⟩) (hf.block g h.1 hp)).trans (h.2 j hj)⟩
theorem NmX.nm {w:World} {x:Nat→Prop} {v:Value} {ls:List Str} (h:NmX w x v ls):NmV w v ls:=by
 obtain ⟨g,off,cap,h1,h2,h3,_⟩:=h
 exact ⟨g,off,cap,h1,h2,h3⟩
theorem NmX.fr {p x:Nat→Prop} {A B:World} {v:Value} {ls:List Str} (h:NmX A x v ls) (hf:Fr p A B) (hp : ∀ k,¬ x k→p k):NmX B x v ls:=by
 obtain ⟨g,off,cap,h1,h2,h3,h4⟩:=h
 exact ⟨g,off,cap,h1,h2,h3.fr hf (hp g h4),h4⟩
theorem NmX.imp {x y:Nat→Prop} {A:World} {v:Value} {ls:List Str} (h:NmX A x v ls) (hy : ∀ k,k<A.heap.size→¬ x k→¬ y k):NmX A y v ls:=by
 obtain ⟨g,off,cap,h1,h2,h3,h4⟩:=h
 exact ⟨g,off,cap,h1,h2,h3,hy g h3.1 h4⟩
theorem OwnQ.nil (x:Nat→Prop) (w:World) (base:Nat):OwnQ x w base (.slice none 0 0) []:=⟨[],rfl,World.ownsRow_nil w base _ 5,fun y hy=>by cases hy⟩
section
variable {x:Nat→Prop} {w:World} {base:Nat} {v:Value} {l:List Rec} (h:OwnQ x w base v l)
include h
theorem OwnQ.slice : ∃ a c,v=.slice a l.length c:=by
 obtain ⟨xs,rfl,h1,_⟩:=h
 rw [List.length_map]
 rcases h1.2 with ⟨rfl,h0⟩ | ⟨g,cap,_,rfl,_⟩
 ·exact ⟨none,0,by rw [h0]⟩
 ·exact ⟨_,_,rfl⟩
theorem OwnQ.lt : ∀ k,v.ownBlock=some k→base≤k∧k<w.heap.size:=by
 obtain ⟨xs,_,h1,_⟩:=h
 exact World.ownsRow.lt h1
theorem OwnQ.fr {p:Nat→Prop} {w':World} (hf:Fr p w w') (hp : ∀ k,k<w.heap.size→¬ x k→some k≠v.ownBlock→p k) (ho : ∀ k,v.ownBlock=some k→p k):OwnQ x w' base v l:=by
 obtain ⟨xs,h0,h1,h2⟩:=h
 have hf2:Fr (fun k=>k<w.heap.size→p k) w w':=⟨hf.os,hf.tape,hf.output,hf.size,fun k hk hk'=>hf.block k hk (hk' hk)⟩
 refine ⟨xs,h0,?_,fun y hy=>⟨(h2 y hy).1.fr hf2 (fun k hk hk'=>hp k hk' (fun hx=>hk (.inl hx)) (fun he=>hk (.inr he))),(h2 y hy).2.fr hf2 (fun k hk hk'=>hp k hk' (fun hx=>hk (.inl hx)) (fun he=>hk (.inr he)))⟩⟩
 refine ⟨h1.1,?_⟩
 rcases h1.2 with hn | ⟨g,cap,cur,rfl,hb,hgg,rest⟩
 ·exact .inl hn
 ·exact .inr ⟨g,cap,cur,rfl,hb,(hf.block g (Array.getElem?_eq_some_iff.1 hgg).1 (ho g rfl)).trans hgg,rest⟩
theorem OwnQ.below {w':World} (hb:Below w.heap.size w w'):OwnQ x w' base v l:=h.fr (p:=fun _=>True) (Fr.of_below hb) (fun _ _ _ _=>trivial) (fun _ _=>trivial)
theorem OwnQ.set {a:Addr} (u:Value) (hx:x a.block) (hb:a.block<base):OwnQ x (w.setCell a u) base v l :=
 h.fr (p:=fun k=>k≠a.block) (Fr.of_set u (fun _ h=>h)) (fun k _ h1 _ e=>h1 (by rw [e]; exact hx)) (fun k hk e=>by have:=(h.lt k hk).1; omega)
theorem OwnQ.imp {y:Nat→Prop} (hy : ∀ k,k<w.heap.size→¬ x k→some k≠v.ownBlock→¬ y k):OwnQ y w base v l:=by
 obtain ⟨xs,h0,h1,h2⟩:=h
 have hi : ∀ k,k<w.heap.size→¬ (x k∨some k=v.ownBlock)→¬ (y k∨some k=v.ownBlock):=fun k hk hn hc=>by
  rcases hc with hc | hc
  ·exact hy k hk (fun hx=>hn (.inl hx)) (fun he=>hn (.inr he)) hc
  ·exact hn (.inr hc)
 exact ⟨xs,h0,h1,fun z hz=>⟨(h2 z hz).1.imp hi,(h2 z hz).2.imp hi⟩⟩
theorem OwnQ.recx:(v=.slice none 0 0∧l = [])∨∃ g cap,v=.slice (some ⟨g,0,none⟩) l.length cap∧base≤g∧l.length≤cap∧∀ k (hk:k<l.length),RecX w (fun k=>x k∨some k=v.ownBlock) g (k*5) l[k]:=by
 obtain ⟨xs,rfl,h1,h2⟩:=h
 rcases h1.2 with ⟨hv,hn⟩ | ⟨g,cap,cur,hv,hg,hcur,hcap,_,hsz,htk⟩
 ·refine .inl ⟨hv,?_⟩
  rw [List.eq_nil_of_length_eq_zero hn]; rfl
 ·refine .inr ⟨g,cap,by rw [List.length_map]; exact hv,hg,by rw [List.length_map]; exact hcap,fun k hk=>?_⟩
  rw [List.length_map] at hk
  have flat : ∀ (ys:List (Value×Value×Rec)) (k i:Nat) (hk:k<ys.length),i<5→(ys.flatMap enq)[k*5+i]? = (enq ys[k])[i]?:=by
   intro ys
   induction ys with
   | nil=>intro k i hk; simp at hk
   | cons y ys ih =>
    intro k i hk hi
    have h5:(enq y).length=5:=rfl
    cases k with
    | zero=>rw [List.flatMap_cons,Nat.zero_mul,Nat.zero_add,List.getElem?_append_left (by omega)]; rfl
    | succ k =>
     rw [List.flatMap_cons,List.getElem?_append_right (by omega),h5,show (k+1)*5+i - 5=k*5+i by omega]
     exact ih k i (by simpa using hk) hi
  have hcell : ∀ i,i<5→w.cell? ⟨g,k*5+i,none⟩=(enq xs[k])[i]?:=by
   intro i hi
   rw [← flat xs k i hk hi,← htk,List.getElem?_take_of_lt (by omega)]
   unfold World.cell?
   rw [hcur]
   simp
  have hn:=h2 xs[k] (List.getElem_mem hk)
  rw [List.getElem_map]
  exact ⟨xs[k].1,xs[k].2.1,hcell 0 (by omega),hcell 1 (by omega),hcell 2 (by omega),hcell 3 (by omega),hcell 4 (by omega),hn.1,hn.2⟩
theorem OwnQ.recs:(v=.slice none 0 0∧l = [])∨∃ g cap,v=.slice (some ⟨g,0,none⟩) l.length cap∧base≤g∧l.length≤cap∧RRecs w g 0 l:=by
 rcases h.recx with h | ⟨g,cap,h1,h2,h3,h4⟩
 ·exact .inl h
 ·refine .inr ⟨g,cap,h1,h2,h3,fun k hk=>?_⟩
  obtain ⟨vo,vw,c0,c1,c2,c3,c4,n0,n1⟩:=h4 k hk
  rw [Nat.zero_add]
  exact ⟨vo,vw,c0,c1,c2,c3,c4,n0.nm,n1.nm⟩
end
end
namespace Od
open Ka Ed Ek Em En Ep Ia Sc Sf Si Lg Eu Ex Oa Ob Oc La Lb Es Ev Er Eh Za Ie Ec Ee Eb Re Lc Ke
theorem set_ownq {x:Nat→Prop} {w0 w w':World} {base b off:Nat} {rs:List Rec} {n:Str} {ow v:Value} {js:List Nat} (hz:RRecs w0 b off rs) (hb0:Below w0.heap.size w0 w) (hb:Below w.heap.size w w') (hx : ∀ k,k<w0.heap.size→¬ x k) (hba:base≤w.heap.size)
  (hjs : ∀ j∈js,j<rs.length) (how:NmX w x ow (Sp.spl 46 n)) (hrow:w'.ownsRow w.heap.size 119 5 v js.length (js.flatMap (enc5 w b off ow rs))):OwnQ x w' base v (js.map (recJ rs n)):=by
 refine ⟨js.map fun j=>(ow,wdV w b off j,recJ rs n j),by rw [List.map_map]; rfl,?_,?_⟩
 ·rw [List.length_map,List.flatMap_map]
  exact own_base hrow hba
 ·intro y hy
  obtain ⟨j,hj,rfl⟩:=List.mem_map.1 hy
  have hown : ∀ k,k<w.heap.size→some k≠v.ownBlock:=fun k hk e=>by have:=(World.ownsRow.lt hrow k e.symm).1; omega
  have hs0:=hb0.size
  refine ⟨?_,?_⟩
  ·obtain ⟨g,o',c,h1,h2,h3,h4⟩:=how
   exact ⟨g,o',c,h1,h2,h3.below hb,fun hc=>hc.elim h4 (hown g h3.1)⟩
  ·have hjl:=hjs j hj
   obtain ⟨vo,vw,q0,q1,q2,q3,q4,q5,q6⟩:=hz j hjl
   have q4':w.cell? ⟨b,off+j*5+4,none⟩=some vw:=(hb0.cell (World.block_lt_of_cell? _ _ q4)).trans q4
   have hwd:wdV w b off j=vw:=by unfold wdV; rw [q4']; rfl
   show NmX w' _ (wdV w b off j) (Sp.spl 32 (rs[j]?.getD Rec.zero).data)
   rw [hwd,List.getElem?_eq_getElem hjl]
   obtain ⟨g,o',c,h1,h2,h3⟩:=q6
   exact ⟨g,o',c,h1,h2,(h3.below hb0).below hb,fun hc=>hc.elim (hx g h3.1) (hown g (by have:=h3.1; omega))⟩
theorem append_q {x y:Nat→Prop} {w:World} {base base':Nat} {va xv:Value} {ans xs:List Rec} (ho:OwnQ x w base va ans) (hx:OwnQ y w base' xv xs) (hy : ∀ k,k<w.heap.size→(x k∨some k=va.ownBlock)→y k) (hb:base≤w.heap.size) (hl:ans.length+xs.length≤100000) (hxs : ∀ k,x k→k<w.heap.size) :
  ∃ v' w',(Builtin.append_ #[115,115] 115 #[va,xv]).run Tryz.prog w=.ok v' w'∧OwnQ x w' base v' (ans++xs)∧w.grownBy w' va.ownBlock∧(v'.ownBlock=va.ownBlock∨v'.ownBlock=some w.heap.size):=by
 obtain ⟨i0,hi,hz0,hz1,hz2⟩:=info_parts infoQ
 obtain ⟨ys0,rfl,a1,a2⟩:=ho
 obtain ⟨bs,rfl,b1,b2⟩:=hx
 have hone : ∀ (ys:List (Value×Value×Rec)),(∀ z∈ys,z.1.oneCell'=true∧z.2.1.oneCell'=true)→∀ u∈ys.flatMap enq,u.oneCell'=true:=by
  intro ys hys u hu
  obtain ⟨z,hz,hu⟩:=List.mem_flatMap.1 hu
  have:=hys z hz
  simp only [enq,List.mem_cons,List.not_mem_nil,or_false] at hu
  rcases hu with rfl | rfl | rfl | rfl | rfl
  ·exact this.1
  ·rfl
  ·rfl
  ·rfl
  ·exact this.2
 have hlen5 : ∀ (ys:List (Value×Value×Rec)),(ys.flatMap enq).length=ys.length*5:=by
  intro ys
  induction ys with
  | nil=>rfl
  | cons z ys ih=>rw [List.flatMap_cons,List.length_append,ih,List.length_cons]; show 5+_=_; omega
 rw [List.length_map,List.length_map] at hl
 rcases b1.2 with ⟨rfl,h0⟩ | ⟨g,cap,cur,rfl,hg,hcur,hcap,hmx,hsz,htk⟩
 ·have:bs = []:=List.eq_nil_of_length_eq_zero h0
  subst this
  refine ⟨va,w,run_append_owned_none (P:=Tryz.prog) (w:=w) base 115 115 119 i0 5 underQ hi va _ _ a1,?_,⟨rfl,rfl,rfl,Nat.le_refl _,fun _ _ _=>rfl⟩,.inl rfl⟩
  rw [List.map_nil,List.append_nil]
  exact ⟨ys0,rfl,a1,a2⟩
 ·have hcells : ∀ j u,(bs.flatMap enq)[j]? = some u→w.cell? ((⟨g,0,none⟩:Addr).add j)=some u:=by
   intro j u hj
   rw [Addr.add_lit,Nat.zero_add]
   have hjl:j<bs.length*5:=by
    have:=(List.getElem?_eq_some_iff.1 hj).1
    rw [hlen5] at this
    exact this
   rw [← htk,List.getElem?_take_of_lt hjl] at hj
   unfold World.cell?
   rw [hcur]
   simpa using hj
  have hslice : ∀ z∈bs,z.1.oneCell'=true∧z.2.1.oneCell'=true:=by
   intro z hz
   obtain ⟨⟨_,_,_,e1,_⟩,⟨_,_,_,e2,_⟩⟩:=b2 z hz
   rw [e1,e2]
   exact ⟨rfl,rfl⟩
  obtain ⟨v',w',h1,h2,h3,_,h5⟩:=run_append_own_at (P:=Tryz.prog) w base 115 115 119 i0 _ 5 80 underQ hi hz0 hz1 hz2 rfl (by omega) va ys0.length (ys0.flatMap enq) a1 ⟨g,0,none⟩ bs.length cap (bs.flatMap enq) (hlen5 bs) hcells (hone bs hslice) (by simp [maxLen]; omega) (by omega) hb
  refine ⟨v',w',h1,⟨ys0++bs,by rw [List.map_append],by rw [List.length_append,List.flatMap_append]; exact h2,?_⟩,h3,h5⟩
  have hfr:Fr (fun k=>some k≠va.ownBlock) w w':=Fr.of_grown h3 (fun _ h=>h)
  have hnew : ∀ k,k<w.heap.size→some k≠va.ownBlock→some k≠v'.ownBlock:=fun k hk hn e=>by
   rcases h5 with h5 | h5
   ·rw [h5] at e; exact hn e
   ·rw [h5] at e; have:k=w.heap.size:=by simpa using e
    omega
  have go1 : ∀ (z:Nat→Prop) (u:Value) (ls:List Str),(∀ k,k<w.heap.size→x k∨some k=va.ownBlock→z k)→NmX w z u ls→NmX w' (fun k=>x k∨some k=v'.ownBlock) u ls:=by
   intro z u ls hz hu
   obtain ⟨g',o',c',e1,e2,e3,e4⟩:=hu
   have n1 : ¬ x g':=fun hc=>e4 (hz g' e3.1 (.inl hc))
   have n2:some g'≠va.ownBlock:=fun hc=>e4 (hz g' e3.1 (.inr hc))
   exact ⟨g',o',c',e1,e2,e3.fr hfr n2,fun hc=>hc.elim n1 (hnew g' e3.1 n2)⟩
  intro z hz
  rcases List.mem_append.1 hz with hz | hz
  ·exact ⟨go1 _ _ _ (fun _ _ h=>h) (a2 z hz).1,go1 _ _ _ (fun _ _ h=>h) (a2 z hz).2⟩
  ·exact ⟨go1 _ _ _ (fun k hk h=>.inl (hy k hk h)) (b2 z hz).1,go1 _ _ _ (fun k hk h=>.inl (hy k hk h)) (b2 z hz).2⟩
end Od
namespace Of
open Ka Ed Ek Em En Ep Ia Sc Sf Si Lg Eu Ex Oa Ob Oc Od La Lb Es Ev Er Eh Za Ie Ec Ee Eb Re Lc Ke
theorem ownT_len {o:Str} {rs:List Rec} (hz:ZOk o rs) (s:Str) (t:Int):(ownT rs s t).length≤60:=by
 by_cases h:t=255
 ·subst h
  rw [← of_any rs (zty hz),of_own]
  have:=(sort_perm rs).length_eq
  exact Nat.le_trans (List.length_filter_le _ _) (by rw [this]; exact zlen hz)
 ·unfold ownT
  rw [if_neg h]
  exact own_len hz s t
theorem one_data {o:Str} {rs:List Rec} (hz:ZOk o rs) {r:Rec} (hr:r∈rs) (h5:r.type=5):Sp.spl 32 r.data = [r.data]∧Sp.plain r.data=true:=by
 have hd:=(hz.recs r hr).dat
 rw [h5] at hd
 obtain ⟨a,e,hp⟩:=data25 (.inr rfl) hd
 have:=one_word e
 rw [this] at e ⊢
 exact ⟨e,hp⟩
section
variable {zb:Nat} {o:Str} {rs:List Rec} {w0 W:World} (hz:RZone w0 zb o rs) (hok:ZOk o rs) (hb:Below w0.heap.size w0 W) {x:Nat→Prop} (hx : ∀ k,k<w0.heap.size→¬ x k) {base:Nat} (hba:base≤W.heap.size)
include hz hok hb hx hba
theorem set_q (s m:Str) (u ow:Value) (t:Int) (hu:NmV W u (Sp.spl 46 s)) (hs:(Sp.spl 46 s).length≤1000) (how:NmX W x ow (Sp.spl 46 m)) :
  Calls Tryz.prog 237 #[.pointer (some ⟨zb,0,none⟩),u,.int .i64 t,ow] W fun e w'=>(∃ v,e=.returned v∧OwnQ x w' base v ((ownT rs s t).map (setOwner m)))∧Below W.heap.size W w':=by
 obtain ⟨vo,b,off,cap,z0,z1,z2,z3⟩:=hz
 have z0':=(hb.block zb (Array.getElem?_eq_some_iff.1 z0).1).trans z0
 have how':=how
 obtain ⟨g,o',c,rfl,_⟩:=how'
 refine (set_any zb o rs u (some ⟨g,o',none⟩) _ c _ t W b off cap vo z0' z2 (z3.below hb) (zfit hok) hu hs).mono ?_
 rintro e w' ⟨⟨v,rfl,hrow⟩,hb'⟩
 refine ⟨⟨v,rfl,?_⟩,hb'⟩
 rw [← set_recs rs s m t (zty hok)]
 exact set_ownq z3 hb hb' hx hba (fun j hj=>setJ_lt rs _ t 17 j hj) how hrow
theorem soa_q:Calls Tryz.prog 239 #[.pointer (some ⟨zb,0,none⟩)] W fun e w'=>(∃ v,e=.returned v∧OwnQ x w' base v (denyP o (sortL rs)))∧Below W.heap.size W w':=by
 obtain ⟨vo,b,off,cap,z0,z1,z2,z3⟩:=hz
 have z0':=(hb.block zb (Array.getElem?_eq_some_iff.1 z0).1).trans z0
 obtain ⟨a0,a1,a2,a3,h1,h2,h3,h4,_⟩:=deny_two hok
 refine (Et.soa_any zb o rs W b off cap vo z0' z2 (z3.below hb) (zpos hok) a0 a1 a2 a3 h3 h2 h1).mono ?_
 rintro e w' ⟨⟨q,ro,rv,rfl,hq,hcell,c0,c4⟩,hb'⟩
 refine ⟨⟨_,rfl,?_⟩,hb'⟩
 rw [h4]
 obtain ⟨vo',vw',q0,_,_,_,q4,q5,q6⟩:=z3 0 (zpos hok)
 rw [Nat.zero_mul,Nat.add_zero] at q0 q4
 have e0:ro=vo':=by
  have:=(hb.cell (World.block_lt_of_cell? _ _ q0)).trans q0
  rw [c0] at this; exact Option.some.inj this
 have e4:rv=vw':=by
  have:=(hb.cell (World.block_lt_of_cell? _ _ q4)).trans q4
  rw [c4] at this; exact Option.some.inj this
 subst e0 e4
 have hs0:=hb.size
 refine ⟨[(ro,rv,Et.soaR (rs[0]'(zpos hok)) a3)],rfl,⟨rfl,.inr ⟨q,1,_,rfl,by omega,hcell,Nat.le_refl _,by unfold maxLen; omega,rfl,rfl⟩⟩,?_⟩
 intro y hy
 obtain rfl:y=_:=by simpa using hy
 have hne : ∀ k,k<w0.heap.size→¬ (x k∨some k=(Value.slice (some ⟨q,0,none⟩) 1 1).ownBlock):=fun k hk hc=>by
  rcases hc with hc | hc
  ·exact hx k hk hc
  ·have:k=q:=by simpa [Value.ownBlock] using hc
   omega
 obtain ⟨g1,o1,c1,e1,f1,t1⟩:=q5
 obtain ⟨g2,o2,c2,e2,f2,t2⟩:=q6
 exact ⟨⟨g1,o1,c1,e1,f1,(t1.below hb).below hb',hne g1 t1.1⟩,⟨g2,o2,c2,e2,f2,(t2.below hb).below hb',hne g2 t2.1⟩⟩
end
end Of
def nmd (r:Rec):Bool:=r.type == 2 || r.type == 15
def mStep (rs ans:List Rec) (s:List Str×List Rec) (r:Rec):List Str×List Rec :=
 if nmd r then (if s.1.contains (lastW r.data) then s else (s.1++[lastW r.data],if ans.any (fun a=>a.owner == lastW r.data && a.type == 1) then s.2 else s.2++own rs (lastW r.data) 1)) else s
def mGo (rs ans l:List Rec):List Str×List Rec:=l.foldl (mStep rs ans) ([],[])
def SeenQ (x:Nat→Prop) (w:World) (base:Nat) (v:Value) (l:List Str):Prop :=
 ∃ vs:List Value,w.ownsRow base 113 1 v l.length vs∧∀ j (h:j<l.length),∃ u,vs[j]? = some u∧NmX w (fun k=>x k∨some k=v.ownBlock) u (Sp.spl 46 l[j])
structure MI (X:Nat→Prop) (w wr:World) (ab:Nat) (rc:Int) (aa:Bool) (va vu vd vs:Value) (seen:List Str) (add:List Rec):Prop where
 an:AsAt wr ab rc aa va vu vd
 fr:Fr (fun k=>k≠ab) w wr
 sn:SeenQ (fun k=>X k∨some k=vd.ownBlock) wr w.heap.size vs seen
 ad:OwnQ (fun k=>X k∨some k=vs.ownBlock) wr w.heap.size vd add
 ne : ∀ k,vs.ownBlock=some k→vd.ownBlock≠some k
 lt:ab<w.heap.size
 xa:X ab
 xl : ∀ k,X k→k≤ab
namespace Og
open Ka Ed Ek Em En Ep Ia Sc Sf Si Lg Eu Ex Oa Ob Oc Od Of La Lb Es Ev Er Eh Za Ie Ec Ee Eb Re Lc Ke
theorem underS:Tryz.prog.underlying 328=some (.slice 113):=by kernel_rfl
theorem infoS:(Tryz.prog.info? 113).map (fun i=>(i.zero,i.size,i.bytes))=some (some (.slice none 0 0),1,24):=by kernel_rfl
theorem wpO_append {P:Program} {o:Oper} {a:Act} {w:World} {K:Act→World→Prop} {Q:Exit→Act→World→Prop} (s x:Operand) (t:TypeId) (ho:o.op=.call { callee:=.builtin .append,args:=#[s,x],argTypes:=#[t,t] }) (v xv v':Value) (w':World) (hs:a.eval s=v) (hx:a.eval x=xv)
  (hr:(Builtin.append_ #[t,t] o.type #[v,xv]).run P w=.ok v' w') (h:K (a.put o.dst v') w'):o.wp P a w K Q:=by
 unfold Oper.wp execOp
 simp only [ho,resolve,invoke,builtin,Sem.run_bind,Sem.run_pure,Result.andThen_ok,List.map_toArray,List.map_cons,List.map_nil,hs,hx,hr]
 exact h
section
variable {x:Nat→Prop} {w:World} {base:Nat} {v:Value} {l:List Str} (h:SeenQ x w base v l)
include h
theorem _root_.Go.Proofs.YtkkpahmoljiepaaGreatDoor.SeenQ.slice : ∃ a c,v=.slice a l.length c:=by
 obtain ⟨vs,h1,_⟩:=h
 rcases h1.2 with ⟨rfl,h0⟩ | ⟨g,cap,_,rfl,_⟩
 ·exact ⟨none,0,by rw [h0]⟩
 ·exact ⟨_,_,rfl⟩
theorem _root_.Go.Proofs.YtkkpahmoljiepaaGreatDoor.SeenQ.lt : ∀ k,v.ownBlock=some k→base≤k∧k<w.heap.size:=by
 obtain ⟨vs,h1,_⟩:=h
 exact World.ownsRow.lt h1
theorem _root_.Go.Proofs.YtkkpahmoljiepaaGreatDoor.SeenQ.fr {p:Nat→Prop} {w':World} (hf:Fr p w w') (hp : ∀ k,k<w.heap.size→¬ x k→some k≠v.ownBlock→p k) (ho : ∀ k,v.ownBlock=some k→p k):SeenQ x w' base v l:=by
 obtain ⟨vs,h1,h2⟩:=h
 have hf2:Fr (fun k=>k<w.heap.size→p k) w w':=⟨hf.os,hf.tape,hf.output,hf.size,fun k hk hk'=>hf.block k hk (hk' hk)⟩
 refine ⟨vs,⟨h1.1,?_⟩,fun j hj=>?_⟩
 ·rcases h1.2 with hn | ⟨g,cap,cur,rfl,hb,hgg,rest⟩
  ·exact .inl hn
  ·exact .inr ⟨g,cap,cur,rfl,hb,(hf.block g (Array.getElem?_eq_some_iff.1 hgg).1 (ho g rfl)).trans hgg,rest⟩
 ·obtain ⟨u,h3,h4⟩:=h2 j hj
  exact ⟨u,h3,h4.fr hf2 (fun k hk hk'=>hp k hk' (fun hx=>hk (.inl hx)) (fun he=>hk (.inr he)))⟩
theorem _root_.Go.Proofs.YtkkpahmoljiepaaGreatDoor.SeenQ.imp {y:Nat→Prop} (hy : ∀ k,k<w.heap.size→¬ x k→some k≠v.ownBlock→¬ y k):SeenQ y w base v l:=by
 obtain ⟨vs,h1,h2⟩:=h
 refine ⟨vs,h1,fun j hj=>?_⟩
 obtain ⟨u,h3,h4⟩:=h2 j hj
 refine ⟨u,h3,h4.imp (fun k hk hn hc=>?_)⟩
 rcases hc with hc | hc
 ·exact hy k hk (fun hx=>hn (.inl hx)) (fun he=>hn (.inr he)) hc
 ·exact hn (.inr hc)
theorem _root_.Go.Proofs.YtkkpahmoljiepaaGreatDoor.SeenQ.at {k:Nat} (hk:k<l.length) : ∃ g cap u,v=.slice (some ⟨g,0,none⟩) l.length cap∧l.length≤cap∧w.cell? ⟨g,k,none⟩=some u∧NmX w (fun k=>x k∨some k=v.ownBlock) u (Sp.spl 46 l[k]):=by
 obtain ⟨vs,h1,h2⟩:=h
 obtain ⟨u,h3,h4⟩:=h2 k hk
 rcases h1.2 with ⟨_,h0⟩ | ⟨g,cap,cur,hv,hb,hcur,hc,_,hsz,htk⟩
 ·omega
 ·refine ⟨g,cap,u,hv,hc,?_,h4⟩
  rw [← h3,← htk,List.getElem?_take_of_lt (by omega)]
  unfold World.cell?
  rw [hcur]
  simp
theorem seen_append {s:Str} {u:Value} (hu:NmX w (fun k=>x k∨some k=v.ownBlock) u (Sp.spl 46 s)) (hb:base≤w.heap.size) (hl:l.length≤100000) :
  ∃ v' w',(Builtin.append_ #[328,328] 328 #[v,.slice (some ⟨w.heap.size,0,none⟩) 1 1]).run Tryz.prog (w.alloc (.cells #[u] 113))=.ok v' w'∧SeenQ (fun k=>x k∧k<w.heap.size) w' base v' (l++[s])∧Fr (fun k=>some k≠v.ownBlock) w w'∧(v'.ownBlock=v.ownBlock∨v'.ownBlock=some (w.heap.size+1)):=by
 obtain ⟨i0,hi,hz0,hz1,hz2⟩:=info_parts infoS
 have hne:some w.heap.size≠v.ownBlock:=fun e=>by have:=(SeenQ.lt h _ e.symm).2; omega
 obtain ⟨vs,h1,h2⟩:=h
 have hba:Below w.heap.size w (w.alloc (.cells #[u] 113)):=(Below.refl _ _).alloc (Nat.le_refl _) _
 have hone:u.oneCell'=true:=by obtain ⟨_,_,_,rfl,_⟩:=hu; rfl
 have hsz:(w.alloc (.cells #[u] 113)).heap.size=w.heap.size+1:=World.size_alloc w _
 obtain ⟨v',w',k1,k2,k3,_,k5⟩:=run_append_own_at (P:=Tryz.prog) (w.alloc (.cells #[u] 113)) base 328 328 113 i0 _ 1 24 underS hi hz0 hz1 hz2 rfl (by omega) v l.length vs (own_below h1 hba) ⟨w.heap.size,0,none⟩ 1 1 [u] rfl (fun j y hj=>by
  rw [Addr.add_lit,Nat.zero_add]
  have:=World.alloc_heap_new w (.cells #[u] 113)
  unfold World.cell?
  rw [this]
  cases j with
  | zero=>exact hj
  | succ j=>simp at hj) (fun y hy=>by rw [show y=u by simpa using hy]; exact hone) (by simp [maxLen]; omega) (by omega) (by omega)
 rw [hsz] at k5
 have hfr:Fr (fun k=>some k≠v.ownBlock) w w':=⟨k3.os,k3.tape,k3.output,Nat.le_trans (by omega) k3.size,fun k hk hn=>(k3.block k (by omega) hn).trans (Below.heap_alloc w _ k hk)⟩
 have hnew : ∀ k,k<w.heap.size→some k≠v.ownBlock→some k≠v'.ownBlock:=fun k hk hn e=>by
  rcases k5 with h5 | h5
  ·rw [h5] at e; exact hn e
  ·rw [h5] at e; have:k=w.heap.size+1:=by simpa using e
   omega
 have go1 : ∀ (y:Value) (ls:List Str),NmX w (fun k=>x k∨some k=v.ownBlock) y ls→NmX w' (fun k=>(x k∧k<w.heap.size)∨some k=v'.ownBlock) y ls:=fun y ls hy=>by
  obtain ⟨g',o',c',e1,e2,e3,e4⟩:=hy
  exact ⟨g',o',c',e1,e2,e3.fr hfr (fun e=>e4 (.inr e)),fun hc=>hc.elim (fun hx=>e4 (.inl hx.1)) (hnew g' e3.1 (fun e=>e4 (.inr e)))⟩
 refine ⟨v',w',k1,⟨vs++[u],by rw [List.length_append]; exact k2,fun j hj=>?_⟩,hfr,k5⟩
 have hvl:vs.length=l.length:=by have:=h1.1; omega
 rw [List.length_append,List.length_singleton] at hj
 by_cases hjl:j<l.length
 ·obtain ⟨y,h3,h4⟩:=h2 j hjl
  refine ⟨y,by rw [List.getElem?_append_left (by omega)]; exact h3,?_⟩
  rw [List.getElem_append_left hjl]
  exact go1 y _ h4
 ·have:j=l.length:=by omega
  subst this
  refine ⟨u,by rw [List.getElem?_append_right (by omega)]; simp [hvl],?_⟩
  rw [List.getElem_append_right (by omega)]
  simp only [Nat.sub_self,List.getElem_cons_zero]
  exact go1 u _ hu
end
section
variable {X:Nat→Prop} {w wr:World} {ab:Nat} {rc:Int} {aa:Bool} {va vu vd vs:Value} {seen:List Str} {add:List Rec} (h:MI X w wr ab rc aa va vu vd vs seen add)
include h
theorem _root_.Go.Proofs.YtkkpahmoljiepaaGreatDoor.MI.below {w1:World} (hb:Below wr.heap.size wr w1):MI X w w1 ab rc aa va vu vd vs seen add :=
 ⟨h.an.kept (hb.block ab h.an.lt),h.fr.trans (Fr.of_below hb),h.sn.fr (p:=fun _=>True) (Fr.of_below hb) (fun _ _ _ _=>trivial) (fun _ _=>trivial),h.ad.below hb,h.ne,h.lt,h.xa,h.xl⟩
theorem _root_.Go.Proofs.YtkkpahmoljiepaaGreatDoor.MI.zone {w0:World} (hb:Below w0.heap.size w0 w) (hab:w0.heap.size≤ab):Below w0.heap.size w0 wr :=
 hb.trans ((h.fr.below (n:=w0.heap.size) (fun k hk e=>by omega) hb.size))
theorem _root_.Go.Proofs.YtkkpahmoljiepaaGreatDoor.MI.own {v:Value} {l:List Rec} (ho:OwnQ X w (ab+1) v l):OwnQ X wr (ab+1) v l :=
 ho.fr h.fr (fun k _ hk _ e=>hk (by rw [e]; exact h.xa)) (fun k hk e=>by have:=(ho.lt k hk).1; omega)
theorem _root_.Go.Proofs.YtkkpahmoljiepaaGreatDoor.MI.seen1 {s:Str} {u:Value} (hu:NmX wr (fun k=>X k∨some k=vd.ownBlock∨some k=vs.ownBlock) u (Sp.spl 46 s)) (hl:seen.length≤100000) :
  ∃ v' w',(Builtin.append_ #[328,328] 328 #[vs,.slice (some ⟨wr.heap.size,0,none⟩) 1 1]).run Tryz.prog (wr.alloc (.cells #[u] 113))=.ok v' w'∧MI X w w' ab rc aa va vu vd v' (seen++[s]) add∧NmX w' (fun k=>X k∨some k=vd.ownBlock∨some k=v'.ownBlock) u (Sp.spl 46 s)∧wr.heap.size≤w'.heap.size:=by
 have hsz:=h.fr.size
 obtain ⟨v',w',k1,k2,k3,k5⟩:=seen_append h.sn (s:=s) (u:=u) (hu.imp (fun k _ hn hc=>hn (by rcases hc with (hc | hc) | hc; exact .inl hc; exact .inr (.inl hc); exact .inr (.inr hc)))) hsz hl
 have hvs:=h.sn.lt
 have hvd:=h.ad.lt
 have hlt:=h.lt
 have hab:some ab≠vs.ownBlock:=fun e=>by have:=(hvs ab e.symm).1; omega
 have hnew : ∀ k,k<wr.heap.size→some k≠vs.ownBlock→some k≠v'.ownBlock:=fun k hk hn e=>by
  rcases k5 with h5 | h5
  ·rw [h5] at e; exact hn e
  ·rw [h5] at e; have:k=wr.heap.size+1:=by simpa using e
   omega
 refine ⟨v',w',k1,⟨h.an.kept (k3.block ab (by omega) hab),⟨k3.os.trans h.fr.os,k3.tape.trans h.fr.tape,k3.output.trans h.fr.output,Nat.le_trans hsz k3.size,fun k hk hn=>(k3.block k (by omega) (fun e=>by have:=(hvs k e.symm).1; omega)).trans (h.fr.block k hk hn)⟩,?_,?_,?_,h.lt,h.xa,h.xl⟩,?_,k3.size⟩
 ·exact k2.imp (fun k _ h1 _ hc=>by
   rcases hc with hc | hc
   ·exact h1 ⟨.inl hc,by have:=h.xl k hc; omega⟩
   ·exact h1 ⟨.inr hc,(hvd k hc.symm).2⟩)
 ·have:OwnQ (fun k=>X k∨some k=vs.ownBlock) w' w.heap.size vd add:=h.ad.fr k3 (fun k _ h1 _ e=>h1 (.inr e)) (fun k hk e=>h.ne k e.symm hk)
  have h2:=h.ad.imp (y:=fun k=>(X k∨some k=vs.ownBlock)∨some k=v'.ownBlock) (fun k hk h1 h2 hc=>by
   rcases hc with hc | hc
   ·exact h1 hc
   ·exact hnew k hk (fun e=>h1 (.inr e)) hc)
  exact (h2.fr k3 (fun k _ h1 _ e=>h1 (.inl (.inr e))) (fun k hk e=>h.ne k e.symm hk)).imp (fun k _ h1 _ hc=>h1 (by rcases hc with hc | hc; exact .inl (.inl hc); exact .inr hc))
 ·intro k hk e
  rcases k5 with h5 | h5
  ·rw [h5] at hk; exact h.ne k hk e
  ·rw [h5] at hk
   have:k=wr.heap.size+1:=by simpa using hk.symm
   have:=(hvd k e).2
   omega
 ·obtain ⟨g',o',c',e1,e2,e3,e4⟩:=hu
  exact ⟨g',o',c',e1,e2,e3.fr k3 (fun e=>e4 (.inr (.inr e))),fun hc=>by
   rcases hc with hc | hc | hc
   ·exact e4 (.inl hc)
   ·exact e4 (.inr (.inl hc))
   ·exact hnew g' e3.1 (fun e=>e4 (.inr (.inr e))) hc⟩
theorem _root_.Go.Proofs.YtkkpahmoljiepaaGreatDoor.MI.add1 {xv:Value} {xs:List Rec} {base':Nat} (hx:OwnQ (fun k=>(X k∨some k=vs.ownBlock)∨some k=vd.ownBlock) wr base' xv xs) (hl:add.length+xs.length≤100000) :
  ∃ v' w',(Builtin.append_ #[115,115] 115 #[vd,xv]).run Tryz.prog wr=.ok v' w'∧AsAt w' ab rc aa va vu vd∧MI X w (w'.setCell ⟨ab,4,none⟩ v') ab rc aa va vu v' vs seen (add++xs)∧(∃ a c,v'=.slice a (add.length+xs.length) c):=by
 have hsz:=h.fr.size
 have hvs:=h.sn.lt
 have hvd:=h.ad.lt
 have hlt:=h.lt
 obtain ⟨v',w',k1,k2,k3,k5⟩:=append_q h.ad hx (fun k _ hc=>hc) hsz hl (fun k hk=>by
  rcases hk with hk | hk
  ·have:=h.xl k hk; omega
  ·exact (hvs k hk.symm).2)
 have hab:some ab≠vd.ownBlock:=fun e=>by have:=(hvd ab e.symm).1; omega
 have S:=h.an.kept (k3.block ab (by omega) hab)
 have hfr:Fr (fun k=>some k≠vd.ownBlock) wr w':=Fr.of_grown k3 (fun _ h=>h)
 have hnew : ∀ k,k<wr.heap.size→some k≠vd.ownBlock→some k≠v'.ownBlock:=fun k hk hn e=>by
  rcases k5 with h5 | h5
  ·rw [h5] at e; exact hn e
  ·rw [h5] at e; have:k=wr.heap.size:=by simpa using e
   omega
 have hset:Fr (fun k=>k≠ab) w' (w'.setCell ⟨ab,4,none⟩ v'):=Fr.of_set (a:=⟨ab,4,none⟩) v' (fun _ h=>h)
 refine ⟨v',w',k1,S,⟨S.set4 v',?_,?_,?_,?_,h.lt,h.xa,h.xl⟩,?_⟩
 ·have h2:Fr (fun k=>k≠ab) w w':=⟨k3.os.trans h.fr.os,k3.tape.trans h.fr.tape,k3.output.trans h.fr.output,Nat.le_trans hsz k3.size,fun k hk hn=>(k3.block k (by omega) (fun e=>by have:=(hvd k e.symm).1; omega)).trans (h.fr.block k hk hn)⟩
  exact h2.trans hset
 ·have h1:=h.sn.imp (y:=fun k=>(X k∨some k=vd.ownBlock)∨some k=v'.ownBlock) (fun k hk n1 n2 hc=>by
   rcases hc with hc | hc
   ·exact n1 hc
   ·exact hnew k hk (fun e=>n1 (.inr e)) hc)
  have h2:=h1.fr hfr (fun k _ n1 _ e=>n1 (.inl (.inr e))) (fun k hk e=>h.ne k hk e.symm)
  have h3:=h2.fr hset (fun k _ n1 _ e=>n1 (.inl (.inl (by rw [e]; exact h.xa)))) (fun k hk e=>by have:=(hvs k hk).1; omega)
  exact h3.imp (fun k _ n1 _ hc=>n1 (by rcases hc with hc | hc; exact .inl (.inl hc); exact .inr hc))
 ·exact k2.set (a:=⟨ab,4,none⟩) v' (.inl h.xa) hlt
 ·intro k hk e
  have:=hvs k hk
  rcases k5 with h5 | h5
  ·rw [h5] at e; exact h.ne k hk e
  ·rw [h5] at e
   have:k=wr.heap.size:=by simpa using e.symm
   omega
 ·obtain ⟨a,c,e⟩:=k2.slice
  rw [List.length_append] at e
  exact ⟨a,c,e⟩
end
end Og
def pStep (L ans:List Rec) (s:List Str×List Rec) (r:Rec):List Str×List Rec :=
 if nmd r && !s.1.contains (lastW r.data) then (s.1++[lastW r.data],s.2++(setP (ofP L (lastW r.data)) 1).filter (fun a=>!ans.any (a == ·))) else s
def pGo (L ans l:List Rec):List Str×List Rec:=l.foldl (pStep L ans) ([],[])
namespace Lq
open Ka Kd Rf Rg Ia Iow Ie Zb Zc Za La Lb Re Lc Le Lf Lg Lh Li
theorem pgo_step (L ans l:List Rec) (r:Rec):pGo L ans (l++[r])=pStep L ans (pGo L ans l) r:=by
 unfold pGo
 rw [List.foldl_append]; rfl
theorem pstep_no {L ans:List Rec} {s:List Str×List Rec} {r:Rec} (h:nmd r=false):pStep L ans s r=s:=by unfold pStep; rw [h]; rfl
theorem pstep_in {L ans:List Rec} {s:List Str×List Rec} {r:Rec} (h:s.1.contains (lastW r.data)=true):pStep L ans s r=s:=by unfold pStep; rw [h,Bool.not_true,Bool.and_false]; rfl
theorem pstep_new {L ans:List Rec} {s:List Str×List Rec} {r:Rec} (hn:nmd r=true) (h:s.1.contains (lastW r.data)=false):pStep L ans s r=(s.1++[lastW r.data],s.2++(setP (ofP L (lastW r.data)) 1).filter (fun a=>!ans.any (a == ·))):=by unfold pStep; rw [h,hn]; rfl
theorem pgo_len (L ans:List Rec) (hL:L.length≤60) : ∀ (l:List Rec),(pGo L ans l).1.length≤l.length∧(pGo L ans l).2.length≤l.length*60:=by
 intro l
 obtain ⟨n,hn⟩ : ∃ n,l.length=n:=⟨_,rfl⟩
 induction n generalizing l with
 | zero=>obtain rfl:l = []:=List.eq_nil_of_length_eq_zero hn; exact ⟨Nat.le_refl _,Nat.zero_le _⟩
 | succ n ih =>
  rcases List.eq_nil_or_concat l with rfl | ⟨l',r,rfl⟩
  ·simp at hn
  ·rw [List.concat_eq_append] at *
   have hl:l'.length=n:=by simp at hn; exact hn
   obtain ⟨h1,h2⟩:=ih l' hl
   rw [pgo_step]
   have ho:=List.length_filter_le (fun a:Rec=>!ans.any (a == ·)) (setP (ofP L (lastW r.data)) 1)
   have hs:=Nat.le_trans (setP_len (ofP L (lastW r.data)) 1) (ofP_len L (lastW r.data))
   unfold pStep
   split
   ·refine ⟨by simp; omega,?_⟩
    show ((pGo L ans l').2++_).length≤_
    rw [List.length_append,List.length_append]
    simp only [List.length_singleton]
    omega
   ·exact ⟨by simp; omega,by simp; omega⟩
theorem index_none (x:Rec) (w:World) :
  Calls Tryz.prog 234 #[.slice none 0 0,.agg #[.string (B x.owner),.int .i64 x.ttl,.int .i64 x.type,.string (B x.data)]] w fun e w'=>e=.returned (.int .i64 (-1))∧Below w.heap.size w w':=by
 have hba : ∀ o,Below w.heap.size w (w.alloc o):=fun o=>(Below.refl _ _).alloc (Nat.le_refl _) _
 have HBA:=aH hba
 clear hba
 go_enter Tryz.func234,Tryz.ntmps234
 go_wp2_with fail
 go_loopw [8] (fun i wr=>i=.int .i64 0∧Below w.heap.size w wr) (fun _ _=>0)
 case atStart=>exact ⟨rfl,aU HBA _⟩
 case round =>
  obtain ⟨rfl,hb⟩:=hrel
  go_wp2_with fail
  go_ret
  exact ⟨rfl,hb⟩
theorem contains_none (x:Rec) (w:World) :
  Calls Tryz.prog 178 #[.slice none 0 0,.agg #[.string (B x.owner),.int .i64 x.ttl,.int .i64 x.type,.string (B x.data)]] w fun e w'=>e=.returned (.bool false)∧Below w.heap.size w w':=by
 have hba : ∀ o,Below w.heap.size w (w.alloc o):=fun o=>(Below.refl _ _).alloc (Nat.le_refl _) _
 have HBA:=aH hba
 have HI:=aH (fun W=>index_none x W)
 clear hba
 go_enter Tryz.func178,Tryz.ntmps178
 go_wp2_with fail
 refine (aU HI _).mono ?_
 rintro e w2 ⟨rfl,hb2⟩
 go_wp2_with fail
 go_ret
 exact ⟨rfl,(aU HBA _).trans (hb2.mono (by simp))⟩
theorem contains_rv (x:Rec) (v:Value) (rs:List Rec) (w:World) (hv:RV w v rs) (hl:rs.length≤3001) :
  Calls Tryz.prog 178 #[v,.agg #[.string (B x.owner),.int .i64 x.ttl,.int .i64 x.type,.string (B x.data)]] w fun e w'=>e=.returned (.bool (rs.any (x == ·)))∧Below w.heap.size w w':=by
 rcases hv with ⟨rfl,rfl⟩ | ⟨b,off,cap,rfl,_,hr⟩
 ·exact contains_none x w
 ·exact contains_some x b off cap rs w hr hl
def TgO (w:World) (base:Nat) (v:Value) (l:List Str):Prop:=w.ownsRow base 9 1 v l.length (l.map fun s=>.string (B s))
theorem TgO.slice {w:World} {base:Nat} {v:Value} {l:List Str} (h:TgO w base v l) : ∃ a c,v=.slice a l.length c:=by
 rcases h.2 with ⟨rfl,h0⟩ | ⟨g,cap,_,rfl,_⟩
 ·exact ⟨none,0,by rw [h0]⟩
 ·exact ⟨_,_,rfl⟩
theorem has_str (v:Value) (l:List Str) (x:Str) (base:Nat) (w:World) (h:TgO w base v l) (hl:l.length≤100000) :
  Calls Tryz.prog 197 #[v,.string (B x)] w fun e w'=>e=.returned (.bool (l.contains x))∧w'=w:=by
 have hBi : ∀ a b:Str,B a=B b→a=b:=fun a b e=>by
  have:=congrArg (fun z:ByteArray=>z.data.toList) e
  exact this
 have hc0 : ∀ (n:Nat),n=l.length→Lib.containsS ((l.map B).take n) (B x)=l.contains x:=fun n hn=>by
  rw [hn,show l.length=(l.map B).length by simp,List.take_length,Bool.eq_iff_iff,Lib.containsS_iff,List.contains_iff_mem,List.mem_map]
  exact ⟨fun ⟨a,h1,h2⟩=>by rw [← hBi _ _ h2]; exact h1,fun h=>⟨x,h,rfl⟩⟩
 rcases h.2 with ⟨rfl,h0⟩ | ⟨g,cap,cur,rfl,hb,hcur,hc,_,hsz,htk⟩
 ·have:=Tryz.slices_Contains_string_empty none 0 (B x) w
  have hl0:l = []:=List.eq_nil_of_length_eq_zero h0
  subst hl0
  exact this
 ·have:=Tryz.slices_Contains_string g 0 l.length cap (l.map B) (B x) w (by simp) (by omega) (fun j hj=>by
   have hj':j<l.length:=by simpa using hj
   have:=congrArg (fun z:List Value=>z[j]?) htk
   rw [List.getElem?_take_of_lt (by omega),List.getElem?_map,List.getElem?_eq_getElem hj'] at this
   unfold World.cell?
   rw [hcur,Nat.zero_add]
   have h2:cur[j]? = some (.string (B l[j])):=by simpa using this
   simp [h2,hj'])
  rw [hc0 l.length rfl] at this
  exact this
theorem infoT:(Tryz.prog.info? 9).map (fun i=>(i.zero,i.size,i.bytes))=some (some (.string ⟨#[]⟩),1,16):=by kernel_rfl
theorem underT:Tryz.prog.underlying 49=some (.slice 9):=by kernel_rfl
theorem tg_add {w:World} {base:Nat} {v:Value} {l:List Str} (h:TgO w base v l) (x:Str) (hb:base≤w.heap.size) (hl:l.length≤100000) :
  ∃ v' w',(Builtin.append_ #[49,49] 49 #[v,.slice (some ⟨w.heap.size,0,none⟩) 1 1]).run Tryz.prog (w.alloc (.cells #[.string (B x)] 9))=.ok v' w'∧TgO w' base v' (l++[x])∧Fr (fun k=>some k≠v.ownBlock) w w'∧(v'.ownBlock=v.ownBlock∨v'.ownBlock=some (w.heap.size+1)):=by
 obtain ⟨i0,hi,hz0,hz1,hz2⟩:=info_parts infoT
 have hba:Below w.heap.size w (w.alloc (.cells #[.string (B x)] 9)):=(Below.refl _ _).alloc (Nat.le_refl _) _
 have hsz:(w.alloc (.cells #[.string (B x)] 9)).heap.size=w.heap.size+1:=World.size_alloc w _
 obtain ⟨v',w',k1,k2,k3,_,k5⟩:=run_append_own_at (P:=Tryz.prog) (w.alloc (.cells #[.string (B x)] 9)) base 49 49 9 i0 _ 1 16 underT hi hz0 hz1 hz2 rfl (by omega) v l.length _ (own_below h hba) ⟨w.heap.size,0,none⟩ 1 1 [.string (B x)] rfl (fun j y hj=>by
  rw [Addr.add_lit,Nat.zero_add]
  have:=World.alloc_heap_new w (.cells #[.string (B x)] 9)
  unfold World.cell?
  rw [this]
  cases j with
  | zero=>exact hj
  | succ j=>simp at hj) (fun y hy=>by
   have:y=.string (B x):=by simpa using hy
   rw [this]; rfl) (by simp [maxLen]; omega) (by omega) (by omega)
 rw [hsz] at k5
 refine ⟨v',w',k1,?_,⟨k3.os,k3.tape,k3.output,Nat.le_trans (by omega) k3.size,fun k hk hn=>(k3.block k (by omega) hn).trans (Below.heap_alloc w _ k hk)⟩,k5⟩
 unfold TgO
 rw [List.length_append,List.map_append]
 exact k2
structure PI (w wr:World) (vt vl:Value) (tg:List Str) (add:List Rec):Prop where
 tg:TgO wr w.heap.size vt tg
 ad:OwnR wr w.heap.size vl add
 ne : ∀ k,vt.ownBlock=some k→vl.ownBlock≠some k
 bl:Below w.heap.size w wr
theorem PI.below {w wr w1:World} {vt vl:Value} {tg:List Str} {add:List Rec} (h:PI w wr vt vl tg add) (hb:Below wr.heap.size wr w1):PI w w1 vt vl tg add :=
 ⟨own_below h.tg hb,h.ad.below hb,h.ne,h.bl.trans (hb.mono h.bl.size)⟩
theorem PI.tg1 {w wr:World} {vt vl:Value} {tg:List Str} {add:List Rec} (h:PI w wr vt vl tg add) (x:Str) (hl:tg.length≤100000) :
  ∃ v' w',(Builtin.append_ #[49,49] 49 #[vt,.slice (some ⟨wr.heap.size,0,none⟩) 1 1]).run Tryz.prog (wr.alloc (.cells #[.string (B x)] 9))=.ok v' w'∧PI w w' v' vl (tg++[x]) add∧(∃ a c,v'=.slice a (tg.length+1) c):=by
 have hvt:=World.ownsRow.lt h.tg
 have hvl:=h.ad.own_lt0
 obtain ⟨v',w',k1,k2,k3,k5⟩:=tg_add h.tg x h.bl.size hl
 refine ⟨v',w',k1,⟨k2,?_,?_,?_⟩,?_⟩
 ·refine h.ad.kept (fun g hg=>k3.block g (hvl g hg).2 (fun e=>h.ne g e.symm hg))
 ·intro k hk e
  rcases k5 with h5 | h5
  ·rw [h5] at hk; exact h.ne k hk e
  ·rw [h5] at hk
   have:k=wr.heap.size+1:=by simpa using hk.symm
   have:=(hvl k e).2
   omega
 ·exact h.bl.trans ⟨k3.os,k3.tape,k3.output,k3.size,fun k hk=>k3.block k (by have:=h.bl.size; omega) (fun e=>by have:=(hvt k e.symm).1; omega)⟩
 ·obtain ⟨a,c,e⟩:=k2.slice
  rw [List.length_append] at e
  exact ⟨a,c,e⟩
theorem PI.ad1 {w wr:World} {vt vl:Value} {tg:List Str} {add:List Rec} (h:PI w wr vt vl tg add) {b':Nat} (r:Rec) (hr:bE wr b' 0 [r]) (hl:add.length≤90000) :
  ∃ v' w',(Builtin.append_ #[41,41] 41 #[vl,.slice (some ⟨b',0,none⟩) 1 1]).run Tryz.prog wr=.ok v' w'∧PI w w' vt v' tg (add++[r])∧(∃ a c,v'=.slice a (add.length+1) c)∧Below w.heap.size wr w':=by
 have hvt:=World.ownsRow.lt h.tg
 have hvl:=h.ad.own_lt0
 obtain ⟨v',w',k1,k2,k3,k5⟩:=append_run w.heap.size vl add [r] b' 0 1 wr h.ad hr h.bl.size (by simp; omega)
 have hbl:Below w.heap.size wr w':=⟨k3.os,k3.tape,k3.output,k3.size,fun k hk=>k3.block k (by have:=h.bl.size; omega) (fun e=>by have:=(hvl k e.symm).1; omega)⟩
 refine ⟨v',w',k1,⟨?_,k2,?_,h.bl.trans hbl⟩,?_,hbl⟩
 ·refine World.ownsRow.kept h.tg k3 ?_
  cases hvv:vt.ownBlock with
  | none=>exact .inl rfl
  | some k=>exact .inr (fun e=>h.ne k hvv e.symm)
 ·intro k hk e
  have:=(hvt k hk).2
  rcases k5 with h5 | h5
  ·rw [h5] at e; exact h.ne k hk e
  ·rw [h5] at e
   have:k=wr.heap.size:=by simpa using e.symm
   omega
 ·obtain ⟨a,c,e⟩:=k2.slice
  rw [List.length_append] at e
  exact ⟨a,c,e⟩
end Lq
end Go.Proofs.YtkkpahmoljiepaaGreatDoor
