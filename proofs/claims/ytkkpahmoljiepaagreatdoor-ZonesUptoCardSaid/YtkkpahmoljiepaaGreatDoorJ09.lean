/- Contract: (*lookup.search).take. -/
import Derived.Test.YtkkpahmoljiepaaGreatDoorJ08
import Derived.Maps.AppendAt
import Derived.Shelf.Spec.SlicesGrow
import Derived.Ground.Names8Prog
import Derived.Test.YtkkpahmoljiepaaGreatDoorProg
set_option linter.unusedSimpArgs false
set_option linter.unusedVariables false
set_option maxRecDepth 1000000
set_option maxHeartbeats 12800000
namespace Go.Proofs.YtkkpahmoljiepaaGreatDoor
open Go.RowKit
open Pu (Str aH aU)
attribute [local go_sem] Oper.semAt_some
def aM (w:World) (sb zb:Nat) (k rc:Int) (au:Bool) (va vb vc:Value) (cb:Nat):Prop :=
 w.heap[sb]? = some (.cells #[.pointer (some ⟨zb,0,none⟩),.int .i64 k,.int .i64 rc,.bool au,va,vb,vc,.pointer (some ⟨cb,0,none⟩)] 210)
structure Fr (p:Nat→Prop) (A B:World):Prop where
 os:B.os=A.os
 tape:B.tape=A.tape
 output:B.output=A.output
 size:A.heap.size≤B.heap.size
 block : ∀ k,k<A.heap.size→p k→B.heap[k]? = A.heap[k]?
theorem Fr.refl (p:Nat→Prop) (A:World):Fr p A A:=⟨rfl,rfl,rfl,Nat.le_refl _,fun _ _ _=>rfl⟩
theorem Fr.trans {p:Nat→Prop} {A B C:World} (h:Fr p A B) (k:Fr p B C):Fr p A C :=
 ⟨k.os.trans h.os,k.tape.trans h.tape,k.output.trans h.output,Nat.le_trans h.size k.size,fun i hi hp=>(k.block i (Nat.lt_of_lt_of_le hi h.size) hp).trans (h.block i hi hp)⟩
theorem Fr.mono {p q:Nat→Prop} {A B:World} (h:Fr p A B) (hq : ∀ k,k<A.heap.size→q k→p k):Fr q A B:=⟨h.os,h.tape,h.output,h.size,fun k hk hp=>h.block k hk (hq k hk hp)⟩
theorem Fr.of_below {p:Nat→Prop} {A B:World} (h:Below A.heap.size A B):Fr p A B:=⟨h.os,h.tape,h.output,h.size,fun k hk _=>h.block k hk⟩
theorem Fr.of_grown {p:Nat→Prop} {A B:World} {row:Option Nat} (h:A.grownBy B row) (hp : ∀ k,p k→some k≠row):Fr p A B:=⟨h.os,h.tape,h.output,h.size,fun k hk hk'=>h.block k hk (hp k hk')⟩
theorem Fr.of_set {p:Nat→Prop} {A:World} {a:Addr} (u:Value) (hp : ∀ k,p k→k≠a.block):Fr p A (A.setCell a u):=⟨rfl,rfl,rfl,by simp [World.setCell],fun k _ hk=>Below.heap_setCell _ _ _ _ (hp k hk)⟩
theorem Fr.below {p:Nat→Prop} {A B:World} {n:Nat} (h:Fr p A B) (hp : ∀ k,k<n→p k) (hn:n≤A.heap.size):Below n A B:=⟨h.os,h.tape,h.output,h.size,fun k hk=>h.block k (by omega) (hp k hk)⟩
theorem Fr.of_keeps {d:Nat} {A B:World} (h:It.Keeps d A B):Fr (fun k=>k≠d) A B:=⟨h.os,h.tape,h.output,h.size,h.block⟩
section
variable {w:World} {sb zb cb:Nat} {k rc:Int} {au:Bool} {va vb vc:Value}
theorem aM.lt (h:aM w sb zb k rc au va vb vc cb):sb<w.heap.size:=(Array.getElem?_eq_some_iff.1 h).1
theorem aM.cells (h:aM w sb zb k rc au va vb vc cb):w.cell? ⟨sb,0,none⟩=some (.pointer (some ⟨zb,0,none⟩))∧w.cell? ⟨sb,1,none⟩=some (.int .i64 k)∧w.cell? ⟨sb,2,none⟩=some (.int .i64 rc)∧w.cell? ⟨sb,3,none⟩=some (.bool au)∧w.cell? ⟨sb,4,none⟩=some va∧w.cell? ⟨sb,5,none⟩=some vb∧w.cell? ⟨sb,6,none⟩=some vc∧w.cell? ⟨sb,7,none⟩=some (.pointer (some ⟨cb,0,none⟩)):=by
 unfold aM at h
 refine ⟨?_,?_,?_,?_,?_,?_,?_,?_⟩ <;> simp [World.cell?,h]
theorem aM.frozen (h:aM w sb zb k rc au va vb vc cb) (i:Nat):w.frozen? ⟨sb,i,none⟩=false:=by
 unfold aM at h; simp [World.frozen?,h]
theorem aM.kept {w':World} (h:aM w sb zb k rc au va vb vc cb) (hb:w'.heap[sb]? = w.heap[sb]?):aM w' sb zb k rc au va vb vc cb:=hb.trans h
theorem aM.set2 (h:aM w sb zb k rc au va vb vc cb) (x:Int):aM (w.setCell ⟨sb,2,none⟩ (.int .i64 x)) sb zb k x au va vb vc cb:=by
 unfold aM at *; simp only [World.setCell]; rw [Array.getElem?_modify,if_pos rfl,h]; rfl
theorem aM.set3 (h:aM w sb zb k rc au va vb vc cb) (x:Bool):aM (w.setCell ⟨sb,3,none⟩ (.bool x)) sb zb k rc x va vb vc cb:=by
 unfold aM at *; simp only [World.setCell]; rw [Array.getElem?_modify,if_pos rfl,h]; rfl
theorem aM.set4 (h:aM w sb zb k rc au va vb vc cb) (x:Value):aM (w.setCell ⟨sb,4,none⟩ x) sb zb k rc au x vb vc cb:=by
 unfold aM at *; simp only [World.setCell]; rw [Array.getElem?_modify,if_pos rfl,h]; rfl
theorem aM.set5 (h:aM w sb zb k rc au va vb vc cb) (x:Value):aM (w.setCell ⟨sb,5,none⟩ x) sb zb k rc au va x vc cb:=by
 unfold aM at *; simp only [World.setCell]; rw [Array.getElem?_modify,if_pos rfl,h]; rfl
theorem aM.set6 (h:aM w sb zb k rc au va vb vc cb) (x:Value):aM (w.setCell ⟨sb,6,none⟩ x) sb zb k rc au va vb x cb:=by
 unfold aM at *; simp only [World.setCell]; rw [Array.getElem?_modify,if_pos rfl,h]; rfl
end
theorem OwnR.kept {w w':World} {base:Nat} {v:Value} {rs:List Rec} (h:OwnR w base v rs) (hg : ∀ g,v.ownBlock=some g→w'.heap[g]? = w.heap[g]?):OwnR w' base v rs:=by
 obtain ⟨h1,h2⟩:=h
 refine ⟨h1,?_⟩
 rcases h2 with h2 | ⟨g,cap,cur,rfl,hb,hcur,hr⟩
 ·exact .inl h2
 ·exact .inr ⟨g,cap,cur,rfl,hb,(hg g rfl).trans hcur,hr⟩
theorem OwnR.own_lt {w:World} {base:Nat} {v:Value} {rs:List Rec} (h:OwnR w base v rs) : ∀ g,v.ownBlock=some g→base≤g∧g<w.heap.size:=World.ownsRow.lt h
def takes (k:Int) (x:Nat×List Rec):Bool:=k == 255 || k == typeOf x
def takeL (k:Int) (l:List (Nat×List Rec)):List Rec:=(l.filter (takes k)).flatMap (·.2)
def takeP (k:Int) (l:List Rec):List Rec:=takeL k (runs aD l)
def takenP (k:Int) (l:List Rec):Bool:=(runs aD l).any (takes k)
namespace Lg
open Ka Kd Rf Rg Ia Iow Ie Zb Zc Za La Lb Re Lc Le Lf
theorem takeL_no {k:Int} {l:List (Nat×List Rec)} {i:Nat} {x:Nat×List Rec} (h:l[i]? = some x) (hk:takes k x=false):takeL k (l.take (i+1))=takeL k (l.take i)∧(l.take (i+1)).any (takes k)=(l.take i).any (takes k):=by
 rw [take_one h]
 unfold takeL
 simp [List.filter_append,hk]
theorem takeL_yes {k:Int} {l:List (Nat×List Rec)} {i:Nat} {x:Nat×List Rec} (h:l[i]? = some x) (hk:takes k x=true):takeL k (l.take (i+1))=takeL k (l.take i)++x.2∧(l.take (i+1)).any (takes k)=true:=by
 rw [take_one h]
 unfold takeL
 simp [List.filter_append,hk]
theorem runs_cat (same:Rec→Rec→Bool) : ∀ (f k:Nat) (l:List Rec),l.length≤f→(runsP same f k l).flatMap (·.2)=l
 | 0,k,l,h=>by
  obtain rfl:l = []:=List.eq_nil_of_length_eq_zero (by omega)
  rfl
 | f+1,k,[],h=>rfl
 | f+1,k,r :: t,h=>by
  have hd:(t.dropWhile (same r)).length≤t.length:=by
   have:=congrArg List.length (List.takeWhile_append_dropWhile (p:=same r) (l:=t))
   rw [List.length_append] at this; omega
  rw [runsP,List.flatMap_cons,runs_cat same f _ _ (by simp at h; omega)]
  simp [List.takeWhile_append_dropWhile]
theorem takeL_le (k:Int) : ∀ (l:List (Nat×List Rec)),(takeL k l).length≤(l.flatMap (·.2)).length
 | []=>by simp [takeL]
 | x :: t=>by
  have ih:=takeL_le k t
  unfold takeL at *
  rw [List.filter_cons]
  split
  ·simp only [List.flatMap_cons,List.length_append]; omega
  ·simp only [List.flatMap_cons,List.length_append]; omega
theorem takeL_len (k:Int) (l:List Rec) (i:Nat):(takeL k ((runs aD l).take i)).length≤l.length:=by
 have h1:=takeL_le k ((runs aD l).take i)
 have h2:(((runs aD l).take i).flatMap (·.2)).length≤((runs aD l).flatMap (·.2)).length:=by
  conv=>rhs; rw [← List.take_append_drop i (runs aD l),List.flatMap_append,List.length_append]
  omega
 have h3:(runs aD l).flatMap (·.2)=l:=runs_cat aD _ _ _ (Nat.le_refl _)
 rw [h3] at h2
 omega
theorem encs_app (a b:List Rec):encs (a++b)=encs a++encs b:=by simp [encs]
theorem append_run (base:Nat) (va:Value) (ans xs:List Rec) (b off c:Nat) (w:World) (ho:OwnR w base va ans) (hr:bE w b off xs) (hb:base≤w.heap.size) (hl:ans.length+xs.length≤100000) :
  ∃ v' w',(Builtin.append_ #[41,41] 41 #[va,.slice (some ⟨b,off,none⟩) xs.length c]).run Tryz.prog w=.ok v' w'∧OwnR w' base v' (ans++xs)∧w.grownBy w' va.ownBlock∧(v'.ownBlock=va.ownBlock∨v'.ownBlock=some w.heap.size):=by
 obtain ⟨i0,hi,hz0,hz1,hz2⟩:=info_parts infoR
 obtain ⟨v',w',h1,h2,h3,_,h5⟩:=run_append_own_at (P:=Tryz.prog) w base 41 41 47 i0 _ 4 48 underR hi hz0 hz1 hz2 rfl (by omega) va ans.length (encs ans) ho ⟨b,off,none⟩ xs.length c (encs xs) (encs_len xs) (fun j u hu=>by rw [Addr.add_lit]; exact encs_of_recsAt hr j u hu) encs_one (by simp [maxLen]; omega) (by omega) hb
 refine ⟨v',w',h1,?_,h3,h5⟩
 unfold OwnR
 rw [List.length_append,encs_app]
 exact h2
theorem wpIn_append {P:Program} {o:Oper} {a:Act} {w:World} {K:Act→World→Prop} {Q:Exit→Act→World→Prop} (s x:Operand) (t:TypeId) (ho:o.op=.call { callee:=.builtin .append,args:=#[s,x],argTypes:=#[t,t] }) (v xv v':Value) (w':World) (hs:a.eval s=v) (hx:a.eval x=xv)
  (hr:(Builtin.append_ #[t,t] o.type #[v,xv]).run P w=.ok v' w') (h:K (a.put o.dst v') w'):o.wpIn Fence.wide 0 P a w K Q:=by
 unfold Oper.wpIn
 refine ⟨fun _ _=>trivial,?_⟩
 rw [show Fence.wide.round=none from rfl,Oper.semAt_none]
 unfold execOp
 simp only [ho,resolve,invoke,builtin,Sem.run_bind,Sem.run_pure,Result.andThen_ok,List.map_toArray,List.map_cons,List.map_nil,hs,hx,hr]
 exact h
def Inv (sb zb cb:Nat) (k rc:Int) (au:Bool) (va vb vc:Value) (ans:List Rec) (base d tk:Nat) (w0:World) (pre:List Rec) (got:Bool) (W:World):Prop :=
 ∃ va',aM W sb zb k rc au va' vb vc cb∧OwnR W (sb+1) va' (ans++pre)∧(va'.ownBlock=va.ownBlock∨∃ g,va'.ownBlock=some g∧d+2≤g)∧(∀ g,va.ownBlock=some g→g<base)∧It.Box W tk (.bool got) 4∧Fr (fun j=>j≠sb∧some j≠va.ownBlock∧j≠tk∧j<d) w0 W
theorem Inv.keeps {sb zb cb:Nat} {k rc:Int} {au:Bool} {va vb vc:Value} {ans:List Rec} {base d tk:Nat} {w0:World} {pre:List Rec} {got:Bool} {A B:World} (h:Inv sb zb cb k rc au va vb vc ans base d tk w0 pre got A) (hk:It.Keeps (d+1) A B) (h1:sb<d) (h2:base≤d) (h3:tk<d) (h4:d≤A.heap.size) :
  Inv sb zb cb k rc au va vb vc ans base d tk w0 pre got B:=by
 obtain ⟨va',hs,ho,ha,hb,hx,hf⟩:=h
 refine ⟨va',hs.kept (hk.block sb hs.lt (by omega)),ho.kept (fun g hg=>hk.block g (ho.own_lt g hg).2 ?_),ha,hb,hx.below (hk.below (n:=d) (by omega) h4) h3,hf.trans ((Fr.of_keeps hk).mono (fun j _ hj=>by omega))⟩
 rcases ha with ha | ⟨g',hg',hge⟩
 ·have:=hb g (by rw [← ha]; exact hg); omega
 ·rw [hg] at hg'; cases hg'; omega
theorem take_any (sb zb cb b off:Nat) (k rc:Int) (au:Bool) (va vb vc v:Value) (ans l:List Rec) (w:World) (hs:aM w sb zb k rc au va vb vc cb) (ho:OwnR w (sb+1) va ans)
  (hL:Lies v b off l) (hr:bE w b off l) (hb1:b≠sb) (hb2:va.ownBlock≠some b) (hl:l.length≤3001) (ha:ans.length≤90000) :
  Calls Tryz.prog 248 #[.pointer (some ⟨sb,0,none⟩),v] w fun e w'=>e=.returned (.bool (takenP k l))∧(∃ va',aM w' sb zb k rc au va' vb vc cb∧OwnR w' (sb+1) va' (ans++takeP k l))∧Fr (fun j=>j≠sb∧some j≠va.ownBlock) w w':=by
 refine (callsIn_wide (n:=0)).1 ?_
 refine callsIn_of_wp_marks Tryz.func248 rfl trivial ?_
 simp only [Tryz.ntmps248,List.size_toArray,List.length_cons,List.length_nil,Nat.reduceAdd,Nat.reduceSub,Array.replicate_succ,Array.replicate_zero,List.push_toArray,List.append_toArray,List.nil_append,List.cons_append]
 have hslt:=hs.lt
 have hblt:=hr.1
 have hown:=ho.own_lt
 have HS:=aH hs
 have HO:=aH ho
 have HR:=aH hr
 have HL:=aH hL
 have HOL:=aH hown
 have hmx:Tryz.prog.follows .mixedOrders=true:=by kernel_rfl
 have hrv:RV w v l:=by
  rcases hL with h | ⟨cap,h1,h2⟩
  ·exact .inl h
  ·exact .inr ⟨b,off,cap,h1,h2,hr⟩
 have hbx:Below w.heap.size w ((w.alloc (.cells #[.pointer (some ⟨sb,0,none⟩)] 206)).alloc (.cells #[.bool false] 4)):=((Below.refl _ _).alloc (Nat.le_refl _) _).alloc (by simp) _
 have HV:=aH (hrv.below hbx)
 obtain ⟨av,cv,rfl⟩:=rv_slice hrv
 clear hs ho hr hL hrv hown
 gi_wp2_with fail
 refine ⟨trivial,rfl,?_⟩
 refine (callsIn_wide.2 (sets_o _ l _ (aU HV))).mono ?_
 rintro e W2 ⟨rfl,e4,hb2',e2,e3⟩
 have e0:It.Box W2 w.heap.size (.pointer (some ⟨sb,0,none⟩)) 206:=((It.Box.new _ _ _).alloc _).below hb2' (by simp <;> omega)
 have e1:It.Box W2 (w.heap.size+1) (.bool false) 4:=by
  have:=(It.Box.new (w.alloc (.cells #[.pointer (some ⟨sb,0,none⟩)] 206)) (.bool false) 4).below hb2' (by simp <;> omega)
  rwa [World.size_alloc] at this
 have e5:Below w.heap.size w W2:=hbx.trans (hb2'.mono (by simp <;> omega))
 simp only [World.size_alloc] at e4 e2 e3
 clear hbx hb2' HV
 gi_wp2_with fail
 have hgrow : ∀ r,Below W2.heap.size W2 ((W2.alloc (.deferred (some []))).alloc (.loop r)):=fun r=>((Below.refl _ _).alloc (Nat.le_refl _) _).alloc (by simp) _
 have HR2:=aH ((aU HR).below e5)
 have HS2:=aH ((aU HS).kept (e5.block sb hslt))
 have HO2:=aH ((aU HO).below e5)
 refine It.rangeD (xs:=runs aD l) (encs:=fun x:Nat×List Rec=>#[.slice (some ⟨b,off+x.1*4,none⟩) x.2.length x.2.length]) (St:=fun A B=>Below A.heap.size A B) (Kp:=It.Keep3 (w.heap.size+1+1) (w.heap.size+1+1+1) b) (Kx:=fun _ _=>True)
  (gf:=233) (lb:=#[.pointer (some ⟨w.heap.size+1+1,0,none⟩),.pointer (some ⟨w.heap.size+1+1+1,0,none⟩)]) rfl (enters_of Tryz.func233 (by kernel_rfl) rfl) (fun _=>rfl) ?seq
  [w.heap.size+1+1,w.heap.size+1+1+1,b] (by simp; omega) (fun A B h=>h) (fun A B h h'=>⟨h',h _ (by simp),h _ (by simp),h _ (by simp)⟩) (fun _ _=>trivial)
  (fun i W=>Inv sb zb cb k rc au va vb vc ans w.heap.size W2.heap.size (w.heap.size+1) W2 (takeL k ((runs aD l).take i)) (((runs aD l).take i).any (takes k)) W)
  (fun _ _=>False)
  (fun i A B h hA hk=>h.keeps hk (by omega) (by omega) (by omega) hA)
  (fun c A B h hA hk=>h)
  ⟨va,aU HS2,by simpa [takeL] using aU HO2,.inl rfl,fun g hg=>(aU HOL g hg).2,e1,Fr.refl _ _⟩
  ?round ?done ?stop
 case seq =>
  intro r
  have hg:=hgrow r
  exact seqV _ b off _ _ l _ (aU HL) ((hg.cell (p:=⟨w.heap.size+1+1,0,none⟩) (by show w.heap.size+1+1<W2.heap.size; omega)).trans e2) ((hg.cell (p:=⟨w.heap.size+1+1+1,0,none⟩) (by show w.heap.size+1+1+1<W2.heap.size; omega)).trans e3) ((aU HR2).below hg) (by have:=hg.size; omega) (by have:=hg.size; omega) hl
 case round =>
  intro l' i x V0 W hx hI hsz
  gi_wp2_with fail
  refine ⟨trivial,?_⟩
  have HI:=aH hI
  obtain ⟨va',hsW,hoW,haW,hbW,hxW,hfW⟩:=hI
  have hmem:x∈runs aD l:=List.mem_of_getElem? hx
  have hpos:=(runs_piece hmem).2.1
  have hrl:=runs_len hmem
  have hbb:W.heap[b]? = W2.heap[b]?:=hfW.block b (by omega) ⟨hb1,fun h=>hb2 h.symm,by omega,by omega⟩
  have hP:=bE.piece (Ia.bE.kept (aU HR2) hfW.size hbb) hmem
  obtain ⟨q0,q1,q2,q3⟩:=hP.four 0 hpos
  clear q0 q1 q3
  rw [Nat.zero_mul,Nat.add_zero,type_head x hpos] at q2
  have hposI:(0:Int)<(x.2.length:Int):=by omega
  have cbx:W.cell? ⟨w.heap.size,0,none⟩=some (.pointer (some ⟨sb,0,none⟩)):=(World.cell?_of_block (hfW.block w.heap.size (by omega) ⟨by omega,fun h=>by have:=hbW _ h.symm; omega,by omega,by omega⟩)).trans e0.cell
  obtain ⟨s0,s1,s2,s3,s4,s5,s6,s7⟩:=hsW.cells
  clear s0 s2 s3 s5 s6 s7
  have HX:=aH hx
  have HP:=aH hP
  have HSW:=aH hsW
  have HOW:=aH hoW
  have HAW:=aH haW
  have HBW:=aH hbW
  have HXW:=aH hxW
  have HFW:=aH hfW
  have htl:=takeL_len k l i
  have htl2:(takeL k ((runs aD l).take i)).length≤3001:=by omega
  clear hx hP hsW hoW haW hbW hxW hfW hmem
  cases ht:takes k x
  ·have HE:Hid (∀ nq,It.postD W2.heap.size [w.heap.size+1+1,w.heap.size+1+1+1,b] (fun W=>Inv sb zb cb k rc au va vb vc ans w.heap.size W2.heap.size (w.heap.size+1) W2 (takeL k ((runs aD l).take (i+1))) (((runs aD l).take (i+1)).any (takes k)) W) (fun _ _=>False) W .normal { tmps:=#[],defers:=[] } (W.drewN nq)):=fun nq=>by
    obtain ⟨t1,t2⟩:=takeL_no (aU HX) ht
    refine ⟨⟨Nat.le_refl _,rfl,rfl⟩,fun _ _=>rfl,?_⟩
    rw [t1,t2]
    exact (aU HI).keeps (It.Keeps.of_below (Rg.below_drewN (Below.refl _ W) nq)) (by omega) (by omega) (by omega) (by omega)
   have h255:(k == 255)=false:=by unfold takes at ht; rw [Bool.or_eq_false_iff] at ht; exact ht.1
   have hkt:(k == typeOf x)=false:=by unfold takes at ht; rw [Bool.or_eq_false_iff] at ht; exact ht.2
   clear ht
   gi_wp2_with fail
   refine Iq.region_quiet hmx (Ir.noDefer_spec (by kernel_rfl)) (by kernel_rfl) ?_
   repeat (go_big_quiet_step (fail))
   refine wpQuiet_nil ?_
   intro _ hw'
   obtain ⟨nq,rfl⟩:=hw'
   gi_wp2_with fail
   exact aU HE nq
  ·have hreg:k=255∨((k == 255)=false∧(k == typeOf x)=true):=by
    unfold takes at ht
    cases h:k == 255
    ·rw [h] at ht; exact .inr ⟨rfl,ht⟩
    ·exact .inl (by simpa using h)
   have HGO:Hid (∀ nq,∃ v' w',(∃ a2 n2 c2,v'=Value.slice a2 n2 c2)∧(Builtin.append_ #[41,41] 41 #[va',.slice (some ⟨b,off+x.1*4,none⟩) x.2.length x.2.length]).run Tryz.prog (W.drewN nq).drew=.ok v' w' ∧
     w'.cell? ⟨w.heap.size,0,none⟩=some (.pointer (some ⟨sb,0,none⟩))∧w'.cell? ⟨sb,4,none⟩=some va'∧w'.frozen? ⟨sb,4,none⟩=false ∧
     (w'.setCell ⟨sb,4,none⟩ v').cell? ⟨w.heap.size+1,0,none⟩=some (.bool (((runs aD l).take i).any (takes k)))∧(w'.setCell ⟨sb,4,none⟩ v').frozen? ⟨w.heap.size+1,0,none⟩=false ∧
     Hid (It.postD W2.heap.size [w.heap.size+1+1,w.heap.size+1+1+1,b] (fun W=>Inv sb zb cb k rc au va vb vc ans w.heap.size W2.heap.size (w.heap.size+1) W2 (takeL k ((runs aD l).take (i+1))) (((runs aD l).take (i+1)).any (takes k)) W) (fun _ _=>False) W .normal { tmps:=#[],defers:=[] } ((w'.setCell ⟨sb,4,none⟩ v').setCell ⟨w.heap.size+1,0,none⟩ (.bool true)))):=fun nq=>by
    have hD:Below W.heap.size W (W.drewN nq).drew:=(Rg.below_drewN (Below.refl _ W) nq).drew
    have hsD:(W.drewN nq).drew.heap.size=W.heap.size:=rfl
    obtain ⟨t1,t2⟩:=takeL_yes (aU HX) ht
    obtain ⟨v',w',hrun,hown',hgr,hat⟩:=append_run (sb+1) va' _ x.2 b (off+x.1*4) x.2.length (W.drewN nq).drew ((aU HOW).below hD) ((aU HP).below hD) (by omega) (by rw [List.length_append]; omega)
    have hsS:=(aU HSW).lt
    have hva : ∀ j,(j≤sb∨(w.heap.size≤j∧j<W2.heap.size+2))→some j≠va'.ownBlock:=by
     intro j hj e
     have h1:=(aU HOW).own_lt j e.symm
     rcases aU HAW with h | ⟨g,h2,h3⟩
     ·have:=aU HBW j (by rw [← h]; exact e.symm); omega
     ·rw [← e] at h2; cases h2; omega
    have hvb:some b≠va'.ownBlock:=by
     intro e
     rcases aU HAW with h | ⟨g,h2,h3⟩
     ·rw [h] at e; exact hb2 e.symm
     ·rw [← e] at h2; cases h2; omega
    have hblk : ∀ j,j<W.heap.size→some j≠va'.ownBlock→w'.heap[j]? = W.heap[j]?:=fun j hj h=>(hgr.block j hj h).trans rfl
    have hsw:aM w' sb zb k rc au va' vb vc cb:=(aU HSW).kept (hblk sb hsS (hva sb (by omega)))
    have hgs:W.heap.size≤w'.heap.size:=hgr.size
    have hbx5:It.Box (w'.setCell ⟨sb,4,none⟩ v') (w.heap.size+1) (.bool (((runs aD l).take i).any (takes k))) 4 :=
     (Below.heap_setCell _ _ _ _ (by show w.heap.size+1≠sb; omega)).trans ((hblk (w.heap.size+1) (by omega) (hva _ (by omega))).trans (aU HXW))
    have hfr:Fr (fun j=>j≠sb∧some j≠va'.ownBlock∧j≠w.heap.size+1) W ((w'.setCell ⟨sb,4,none⟩ v').setCell ⟨w.heap.size+1,0,none⟩ (.bool true)) :=
     (((Fr.of_below hD).trans (Fr.of_grown hgr (fun j hj=>hj.2.1))).trans (Fr.of_set v' (fun j hj=>hj.1))).trans (Fr.of_set (.bool true) (fun j hj=>hj.2.2))
    have hnew:v'.ownBlock=va.ownBlock∨∃ g,v'.ownBlock=some g∧W2.heap.size+2≤g:=by
     rcases hat with h | h
     ·rw [h]; exact aU HAW
     ·exact .inr ⟨_,h,hsz⟩
    refine ⟨v',w',by obtain ⟨a2,c2,h⟩:=hown'.slice; exact ⟨a2,_,c2,h⟩,hrun,(World.cell?_of_block (hblk w.heap.size (by omega) (hva _ (by omega)))).trans cbx,hsw.cells.2.2.2.2.1,hsw.frozen 4,hbx5.cell,hbx5.frozen,⟨⟨hfr.size,hfr.block _ (by omega) ⟨by omega,hva _ (by omega),by omega⟩,hfr.block _ (by omega) ⟨by omega,hva _ (by omega),by omega⟩⟩,?_,?_⟩⟩
    ·intro j hj
     simp only [List.mem_cons,List.mem_nil_iff,or_false] at hj
     rcases hj with rfl | rfl | rfl
     ·exact hfr.block _ (by omega) ⟨by omega,hva _ (by omega),by omega⟩
     ·exact hfr.block _ (by omega) ⟨by omega,hva _ (by omega),by omega⟩
     ·exact hfr.block _ (by omega) ⟨hb1,hvb,by omega⟩
    ·rw [t1,t2]
     refine ⟨v',?_,?_,hnew,aU HBW,hbx5.set _,(aU HFW).trans (hfr.mono ?_)⟩
     ·exact (hsw.set4 v').kept (Below.heap_setCell _ _ _ _ (by show sb≠w.heap.size+1; omega))
     ·rw [← List.append_assoc]
      refine (hown'.kept ?_)
      intro g hg
      have h1:=hown'.own_lt g hg
      have hgt:g≠w.heap.size+1:=by
       rcases hnew with h | ⟨g',h2,h3⟩
       ·have:=aU HBW g (by rw [← h]; exact hg); omega
       ·rw [hg] at h2; cases h2; omega
      exact (Below.heap_setCell _ _ _ _ hgt).trans (Below.heap_setCell _ _ _ _ (by show g≠sb; omega))
     ·intro j _ hj
      refine ⟨hj.1,?_,hj.2.2.1⟩
      intro e
      rcases aU HAW with h | ⟨g,h2,h3⟩
      ·rw [h] at e; exact hj.2.1 e
      ·rw [← e] at h2; cases h2; omega
   clear HI HX HP HSW HOW HAW HBW HXW HFW ht HR2 HS2 HO2 e2 e3 e0 e1 hgrow
   rcases hreg with rfl | ⟨h255,hkt⟩
   all_goals
    gi_wp2_with fail
    refine Iq.region_quiet hmx (Ir.noDefer_spec (by kernel_rfl)) (by kernel_rfl) ?_
    repeat (go_big_quiet_step (fail))
    refine wpQuiet_nil ?_
    intro _ hw'
    obtain ⟨nq,rfl⟩:=hw'
    obtain ⟨v',w',⟨a2,n2,c2,rfl⟩,hrun,p1,p2,p3,p4,p5,HEND⟩:=aU HGO nq
    have cbx':(W.drewN nq).drew.cell? ⟨w.heap.size,0,none⟩=some (.pointer (some ⟨sb,0,none⟩)):=cbx
    have s4':(W.drewN nq).drew.cell? ⟨sb,4,none⟩=some va':=s4
    clear HGO
    gi_wp2_with fail
    refine Ir.region_round hmx (Ir.noDefer_spec (by kernel_rfl)) ?_
    refine wpAnyIn_take (i:=6) (v:=?_) rfl rfl (by kernel_rfl) (by kernel_rfl) (by kernel_rfl) (fun _ _ _ h=>h) ⟨Or.inl ⟨by rfl,by intro w; go_simp; first | done | with_reducible rfl⟩,fun _=>rfl⟩ ?_
    refine wpAnyIn_ready (rs:=[0,1]) (by kernel_rfl) (by simp) ?_
    refine AllReadyIn.cons rfl (fun K hK=>?_) (AllReadyIn.cons rfl (fun K hK=>?_) AllReadyIn.nil)
    ·go_simp
     refine hK _ _ ?_
     clear hK K
     refine wpAnyIn_ready (rs:=[1]) (by kernel_rfl) (by simp) ?_
     refine AllReadyIn.cons rfl (fun K hK=>?_) AllReadyIn.nil
     go_simp
     refine hK _ _ ?_
     clear hK K
     refine wpAnyIn_take (i:=2) (v:=?_) rfl rfl (by kernel_rfl) (by kernel_rfl) (by kernel_rfl) (fun _ _ _ h=>h) ⟨Or.inl ⟨by rfl,by intro w; go_simp; first | done | with_reducible rfl⟩,fun _=>rfl⟩ ?_
     refine wpAnyIn_take (i:=3) (v:=?_) rfl rfl (by kernel_rfl) (by kernel_rfl) (by kernel_rfl) (fun _ _ _ h=>h) ⟨Or.inl ⟨by rfl,by intro w; go_simp; first | done | with_reducible rfl⟩,fun _=>rfl⟩ ?_
     refine wpAnyIn_take (i:=4) (v:=?_) rfl rfl (by kernel_rfl) (by kernel_rfl) (by kernel_rfl) (fun _ _ _ h=>h) ⟨Or.inl ⟨by rfl,by intro w; go_simp; first | done | with_reducible rfl⟩,fun _=>rfl⟩ ?_
     refine wpAnyIn_ready (rs:=[5]) (by kernel_rfl) (by simp) ?_
     refine AllReadyIn.cons rfl (fun K hK=>?_) AllReadyIn.nil
     go_simp
     refine hK _ _ ?_
     clear hK K
     refine wpAnyIn_ready (rs:=[7]) (by kernel_rfl) (by simp) ?_
     refine AllReadyIn.cons rfl (fun K hK=>?_) AllReadyIn.nil
     rw [if_pos (by rfl)]
     refine wpIn_append (.tmp 31) (.tmp 32) 41 rfl _ _ _ w' rfl rfl hrun ?_
     refine hK _ _ ?_
     clear hK K
     refine wpAnyIn_take (i:=8) (v:=?_) rfl rfl (by kernel_rfl) (by kernel_rfl) (by kernel_rfl) (fun _ _ _ h=>h) ⟨Or.inl ⟨by rfl,by intro w; go_simp; first | done | with_reducible rfl⟩,fun _=>rfl⟩ ?_
     refine wpAnyIn_take (i:=9) (v:=?_) rfl rfl (by kernel_rfl) (by kernel_rfl) (by kernel_rfl) (fun _ _ _ h=>h) ⟨Or.inl ⟨by rfl,by intro w; go_simp; first | done | with_reducible rfl⟩,fun _=>rfl⟩ ?_
     refine wpAnyIn_take (i:=10) (v:=?_) rfl rfl (by kernel_rfl) (by kernel_rfl) (by kernel_rfl) (fun _ _ _ h=>h) ⟨Or.inl ⟨by rfl,by intro w; go_simp; first | done | with_reducible rfl⟩,fun _=>rfl⟩ ?_
     refine wpAnyIn_ready (rs:=[11]) (by kernel_rfl) (by simp) ?_
     refine AllReadyIn.cons rfl (fun K hK=>?_) AllReadyIn.nil
     go_simp
     refine hK _ _ ?_
     clear hK K
     refine wpAnyIn_done (by kernel_rfl) ?_ _
     gi_wp2_with fail
     exact aU HEND
    ·go_simp
     refine hK _ _ ?_
     clear hK K
     refine wpAnyIn_take (i:=2) (v:=?_) rfl rfl (by kernel_rfl) (by kernel_rfl) (by kernel_rfl) (fun _ _ _ h=>h) ⟨Or.inl ⟨by rfl,by intro w; go_simp; first | done | with_reducible rfl⟩,fun _=>rfl⟩ ?_
     refine wpAnyIn_take (i:=3) (v:=?_) rfl rfl (by kernel_rfl) (by kernel_rfl) (by kernel_rfl) (fun _ _ _ h=>h) ⟨Or.inl ⟨by rfl,by intro w; go_simp; first | done | with_reducible rfl⟩,fun _=>rfl⟩ ?_
     refine wpAnyIn_take (i:=4) (v:=?_) rfl rfl (by kernel_rfl) (by kernel_rfl) (by kernel_rfl) (fun _ _ _ h=>h) ⟨Or.inl ⟨by rfl,by intro w; go_simp; first | done | with_reducible rfl⟩,fun _=>rfl⟩ ?_
     refine wpAnyIn_ready (rs:=[0,5]) (by kernel_rfl) (by simp) ?_
     refine AllReadyIn.cons rfl (fun K hK=>?_) (AllReadyIn.cons rfl (fun K hK=>?_) AllReadyIn.nil)
     ·go_simp
      refine hK _ _ ?_
      clear hK K
      refine wpAnyIn_ready (rs:=[5]) (by kernel_rfl) (by simp) ?_
      refine AllReadyIn.cons rfl (fun K hK=>?_) AllReadyIn.nil
      go_simp
      refine hK _ _ ?_
      clear hK K
      refine wpAnyIn_ready (rs:=[7]) (by kernel_rfl) (by simp) ?_
      refine AllReadyIn.cons rfl (fun K hK=>?_) AllReadyIn.nil
      rw [if_pos (by rfl)]
      refine wpIn_append (.tmp 31) (.tmp 32) 41 rfl _ _ _ w' rfl rfl hrun ?_
      refine hK _ _ ?_
      clear hK K
      refine wpAnyIn_take (i:=8) (v:=?_) rfl rfl (by kernel_rfl) (by kernel_rfl) (by kernel_rfl) (fun _ _ _ h=>h) ⟨Or.inl ⟨by rfl,by intro w; go_simp; first | done | with_reducible rfl⟩,fun _=>rfl⟩ ?_
      refine wpAnyIn_take (i:=9) (v:=?_) rfl rfl (by kernel_rfl) (by kernel_rfl) (by kernel_rfl) (fun _ _ _ h=>h) ⟨Or.inl ⟨by rfl,by intro w; go_simp; first | done | with_reducible rfl⟩,fun _=>rfl⟩ ?_
      refine wpAnyIn_take (i:=10) (v:=?_) rfl rfl (by kernel_rfl) (by kernel_rfl) (by kernel_rfl) (fun _ _ _ h=>h) ⟨Or.inl ⟨by rfl,by intro w; go_simp; first | done | with_reducible rfl⟩,fun _=>rfl⟩ ?_
      refine wpAnyIn_ready (rs:=[11]) (by kernel_rfl) (by simp) ?_
      refine AllReadyIn.cons rfl (fun K hK=>?_) AllReadyIn.nil
      go_simp
      refine hK _ _ ?_
      clear hK K
      refine wpAnyIn_done (by kernel_rfl) ?_ _
      gi_wp2_with fail
      exact aU HEND
     ·go_simp
      refine hK _ _ ?_
      clear hK K
      refine wpAnyIn_ready (rs:=[0,7]) (by kernel_rfl) (by simp) ?_
      refine AllReadyIn.cons rfl (fun K hK=>?_) (AllReadyIn.cons rfl (fun K hK=>?_) AllReadyIn.nil)
      ·go_simp
       refine hK _ _ ?_
       clear hK K
       refine wpAnyIn_ready (rs:=[7]) (by kernel_rfl) (by simp) ?_
       refine AllReadyIn.cons rfl (fun K hK=>?_) AllReadyIn.nil
       rw [if_pos (by rfl)]
       refine wpIn_append (.tmp 31) (.tmp 32) 41 rfl _ _ _ w' rfl rfl hrun ?_
       refine hK _ _ ?_
       clear hK K
       refine wpAnyIn_take (i:=8) (v:=?_) rfl rfl (by kernel_rfl) (by kernel_rfl) (by kernel_rfl) (fun _ _ _ h=>h) ⟨Or.inl ⟨by rfl,by intro w; go_simp; first | done | with_reducible rfl⟩,fun _=>rfl⟩ ?_
       refine wpAnyIn_take (i:=9) (v:=?_) rfl rfl (by kernel_rfl) (by kernel_rfl) (by kernel_rfl) (fun _ _ _ h=>h) ⟨Or.inl ⟨by rfl,by intro w; go_simp; first | done | with_reducible rfl⟩,fun _=>rfl⟩ ?_
       refine wpAnyIn_take (i:=10) (v:=?_) rfl rfl (by kernel_rfl) (by kernel_rfl) (by kernel_rfl) (fun _ _ _ h=>h) ⟨Or.inl ⟨by rfl,by intro w; go_simp; first | done | with_reducible rfl⟩,fun _=>rfl⟩ ?_
       refine wpAnyIn_ready (rs:=[11]) (by kernel_rfl) (by simp) ?_
       refine AllReadyIn.cons rfl (fun K hK=>?_) AllReadyIn.nil
       go_simp
       refine hK _ _ ?_
       clear hK K
       refine wpAnyIn_done (by kernel_rfl) ?_ _
       gi_wp2_with fail
       exact aU HEND
      ·rw [if_pos (by rfl)]
       refine wpIn_append (.tmp 31) (.tmp 32) 41 rfl _ _ _ w' rfl rfl hrun ?_
       refine hK _ _ ?_
       clear hK K
       refine wpAnyIn_ready (rs:=[0]) (by kernel_rfl) (by simp) ?_
       refine AllReadyIn.cons rfl (fun K hK=>?_) AllReadyIn.nil
       go_simp
       refine hK _ _ ?_
       clear hK K
       refine wpAnyIn_take (i:=8) (v:=?_) rfl rfl (by kernel_rfl) (by kernel_rfl) (by kernel_rfl) (fun _ _ _ h=>h) ⟨Or.inl ⟨by rfl,by intro w; go_simp; first | done | with_reducible rfl⟩,fun _=>rfl⟩ ?_
       refine wpAnyIn_take (i:=9) (v:=?_) rfl rfl (by kernel_rfl) (by kernel_rfl) (by kernel_rfl) (fun _ _ _ h=>h) ⟨Or.inl ⟨by rfl,by intro w; go_simp; first | done | with_reducible rfl⟩,fun _=>rfl⟩ ?_
       refine wpAnyIn_take (i:=10) (v:=?_) rfl rfl (by kernel_rfl) (by kernel_rfl) (by kernel_rfl) (fun _ _ _ h=>h) ⟨Or.inl ⟨by rfl,by intro w; go_simp; first | done | with_reducible rfl⟩,fun _=>rfl⟩ ?_
       refine wpAnyIn_ready (rs:=[11]) (by kernel_rfl) (by simp) ?_
       refine AllReadyIn.cons rfl (fun K hK=>?_) AllReadyIn.nil
       go_simp
       refine hK _ _ ?_
       clear hK K
       refine wpAnyIn_done (by kernel_rfl) ?_ _
       gi_wp2_with fail
       exact aU HEND
 case done =>
  intro W hI hdef hsz
  rw [List.take_length] at hI
  obtain ⟨va',hsW,hoW,haW,hbW,hxW,hfW⟩:=hI
  have cb1:=hxW.cell
  have HSW:=aH hsW
  have HOW:=aH hoW
  have HAW:=aH haW
  have HFW:=aH hfW
  clear hsW hoW haW hfW
  gi_wp2_with fail
  refine ⟨by simp,.inl ⟨_,_,rfl,run_takeDeferred hdef,?_⟩⟩
  refine ⟨.bool (takenP k l),by simp [results,Tryz.results248,go_sem]; rfl,rfl,⟨va',?_,?_⟩,?_⟩
  ·exact (aU HSW).kept (World.putObj_heap_other (by omega))
  ·refine (aU HOW).kept (fun g hg=>World.putObj_heap_other ?_)
   rcases aU HAW with h | ⟨g',h1,h2⟩
   ·have:=hbW g (by rw [← h]; exact hg); omega
   ·rw [hg] at h1; cases h1; omega
  ·refine ⟨(aU HFW).os.trans e5.os,(aU HFW).tape.trans e5.tape,(aU HFW).output.trans e5.output,by rw [World.putObj_size]; exact Nat.le_trans e5.size (aU HFW).size,fun j hj hp=>?_⟩
   rw [World.putObj_heap_other (by omega),(aU HFW).block j (by omega) ⟨hp.1,hp.2,by omega,by omega⟩]
   exact e5.block j hj
 case stop =>
  intro c W hI hdef hsz
  exact hI.elim
end Lg
end Go.Proofs.YtkkpahmoljiepaaGreatDoor

set_option maxRecDepth 1000000
set_option maxHeartbeats 12800000
namespace Go.Proofs.YtkkpahmoljiepaaGreatDoor
open Go.RowKit
open Pu (Str aH aU)
def aliasP (l:List Rec):Bool:=l.length == 1 && (l.headD Rec.zero).type == 5
def stepRc (o:Str) (rs:List Rec) (n:Str):Int:=if (cutP o rs n).length=0 then (if (matchP rs n).2 then 0 else 3) else 0
def aQ (o:Str) (rs:List Rec) (k:Int) (n:Str):List Rec:=if (cutP o rs n).length=0 then (if (matchP rs n).2 then takeP k (matchP rs n).1 else []) else []
def aP (o:Str) (rs:List Rec) (k:Int) (n:Str):List Rec :=
 if (cutP o rs n).length=0 then (if (matchP rs n).2 then (if takenP k (matchP rs n).1 then [] else denyP o rs) else denyP o rs) else cutP o rs n
namespace Lh
open Ka Kd Rf Rg Ia Iow Ie Zb Zc Za La Lb Re Lc Le Lf Lg
theorem isAlias_any (v:Value) (l:List Rec) (w:World) (hv:RV w v l) (hl:l.length≤3001) :
  Calls Tryz.prog 246 #[v] w fun e w'=>e=.returned (.bool (aliasP l))∧w'=w:=by
 rcases hv with ⟨rfl,rfl⟩ | ⟨b,off,cap,rfl,hc,hr⟩
 ·go_enter Tryz.func246,Tryz.ntmps246
  go_wp2
  go_ret
  exact ⟨rfl,rfl⟩
 ·by_cases h1:l.length=1
  ·obtain ⟨r,rfl⟩:=List.length_eq_one_iff.1 h1
   obtain ⟨c0,c1,c2,c3⟩:=hr.four 0 (by simp)
   simp only [Nat.zero_mul,Nat.add_zero,List.getElem_cons_zero] at c2
   have hfin:Hid (aliasP [r]=(r.type == 5)):=by unfold aliasP; rw [Hid]; simp
   clear hr c0 c1 c3 h1
   simp only [List.length_cons,List.length_nil] at hc ⊢
   go_enter Tryz.func246,Tryz.ntmps246
   go_wp2
   go_ret
   exact ⟨ret_bool (aU hfin).symm,rfl⟩
  ·have hfin:Hid (aliasP l=false):=by unfold aliasP; rw [Hid,beq_eq_false_iff_ne.2 h1]; rfl
   have h1I:((l.length:Int) == 1)=false:=by rw [beq_eq_false_iff_ne]; omega
   clear hr h1
   go_enter Tryz.func246,Tryz.ntmps246
   go_wp2
   go_ret
   exact ⟨ret_bool (aU hfin).symm,rfl⟩
theorem cutP_len (o:Str) (rs:List Rec) (n:Str):(cutP o rs n).length≤rs.length:=by
 unfold cutP
 generalize (ends n).takeWhile (fun e=>!(e == o))=es
 have : ∀ (es:List Str) (acc:List Rec),acc.length≤rs.length→(es.foldl (cutStep rs) acc).length≤rs.length:=by
  intro es
  induction es with
  | nil=>intro acc h; exact h
  | cons e t ih =>
   intro acc h
   rw [List.foldl_cons]
   refine ih _ ?_
   unfold cutStep
   split
   ·exact h
   ·exact Nat.le_trans (setP_len _ _) (ofP_len _ _)
 exact this es [] (by simp)
end Lh
end Go.Proofs.YtkkpahmoljiepaaGreatDoor

namespace Go.Proofs
open Go.Shelf
def Tryz.lGrow_ren : Go.Shelf.Ren := ⟨fun | 4 => 249 | n => n, fun | 22 => 41 | 25 => 47 | 3 => 3 | 4 => 4 | 9 => 9 | 20 => 20 | 0 => 0 | n => n, fun | n => n⟩
theorem Tryz.lGrow : Go.Proofs.Lays8.n4 Tryz.prog Tryz.lGrow_ren := {
  mixed := by kernel_rfl
  f4 := ⟨Tryz.f249.name, by decide, Tryz.func249.trans (congrArg some (by kernel_rfl))⟩
  t0 := Tryz.underlying0
  a0 := Tryz.isAgg0
  z0 := Tryz.sizeOf0
  v0 := Tryz.zeroValue0
  t3 := Tryz.underlying3
  a3 := Tryz.isAgg3
  z3 := Tryz.sizeOf3
  v3 := Tryz.zeroValue3
  t4 := Tryz.underlying4
  a4 := Tryz.isAgg4
  z4 := Tryz.sizeOf4
  v4 := Tryz.zeroValue4
  t9 := Tryz.underlying9
  a9 := Tryz.isAgg9
  z9 := Tryz.sizeOf9
  v9 := Tryz.zeroValue9
  t20 := Tryz.underlying20
  a20 := Tryz.isAgg20
  z20 := Tryz.sizeOf20
  v20 := Tryz.zeroValue20
  t22 := Tryz.underlying41
  a22 := Tryz.isAgg41
  z22 := Tryz.sizeOf41
  v22 := Tryz.zeroValue41 }
end Go.Proofs

set_option maxRecDepth 1000000
set_option maxHeartbeats 12800000
namespace Go.Proofs.YtkkpahmoljiepaaGreatDoor
open Go.RowKit
open Pu (Str aH aU)
namespace Li
open Ka Kd Rf Rg Ia Iow Ie Zb Zc Za La Lb Re Lc Le Lf Lg Lh
theorem grow_nil (n:Nat) (w:World) (hn:n≤10000) :
  Calls Tryz.prog 249 #[.slice none 0 0,.int .i64 n] w fun e w'=>∃ v,e=.returned v∧OwnR w' w.heap.size v []∧Below w.heap.size w w':=by
 obtain ⟨i0,hi,hz0,hz1,hz2⟩:=info_parts infoR
 by_cases h0:n=0
 ·subst h0
  refine (Any8.slices_Grow_room Tryz.lGrow none 0 0 0 w (Nat.le_refl _) (by omega) (by omega) (by omega)).mono ?_
  rintro e w' ⟨rfl,rfl⟩
  exact ⟨_,rfl,World.ownsRow_nil _ _ _ _,Below.refl _ _⟩
 ·refine (Any8.slices_Grow_grow Tryz.lGrow i0 _ hi hz0 (by rw [hz1]; omega) none 0 0 n [] w (Nat.le_refl _) (by omega) (by rw [hz2]; omega) (by omega) (by simp) (fun _=>rfl) (fun a h=>by cases h)).mono ?_
  rintro e w' ⟨rfl,rfl⟩
  have hge:=grownCap_ge w (0+n) 0 (Tryz.lGrow_ren.t 25)
  have hle:=grownCap_le_maxLen w (0+n) 0 (Tryz.lGrow_ren.t 25) (by simp [maxLen]; omega)
  refine ⟨_,rfl,⟨rfl,.inr ⟨w.heap.size,_,_,rfl,Nat.le_refl _,heap_alloc_new w.drew _,Nat.zero_le _,hle,?_,rfl⟩⟩,((Below.refl _ _).drew).alloc (Nat.le_refl _) _⟩
  have e1:(Value.cells (.agg #[.string ⟨#[]⟩,.int .i64 0,.int .i64 0,.string ⟨#[]⟩])).size=4:=rfl
  rw [Array.size_append,Array.size_append,size_zeroCells,size_zeroCells,e1]
  have e2:(List.toArray ([]:List Value)).size=0:=rfl
  rw [e2]
  generalize grownCap w (0+n) 0 (Tryz.lGrow_ren.t 25)=G at *
  omega
theorem append_rv (base:Nat) (va xv:Value) (ans xs:List Rec) (w:World) (ho:OwnR w base va ans) (hx:RV w xv xs) (hb:base≤w.heap.size) (hl:ans.length+xs.length≤100000) :
  ∃ v' w',(Builtin.append_ #[41,41] 41 #[va,xv]).run Tryz.prog w=.ok v' w'∧OwnR w' base v' (ans++xs)∧Below base w w':=by
 rcases hx with ⟨rfl,rfl⟩ | ⟨b,off,cap,rfl,hc,hr⟩
 ·obtain ⟨i0,hi,hz0,hz1,hz2⟩:=info_parts infoR
  exact ⟨va,w,run_append_owned_none (P:=Tryz.prog) (w:=w) base 41 41 47 i0 4 underR hi va _ _ ho,by rw [List.append_nil]; exact ho,Below.refl _ _⟩
 ·obtain ⟨v',w',h1,h2,h3,_⟩:=append_run base va ans xs b off cap w ho hr hb hl
  exact ⟨v',w',h1,h2,(Below.refl _ w).grown h3 hb (fun k hk=>(ho.own_lt0 k hk).1)⟩
theorem wpL_append {P:Program} {ops:Array Oper} {rest:List Oper} {o:Oper} {a:Act} {w:World} {Q:Exit→Act→World→Prop} (hgd:o.guard=none) (s x:Operand) (t:TypeId) (ho:o.op=.call { callee:=.builtin .append,args:=#[s,x],argTypes:=#[t,t] }) (v xv v':Value) (w':World) (hs:a.eval s=v) (hx:a.eval x=xv)
  (hr:(Builtin.append_ #[t,t] o.type #[v,xv]).run P w=.ok v' w') (h:wpList P ops Q rest (a.put o.dst v') w'):wpList P ops Q (o :: rest) a w:=by
 refine wpList_plain hgd fun K hK=>?_
 unfold Oper.wp execOp
 simp only [ho,resolve,invoke,builtin,Sem.run_bind,Sem.run_pure,Result.andThen_ok,List.map_toArray,List.map_cons,List.map_nil,hs,hx,hr]
 exact hK _ _ h
theorem concat_any (q:Nat) (va vb:Value) (ans auth:List Rec) (w:World) (hq:q<w.heap.size) (h0:w.cell? ⟨q,0,none⟩=some va) (h1:w.cell? ⟨q,1,none⟩=some vb) (ha:RV w va ans) (hb:RV w vb auth) (hla:ans.length≤4000) (hlb:auth.length≤4000) :
  Calls Tryz.prog 195 #[.slice (some ⟨q,0,none⟩) 2 2] w fun e w'=>∃ v,e=.returned v∧OwnR w' w.heap.size v (ans++auth)∧Below w.heap.size w w':=by
 have HA:=aH ha
 have HB:=aH hb
 obtain ⟨aa,ca,rfl⟩:=rv_slice ha
 obtain ⟨ab,cb,rfl⟩:=rv_slice hb
 clear ha hb
 have HGR:=aH (grow_nil (ans.length+auth.length) w (by omega))
 go_enter Tryz.func195,Tryz.ntmps195
 go_wp2_with fail
 go_loop [3,11] (fun sz i=>(sz=.int .i64 0∧i=.int .i64 0)∨(sz=.int .i64 ans.length∧i=.int .i64 1)∨(sz=.int .i64 ((ans.length+auth.length:Nat):Int)∧i=.int .i64 2)) (fun _ i=>2 - (intOf i).toNat)
 case atStart=>exact .inl ⟨rfl,rfl⟩
 case round =>
  rcases hrel with ⟨rfl,rfl⟩ | ⟨rfl,rfl⟩ | ⟨rfl,rfl⟩
  ·go_wp2_with fail
   go_round
   case rel=>exact .inr (.inl ⟨by go_num,by go_num⟩)
   case measure=>simp [intOf]
  ·go_wp2_with fail
   go_round
   case rel=>exact .inr (.inr ⟨by go_num,by go_num⟩)
   case measure=>simp [intOf]
  ·go_wp2_with fail
   refine (aU HGR).mono ?_
   rintro e w1 ⟨v1,rfl,ho1,hb1⟩
   have HO1:=aH ho1
   clear ho1
   go_wp2_with fail
   go_loopw [6,27] (fun v i wr=>(i=.int .i64 0∧OwnR wr w.heap.size v []∧Below w.heap.size w wr)∨(i=.int .i64 1∧OwnR wr w.heap.size v ans∧Below w.heap.size w wr)∨(i=.int .i64 2∧OwnR wr w.heap.size v (ans++auth)∧Below w.heap.size w wr)) (fun _ i _=>2 - (intOf i).toNat)
   case atStart=>exact .inl ⟨rfl,aU HO1,hb1⟩
   case round =>
    clear HO1 hb1 HGR
    rcases hrel with ⟨rfl,hov,hbr⟩ | ⟨rfl,hov,hbr⟩ | ⟨rfl,hov,hbr⟩
    ·obtain ⟨v',w',hrun,ho',hb'⟩:=append_rv w.heap.size _ _ [] ans wr hov ((aU HA).below hbr) hbr.size (by simp; omega)
     obtain ⟨av,cv,rfl⟩:=hov.slice
     have q0:=(hbr.cell (p:=⟨q,0,none⟩) hq).trans h0
     have HE:Hid (OwnR w' w.heap.size v' ans∧Below w.heap.size w w'):=⟨ho',hbr.trans hb'⟩
     clear hov ho' hb'
     go_wp2_with (at_builtin; refine wpL_append rfl _ _ 41 rfl _ _ v' w' rfl rfl hrun ?_)
     go_roundw
     case rel=>exact .inr (.inl ⟨by go_num,aU HE⟩)
     case measure=>simp [intOf]
    ·obtain ⟨v',w',hrun,ho',hb'⟩:=append_rv w.heap.size _ _ ans auth wr hov ((aU HB).below hbr) hbr.size (by omega)
     obtain ⟨av,cv,rfl⟩:=hov.slice
     have q1:=(hbr.cell (p:=⟨q,1,none⟩) hq).trans h1
     have HE:Hid (OwnR w' w.heap.size v' (ans++auth)∧Below w.heap.size w w'):=⟨ho',hbr.trans hb'⟩
     clear hov ho' hb'
     go_wp2_with (at_builtin; refine wpL_append rfl _ _ 41 rfl _ _ v' w' rfl rfl hrun ?_)
     go_roundw
     case rel=>exact .inr (.inr ⟨by go_num,aU HE⟩)
     case measure=>simp [intOf]
    ·have HE:=aH hov
     clear hov
     go_wp2_with fail
     go_ret
     exact ⟨_,rfl,aU HE,hbr⟩
end Li
end Go.Proofs.YtkkpahmoljiepaaGreatDoor
