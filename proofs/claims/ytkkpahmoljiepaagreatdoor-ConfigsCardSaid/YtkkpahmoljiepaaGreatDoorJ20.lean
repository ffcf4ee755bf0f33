/- The document's answer (beaconref): the records of a name and a type. -/
import Derived.Test.YtkkpahmoljiepaaGreatDoorJ18
import Derived.Deep.AppendLies
import Derived.Maps.AppendAt
import Derived.Test.YtkkpahmoljiepaaGreatDoorJ19
import Derived.Test.YtkkpahmoljiepaaGreatDoorJ09
import Derived.Test.YtkkpahmoljiepaaGreatDoorJ13
import Derived.Laws.OwnMore
import Derived.Deep.RegionHeld
import Derived.Test.YtkkpahmoljiepaaGreatDoorShelf
import Derived.Deep.CutRange
import Derived.Deep.LoopGhost
set_option linter.unusedSimpArgs false
set_option linter.unusedVariables false
set_option maxRecDepth 1000000
set_option maxHeartbeats 12800000
namespace Go.Proofs.YtkkpahmoljiepaaGreatDoor
open Go.RowKit
open Pu (Str aH aU)
namespace Eu
open Ka Kb Re Wa Wb Ea Eb Ec Ed Ee Ef Eh
theorem underQ:Tryz.prog.underlying 115=some (.slice 119):=by kernel_rfl
theorem infoQ:(Tryz.prog.info? 119).map (fun i=>(i.zero,i.size,i.bytes))=some (some (.agg #[.slice none 0 0,.int .i64 0,.int .i64 0,.string ⟨#[]⟩,.slice none 0 0]),5,80):=by kernel_rfl
end Eu
namespace Ex
open Ka Kb Re Wa Wb Ea Eb Ec Ed Ee Ef Eh Eu
end Ex
namespace Oa
open Ka Ed Ek Em En Ep Ia Sc Sf Si Lg Eu Ex Eh
end Oa
namespace Es
open Ka Kb Re Wa Wb Ea Eb Ec Ed Ee Ef Eh
end Es
namespace Er
open Ka Kb Re Wa Wb Ea Eb Ec Ed Ee Ef Eh
end Er
namespace Ev
open Ka Kb Re Wa Wb Ea Eb Ec Ed Ee Ef Eh Er
theorem underN:Tryz.prog.underlying 113=some (.slice 9):=by kernel_rfl
end Ev
def NeL (n:Str):Prop:=∀ x∈Sp.spl 46 n,x≠[]
namespace Ob
open Ka Ed Ek Em En Ep Ia Sc Sf Si Lg Eu Ex Oa La Lb Es Ev Er Eh Za Ie
end Ob
namespace Et
open Ka Kb Re Wa Wb Ea Eb Ec Ed Ee Ef Eh
end Et
namespace Pb
open Ka Kd Rf Rg Ia Iow Ie Zb Zc Za Ze Zg Re Sb Pa Sk
theorem parse_all (s:ByteArray) (w:World) (hg:G w) (hs:s.size≤3000) (hfit : ∀ o rs,readZ s.data.toList=some (o,rs)→Fit o rs) :
  Calls Tryz.prog 16 #[.string s] w fun e w'=>parseR (parseP s.data.toList) w.heap.size e w'∧Below w.heap.size w w':=by
 have HC:=aH (clone_any s w (by omega))
 have hsI : ¬ (3000:Int)<(s.size:Int):=by omega
 have HRZ:=aH (fun w1 (h:Below w.heap.size w w1)=>readZone_any s w1 (hg.below h) hs)
 clear hg
 cases hz:readZ s.data.toList with
 | none =>
  have hfin:Hid (parseP s.data.toList=none):=by unfold parseP; rw [Hid,hz]; rfl
  go_enter Tryz.func16,Tryz.ntmps16
  go_wp2_with fail
  refine (aU HC).mono ?_
  rintro e w1 ⟨rfl,hb1⟩
  go_wp2_with fail
  refine (aU HRZ w1 hb1).mono ?_
  rintro e w2 ⟨hr2,hb2⟩
  rw [hz] at hr2
  obtain rfl:e=.returned noneV:=hr2
  unfold noneV
  go_wp2_with fail
  go_ret2
  rw [aU hfin]
  exact ⟨rfl,hb1.trans (hb2.mono hb1.size)⟩
 | some x =>
  obtain ⟨o,rs⟩:=x
  obtain ⟨hlen,hol,hrl⟩:=hfit o rs hz
  have HRL:=aH hrl
  clear hfit hrl
  have hP:Hid (parseP s.data.toList=if startsR o rs && rightP o (sortL rs) then some (o,sortL rs) else none):=by unfold parseP; rw [Hid,hz]; rfl
  cases hst:startsR o rs
  ·have hfin:Hid (parseP s.data.toList=none):=by rw [Hid,aU hP,hst]; rfl
   go_enter Tryz.func16,Tryz.ntmps16
   go_wp2_with fail
   refine (aU HC).mono ?_
   rintro e w1 ⟨rfl,hb1⟩
   go_wp2_with fail
   refine (aU HRZ w1 hb1).mono ?_
   rintro e w2 ⟨hr2,hb2⟩
   rw [hz] at hr2
   obtain ⟨v,rfl,hown⟩:=hr2
   have HS:=aH (startsRight_any o v rs w2 hown.rv (by omega))
   clear hown
   go_wp2_with fail
   refine (aU HS).mono ?_
   rintro e w3 ⟨rfl,hb3⟩
   go_wp2_with fail
   go_ret2
   rw [aU hfin]
   exact ⟨rfl,(hb1.trans (hb2.mono hb1.size)).trans (hb3.mono (Nat.le_trans hb1.size hb2.size))⟩
  ·have hne:rs≠[]:=by intro h; rw [h] at hst; cases hst
   have HSL:Hid (∀ r∈sortL rs,r.owner.length≤3000∧r.data.length≤3000):=sortL_all (aU HRL)
   have hsl:=sortL_len rs
   cases hrt:rightP o (sortL rs)
   ·have hfin:Hid (parseP s.data.toList=none):=by rw [Hid,aU hP,hst,hrt]; rfl
    go_enter Tryz.func16,Tryz.ntmps16
    go_wp2_with fail
    refine (aU HC).mono ?_
    rintro e w1 ⟨rfl,hb1⟩
    go_wp2_with fail
    refine (aU HRZ w1 hb1).mono ?_
    rintro e w2 ⟨hr2,hb2⟩
    rw [hz] at hr2
    obtain ⟨v,rfl,hown⟩:=hr2
    have HS:=aH (startsRight_any o v rs w2 hown.rv (by omega))
    obtain ⟨g,cap,cur,rfl,hg,hcur,hcap,hra⟩:=own_some hown hne
    have HCUR:=aH hcur
    have HRA:=aH hra
    clear hown hcur hra
    have hb12:=hb1.trans (hb2.mono hb1.size)
    go_wp2_with fail
    refine (aU HS).mono ?_
    rintro e w3 ⟨rfl,hb3⟩
    have hb13:=hb12.trans (hb3.mono hb12.size)
    have hglt:=(aU HRA).1
    go_wp2_with fail
    refine (sort_all g cap rs w3 cur _ ((hb3.block g hglt).trans (aU HCUR)) ((aU HRA).below hb3) hlen).mono ?_
    rintro e w4 ⟨rfl,hr4,hb4⟩
    have hb14:=hb4 w.heap.size w (Nat.le_trans hb1.size hg) hb13.size hb13
    have HI:=aH (isRight_any g 0 cap o (sortL rs) w4 hr4 (by omega) (by omega) hol (fun r hr=>(aU HSL r hr).1))
    rw [hsl] at HI
    clear hr4 hb4
    go_wp2_with fail
    refine (aU HI).mono ?_
    rintro e w5 ⟨rfl,hb5⟩
    go_wp2_with fail
    go_ret2
    rw [aU hfin]
    exact ⟨rfl,hb14.trans (hb5.mono hb14.size)⟩
   ·have hfin:Hid (parseP s.data.toList=some (o,sortL rs)):=by rw [Hid,aU hP,hst,hrt]; rfl
    go_enter Tryz.func16,Tryz.ntmps16
    go_wp2_with fail
    refine (aU HC).mono ?_
    rintro e w1 ⟨rfl,hb1⟩
    go_wp2_with fail
    refine (aU HRZ w1 hb1).mono ?_
    rintro e w2 ⟨hr2,hb2⟩
    rw [hz] at hr2
    obtain ⟨v,rfl,hown⟩:=hr2
    have HS:=aH (startsRight_any o v rs w2 hown.rv (by omega))
    obtain ⟨g,cap,cur,rfl,hg,hcur,hcap,hra⟩:=own_some hown hne
    have HCUR:=aH hcur
    have HRA:=aH hra
    clear hown hcur hra
    have hb12:=hb1.trans (hb2.mono hb1.size)
    go_wp2_with fail
    refine (aU HS).mono ?_
    rintro e w3 ⟨rfl,hb3⟩
    have hb13:=hb12.trans (hb3.mono hb12.size)
    have hglt:=(aU HRA).1
    go_wp2_with fail
    refine (sort_all g cap rs w3 cur _ ((hb3.block g hglt).trans (aU HCUR)) ((aU HRA).below hb3) hlen).mono ?_
    rintro e w4 ⟨rfl,hr4,hb4⟩
    have hb14:=hb4 w.heap.size w (Nat.le_trans hb1.size hg) hb13.size hb13
    have HI:=aH (isRight_any g 0 cap o (sortL rs) w4 hr4 (by omega) (by omega) hol (fun r hr=>(aU HSL r hr).1))
    rw [hsl] at HI
    have HR4:=aH hr4
    clear hr4 hb4
    go_wp2_with fail
    refine (aU HI).mono ?_
    rintro e w5 ⟨rfl,hb5⟩
    have hb15:=hb14.trans (hb5.mono hb14.size)
    have HR5:=aH ((aU HR4).below hb5)
    go_wp2_with fail
    refine (new_any o g 0 rs.length cap w5).mono ?_
    rintro e w6 ⟨rfl,hb6,hlt6,c60,c61⟩
    have HT:Hid (aN w6 w5.heap.size o g 0 cap (sortL rs)):=⟨hlt6,c60,by rw [hsl]; exact c61,by omega,(aU HR5).below hb6⟩
    clear c60 c61
    go_wp2_with fail
    go_ret2
    rw [aU hfin]
    exact ⟨⟨_,_,_,rfl,hb15.size,Nat.le_trans hb1.size hg,aU HT⟩,hb15.trans (hb6.mono hb15.size)⟩
end Pb
structure RecOk (r:Rec):Prop where
 val:Sp.valid r.owner=true
 ttl:r.ttl≤86400
 dat:Ke.isData r.type (Sp.spl 32 r.data)=true
 len:r.data.length≤3000
structure ZOk (o:Str) (rs:List Rec):Prop where
 org:Sp.plain o=true
 recs : ∀ r∈rs,RecOk r
 sta:Rf.startsR o rs=true
 rgt:rightP o (sortL rs)=true
namespace Oc
open Ka Ed Ek Em En Ep Ia Sc Sf Si Lg Eu Ex Oa Ob La Lb Es Ev Er Eh Za Ie Ec Ee Eb Re Lc Ke
theorem dgs_dec : ∀ (l:Str) (n:Nat),dgs n l=Lib.decFrom n l
 | [],n=>rfl
 | c :: r,n=>by
  unfold dgs Lib.decFrom Lib.digitVal
  by_cases h:48≤c.toNat∧c.toNat≤57
  ·have hd:Pu.digitI c.toNat=true:=by unfold Pu.digitI; simp; omega
   rw [if_pos hd,if_pos h,dgs_dec r,Nat.mul_comm]
  ·have hd : ¬ Pu.digitI c.toNat=true:=by unfold Pu.digitI; simp; omega
   rw [if_neg hd,if_neg h]
theorem num_atoi {s:Str} (h:numB 86400 s=true):s.length≤10∧Lib.atoi s=some (numV 86400 s:Int)∧numV 86400 s≤86400:=by
 have h0:=h
 rw [numB_frm 86400 (by omega)] at h
 cases hf:frm s with
 | none=>rw [hf] at h; cases h
 | some v =>
  rw [hf] at h
  have hv:v≤86400:=by simpa using h
  rw [numV_frm 86400 (by omega) s v hf hv]
  unfold frm at hf
  split at hf
  ·rename_i hl
   refine ⟨hl.2.1,?_,hv⟩
   cases s with
   | nil=>simp at hl
   | cons c r =>
    have hc:Pu.digitI c.toNat=true:=by
     refine Classical.byContradiction fun hc=>?_
     unfold dgs at hf
     rw [if_neg hc] at hf; cases hf
    have hc':48≤c.toNat∧c.toNat≤57:=by unfold Pu.digitI at hc; simp at hc; omega
    have h45:(c == 45)=false:=by rw [beq_eq_false_iff_ne]; rintro rfl; exact absurd hc'.1 (by decide)
    have h43:(c == 43)=false:=by rw [beq_eq_false_iff_ne]; rintro rfl; exact absurd hc'.1 (by decide)
    have e1:Lib.atoi (c :: r)=(Lib.decNat (c :: r)).map (fun m:Nat=>(m:Int)):=by
     unfold Lib.atoi
     simp [h45,h43]
    rw [e1]
    unfold Lib.decNat
    rw [if_neg (by simp),← dgs_dec,hf]; rfl
  ·cases hf
theorem name_nel {star:Bool} {n:Str} (h:(nmR star n).isSome=true):NeL n∧n.length≤60:=by
 unfold nmR at h
 split at h
 ·rename_i hh
  refine ⟨fun x hx=>?_,hh.1⟩
  have key : ∀ (l:List Str) (i:Nat),okSs star i l=true→∀ x∈l,x≠[]:=by
   intro l
   induction l with
   | nil=>intro i _ x hx; cases hx
   | cons a l ih =>
    intro i h x hx
    rw [okSs,Bool.and_eq_true] at h
    rcases List.mem_cons.1 hx with rfl | hx
    ·rintro rfl
     have:=h.1
     unfold okS Pu.label at this
     simp at this
    ·exact ih (i+1) h.2 x hx
  exact key _ 0 hh.2 x hx
 ·cases h
theorem plain_nel {n:Str} (h:Sp.plain n=true):NeL n∧n.length≤60:=name_nel (by rw [nmF]; exact h)
theorem valid_nel {n:Str} (h:Sp.valid n=true):NeL n∧n.length≤60:=name_nel (by rw [nmT]; exact h)
end Oc
def NmX (w:World) (x:Nat→Prop) (v:Value) (ls:List Str):Prop:=∃ g off cap,v=.slice (some ⟨g,off,none⟩) ls.length cap∧ls.length≤cap∧Ec.TxAt w g off ls∧¬ x g
def enq (x:Value×Value×Rec):List Value:=[x.1,.int .i64 x.2.2.ttl,.int .i64 x.2.2.type,.string (B x.2.2.data),x.2.1]
def OwnQ (x:Nat→Prop) (w:World) (base:Nat) (v:Value) (l:List Rec):Prop :=
 ∃ xs:List (Value×Value×Rec),xs.map (·.2.2)=l∧w.ownsRow base 119 5 v xs.length (xs.flatMap enq) ∧
  ∀ y∈xs,NmX w (fun k=>x k∨some k=v.ownBlock) y.1 (Sp.spl 46 y.2.2.owner)∧NmX w (fun k=>x k∨some k=v.ownBlock) y.2.1 (Sp.spl 32 y.2.2.data)
def RecX (w:World) (x:Nat→Prop) (b o:Nat) (r:Rec):Prop:=∃ vo vw,w.cell? ⟨b,o,none⟩=some vo∧w.cell? ⟨b,o+1,none⟩=some (.int .i64 r.ttl)∧w.cell? ⟨b,o+2,none⟩=some (.int .i64 r.type)∧w.cell? ⟨b,o+3,none⟩=some (.string (B r.data))∧w.cell? ⟨b,o+4,none⟩=some vw∧NmX w x vo (Sp.spl 46 r.owner)∧NmX w x vw (Sp.spl 32 r.data)
section
open Ka Ed Ek Em En Ep Ia Sc Sf Si Lg Eu Ex Oa Ob Oc La Lb Es Ev Er Eh Za Ie Ec Ee Eb Re Lc Ke
theorem Ec.TxAt.fr {p:Nat→Prop} {A B:World} {g off:Nat} {ls:List Str} (h:TxAt A g off ls) (hf:Fr p A B) (hp:p g):TxAt B g off ls :=
 ⟨Nat.lt_of_lt_of_le h.1 hf.size,fun j hj=>(World.cell?_of_block (a:=⟨g,off+j,none⟩) (hf.block g h.1 hp)).trans (h.2 j hj)⟩
theorem NmX.nm {w:World} {x:Nat→Prop} {v:Value} {ls:List Str} (h:NmX w x v ls):NmV w v ls:=by
 obtain ⟨g,off,cap,h1,h2,h3,_⟩:=h
 exact ⟨g,off,cap,h1,h2,h3⟩
theorem NmX.fr {p x:Nat→Prop} {A B:World} {v:Value} {ls:List Str} (h:NmX A x v ls) (hf:Fr p A B) (hp : ∀ k,¬ x k→p k):NmX B x v ls:=by
 obtain ⟨g,off,cap,h1,h2,h3,h4⟩:=h
 exact ⟨g,off,cap,h1,h2,h3.fr hf (hp g h4),h4⟩
theorem NmX.imp {x y:Nat→Prop} {A:World} {v:Value} {ls:List Str} (h:NmX A x v ls) (hy : ∀ k,k<A.heap.size→¬ x k→¬ y k):NmX A y v ls:=by
 obtain ⟨g,off,cap,h1,h2,h3,h4⟩:=h
 exact ⟨g,off,cap,h1,h2,h3,hy g h3.1 h4⟩
theorem OwnQ.nil (x:Nat→Prop) (w:World) (base:Nat):OwnQ x w base (.slice none 0 0) []:=⟨[],rfl,World.ownsRow_nil w base _ 5,fun y hy=>by cases hy⟩
section
variable {x:Nat→Prop} {w:World} {base:Nat} {v:Value} {l:List Rec} (h:OwnQ x w base v l)
include h
theorem OwnQ.slice : ∃ a c,v=.slice a l.length c:=by
 obtain ⟨xs,rfl,h1,_⟩:=h
 rw [List.length_map]
 rcases h1.2 with ⟨rfl,h0⟩ | ⟨g,cap,_,rfl,_⟩
 ·exact ⟨none,0,by rw [h0]⟩
 ·exact ⟨_,_,rfl⟩
theorem OwnQ.lt : ∀ k,v.ownBlock=some k→base≤k∧k<w.heap.size:=by
 obtain ⟨xs,_,h1,_⟩:=h
 exact World.ownsRow.lt h1
theorem OwnQ.fr {p:Nat→Prop} {w':World} (hf:Fr p w w') (hp : ∀ k,k<w.heap.size→¬ x k→some k≠v.ownBlock→p k) (ho : ∀ k,v.ownBlock=some k→p k):OwnQ x w' base v l:=by
 obtain ⟨xs,h0,h1,h2⟩:=h
 have hf2:Fr (fun k=>k<w.heap.size→p k) w w':=⟨hf.os,hf.tape,hf.output,hf.size,fun k hk hk'=>hf.block k hk (hk' hk)⟩
 refine ⟨xs,h0,?_,fun y hy=>⟨(h2 y hy).1.fr hf2 (fun k hk hk'=>hp k hk' (fun hx=>hk (.inl hx)) (fun he=>hk (.inr he))),(h2 y hy).2.fr hf2 (fun k hk hk'=>hp k hk' (fun hx=>hk (.inl hx)) (fun he=>hk (.inr he)))⟩⟩
 refine ⟨h1.1,?_⟩
 rcases h1.2 with hn | ⟨g,cap,cur,rfl,hb,hgg,rest⟩
 ·exact .inl hn
 ·exact .inr ⟨g,cap,cur,rfl,hb,(hf.block g (Array.getElem?_eq_some_iff.1 hgg).1 (ho g rfl)).trans hgg,rest⟩
theorem OwnQ.below {w':World} (hb:Below w.heap.size w w'):OwnQ x w' base v l:=h.fr (p:=fun _=>True) (Fr.of_below hb) (fun _ _ _ _=>trivial) (fun _ _=>trivial)
theorem OwnQ.set {a:Addr} (u:Value) (hx:x a.block) (hb:a.block<base):OwnQ x (w.setCell a u) base v l :=
 h.fr (p:=fun k=>k≠a.block) (Fr.of_set u (fun _ h=>h)) (fun k _ h1 _ e=>h1 (by rw [e]; exact hx)) (fun k hk e=>by have:=(h.lt k hk).1; omega)
theorem OwnQ.recx:(v=.slice none 0 0∧l = [])∨∃ g cap,v=.slice (some ⟨g,0,none⟩) l.length cap∧base≤g∧l.length≤cap∧∀ k (hk:k<l.length),RecX w (fun k=>x k∨some k=v.ownBlock) g (k*5) l[k]:=by
 obtain ⟨xs,rfl,h1,h2⟩:=h
 rcases h1.2 with ⟨hv,hn⟩ | ⟨g,cap,cur,hv,hg,hcur,hcap,_,hsz,htk⟩
 ·refine .inl ⟨hv,?_⟩
  rw [List.eq_nil_of_length_eq_zero hn]; rfl
 ·refine .inr ⟨g,cap,by rw [List.length_map]; exact hv,hg,by rw [List.length_map]; exact hcap,fun k hk=>?_⟩
  rw [List.length_map] at hk
  have flat : ∀ (ys:List (Value×Value×Rec)) (k i:Nat) (hk:k<ys.length),i<5→(ys.flatMap enq)[k*5+i]? = (enq ys[k])[i]?:=by
   intro ys
   induction ys with
   | nil=>intro k i hk; simp at hk
   | cons y ys ih =>
    intro k i hk hi
    have h5:(enq y).length=5:=rfl
    cases k with
    | zero=>rw [List.flatMap_cons,Nat.zero_mul,Nat.zero_add,List.getElem?_append_left (by omega)]; rfl
    | succ k =>
     rw [List.flatMap_cons,List.getElem?_append_right (by omega),h5,show (k+1)*5+i - 5=k*5+i by omega]
     exact ih k i (by simpa using hk) hi
  have hcell : ∀ i,i<5→w.cell? ⟨g,k*5+i,none⟩=(enq xs[k])[i]?:=by
   intro i hi
   rw [← flat xs k i hk hi,← htk,List.getElem?_take_of_lt (by omega)]
   unfold World.cell?
   rw [hcur]
   simp
  have hn:=h2 xs[k] (List.getElem_mem hk)
  rw [List.getElem_map]
  exact ⟨xs[k].1,xs[k].2.1,hcell 0 (by omega),hcell 1 (by omega),hcell 2 (by omega),hcell 3 (by omega),hcell 4 (by omega),hn.1,hn.2⟩
theorem OwnQ.recs:(v=.slice none 0 0∧l = [])∨∃ g cap,v=.slice (some ⟨g,0,none⟩) l.length cap∧base≤g∧l.length≤cap∧RRecs w g 0 l:=by
 rcases h.recx with h | ⟨g,cap,h1,h2,h3,h4⟩
 ·exact .inl h
 ·refine .inr ⟨g,cap,h1,h2,h3,fun k hk=>?_⟩
  obtain ⟨vo,vw,c0,c1,c2,c3,c4,n0,n1⟩:=h4 k hk
  rw [Nat.zero_add]
  exact ⟨vo,vw,c0,c1,c2,c3,c4,n0.nm,n1.nm⟩
end
end
namespace Od
open Ka Ed Ek Em En Ep Ia Sc Sf Si Lg Eu Ex Oa Ob Oc La Lb Es Ev Er Eh Za Ie Ec Ee Eb Re Lc Ke
theorem append_q {x y:Nat→Prop} {w:World} {base base':Nat} {va xv:Value} {ans xs:List Rec} (ho:OwnQ x w base va ans) (hx:OwnQ y w base' xv xs) (hy : ∀ k,k<w.heap.size→(x k∨some k=va.ownBlock)→y k) (hb:base≤w.heap.size) (hl:ans.length+xs.length≤100000) (hxs : ∀ k,x k→k<w.heap.size) :
  ∃ v' w',(Builtin.append_ #[115,115] 115 #[va,xv]).run Tryz.prog w=.ok v' w'∧OwnQ x w' base v' (ans++xs)∧w.grownBy w' va.ownBlock∧(v'.ownBlock=va.ownBlock∨v'.ownBlock=some w.heap.size):=by
 obtain ⟨i0,hi,hz0,hz1,hz2⟩:=info_parts infoQ
 obtain ⟨ys0,rfl,a1,a2⟩:=ho
 obtain ⟨bs,rfl,b1,b2⟩:=hx
 have hone : ∀ (ys:List (Value×Value×Rec)),(∀ z∈ys,z.1.oneCell'=true∧z.2.1.oneCell'=true)→∀ u∈ys.flatMap enq,u.oneCell'=true:=by
  intro ys hys u hu
  obtain ⟨z,hz,hu⟩:=List.mem_flatMap.1 hu
  have:=hys z hz
  simp only [enq,List.mem_cons,List.not_mem_nil,or_false] at hu
  rcases hu with rfl | rfl | rfl | rfl | rfl
  ·exact this.1
  ·rfl
  ·rfl
  ·rfl
  ·exact this.2
 have hlen5 : ∀ (ys:List (Value×Value×Rec)),(ys.flatMap enq).length=ys.length*5:=by
  intro ys
  induction ys with
  | nil=>rfl
  | cons z ys ih=>rw [List.flatMap_cons,List.length_append,ih,List.length_cons]; show 5+_=_; omega
 rw [List.length_map,List.length_map] at hl
 rcases b1.2 with ⟨rfl,h0⟩ | ⟨g,cap,cur,rfl,hg,hcur,hcap,hmx,hsz,htk⟩
 ·have:bs = []:=List.eq_nil_of_length_eq_zero h0
  subst this
  refine ⟨va,w,run_append_owned_none (P:=Tryz.prog) (w:=w) base 115 115 119 i0 5 underQ hi va _ _ a1,?_,⟨rfl,rfl,rfl,Nat.le_refl _,fun _ _ _=>rfl⟩,.inl rfl⟩
  rw [List.map_nil,List.append_nil]
  exact ⟨ys0,rfl,a1,a2⟩
 ·have hcells : ∀ j u,(bs.flatMap enq)[j]? = some u→w.cell? ((⟨g,0,none⟩:Addr).add j)=some u:=by
   intro j u hj
   rw [Addr.add_lit,Nat.zero_add]
   have hjl:j<bs.length*5:=by
    have:=(List.getElem?_eq_some_iff.1 hj).1
    rw [hlen5] at this
    exact this
   rw [← htk,List.getElem?_take_of_lt hjl] at hj
   unfold World.cell?
   rw [hcur]
   simpa using hj
  have hslice : ∀ z∈bs,z.1.oneCell'=true∧z.2.1.oneCell'=true:=by
   intro z hz
   obtain ⟨⟨_,_,_,e1,_⟩,⟨_,_,_,e2,_⟩⟩:=b2 z hz
   rw [e1,e2]
   exact ⟨rfl,rfl⟩
  obtain ⟨v',w',h1,h2,h3,_,h5⟩:=run_append_own_at (P:=Tryz.prog) w base 115 115 119 i0 _ 5 80 underQ hi hz0 hz1 hz2 rfl (by omega) va ys0.length (ys0.flatMap enq) a1 ⟨g,0,none⟩ bs.length cap (bs.flatMap enq) (hlen5 bs) hcells (hone bs hslice) (by simp [maxLen]; omega) (by omega) hb
  refine ⟨v',w',h1,⟨ys0++bs,by rw [List.map_append],by rw [List.length_append,List.flatMap_append]; exact h2,?_⟩,h3,h5⟩
  have hfr:Fr (fun k=>some k≠va.ownBlock) w w':=Fr.of_grown h3 (fun _ h=>h)
  have hnew : ∀ k,k<w.heap.size→some k≠va.ownBlock→some k≠v'.ownBlock:=fun k hk hn e=>by
   rcases h5 with h5 | h5
   ·rw [h5] at e; exact hn e
   ·rw [h5] at e; have:k=w.heap.size:=by simpa using e
    omega
  have go1 : ∀ (z:Nat→Prop) (u:Value) (ls:List Str),(∀ k,k<w.heap.size→x k∨some k=va.ownBlock→z k)→NmX w z u ls→NmX w' (fun k=>x k∨some k=v'.ownBlock) u ls:=by
   intro z u ls hz hu
   obtain ⟨g',o',c',e1,e2,e3,e4⟩:=hu
   have n1 : ¬ x g':=fun hc=>e4 (hz g' e3.1 (.inl hc))
   have n2:some g'≠va.ownBlock:=fun hc=>e4 (hz g' e3.1 (.inr hc))
   exact ⟨g',o',c',e1,e2,e3.fr hfr n2,fun hc=>hc.elim n1 (hnew g' e3.1 n2)⟩
  intro z hz
  rcases List.mem_append.1 hz with hz | hz
  ·exact ⟨go1 _ _ _ (fun _ _ h=>h) (a2 z hz).1,go1 _ _ _ (fun _ _ h=>h) (a2 z hz).2⟩
  ·exact ⟨go1 _ _ _ (fun k hk h=>.inl (hy k hk h)) (b2 z hz).1,go1 _ _ _ (fun k hk h=>.inl (hy k hk h)) (b2 z hz).2⟩
end Od
namespace Of
open Ka Ed Ek Em En Ep Ia Sc Sf Si Lg Eu Ex Oa Ob Oc Od La Lb Es Ev Er Eh Za Ie Ec Ee Eb Re Lc Ke
end Of
namespace Og
open Ka Ed Ek Em En Ep Ia Sc Sf Si Lg Eu Ex Oa Ob Oc Od Of La Lb Es Ev Er Eh Za Ie Ec Ee Eb Re Lc Ke
theorem wpO_append {P:Program} {o:Oper} {a:Act} {w:World} {K:Act→World→Prop} {Q:Exit→Act→World→Prop} (s x:Operand) (t:TypeId) (ho:o.op=.call { callee:=.builtin .append,args:=#[s,x],argTypes:=#[t,t] }) (v xv v':Value) (w':World) (hs:a.eval s=v) (hx:a.eval x=xv)
  (hr:(Builtin.append_ #[t,t] o.type #[v,xv]).run P w=.ok v' w') (h:K (a.put o.dst v') w'):o.wp P a w K Q:=by
 unfold Oper.wp execOp
 simp only [ho,resolve,invoke,builtin,Sem.run_bind,Sem.run_pure,Result.andThen_ok,List.map_toArray,List.map_cons,List.map_nil,hs,hx,hr]
 exact h
end Og
namespace Lq
open Ka Kd Rf Rg Ia Iow Ie Zb Zc Za La Lb Re Lc Le Lf Lg Lh Li
end Lq
namespace Lr
open Ka Kd Rf Rg Ia Iow Ie Zb Zc Za La Lb Re Lc Le Lf Lg Lh Li Lq
end Lr
namespace Lt
open Ka Kd Rf Rg Ia Iow Ie Zb Zc Za La Lb Re Lc Le Lf Lg Lh Li Ld Lj Lm Ln Lo Lp Ls Lq Lr
end Lt
namespace Oe
open Ka Ed Ek Em En Ep Ia Sc Sf Si Lg Eu Ex Oa Ob Oc Od Of Of Of Of Of Of Of Of Of Of La Lb Es Ev Er Eh Za Ie Ec Ee Eb Re Lc Ke Li
end Oe
namespace Oi
open Ka Ed Ek Em En Ep Ia Sc Sf Si Lg Eu Ex Oa Ob Oc Od Of Oe Og La Lb Es Ev Er Eh Za Ie Ec Ee Eb Re Lc Ke Ln
end Oi
namespace Lu
open Ka Ed Ek Em En Ep Ia Sc Sf Si Lg Eu Ex Oa Ob Oc Od Of Oe Og Oi La Lb Es Ev Er Eh Za Ie Ec Ee Eb Re Lc Ke Ln Lq
variable {o:Str} {L:List Rec} {t:Int}
end Lu
namespace Oh
open Ka Ed Ek Em En Ep Ia Sc Sf Si Lg Eu Ex Oa Ob Oc Od Of Og La Lb Es Ev Er Eh Za Ie Ec Ee Eb Re Lc Ke Li
end Oh
namespace Oj
open Ka Ed Ek Em En Ep Ia Sc Sf Si Lg Eu Ex Oa Ob Oc Od Of Oe Og Oh Oi La Lb Es Ev Er Eh Za Ie Ec Ee Eb Re Lc Ke Ln
end Oj
namespace On
open Ka Ed Ek Em En Ep Ia Sc Sf Si Lg Eu Ex Oa Ob Oc Od Of Oe Og Oh Oi Oj La Lb Es Ev Er Eh Za Ie Ec Ee Eb Re Lc Ke Ln
end On
namespace Lv
open Ka Kd Rf Rg Ia Iow Ie Zb Zc Za La Lb Re Lc Le Lf Lg Lh Li Ld Lj Lm Ln Lo Lp Ls Lq Lr Lt Lu Oa Ob Oc Oe Of Og Oi Oj
end Lv
end Go.Proofs.YtkkpahmoljiepaaGreatDoor
