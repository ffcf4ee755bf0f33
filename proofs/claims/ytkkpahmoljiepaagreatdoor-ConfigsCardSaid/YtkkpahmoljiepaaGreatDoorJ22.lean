/- Pure: a zone's text, line by line, as the two sides read it. Nothing of memory here. -/
import Derived.Test.YtkkpahmoljiepaaGreatDoorJ20
import Derived.Test.YtkkpahmoljiepaaGreatDoorJ21
import Derived.Test.YtkkpahmoljiepaaGreatDoorJ19
set_option linter.unusedSimpArgs false
set_option linter.unusedVariables false
set_option maxRecDepth 1000000
set_option maxHeartbeats 12800000
namespace Go.Proofs.YtkkpahmoljiepaaGreatDoor
open Go.RowKit
open Pu (Str aH aU)
def org6:Str:=[111,114,105,103,105,110]
namespace Ol
open Ka Ed Ek Em En Ep Ia Sc Sf Si Lg Eu Ex Oa Ob Oc La Lb Es Ev Er Eh Za Ie Ec Ee Eb Re Lc Ke
theorem suf_iff (l s:Str):Lib.hasSuffix l s=true ↔ ∃ p,l=p++s:=by
 unfold Lib.hasSuffix
 rw [List.isSuffixOf_iff_suffix]
 exact ⟨fun ⟨p,h⟩=>⟨p,h.symm⟩,fun ⟨p,h⟩=>⟨p,h.symm⟩⟩
theorem pre_iff (l s:Str):Lib.hasPrefix l s=true ↔ ∃ p,l=s++p:=by
 unfold Lib.hasPrefix
 rw [List.isPrefixOf_iff_prefix]
 exact ⟨fun ⟨p,h⟩=>⟨p,h.symm⟩,fun ⟨p,h⟩=>⟨p,h.symm⟩⟩
theorem rz_some (t:Str):readZ (t++[10])=readLines (Sp.spl 10 t):=by
 have h:Lib.hasSuffix (t++[10]) [10]=true:=(suf_iff _ _).2 ⟨t,rfl⟩
 unfold readZ Lib.trimSuffix
 rw [if_pos h,if_pos h]
 congr 2
 simp
theorem rz_none {s:Str} (h : ∀ t,s≠t++[10]):readZ s=none:=by
 unfold readZ
 rw [if_neg]
 intro hc
 obtain ⟨p,hp⟩:=(suf_iff _ _).1 hc
 exact h p hp
theorem spl_mem : ∀ (f:Nat) (y:Str) (c:UInt8),y.length≤f→c∈y→c=46∨∃ l∈Sp.spl 46 y,c∈l
 | f,y,c,hf,hc=>by
  rcases cut_first 46 y with ⟨_,e⟩ | ⟨a,b,e0,_,e⟩
  ·exact .inr ⟨y,by rw [e]; simp,hc⟩
  ·rw [e0] at hc
   rcases List.mem_append.1 hc with h | h
   ·exact .inr ⟨a,by rw [e]; simp,h⟩
   ·rcases List.mem_cons.1 h with h | h
    ·exact .inl h
    ·have hl:b.length<f:=by rw [e0] at hf; simp at hf; omega
     rcases spl_mem (f - 1) b c (by omega) h with h | ⟨l,h1,h2⟩
     ·exact .inl h
     ·exact .inr ⟨l,by rw [e]; exact List.mem_cons_of_mem _ h1,h2⟩
termination_by f=>f
decreasing_by omega
theorem plain_no {y:Str} (h:Sp.plain y=true):(32:UInt8) ∉ y:=by
 intro hc
 have hn:(nmR false y).isSome=true:=by rw [nmF]; exact h
 unfold nmR at hn
 split at hn
 ·rename_i hh
  rcases spl_mem y.length y 32 (Nat.le_refl _) hc with h | ⟨l,h1,h2⟩
  ·exact absurd h (by decide)
  ·have key : ∀ (ls:List Str) (i:Nat),okSs false i ls=true→∀ x∈ls,Pu.label x=true:=by
    intro ls
    induction ls with
    | nil=>intro i _ x hx; cases hx
    | cons a ls ih =>
     intro i h x hx
     rw [okSs,Bool.and_eq_true] at h
     rcases List.mem_cons.1 hx with rfl | hx
     ·have:=h.1
      unfold okS at this
      simpa using this
     ·exact ih (i+1) h.2 x hx
   have hl:=key _ 0 hh.2 l h1
   unfold Pu.label at hl
   rw [Bool.and_eq_true] at hl
   have:=List.all_eq_true.1 hl.2 32 h2
   exact absurd this (by decide)
 ·cases hn
theorem spl_one {c:UInt8} {y:Str} (h:c ∉ y):Sp.spl c y = [y]:=by
 rcases cut_first c y with ⟨_,e⟩ | ⟨a,b,e0,_,_⟩
 ·exact e
 ·exact absurd (by rw [e0]; simp) h
theorem first_yes {f y:Str} (h:Sp.spl 32 f = [org6,y]):Lib.hasPrefix f originW=true∧Lib.trimPrefix f originW=y:=by
 have hj:=joinC_spl 32 f
 rw [h] at hj
 have hf:f=originW++y:=by rw [← hj]; rfl
 have hp:Lib.hasPrefix f originW=true:=(pre_iff _ _).2 ⟨y,hf⟩
 refine ⟨hp,?_⟩
 unfold Lib.trimPrefix
 rw [if_pos hp,hf]
 simp
theorem first_no {f:Str} (h:(Lib.hasPrefix f originW && Sp.plain (Lib.trimPrefix f originW))=true) : ∃ y,Sp.spl 32 f = [org6,y]∧Sp.plain y=true∧Lib.trimPrefix f originW=y:=by
 rw [Bool.and_eq_true] at h
 obtain ⟨p,hp⟩:=(pre_iff _ _).1 h.1
 have ht:Lib.trimPrefix f originW=p:=by
  unfold Lib.trimPrefix
  rw [if_pos h.1,hp]
  simp
 rw [ht] at h
 refine ⟨p,?_,h.2,ht⟩
 have hf:f=org6++32 :: p:=by rw [hp]; rfl
 rw [hf,spl_app,spl_one (plain_no h.2)]
 rfl
theorem all_snoc : ∀ (ls:List Str) (l:Str),readAll (ls++[l])=(readAll ls).bind fun rs=>(readRec l).map fun r=>rs++[r]
 | [],l=>by
  show (readRec l).bind (fun r=>(readAll []).map (r :: ·))=_
  cases readRec l <;> rfl
 | a :: ls,l=>by
  show (readRec a).bind (fun r=>(readAll (ls++[l])).map (r :: ·))=Option.bind ((readRec a).bind fun r=>(readAll ls).map (r :: ·)) _
  rw [all_snoc ls l]
  cases readRec a with
  | none=>rfl
  | some r =>
   cases readAll ls with
   | none=>rfl
   | some rs =>
    cases readRec l with
    | none=>rfl
    | some r'=>rfl
theorem all_len : ∀ (ls:List Str) (rs:List Rec),readAll ls=some rs→rs.length=ls.length
 | [],rs,h=>by
  have : []=rs:=Option.some.inj h
  rw [← this]; rfl
 | a :: ls,rs,h=>by
  have h':(readRec a).bind (fun r=>(readAll ls).map (r :: ·))=some rs:=h
  cases hr:readRec a with
  | none=>rw [hr] at h'; cases h'
  | some r =>
   cases hl:readAll ls with
   | none=>rw [hr,hl] at h'; cases h'
   | some rs' =>
    rw [hr,hl] at h'
    have:r :: rs'=rs:=Option.some.inj h'
    rw [← this,List.length_cons,all_len ls rs' hl]; rfl
theorem all_bad : ∀ (ls:List Str) (k:Nat) (h:k<ls.length),readRec ls[k]=none→readAll ls=none
 | a :: ls,0,_,h=>by
  show (readRec a).bind _=none
  have:readRec a=none:=h
  rw [this]; rfl
 | a :: ls,k+1,hk,h=>by
  show (readRec a).bind (fun r=>(readAll ls).map (r :: ·))=none
  rw [all_bad ls k (by simpa using hk) h]
  cases readRec a <;> rfl
theorem rec_of {l:Str} {r:Rec} (hl:l.length≤3000) (h:readRec l=some r):RecOk r:=by
 unfold readRec at h
 split at h
 ·rename_i a b c d hs
  split at h
  ·rename_i hc
   simp only [Bool.and_eq_true] at hc
   obtain rfl:=(Option.some.inj h).symm
   have hm:d∈Lib.splitN l [32] 4:=by rw [hs]; simp
   have hb:=hc.1.2
   refine ⟨hc.1.1,(num_atoi hb).2.2,hc.2,?_⟩
   have:=Rc.splitK_mem_len 32 _ l d hm
   exact Nat.le_trans this hl
  ·cases h
 ·cases h
theorem all_ok : ∀ (ls:List Str) (rs:List Rec),(∀ l∈ls,l.length≤3000)→readAll ls=some rs→∀ r∈rs,RecOk r
 | [],rs,_,h=>by
  have : []=rs:=Option.some.inj h
  rw [← this]; intro r hr; cases hr
 | a :: ls,rs,hl,h=>by
  have h':(readRec a).bind (fun r=>(readAll ls).map (r :: ·))=some rs:=h
  cases hr:readRec a with
  | none=>rw [hr] at h'; cases h'
  | some r =>
   cases hx:readAll ls with
   | none=>rw [hr,hx] at h'; cases h'
   | some rs' =>
    rw [hr,hx] at h'
    have:r :: rs'=rs:=Option.some.inj h'
    rw [← this]
    intro y hy
    rcases List.mem_cons.1 hy with rfl | hy
    ·exact rec_of (hl a (by simp)) hr
    ·exact all_ok ls rs' (fun l hl'=>hl l (List.mem_cons_of_mem _ hl')) hx y hy
end Ol
def PR (s:Str) (base:Nat) (e:Ending) (w':World):Prop :=
 match parseP s with
 | none=>e=.returned (.pointer none)
 | some p=>∃ zb o rs,e=.returned (.pointer (some ⟨zb,0,none⟩))∧base≤zb∧Eh.RZone w' zb o rs∧ZOk o rs∧readZ s=some (o,rs)∧p=(o,sortL rs)
namespace Om
open Ka Ed Ek Em En Ep Ej Ia Sc Sf Si Lg Eu Ex Oa Ob Oc Od Og Ol La Lb Es Ev Er Eh Za Ie Ec Ee Eb Re Lc Ke Ea Eg Li
theorem eql_nil (a:Option Addr) (l c:Nat) (w:World):(binOp .eql 113 (.slice a l c) (.slice none 0 0)).run Tryz.prog w=.ok (.bool a.isNone) w:=Lib.run_eql_slice_nil w _ _ a l c 0 0 Ev.underN
attribute [local go_sem] eql_nil
theorem pr_none {s:Str} {base:Nat} {w':World} (h:parseP s=none):PR s base (.returned (.pointer none)) w':=by unfold PR; rw [h]
theorem pp_none {s:Str} (h:readZ s=none):parseP s=none:=by unfold parseP; rw [h]; rfl
theorem pp_long {s:Str} {o:Str} {rs:List Rec} (h:readZ s=some (o,rs)) (hl:60<rs.length):parseP s=none:=by
 unfold parseP
 rw [h]
 show (if Rf.startsR o rs && rightP o (sortL rs) then _ else _)=_
 rw [if_neg]
 intro hc
 rw [Bool.and_eq_true] at hc
 have:=hc.1
 unfold Rf.startsR at this
 cases rs with
 | nil=>simp at this
 | cons r t=>simp at this hl; omega
theorem pp_right {s:Str} {o:Str} {rs:List Rec} (h:readZ s=some (o,rs)) (hval : ∀ r∈rs,Sp.valid r.owner=true) (hr : ¬ (RightR o rs∧rs.length≤60)):parseP s=none:=by
 unfold parseP
 rw [h]
 show (if Rf.startsR o rs && rightP o (sortL rs) then _ else _)=_
 rw [if_neg]
 intro hc
 exact hr ((right_eq o rs hval).2 hc)
theorem pp_some {s:Str} {o:Str} {rs:List Rec} (h:readZ s=some (o,rs)) (hval : ∀ r∈rs,Sp.valid r.owner=true) (hr:RightR o rs) (hl:rs.length≤60):parseP s=some (o,sortL rs)∧Rf.startsR o rs=true∧rightP o (sortL rs)=true:=by
 have hc:=(right_eq o rs hval).1 ⟨hr,hl⟩
 unfold parseP
 rw [h]
 refine ⟨?_,by rw [Bool.and_eq_true] at hc; exact hc.1,by rw [Bool.and_eq_true] at hc; exact hc.2⟩
 show (if Rf.startsR o rs && rightP o (sortL rs) then _ else _)=_
 rw [if_pos hc]
theorem rl_yes {f y:Str} (ls:List Str) (h:Sp.spl 32 f = [org6,y]) (hp:Sp.plain y=true):readLines (f :: ls)=(readAll ls).map (fun rs=>(y,rs)):=by
 obtain ⟨h1,h2⟩:=first_yes h
 show (if Lib.hasPrefix f originW && Sp.plain (Lib.trimPrefix f originW) then _ else _)=_
 rw [h1,h2,hp]; rfl
theorem rl_no {f:Str} (ls:List Str) (h : ∀ y,Sp.spl 32 f = [org6,y]→Sp.plain y=false):readLines (f :: ls)=none:=by
 show (if Lib.hasPrefix f originW && Sp.plain (Lib.trimPrefix f originW) then _ else _)=_
 rw [if_neg]
 intro hc
 obtain ⟨y,h1,h2,_⟩:=first_no hc
 rw [h y h1] at h2; cases h2
theorem rl_long {f:Str} {ls:List Str} {s:Str} (h:readZ s=readLines (f :: ls)) (hl:60<ls.length):parseP s=none:=by
 cases hr:readLines (f :: ls) with
 | none=>exact pp_none (by rw [h,hr])
 | some p =>
  obtain ⟨o,rs⟩:=p
  refine pp_long (o:=o) (rs:=rs) (by rw [h,hr]) ?_
  have h':(if Lib.hasPrefix f originW && Sp.plain (Lib.trimPrefix f originW) then (readAll ls).map (fun rs=>(Lib.trimPrefix f originW,rs)) else none)=some (o,rs):=hr
  split at h'
  ·cases ha:readAll ls with
   | none=>rw [ha] at h'; cases h'
   | some rs' =>
    rw [ha] at h'
    have e:rs'=rs:=congrArg Prod.snd (Option.some.inj h')
    rw [← e,all_len ls rs' ha]; exact hl
  ·cases h'
theorem own_one {W:World} {q:Nat} {vo vw:Value} {r:Rec} {x:Nat→Prop} (h:W.heap[q]? = some (.cells #[vo,.int .i64 r.ttl,.int .i64 r.type,.string (B r.data),vw] 119)) (h1:NmX W (fun k=>x k∨k=q) vo (Sp.spl 46 r.owner)) (h2:NmX W (fun k=>x k∨k=q) vw (Sp.spl 32 r.data)):OwnQ x W 0 (.slice (some ⟨q,0,none⟩) 1 1) [r]:=by
 refine ⟨[(vo,vw,r)],rfl,⟨rfl,.inr ⟨q,1,_,rfl,Nat.zero_le _,h,Nat.le_refl _,by unfold maxLen; omega,rfl,rfl⟩⟩,?_⟩
 intro y hy
 obtain rfl:y=_:=by simpa using hy
 have hi : ∀ k,k<W.heap.size→¬ (x k∨k=q)→¬ (x k∨some k=(Value.slice (some ⟨q,0,none⟩) 1 1).ownBlock):=fun k _ hn hc=>hn (hc.imp id (fun e=>by simpa [Value.ownBlock] using e))
 exact ⟨h1.imp hi,h2.imp hi⟩
structure ZI (w wr:World) (zb g go oc:Nat) (f y:Str) (ls:List Str) (k:Nat) (rs:List Rec) (vl:Value):Prop where
 zo:wr.heap[zb]? = some (.cells #[.slice (some ⟨go,0,none⟩) (Sp.spl 46 y).length oc,vl] 117)
 al:readAll (ls.take k)=some rs
 oq:OwnQ (· = zb) wr (zb+1) vl rs
 li:TxAt wr g 0 (f :: ls)
 nm:TxAt wr go 0 (Sp.spl 46 y)
 bl:Below w.heap.size w wr
 nil:rs = []→vl=.slice none 0 0
theorem ZI.fr {w wr w1:World} {zb g go oc:Nat} {f y:Str} {ls:List Str} {k:Nat} {rs:List Rec} {vl:Value} (h:ZI w wr zb g go oc f y ls k rs vl) (hb:Below wr.heap.size wr w1):ZI w w1 zb g go oc f y ls k rs vl :=
 ⟨(hb.block zb (Array.getElem?_eq_some_iff.1 h.zo).1).trans h.zo,h.al,h.oq.below hb,h.li.below hb,h.nm.below hb,h.bl.trans (hb.mono h.bl.size),h.nil⟩
theorem ZI.add {w wr:World} {zb g go oc:Nat} {f y:Str} {ls:List Str} {k:Nat} {rs:List Rec} {vl:Value} (h:ZI w wr zb g go oc f y ls k rs vl) (hk:k<ls.length) {r:Rec} (hr:readRec ls[k]=some r) {xv:Value} (hx:OwnQ (fun j=>j=zb∨some j=vl.ownBlock) wr 0 xv [r]) (hl:rs.length≤90000) (hzw:w.heap.size≤zb) (hg:g<zb) (hgo:go<zb) :
  ∃ v' w',(Builtin.append_ #[115,115] 115 #[vl,xv]).run Tryz.prog wr=.ok v' w'∧w'.heap[zb]? = some (.cells #[.slice (some ⟨go,0,none⟩) (Sp.spl 46 y).length oc,vl] 117)∧ZI w (w'.setCell ⟨zb,1,none⟩ v') zb g go oc f y ls (k+1) (rs++[r]) v'∧(∃ a c,v'=.slice a (rs.length+1) c):=by
 have hzl:zb<wr.heap.size:=(Array.getElem?_eq_some_iff.1 h.zo).1
 obtain ⟨v',w',k1,k2,k3,k5⟩:=append_q h.oq hx (fun j _ hc=>hc) (by omega) (by simp; omega) (fun j hj=>by rw [hj]; exact hzl)
 have hvl:=h.oq.lt
 have hz':some zb≠vl.ownBlock:=fun e=>by have:=(hvl zb e.symm).1; omega
 have hzo:=(k3.block zb hzl hz').trans h.zo
 have hfr:Fr (fun j=>some j≠vl.ownBlock) wr w':=Fr.of_grown k3 (fun _ h=>h)
 have hset:Fr (fun j=>j≠zb) w' (w'.setCell ⟨zb,1,none⟩ v'):=Fr.of_set (a:=⟨zb,1,none⟩) v' (fun _ h=>h)
 have hlow : ∀ j,j<zb→some j≠vl.ownBlock:=fun j hj e=>by have:=(hvl j e.symm).1; omega
 refine ⟨v',w',k1,hzo,⟨?_,?_,?_,?_,?_,?_,?_⟩,?_⟩
 ·simp only [World.setCell,Array.getElem?_modify,if_true,hzo]; rfl
 ·rw [List.take_succ_eq_append_getElem hk,all_snoc,h.al,hr]; rfl
 ·exact k2.set (a:=⟨zb,1,none⟩) v' rfl (by show zb<zb+1; omega)
 ·exact (h.li.fr hfr (hlow g hg)).fr hset (by omega)
 ·exact (h.nm.fr hfr (hlow go hgo)).fr hset (by omega)
 ·refine (h.bl.trans ?_).setCell (p:=⟨zb,1,none⟩) hzw _
  exact ⟨k3.os,k3.tape,k3.output,k3.size,fun j hj=>k3.block j (by omega) (hlow j (by omega))⟩
 ·intro e; simp at e
 ·obtain ⟨a,c,e⟩:=k2.slice
  rw [List.length_append] at e
  exact ⟨a,c,e⟩
theorem parse_r (s:Str) (w:World) (hl:s.length≤3000) :
  Calls Tryz.prog 17 #[.string (B s)] w fun e w'=>PR s w.heap.size e w'∧Below w.heap.size w w':=by
 rcases List.eq_nil_or_concat s with rfl | ⟨t,c,hs⟩
 ·have HP:Hid (parseP []=none):=pp_none (rz_none (fun t h=>by simp at h))
  have hz:(B ([]:Str)).size=0:=rfl
  go_enter Tryz.func17,Tryz.ntmps17
  go_wp2_with fail
  go_ret
  exact ⟨pr_none (aU HP),Below.refl _ _⟩
 rw [List.concat_eq_append] at hs
 have hsz:(B s).size=t.length+1:=by rw [size_B,hs]; simp
 have hlt:t.length+1≤3000:=by rw [hs] at hl; simpa using hl
 have g1 : ∀ h:t.length<(B s).size,(B s)[t.length]=c:=fun h=>by
  show s.toArray[t.length]'_=c
  simp [hs]
 have hltI : ¬ (3000:Int)<((t.length+1:Nat):Int):=by omega
 have hlt1 : ¬ ((t.length+1:Nat):Int)<1:=by omega
 have hm1:((t.length+1:Nat):Int) - 1=(t.length:Int):=by omega
 by_cases hc:c=10
 ·have hcI:((c.toNat:Int) != 10)=false:=by rw [hc]; rfl
  have HX:Hid ((B s).extract 0 t.length=B t):=by rw [Hid,B_part,hs]; simp
  have HRZ:Hid (readZ s=readLines (Sp.spl 10 t)):=by rw [Hid,hs,hc]; exact rz_some t
  have HSP:=aH (fun W=>Ea.split_any t 10 W (by omega))
  have HME:Hid (∀ x∈Sp.spl 10 t,x.length≤3000):=fun x hx=>by have:=Sp.spl_mem_len 10 t.length t (Nat.le_refl _) x hx; omega
  have hLn:(Sp.spl 10 t).length≤3001:=by have:=Sp.spl_len_le 10 t; omega
  obtain ⟨f,ls,hfl⟩ : ∃ f ls,Sp.spl 10 t=f :: ls:=by
   cases h:Sp.spl 10 t with
   | nil=>exact absurd h (Sp.spl_ne 10 t)
   | cons f ls=>exact ⟨f,ls,rfl⟩
  rw [hfl] at HRZ HSP HME hLn
  have HS:=aH hs
  clear hc hs hl hfl
  generalize B s=S at *
  go_enter Tryz.func17,Tryz.ntmps17
  go_wp2_with fail
  rw [aU HX]
  refine (aU HSP _).mono ?_
  rintro e w1 ⟨⟨v1,rfl,ho1⟩,hb1⟩
  obtain ⟨g,cap,rfl,hcap,hbg,htx⟩:=own_name ho1 (by simp)
  have c0:w1.cell? ⟨g,0,none⟩=some (.string (B f)):=htx.2 0 (by simp)
  have HTX:=aH htx
  have hfl:=aU HME f (by simp)
  have HS2:=aH (Ea.split_any f 32 w1 (by omega))
  have HB1:=aH hb1
  have hgl:=htx.1
  simp only [List.length_cons] at hLn hcap ⊢
  clear htx ho1 hb1 HSP HX g1
  go_wp2_with fail
  refine (aU HS2).mono ?_
  rintro e w2 ⟨⟨v2,rfl,ho2⟩,hb2⟩
  obtain ⟨g2,cap2,rfl,hcap2,hbg2,htx2⟩:=own_name ho2 (Sp.spl_ne 32 f)
  have hs1:=(aU HB1).size
  have hs2:=hb2.size
  have HB2:=aH ((aU HB1).trans (hb2.mono hs1))
  have HTX2:=aH ((aU HTX).below hb2)
  have HW:=aH htx2
  clear ho2 hb2 HS2 c0 htx2
  by_cases h2:(Sp.spl 32 f).length=2
  rotate_left
  ·have h2I:(((Sp.spl 32 f).length:Int) != 2)=true:=by simp only [bne_iff_ne,ne_eq]; omega
   have HP:Hid (parseP s=none):=pp_none (by rw [aU HRZ]; exact rl_no ls (fun y h=>absurd (by rw [h]; rfl) h2))
   go_wp2_with fail
   go_ret
   exact ⟨pr_none (aU HP),aU HB2⟩
  obtain ⟨x,y,hxy⟩ : ∃ x y,Sp.spl 32 f = [x,y]:=by
   cases h0:Sp.spl 32 f with
   | nil=>rw [h0] at h2; cases h2
   | cons x l0 =>
    cases l0 with
    | nil=>rw [h0] at h2; cases h2
    | cons y l1 =>
     cases l1 with
     | nil=>exact ⟨x,y,rfl⟩
     | cons z l2=>rw [h0] at h2; simp at h2
  rw [hxy] at hcap2 HW ⊢
  simp only [List.length_cons,List.length_nil] at hcap2 ⊢
  have d0:w2.cell? ⟨g2,0,none⟩=some (.string (B x)):=(aU HW).2 0 (by simp)
  have d1:w2.cell? ⟨g2,1,none⟩=some (.string (B y)):=(aU HW).2 1 (by simp)
  have hyl:y.length≤3000:=by have:=Sp.spl_mem_len 32 f.length f (Nat.le_refl _) y (by rw [hxy]; simp); omega
  have HXY:=aH hxy
  clear h2 hxy
  by_cases hx:x=org6
  rotate_left
  ·have hxb:((B x).toList == org6)=false:=by
    rw [ByteArray.toList_eq]
    show (x == org6)=false
    simpa using hx
   have hxI:((B x).toList == [111,114,105,103,105,110])=false:=hxb
   have HP:Hid (parseP s=none):=pp_none (by rw [aU HRZ]; exact rl_no ls (fun y' h=>absurd (by have:=aU HXY; rw [h] at this; exact (List.cons.inj this).1.symm) hx))
   clear hx hxb
   go_wp2_with fail
   go_ret
   exact ⟨pr_none (aU HP),aU HB2⟩
  have hxI:((B x).toList == [111,114,105,103,105,110])=true:=by
   rw [ByteArray.toList_eq,hx]; rfl
  rw [hx] at HXY
  clear hx
  have hmm:((ls.length+1:Nat):Int) - 1=(ls.length:Int):=by omega
  by_cases h60:60<ls.length
  ·have h60I:(60:Int)<(ls.length:Int):=by omega
   have HP:Hid (parseP s=none):=rl_long (aU HRZ) h60
   go_wp2_with fail
   go_ret
   exact ⟨pr_none (aU HP),aU HB2⟩
  have h60I : ¬ (60:Int)<(ls.length:Int):=by omega
  have HRN:=aH (readName_any y false w2 (by omega))
  go_wp2_with fail
  refine (aU HRN).mono ?_
  rintro e w3 ⟨⟨v3,rfl,hv3⟩,hb3⟩
  have HB3:=aH ((aU HB2).trans (hb3.mono (aU HB2).size))
  have hs3:=hb3.size
  have HTX3:=aH ((aU HTX2).below hb3)
  clear HRN hb3 d0 d1 hxI
  cases ho:nmR false y with
  | none =>
   rw [ho] at hv3
   have hv3':v3=.slice none 0 0:=hv3
   subst hv3'
   have HP:Hid (parseP s=none):=pp_none (by
    rw [aU HRZ]
    refine rl_no ls (fun y' h=>?_)
    have:=aU HXY
    rw [h] at this
    obtain rfl:y'=y:=(List.cons.inj (List.cons.inj this).2).1
    rw [← nmF,ho]; rfl)
   clear hv3
   go_wp2_with fail
   go_ret
   exact ⟨pr_none (aU HP),((aU HB3).alloc (by omega) _)⟩
  | some l =>
   rw [ho] at hv3
   obtain rfl:=Eg.nm_some ho
   have hpl:Sp.plain y=true:=by rw [← nmF,ho]; rfl
   obtain ⟨_,go,oc,rfl,hoc,hgo,hto⟩:=hv3
   have hgol:=hto.1
   obtain ⟨OZ,hOZ⟩ : ∃ OZ:Obj,OZ=.cells #[.slice (some ⟨go,0,none⟩) (Sp.spl 46 y).length oc,.slice none 0 0] 117:=⟨_,rfl⟩
   have hb4:Below w3.heap.size w3 (w3.alloc OZ):=(Below.refl _ _).alloc (Nat.le_refl _) _
   have HZ0:Hid (ZI w (w3.alloc OZ) w3.heap.size g go oc f y ls 0 [] (.slice none 0 0)):=⟨by rw [World.alloc_heap_new,hOZ],rfl,OwnQ.nil _ _ _,(aU HTX3).below hb4,hto.below hb4,(aU HB3).trans (hb4.mono (aU HB3).size),fun _=>rfl⟩
   have hs30:=(aU HB3).size
   have HHO:=aH (And.intro ho (And.intro hpl hoc))
   clear hb4 ho hto
   go_wp2_with fail
   rw [← hOZ]
   obtain ⟨zb,hzb⟩ : ∃ zb,w3.heap.size=zb:=⟨_,rfl⟩
   rw [hzb] at HZ0 ⊢
   clear hOZ
   go_loopw [6] (fun iv wr=>∃ (k:Nat) (rs:List Rec) (vl:Value),k≤ls.length∧iv=.int .i64 ((k+1:Nat):Int)∧ZI w wr zb g go oc f y ls k rs vl) (fun iv _=>ls.length+1 - (intOf iv).toNat)
   case atStart=>exact ⟨0,[],_,Nat.zero_le _,rfl,aU HZ0⟩
   case round =>
    obtain ⟨k,rs,vl,hk,rfl,hZ⟩:=hrel
    obtain ⟨la,lc,rfl⟩:=hZ.oq.slice
    have HZ:=aH hZ
    have hrl:rs.length=k:=by rw [all_len _ _ hZ.al,List.length_take]; omega
    have hzl:zb<wr.heap.size:=(Array.getElem?_eq_some_iff.1 hZ.zo).1
    have hbs:=hZ.bl.size
    by_cases hkl:k<ls.length
    ·have hklI:((k+1:Nat):Int)<((ls.length+1:Nat):Int):=by omega
     have cl:wr.cell? ⟨g,k+1,none⟩=some (.string (B ls[k])):=by
      have:=hZ.li.2 (k+1) (by simp; omega)
      rw [Nat.zero_add] at this
      exact this
     have hlk:=aU HME ls[k] (List.mem_cons_of_mem _ (List.getElem_mem hkl))
     have HRC:=aH (record_any ls[k] wr hlk)
     obtain ⟨L,hL⟩ : ∃ L,ls[k]=L:=⟨_,rfl⟩
     rw [hL] at cl HRC
     have HL:=aH hL
     clear hZ hL
     go_wp2_with fail
     refine (aU HRC).mono ?_
     rintro e w4 ⟨⟨va,vn,vc,tt,kd,dd,ua,um,uc,rfl,hrc⟩,hb4⟩
     have hs4:=hb4.size
     have hZ4:=(aU HZ).fr hb4
     have HZ4:=aH hZ4
     cases hrr:readRec L with
     | none =>
      have HP:Hid (parseP s=none):=pp_none (by
       rw [aU HRZ,rl_yes ls (aU HXY) (aU HHO).2.1,all_bad ls k hkl (by rw [aU HL]; exact hrr)]; rfl)
      have HBZ:=aH hZ4.bl
      clear hrc hb4 hZ4 HRC
      go_wp2_with fail
      go_ret
      exact ⟨pr_none (aU HP),(aU HBZ).alloc (by omega) _⟩
     | some r =>
      obtain ⟨rfl,rfl,rfl,n0,n1⟩:=hrc r hrr
      obtain ⟨OB,hOB⟩ : ∃ OB:Obj,OB=.cells #[.slice va vn vc,.int .i64 r.ttl,.int .i64 r.type,.string (B r.data),.slice ua um uc] 119:=⟨_,rfl⟩
      have hba:Below w4.heap.size w4 (w4.alloc OB):=(Below.refl _ _).alloc (Nat.le_refl _) _
      have hbd:=hba.drew
      have hnew:(w4.alloc OB).drew.heap[w4.heap.size]? = some OB:=World.alloc_heap_new w4 OB
      have hsA:(w4.alloc OB).drew.heap.size=w4.heap.size+1:=World.size_alloc w4 OB
      have hZ6:=hZ4.fr hbd
      have n6:NmB (w4.alloc OB).drew wr.heap.size (.slice va vn vc) (Sp.spl 46 r.owner):=by
       obtain ⟨a1,a2,a3,a4,a5,a6,a7⟩:=n0
       exact ⟨a1,a2,a3,a4,a5,a6.below hbd,a7⟩
      have m6:NmB (w4.alloc OB).drew wr.heap.size (.slice ua um uc) (Sp.spl 32 r.data):=by
       obtain ⟨a1,a2,a3,a4,a5,a6,a7⟩:=n1
       exact ⟨a1,a2,a3,a4,a5,a6.below hbd,a7⟩
      have HZ6:=aH hZ6
      have HN6:=aH (And.intro n6 m6)
      have HNEW:=aH hnew
      have HRR:=aH hrr
      clear hrc hb4 hZ4 HRC n0 n1 hZ6 n6 m6 hnew hba hbd hrr
      go_upto_region 16 with fail
      rw [← hOB]
      refine wp_region_held_drew (S:=fun _=>True) (by kernel_rfl) trivial (fun hS=>?_)
      generalize (w4.alloc OB).drew=W6 at *
      obtain ⟨b5,hb5⟩ : ∃ b5,w4.heap.size=b5:=⟨_,rfl⟩
      rw [hb5] at HNEW hsA ⊢
      have hnew:=aU HNEW
      rw [hOB] at hnew
      have r0:W6.cell? ⟨b5,0,none⟩=some (.slice va vn vc):=by unfold World.cell?; rw [hnew]; rfl
      have r1:W6.cell? ⟨b5,1,none⟩=some (.int .i64 r.ttl):=by unfold World.cell?; rw [hnew]; rfl
      have r2:W6.cell? ⟨b5,2,none⟩=some (.int .i64 r.type):=by unfold World.cell?; rw [hnew]; rfl
      have r3:W6.cell? ⟨b5,3,none⟩=some (.string (B r.data)):=by unfold World.cell?; rw [hnew]; rfl
      have r4:W6.cell? ⟨b5,4,none⟩=some (.slice ua um uc):=by unfold World.cell?; rw [hnew]; rfl
      have hzo6:=(aU HZ6).zo
      have zc:W6.cell? ⟨zb,1,none⟩=some (.slice la rs.length lc):=by unfold World.cell?; rw [hzo6]; rfl
      have hz6 : ¬ zb=W6.heap.size:=by omega
      have zcA : ∀ o,(W6.alloc o).cell? ⟨zb,1,none⟩=some (.slice la rs.length lc):=fun o=>(World.cell?_of_block (Below.heap_alloc W6 o zb (by omega))).trans zc
      have hb7:Below W6.heap.size W6 (W6.alloc OB):=(Below.refl _ _).alloc (Nat.le_refl _) _
      have hvl:=(aU HZ).oq.lt
      have hnx : ∀ {v:Value} {l:List Str},NmB W6 wr.heap.size v l→NmX (W6.alloc OB) (fun j=>(j=zb∨some j=(Value.slice la rs.length lc).ownBlock)∨j=W6.heap.size) v l:=fun h=>by
       obtain ⟨a1,a2,a3,a4,a5,a6,a7⟩:=h
       refine ⟨a1,a2,a3,a4,a5,a6.below hb7,fun hc=>?_⟩
       have:=a6.1
       rcases hc with (hc | hc) | hc
       ·omega
       ·have:=(hvl a1 hc.symm).2; omega
       ·omega
      have hx:=own_one (W:=W6.alloc OB) (q:=W6.heap.size) (r:=r) (x:=fun j=>j=zb∨some j=(Value.slice la rs.length lc).ownBlock) (by rw [World.alloc_heap_new,hOB]) (hnx (aU HN6).1) (hnx (aU HN6).2)
      obtain ⟨v8,w8,hrun,hzo8,hZ9,a8,c8,hv8⟩:=((aU HZ6).fr hb7).add hkl (by rw [aU HL]; exact aU HRR) hx (by omega) (by omega) (by omega) (by omega)
      subst hv8
      rw [hOB] at hrun
      have HRUN:=aH hrun
      have HZ9:=aH hZ9
      have y1:w8.cell? ⟨zb,1,none⟩=some (.slice la rs.length lc):=by unfold World.cell?; rw [hzo8]; rfl
      have yf:w8.frozen? ⟨zb,1,none⟩=false:=by unfold World.frozen?; rw [hzo8]; rfl
      clear hrun hZ9 hzo8 hx hnx hb7 hnew hzo6 hb5 HNEW HZ6 HZ4 HN6 hOB hsA hrl
      refine wpAnyH_take (i:=0) (v:=?_) rfl (by kernel_rfl) (by kernel_rfl) (by kernel_rfl) (fun _ _ _ h=>h) (Or.inl ⟨by rfl,by intro w hw; go_simp; first | done | with_reducible rfl⟩) trivial ?_
      simp only [Act.put,List.setIfInBounds_toArray,List.set_cons_zero,List.set_cons_succ]
      refine wpAnyH_take (i:=1) (v:=?_) rfl (by kernel_rfl) (by kernel_rfl) (by kernel_rfl) (fun _ _ _ h=>h) (Or.inl ⟨by rfl,by intro w hw; go_simp; first | done | with_reducible rfl⟩) trivial ?_
      simp only [Act.put,List.setIfInBounds_toArray,List.set_cons_zero,List.set_cons_succ]
      refine wpAnyH_take (i:=2) (v:=?_) rfl (by kernel_rfl) (by kernel_rfl) (by kernel_rfl) (fun _ _ _ h=>h) (Or.inl ⟨by rfl,by intro w hw; go_simp; first | done | with_reducible rfl⟩) trivial ?_
      simp only [Act.put,List.setIfInBounds_toArray,List.set_cons_zero,List.set_cons_succ]
      refine wpAnyH_take (i:=3) (v:=?_) rfl (by kernel_rfl) (by kernel_rfl) (by kernel_rfl) (fun _ _ _ h=>h) (Or.inl ⟨by rfl,by intro w hw; go_simp; first | done | with_reducible rfl⟩) trivial ?_
      simp only [Act.put,List.setIfInBounds_toArray,List.set_cons_zero,List.set_cons_succ]
      refine wpAnyH_ready (rs:=[4,5]) (by kernel_rfl) (by simp) (AllReadyH.cons rfl (fun K hK=>?_) (AllReadyH.cons rfl (fun K hK=>?_) AllReadyH.nil))
      ·go_simp
       refine hK.out _ _ trivial (fun hS=>?_)
       clear hK K
       try simp only [Act.put,List.setIfInBounds_toArray,List.set_cons_zero,List.set_cons_succ]
       refine wpAnyH_ready (rs:=[5]) (by kernel_rfl) (by simp) (AllReadyH.cons rfl (fun K hK=>?_) AllReadyH.nil)
       go_simp
       refine hK.out _ _ trivial (fun hS=>?_)
       clear hK K
       try simp only [Act.put,List.setIfInBounds_toArray,List.set_cons_zero,List.set_cons_succ]
       refine wpAnyH_ready (rs:=[6]) (by kernel_rfl) (by simp) (AllReadyH.cons rfl (fun K hK=>?_) AllReadyH.nil)
       go_simp
       refine hK.out _ _ trivial (fun hS=>?_)
       clear hK K
       try simp only [Act.put,List.setIfInBounds_toArray,List.set_cons_zero,List.set_cons_succ]
       refine wpAnyH_ready (rs:=[7]) (by kernel_rfl) (by simp) (AllReadyH.cons rfl (fun K hK=>?_) AllReadyH.nil)
       rw [if_pos (by rfl)]
       refine wpO_append (.tmp 82) (.tmp 84) 115 (by rfl) _ _ _ _ (by rfl) (by rfl) (aU HRUN) ?_
       refine hK.out _ _ trivial (fun hS=>?_)
       clear hK K
       try simp only [Act.put,List.setIfInBounds_toArray,List.set_cons_zero,List.set_cons_succ]
       refine wpAnyH_take (i:=8) (v:=?_) rfl (by kernel_rfl) (by kernel_rfl) (by kernel_rfl) (fun _ _ _ h=>h) (Or.inl ⟨by rfl,by intro w hw; go_simp; first | done | with_reducible rfl⟩) trivial ?_
       simp only [Act.put,List.setIfInBounds_toArray,List.set_cons_zero,List.set_cons_succ]
       refine wpAnyH_take (i:=9) (v:=?_) rfl (by kernel_rfl) (by kernel_rfl) (by kernel_rfl) (fun _ _ _ h=>h) (Or.inl ⟨by rfl,by intro w hw; go_simp; first | done | with_reducible rfl⟩) trivial ?_
       simp only [Act.put,List.setIfInBounds_toArray,List.set_cons_zero,List.set_cons_succ]
       refine wpAnyH_ready (rs:=[10]) (by kernel_rfl) (by simp) (AllReadyH.cons rfl (fun K hK=>?_) AllReadyH.nil)
       go_simp
       refine hK.out _ _ trivial (fun hS=>?_)
       clear hK K
       refine wpAnyH_done (by kernel_rfl) ?_ _
       go_wp2_with fail
       exact ⟨⟨k+1,rs++[r],_,by omega,by go_num,aU HZ9⟩,by simp [intOf]; omega⟩
      ·go_simp
       refine hK.out _ _ trivial (fun hS=>?_)
       clear hK K
       try simp only [Act.put,List.setIfInBounds_toArray,List.set_cons_zero,List.set_cons_succ]
       refine wpAnyH_ready (rs:=[4,6]) (by kernel_rfl) (by simp) (AllReadyH.cons rfl (fun K hK=>?_) (AllReadyH.cons rfl (fun K hK=>?_) AllReadyH.nil))
       ·go_simp
        refine hK.out _ _ trivial (fun hS=>?_)
        clear hK K
        try simp only [Act.put,List.setIfInBounds_toArray,List.set_cons_zero,List.set_cons_succ]
        refine wpAnyH_ready (rs:=[6]) (by kernel_rfl) (by simp) (AllReadyH.cons rfl (fun K hK=>?_) AllReadyH.nil)
        go_simp
        refine hK.out _ _ trivial (fun hS=>?_)
        clear hK K
        try simp only [Act.put,List.setIfInBounds_toArray,List.set_cons_zero,List.set_cons_succ]
        refine wpAnyH_ready (rs:=[7]) (by kernel_rfl) (by simp) (AllReadyH.cons rfl (fun K hK=>?_) AllReadyH.nil)
        rw [if_pos (by rfl)]
        refine wpO_append (.tmp 82) (.tmp 84) 115 (by rfl) _ _ _ _ (by rfl) (by rfl) (aU HRUN) ?_
        refine hK.out _ _ trivial (fun hS=>?_)
        clear hK K
        try simp only [Act.put,List.setIfInBounds_toArray,List.set_cons_zero,List.set_cons_succ]
        refine wpAnyH_take (i:=8) (v:=?_) rfl (by kernel_rfl) (by kernel_rfl) (by kernel_rfl) (fun _ _ _ h=>h) (Or.inl ⟨by rfl,by intro w hw; go_simp; first | done | with_reducible rfl⟩) trivial ?_
        simp only [Act.put,List.setIfInBounds_toArray,List.set_cons_zero,List.set_cons_succ]
        refine wpAnyH_take (i:=9) (v:=?_) rfl (by kernel_rfl) (by kernel_rfl) (by kernel_rfl) (fun _ _ _ h=>h) (Or.inl ⟨by rfl,by intro w hw; go_simp; first | done | with_reducible rfl⟩) trivial ?_
        simp only [Act.put,List.setIfInBounds_toArray,List.set_cons_zero,List.set_cons_succ]
        refine wpAnyH_ready (rs:=[10]) (by kernel_rfl) (by simp) (AllReadyH.cons rfl (fun K hK=>?_) AllReadyH.nil)
        go_simp
        refine hK.out _ _ trivial (fun hS=>?_)
        clear hK K
        refine wpAnyH_done (by kernel_rfl) ?_ _
        go_wp2_with fail
        exact ⟨⟨k+1,rs++[r],_,by omega,by go_num,aU HZ9⟩,by simp [intOf]; omega⟩
       ·go_simp
        refine hK.out _ _ trivial (fun hS=>?_)
        clear hK K
        try simp only [Act.put,List.setIfInBounds_toArray,List.set_cons_zero,List.set_cons_succ]
        refine wpAnyH_ready (rs:=[4]) (by kernel_rfl) (by simp) (AllReadyH.cons rfl (fun K hK=>?_) AllReadyH.nil)
        go_simp
        refine hK.out _ _ trivial (fun hS=>?_)
        clear hK K
        try simp only [Act.put,List.setIfInBounds_toArray,List.set_cons_zero,List.set_cons_succ]
        refine wpAnyH_ready (rs:=[7]) (by kernel_rfl) (by simp) (AllReadyH.cons rfl (fun K hK=>?_) AllReadyH.nil)
        rw [if_pos (by rfl)]
        refine wpO_append (.tmp 82) (.tmp 84) 115 (by rfl) _ _ _ _ (by rfl) (by rfl) (aU HRUN) ?_
        refine hK.out _ _ trivial (fun hS=>?_)
        clear hK K
        try simp only [Act.put,List.setIfInBounds_toArray,List.set_cons_zero,List.set_cons_succ]
        refine wpAnyH_take (i:=8) (v:=?_) rfl (by kernel_rfl) (by kernel_rfl) (by kernel_rfl) (fun _ _ _ h=>h) (Or.inl ⟨by rfl,by intro w hw; go_simp; first | done | with_reducible rfl⟩) trivial ?_
        simp only [Act.put,List.setIfInBounds_toArray,List.set_cons_zero,List.set_cons_succ]
        refine wpAnyH_take (i:=9) (v:=?_) rfl (by kernel_rfl) (by kernel_rfl) (by kernel_rfl) (fun _ _ _ h=>h) (Or.inl ⟨by rfl,by intro w hw; go_simp; first | done | with_reducible rfl⟩) trivial ?_
        simp only [Act.put,List.setIfInBounds_toArray,List.set_cons_zero,List.set_cons_succ]
        refine wpAnyH_ready (rs:=[10]) (by kernel_rfl) (by simp) (AllReadyH.cons rfl (fun K hK=>?_) AllReadyH.nil)
        go_simp
        refine hK.out _ _ trivial (fun hS=>?_)
        clear hK K
        refine wpAnyH_done (by kernel_rfl) ?_ _
        go_wp2_with fail
        exact ⟨⟨k+1,rs++[r],_,by omega,by go_num,aU HZ9⟩,by simp [intOf]; omega⟩
    ·have hklI : ¬ ((k+1:Nat):Int)<((ls.length+1:Nat):Int):=by omega
     have hke:k=ls.length:=by omega
     have HAL:Hid (readAll ls=some rs):=by
      have:=hZ.al
      rw [hke,List.take_length] at this
      exact this
     have HRZ2:Hid (readZ s=some (y,rs)):=by
      rw [Hid,aU HRZ,rl_yes ls (aU HXY) (aU HHO).2.1,aU HAL]; rfl
     have HROK:=aH (all_ok ls rs (fun l hl=>aU HME l (List.mem_cons_of_mem _ hl)) (aU HAL))
     have hlen60:rs.length≤60:=by omega
     cases rs with
     | nil =>
      have hvl:=hZ.nil rfl
      have hzo:=hZ.zo
      rw [hvl] at hzo
      have HRT:=aH (Eq'.right_none zb _ wr hzo)
      have HP:Hid (parseP s=none):=pp_right (aU HRZ2) (fun r hr=>by cases hr) (fun h=>by obtain ⟨h1,_⟩:=h.1.1; simp at h1)
      have HBZ:=aH hZ.bl
      clear hZ hzo
      go_wp2_with fail
      refine (aU HRT).mono ?_
      rintro e w5 ⟨rfl,hb5⟩
      have HB5:=aH ((aU HBZ).trans (hb5.mono hbs))
      clear hb5
      go_wp2_with fail
      go_ret
      exact ⟨pr_none (aU HP),aU HB5⟩
     | cons r0 rt =>
      have hzone:RZone wr zb y (r0 :: rt):=by
       rcases hZ.oq.recs with ⟨_,h⟩ | ⟨g',cap',h1,_,h3,h4⟩
       ·cases h
       ·have hzo:=hZ.zo
        rw [h1] at hzo
        exact ⟨_,g',0,cap',hzo,⟨go,0,oc,rfl,(aU HHO).2.2,hZ.nm⟩,h3,h4⟩
      have hpn:=(plain_nel (aU HHO).2.1).2
      have hfit:RFit y (r0 :: rt):=⟨by omega,by omega,fun r hr=>by have:=(valid_nel (aU HROK r hr).val).2; omega⟩
      have HRT:=aH (right_any zb y (r0 :: rt) wr hzone hfit (by simp))
      have HZO:=aH hzone
      have HBZ:=aH hZ.bl
      clear hZ hzone hfit
      go_wp2_with fail
      refine (aU HRT).mono ?_
      rintro e w5 ⟨⟨b,rfl,hbR⟩,hb5⟩
      have HB5:=aH ((aU HBZ).trans (hb5.mono hbs))
      have HZ5:=aH ((aU HZO).below hb5)
      clear hb5
      cases b with
      | false =>
       have HP:Hid (parseP s=none):=pp_right (aU HRZ2) (fun r hr=>(aU HROK r hr).val) (fun h=>by have:=hbR.2 h.1; cases this)
       clear hbR
       go_wp2_with fail
       go_ret
       exact ⟨pr_none (aU HP),aU HB5⟩
      | true =>
       obtain ⟨p1,p2,p3⟩:=pp_some (aU HRZ2) (fun r hr=>(aU HROK r hr).val) (hbR.1 rfl) hlen60
       have HP:Hid (∀ W,RZone W zb y (r0 :: rt)→PR s w.heap.size (.returned (.pointer (some ⟨zb,0,none⟩))) W):=fun W hW=>by
        unfold PR
        rw [p1]
        exact ⟨zb,y,r0 :: rt,rfl,by omega,hW,⟨(aU HHO).2.1,aU HROK,p2,p3⟩,aU HRZ2,rfl⟩
       clear hbR p1 p2 p3
       go_wp2_with fail
       go_ret
       exact ⟨aU HP _ (aU HZ5),aU HB5⟩
 ·have hcI:((c.toNat:Int) != 10)=true:=by
   simp only [bne_iff_ne,ne_eq]
   intro h
   exact hc (UInt8.toNat_inj.1 (by show _=10; omega))
  have HP:Hid (parseP s=none):=pp_none (rz_none (fun t' h=>by
   rw [hs] at h
   have:=congrArg List.getLast? h
   simp at this
   exact hc this))
  clear hs hl
  generalize B s=S at *
  go_enter Tryz.func17,Tryz.ntmps17
  go_wp2_with fail
  go_ret
  exact ⟨pr_none (aU HP),Below.refl _ _⟩
end Om
end Go.Proofs.YtkkpahmoljiepaaGreatDoor
