/- The document's answer (beaconref): record. -/
import Derived.Test.YtkkpahmoljiepaaGreatDoorJ15
import Derived.Test.YtkkpahmoljiepaaGreatDoorJ02
import Derived.Deep.RegionHeld
import Derived.Deep.RegionWith
import Derived.Deep.CutRange
import Derived.Test.YtkkpahmoljiepaaGreatDoorJ19
set_option linter.unusedSimpArgs false
set_option linter.unusedVariables false
set_option maxRecDepth 1000000
set_option maxHeartbeats 12800000
namespace Go.Proofs.YtkkpahmoljiepaaGreatDoor
open Go.RowKit
open Pu (Str aH aU)
def RcAt (w:World) (b:Nat) (vo:Value) (t k:Int) (d:Str) (vw:Value):Prop:=w.heap[b]? = some (.cells #[vo,.int .i64 t,.int .i64 k,.string (B d),vw] 119)
theorem RcAt.cells {w:World} {b:Nat} {vo vw:Value} {t k:Int} {d:Str} (h:RcAt w b vo t k d vw):w.cell? ⟨b,0,none⟩=some vo∧w.cell? ⟨b,1,none⟩=some (.int .i64 t)∧w.cell? ⟨b,2,none⟩=some (.int .i64 k)∧w.cell? ⟨b,3,none⟩=some (.string (B d))∧w.cell? ⟨b,4,none⟩=some vw:=by
 unfold RcAt at h
 refine ⟨?_,?_,?_,?_,?_⟩ <;> simp [World.cell?,h]
theorem RcAt.frozen {w:World} {b:Nat} {vo vw:Value} {t k:Int} {d:Str} (h:RcAt w b vo t k d vw) (i:Nat):w.frozen? ⟨b,i,none⟩=false:=by
 unfold RcAt at h; simp [World.frozen?,h]
theorem RcAt.lt {w:World} {b:Nat} {vo vw:Value} {t k:Int} {d:Str} (h:RcAt w b vo t k d vw):b<w.heap.size:=(Array.getElem?_eq_some_iff.1 h).1
theorem RcAt.set {w:World} {b:Nat} {vo vw:Value} {t k:Int} {d:Str} (h:RcAt w b vo t k d vw) (vo' vw':Value) (t' k':Int) (d':Str):RcAt (((((w.setCell ⟨b,0,none⟩ vo').setCell ⟨b,1,none⟩ (.int .i64 t')).setCell ⟨b,2,none⟩ (.int .i64 k')).setCell ⟨b,3,none⟩ (.string (B d'))).setCell ⟨b,4,none⟩ vw') b vo' t' k' d' vw':=by
 unfold RcAt at *
 simp only [World.setCell,Array.getElem?_modify,if_true,h]
 rfl
namespace Eg
open Ka Kb Re Wa Wb Ea Eb Ec Ed Ee Ef Ek
def NmB (w:World) (base:Nat) (v:Value) (ls:List Str):Prop:=∃ g off cap,v=.slice (some ⟨g,off,none⟩) ls.length cap∧ls.length≤cap∧TxAt w g off ls∧base≤g
def RecC (s:Str) (base:Nat) (e:Ending) (w':World):Prop :=
 ∃ va n c t k d ua m uc,e=.returned (.tuple #[.agg #[.slice va n c,.int .i64 t,.int .i64 k,.string (B d),.slice ua m uc],.bool (readRec s).isSome]) ∧
  ∀ r,readRec s=some r→t=r.ttl∧k=r.type∧d=r.data∧NmB w' base (.slice va n c) (Sp.spl 46 r.owner)∧NmB w' base (.slice ua m uc) (Sp.spl 32 r.data)
theorem joinC_len (c:UInt8) : ∀ (l:List Str) (m:Nat),(∀ x∈l,x.length≤m)→(joinC c l).length≤l.length*(m+1)
 | [],_,_=>Nat.zero_le _
 | [x],m,h=>by have:=h x (by simp); simp [joinC]; omega
 | x :: y :: t,m,h=>by
  have h1:=h x (by simp)
  have h2:=joinC_len c (y :: t) m (fun z hz=>h z (List.mem_cons_of_mem _ hz))
  rw [joinC,List.length_append,List.length_cons,List.length_cons,Nat.add_mul]
  omega
theorem alloc_cell2 {w1:World} {g i:Nat} (hg:g<w1.heap.size) (o:Obj):(w1.alloc o).drew.cell? ⟨g,i,none⟩=w1.cell? ⟨g,i,none⟩:=World.cell?_of_block (Below.heap_alloc w1 o g hg)
section
variable (W:World) (a b c d e:Value) (t:TypeId)
end
theorem keepS {w1 W:World} {g:Nat} {x0 x2:Value} {o:Obj} (hg:g<w1.heap.size) (h:W.cell? ⟨g,0,none⟩=some x0∧W.cell? ⟨g,2,none⟩=some x2∧Below w1.heap.size w1 W):(W.alloc o).cell? ⟨g,0,none⟩=some x0∧(W.alloc o).cell? ⟨g,2,none⟩=some x2∧Below w1.heap.size w1 (W.alloc o):=by
 have hs:=h.2.2.size
 have hb:Below W.heap.size W (W.alloc o):=(Below.refl _ _).alloc (Nat.le_refl _) _
 exact ⟨(hb.cell (p:=⟨g,0,none⟩) (by show g<_; omega)).trans h.1,(hb.cell (p:=⟨g,2,none⟩) (by show g<_; omega)).trans h.2.1,h.2.2.alloc hs _⟩
theorem keepSD {w1 W:World} {g:Nat} {x0 x2:Value} {o:Obj} (hg:g<w1.heap.size) (h:W.cell? ⟨g,0,none⟩=some x0∧W.cell? ⟨g,2,none⟩=some x2∧Below w1.heap.size w1 W):(W.alloc o).drew.cell? ⟨g,0,none⟩=some x0∧(W.alloc o).drew.cell? ⟨g,2,none⟩=some x2∧Below w1.heap.size w1 (W.alloc o).drew :=
 ⟨(keepS (o:=o) hg h).1,(keepS (o:=o) hg h).2.1,(keepS (o:=o) hg h).2.2.drew⟩
theorem keep1 {w1 W:World} {g b i:Nat} {x0 x2 v:Value} (hg:g<w1.heap.size) (hb:w1.heap.size≤b) (h:W.cell? ⟨g,0,none⟩=some x0∧W.cell? ⟨g,2,none⟩=some x2∧Below w1.heap.size w1 W):(W.setCell ⟨b,i,none⟩ v).cell? ⟨g,0,none⟩=some x0∧(W.setCell ⟨b,i,none⟩ v).cell? ⟨g,2,none⟩=some x2∧Below w1.heap.size w1 (W.setCell ⟨b,i,none⟩ v):=by
 have hne : ∀ k,k≠b→(W.setCell ⟨b,i,none⟩ v).heap[k]? = W.heap[k]?:=fun k hk=>Below.heap_setCell _ _ _ _ hk
 have hB:=h.2.2
 have hs:(W.setCell ⟨b,i,none⟩ v).heap.size=W.heap.size:=by simp [World.setCell]
 exact ⟨(World.cell?_of_block (hne g (by omega))).trans h.1,(World.cell?_of_block (hne g (by omega))).trans h.2.1,hB.os,hB.tape,hB.output,by rw [hs]; exact hB.size,fun k hk=>(hne k (by omega)).trans (hB.block k hk)⟩
theorem allocS {w1 W:World} {g:Nat} {x0 x2:Value} (hg:g<w1.heap.size) (h:W.cell? ⟨g,0,none⟩=some x0∧W.cell? ⟨g,2,none⟩=some x2∧Below w1.heap.size w1 W) :
  ((W.alloc (.cells #[.slice none 0 0,.int .i64 0,.int .i64 0,.string ⟨#[]⟩,.slice none 0 0] 119)).cell? ⟨g,0,none⟩=some x0∧(W.alloc (.cells #[.slice none 0 0,.int .i64 0,.int .i64 0,.string ⟨#[]⟩,.slice none 0 0] 119)).cell? ⟨g,2,none⟩=some x2∧Below w1.heap.size w1 (W.alloc (.cells #[.slice none 0 0,.int .i64 0,.int .i64 0,.string ⟨#[]⟩,.slice none 0 0] 119))) ∧
    RcAt (W.alloc (.cells #[.slice none 0 0,.int .i64 0,.int .i64 0,.string ⟨#[]⟩,.slice none 0 0] 119)) W.heap.size (.slice none 0 0) 0 0 [] (.slice none 0 0)∧w1.heap.size≤W.heap.size :=
 ⟨keepS hg h,World.alloc_heap_new W _,h.2.2.size⟩
theorem allocD {w1:World} {g:Nat} {x0 x2:Value} (hg:g<w1.heap.size) (h:w1.cell? ⟨g,0,none⟩=some x0∧w1.cell? ⟨g,2,none⟩=some x2∧Below w1.heap.size w1 w1) :
  ((w1.alloc (.cells #[.slice none 0 0,.int .i64 0,.int .i64 0,.string ⟨#[]⟩,.slice none 0 0] 119)).drew.cell? ⟨g,0,none⟩=some x0∧(w1.alloc (.cells #[.slice none 0 0,.int .i64 0,.int .i64 0,.string ⟨#[]⟩,.slice none 0 0] 119)).drew.cell? ⟨g,2,none⟩=some x2∧Below w1.heap.size w1 (w1.alloc (.cells #[.slice none 0 0,.int .i64 0,.int .i64 0,.string ⟨#[]⟩,.slice none 0 0] 119)).drew) ∧
    RcAt (w1.alloc (.cells #[.slice none 0 0,.int .i64 0,.int .i64 0,.string ⟨#[]⟩,.slice none 0 0] 119)).drew w1.heap.size (.slice none 0 0) 0 0 [] (.slice none 0 0)∧w1.heap.size≤w1.heap.size :=
 ⟨keepSD hg h,World.alloc_heap_new w1 _,Nat.le_refl _⟩
theorem _root_.Go.Proofs.YtkkpahmoljiepaaGreatDoor.RcAt.kept {w w':World} {b:Nat} {vo vw:Value} {t k:Int} {d:Str} (h:RcAt w b vo t k d vw) (hb:w'.heap[b]? = w.heap[b]?):RcAt w' b vo t k d vw:=hb.trans h
theorem _root_.Go.Proofs.YtkkpahmoljiepaaGreatDoor.RcAt.set1 {w:World} {b:Nat} {vo vw:Value} {t k:Int} {d:Str} (h:RcAt w b vo t k d vw) (t':Int):RcAt (w.setCell ⟨b,1,none⟩ (.int .i64 t')) b vo t' k d vw:=by
 unfold RcAt at *
 simp only [World.setCell,Array.getElem?_modify,if_true,h]
 rfl
theorem _root_.Go.Proofs.YtkkpahmoljiepaaGreatDoor.RcAt.set3 {w:World} {b:Nat} {vo vw:Value} {t k:Int} {d:Str} (h:RcAt w b vo t k d vw) (d':Str):RcAt (w.setCell ⟨b,3,none⟩ (.string (B d'))) b vo t k d' vw:=by
 unfold RcAt at *
 simp only [World.setCell,Array.getElem?_modify,if_true,h]
 rfl
theorem nmr_set {w:World} {b base i:Nat} {va:Option Addr} {vn vc:Nat} {vw v u:Value} {t k:Int} {d:Str} {o:Option (List Str)} (h:RcAt w b (.slice va vn vc) t k d vw) (hn:NmR w base v o):NmR (w.setCell ⟨b,i,none⟩ u) base v o:=by
 cases o with
 | none=>exact hn
 | some l =>
  obtain ⟨h1,g,cap,h2,h3,h4,h5⟩:=hn
  have hne:g≠b:=by
   rintro rfl
   have hl:0<l.length:=by cases l with
    | nil=>exact absurd rfl h1
    | cons=>simp
   have:=h5.2 0 hl
   rw [Nat.add_zero,h.cells.1] at this
   cases this
  exact ⟨h1,g,cap,h2,h3,h4,by simp [World.setCell]; exact h5.1,fun j hj=>(World.cell?_of_block (a:=⟨g,0+j,none⟩) (Below.heap_setCell _ _ _ _ hne)).trans (h5.2 j hj)⟩
theorem nmr_alloc {w:World} {base:Nat} {v:Value} {o:Option (List Str)} (ob:Obj) (hn:NmR w base v o):NmR (w.alloc ob) base v o:=by
 cases o with
 | none=>exact hn
 | some l =>
  obtain ⟨h1,g,cap,h2,h3,h4,h5⟩:=hn
  exact ⟨h1,g,cap,h2,h3,h4,h5.below ((Below.refl _ _).alloc (Nat.le_refl _) _)⟩
theorem nmr5 {w:World} {b base:Nat} {va:Option Addr} {vn vc:Nat} {vw v a0 a1 a2 a3 a4:Value} {t k:Int} {d:Str} {o:Option (List Str)} (h:RcAt w b (.slice va vn vc) t k d vw) (hn:NmR w base v o):NmR (((((w.setCell ⟨b,0,none⟩ a0).setCell ⟨b,1,none⟩ a1).setCell ⟨b,2,none⟩ a2).setCell ⟨b,3,none⟩ a3).setCell ⟨b,4,none⟩ a4) base v o:=by
 cases o with
 | none=>exact hn
 | some l =>
  obtain ⟨h1,g,cap,h2,h3,h4,h5⟩:=hn
  have hne:g≠b:=by
   rintro rfl
   have hl:0<l.length:=by cases l with
    | nil=>exact absurd rfl h1
    | cons=>simp
   have:=h5.2 0 hl
   rw [Nat.add_zero,h.cells.1] at this
   cases this
  have hb : ∀ (x:World) (i:Nat) (u:Value),(x.setCell ⟨b,i,none⟩ u).heap[g]? = x.heap[g]?:=fun x i u=>Below.heap_setCell _ _ _ _ hne
  refine ⟨h1,g,cap,h2,h3,h4,by simp [World.setCell]; exact h5.1,fun j hj=>?_⟩
  rw [← h5.2 j hj]
  refine World.cell?_of_block (a:=⟨g,0+j,none⟩) ?_
  rw [hb,hb,hb,hb,hb]
theorem tx_set {w:World} {b i g off:Nat} {u:Value} {l:List Str} (hn:g≠b) (h:TxAt w g off l):TxAt (w.setCell ⟨b,i,none⟩ u) g off l :=
 ⟨by simp [World.setCell]; exact h.1,fun j hj=>(World.cell?_of_block (a:=⟨g,off+j,none⟩) (Below.heap_setCell _ _ _ _ hn)).trans (h.2 j hj)⟩
theorem spl_no (c:UInt8) : ∀ (f:Nat) (s:Str),s.length≤f→∀ x∈Sp.spl c s,c ∉ x
 | f,s,hf,x,hx=>by
  rcases cut_first c s with ⟨h,e⟩ | ⟨a,b,e0,h,e⟩
  ·rw [e] at hx
   have:x=s:=by simpa using hx
   rw [this]; exact h
  ·rw [e] at hx
   rcases List.mem_cons.1 hx with rfl | hx
   ·exact h
   ·have hl:b.length<f:=by rw [e0] at hf; simp at hf; omega
    exact spl_no c (f - 1) b (by omega) x hx
termination_by f=>f
decreasing_by omega
theorem spl_join (c:UInt8) : ∀ (T:List Str),T≠[]→(∀ x∈T,c ∉ x)→Sp.spl c (joinC c T)=T
 | [],h,_=>absurd rfl h
 | [x],_,h=>by
  rcases cut_first c x with ⟨_,e⟩ | ⟨a,b,e0,_,_⟩
  ·exact e
  ·exact absurd (by rw [e0]; simp) (h x (by simp))
 | x :: y :: t,_,h=>by
  have hx:=h x (by simp)
  have ih:=spl_join c (y :: t) (by simp) (fun z hz=>h z (List.mem_cons_of_mem _ hz))
  rw [joinC]
  rcases cut_first c (x++c :: joinC c (y :: t)) with ⟨h1,_⟩ | ⟨a,b,e0,h0,e⟩
  ·exact absurd (by simp) h1
  ·have:a=x∧b=joinC c (y :: t):=by
    rcases List.append_eq_append_iff.1 e0 with ⟨u,hu1,hu2⟩ | ⟨u,hu1,hu2⟩
    ·cases u with
     | nil=>simp at hu1 hu2; exact ⟨hu1,hu2.symm⟩
     | cons z u=>simp at hu2; rw [hu1,← hu2.1] at h0; exact absurd (by simp) h0
    ·cases u with
     | nil=>simp at hu1 hu2; exact ⟨hu1.symm,hu2⟩
     | cons z u=>simp at hu2; rw [hu1,← hu2.1] at hx; exact absurd (by simp) hx
   rw [e,this.1,this.2,ih]
theorem nm_some {star:Bool} {s:Str} {l:List Str} (h:nmR star s=some l):l=Sp.spl 46 s:=by
 unfold nmR at h
 split at h
 ·exact (Option.some.inj h).symm
 ·cases h
theorem fin_rec {s x0 x1 x2:Str} {T:List Str} (hT:T≠[]) (hno : ∀ x∈T,(32:UInt8) ∉ x) (hrr:readRec s=recP (x0 :: x1 :: x2 :: T)) {wr W:World} {b g cap N base vn vc ttl:Nat} {va:Option Addr} {kd:Int} {ok dd:Bool} (hk:Pu.kindOf x2=kd) (hok:numB 86400 x1=ok∧Ke.isData (Pu.kindOf x2) T=dd) (hnv:ok=true→ttl=numV 86400 x1)
  (hnm:NmR wr base (.slice va vn vc) (nmR true x0)) (htx:TxAt wr g 3 T) (hN:T.length=N - 3) (hc:N - 3≤cap - 3) (hw : ∀ k,k≠b→W.heap[k]? = wr.heap[k]?) (hsz:wr.heap.size≤W.heap.size) (hb1:b<base) (hb2:b<g) :
  RecC s b (.returned (.tuple #[.agg #[.slice va vn vc,.int .i64 ttl,.int .i64 kd,.string (B (joinC 32 T)),.slice (some ⟨g,3,none⟩) (N - 3) (cap - 3)],.bool (ok && dd && !va.isNone)])) W:=by
 have hv:(!va.isNone)=Sp.valid x0:=by
  rw [← nmT]
  cases ho:nmR true x0 with
  | none=>rw [ho] at hnm; cases hnm; rfl
  | some l=>rw [ho] at hnm; obtain ⟨_,g',cap',e,_⟩:=hnm; cases e; rfl
 obtain ⟨y,t,rfl⟩ : ∃ y t,T=y :: t:=by cases T with
  | nil=>exact absurd rfl hT
  | cons y t=>exact ⟨y,t,rfl⟩
 have hrr2:readRec s=if Sp.valid x0 && numB 86400 x1 && Ke.isData (Pu.kindOf x2) (y :: t) then some (x0,numV 86400 x1,Pu.kindOf x2,joinC 32 (y :: t)) else none:=hrr
 rw [hok.1,hok.2] at hrr2
 have hsome:(ok && dd && !va.isNone)=(readRec s).isSome:=by
  rw [hv,hrr2]
  cases Sp.valid x0 <;> cases ok <;> cases dd <;> rfl
 have hcell : ∀ (k i:Nat),k≠b→W.cell? ⟨k,i,none⟩=wr.cell? ⟨k,i,none⟩:=fun k i h=>World.cell?_of_block (hw k h)
 refine ⟨va,vn,vc,ttl,kd,joinC 32 (y :: t),some ⟨g,3,none⟩,N - 3,cap - 3,by rw [hsome],fun r hr=>?_⟩
 rw [hrr2] at hr
 split at hr
 ·rename_i hcond
  simp only [Bool.and_eq_true] at hcond
  obtain rfl:=(Option.some.inj hr).symm
  refine ⟨?_,hk.symm,rfl,?_,?_⟩
  ·rw [hnv hcond.1.2]; rfl
  ·show NmB W b _ (Sp.spl 46 x0)
   cases ho:nmR true x0 with
   | none=>have:=nmT x0; rw [ho,hcond.1.1] at this; cases this
   | some l =>
    rw [ho] at hnm
    obtain rfl:=nm_some ho
    obtain ⟨_,g',cap',e,h3,h4,h5⟩:=hnm
    rw [e]
    exact ⟨g',0,cap',rfl,h3,⟨Nat.lt_of_lt_of_le h5.1 hsz,fun j hj=>(hcell g' _ (by omega)).trans (h5.2 j hj)⟩,by omega⟩
  ·show NmB W b _ (Sp.spl 32 (joinC 32 (y :: t)))
   rw [spl_join 32 (y :: t) (by simp) hno,← hN]
   exact ⟨g,3,cap - 3,rfl,by omega,⟨Nat.lt_of_lt_of_le htx.1 hsz,fun j hj=>(hcell g _ (by omega)).trans (htx.2 j hj)⟩,by omega⟩
 ·cases hr
theorem B_app (a b:Str):B a++B b=B (a++b):=by
 apply ByteArray.ext
 simp [B]
theorem B_32 (a:Str):B a++⟨#[32]⟩=B (a++[32]):=B_app a [32]
theorem record_any (s:Str) (w:World) (hl:s.length≤3000) :
  Calls Tryz.prog 64 #[.string (B s)] w fun e w'=>RecC s w.heap.size e w'∧Below w.heap.size w w':=by
 have hs:(B s).size=s.length:=size_B s
 have HSP:Hid (∀ W,Calls Tryz.prog 62 #[.string (B s),.int .u8 32] W fun e w'=>(∃ v,e=.returned v∧StrsOwn w' W.heap.size v (Sp.spl 32 s))∧Below W.heap.size W w'):=fun W=>Ea.split_any s 32 W (by omega)
 have hlen:(Sp.spl 32 s).length≤3001:=by have:=Sp.spl_len_le 32 s; omega
 have HME:Hid (∀ x∈Sp.spl 32 s,x.length≤3000):=fun x hx=>by have:=Sp.spl_mem_len 32 s.length s (Nat.le_refl _) x hx; omega
 have HNE:Hid (Sp.spl 32 s≠[]):=Sp.spl_ne 32 s
 have HRR:Hid (readRec s=recP (Sp.spl 32 s)):=readRec_spl s
 have HNO0:Hid (∀ x∈Sp.spl 32 s,(32:UInt8) ∉ x):=spl_no 32 s.length s (Nat.le_refl _)
 generalize Sp.spl 32 s=L at *
 go_enter Tryz.func64,Tryz.ntmps64
 go_wp2_with fail
 refine (aU HSP _).mono ?_
 rintro e w1 ⟨⟨v,rfl,hown⟩,hb1⟩
 obtain ⟨g,cap,rfl,hcap,hbg,htx⟩:=own_name hown (aU HNE)
 have hr0:RcAt w1 w.heap.size (.slice none 0 0) 0 0 [] (.slice none 0 0):=(hb1.block _ (by simp)).trans (World.alloc_heap_new w _)
 have HR0:=aH hr0
 obtain ⟨q0,q1,q2,q3,q4⟩:=hr0.cells
 have hfz:=hr0.frozen
 have hb0:Below w.heap.size w w1:=((Below.refl _ _).alloc (Nat.le_refl _) _).trans (hb1.mono (by simp))
 have hbg':w.heap.size+1≤g:=by simpa using hbg
 have HO:=aH (And.intro hbg' (And.intro htx hb0))
 have hglt:=htx.1
 clear hown hb1 HSP hbg htx hr0 hb0 hbg'
 by_cases h4:L.length<4
 ·have h4I:(L.length:Int)<4:=by omega
  go_wp2_with fail
  have hnone:readRec s=none:=by
   rw [aU HRR]
   match L,h4 with
   | [],_=>rfl
   | [_],_=>rfl
   | [_,_],_=>rfl
   | [_,_,_],_=>rfl
   | _ :: _ :: _ :: _ :: _,h=>exact absurd h (by simp)
  have A9:=(aU HR0).set (.slice none 0 0) (.slice none 0 0) 0 0 []
  obtain ⟨n0,n1,n2,n3,n4⟩:=A9.cells
  rw [show B ([]:Str)=⟨#[]⟩ from rfl] at n0 n1 n2 n3 n4
  refine bodyPost_ret (v:=.tuple #[.agg #[.slice none 0 0,.int .i64 0,.int .i64 0,.string (B []),.slice none 0 0],.bool (readRec s).isSome]) ?_ rfl ?_
  rw [show B ([]:Str)=⟨#[]⟩ from rfl]
  ·simp [results,Tryz.results64,go_sem,hnone,n0,n1,n2,n3,n4]
  ·refine ⟨⟨none,0,0,0,0,[],none,0,0,rfl,fun r hr=>by rw [hnone] at hr; cases hr⟩,?_⟩
   exact (((((aU HO).2.2.setCell (p:=⟨w.heap.size,0,none⟩) (Nat.le_refl _) _).setCell (p:=⟨w.heap.size,1,none⟩) (Nat.le_refl _) _).setCell (p:=⟨w.heap.size,2,none⟩) (Nat.le_refl _) _).setCell (p:=⟨w.heap.size,3,none⟩) (Nat.le_refl _) _).setCell (p:=⟨w.heap.size,4,none⟩) (Nat.le_refl _) _
 ·have h4I : ¬ (L.length:Int)<4:=by omega
  obtain ⟨x0,x1,x2,T,rfl,hT⟩ : ∃ x0 x1 x2 T,L=x0 :: x1 :: x2 :: T∧T≠[]:=by
   match L,h4 with
   | x0 :: x1 :: x2 :: y :: t,_=>exact ⟨x0,x1,x2,y :: t,rfl,by simp⟩
   | [],h=>exact absurd (by simp) h
   | [_],h=>exact absurd (by simp) h
   | [_,_],h=>exact absurd (by simp) h
   | [_,_,_],h=>exact absurd (by simp) h
  have c0:=word_at (aU HO).2.1 0 x0 rfl
  have c1:=word_at (aU HO).2.1 1 x1 rfl
  have c2:=word_at (aU HO).2.1 2 x2 rfl
  rw [Nat.zero_add] at c0 c1 c2
  have hx0:=aU HME x0 (by simp)
  have hx1:=aU HME x1 (by simp)
  have hx2:=aU HME x2 (by simp)
  have HRN:Hid (∀ W,(W.cell? ⟨g,0,none⟩=some (.string (B x0))∧W.cell? ⟨g,2,none⟩=some (.string (B x2))∧Below w1.heap.size w1 W)→Calls Tryz.prog 63 #[.string (B x0),.bool true] W fun e w'=>∃ va n c,e=.returned (.slice va n c)∧(w'.cell? ⟨g,0,none⟩=some (.string (B x0))∧w'.cell? ⟨g,2,none⟩=some (.string (B x2))∧Below w1.heap.size w1 w')∧NmR w' w1.heap.size (.slice va n c) (nmR true x0)∧Below W.heap.size W w'):=fun W hS=>by
   refine (readName_any x0 true W (by omega)).mono ?_
   rintro e w' ⟨⟨v,rfl,hv⟩,hb⟩
   obtain ⟨s0,s2,sB⟩:=hS
   have hsz:=sB.size
   obtain ⟨va,n,c,rfl⟩ : ∃ va n c,v=.slice va n c:=by
    cases ho:nmR true x0 with
    | none=>rw [ho] at hv; exact ⟨none,0,0,hv⟩
    | some l=>rw [ho] at hv; obtain ⟨_,g',cap',rfl,_⟩:=hv; exact ⟨_,_,_,rfl⟩
   refine ⟨va,n,c,rfl,⟨(hb.cell (p:=⟨g,0,none⟩) (by show g<_; omega)).trans s0,(hb.cell (p:=⟨g,2,none⟩) (by show g<_; omega)).trans s2,sB.trans (hb.mono hsz)⟩,?_,hb⟩
   cases ho:nmR true x0 with
   | none=>rw [ho] at hv; exact hv
   | some l =>
    rw [ho] at hv
    obtain ⟨k1,g',cap',k2,k3,k4,k5⟩:=hv
    exact ⟨k1,g',cap',k2,k3,by omega,k5⟩
  have HKD:=aH (fun W=>kind_any x2 W)
  obtain ⟨N,hN⟩ : ∃ N,N=(x0 :: x1 :: x2 :: T).length:=⟨_,rfl⟩
  rw [← hN] at hcap h4I ⊢
  have hN4:4≤N∧N=T.length+3:=by rw [hN]; simp; have:T.length≠0:=fun h=>hT (List.eq_nil_of_length_eq_zero h); omega
  have hc3 : ¬ cap=3:=by omega
  have hN3:(3:Int)≤(N:Int):=by omega
  have HN4:=aH hN4
  have hN0':0<N:=by omega
  have hN2':2<N:=by omega
  have hN0J:(0:Int)<(N:Int):=by omega
  have hN2J:(2:Int)<(N:Int):=by omega
  clear hN hN4
  clear h4
  have hgS : ¬ g=w1.heap.size:=by omega
  have hdz:w1.drew.heap.size=w1.heap.size:=rfl
  have a0' : ∀ o,(w1.alloc o).drew.cell? ⟨g,0,none⟩=some (.string (B x0)):=fun o=>(alloc_cell2 hglt o).trans c0
  have a2' : ∀ o,(w1.alloc o).drew.cell? ⟨g,2,none⟩=some (.string (B x2)):=fun o=>(alloc_cell2 hglt o).trans c2
  have hS0:w1.cell? ⟨g,0,none⟩=some (.string (B x0))∧w1.cell? ⟨g,2,none⟩=some (.string (B x2))∧Below w1.heap.size w1 w1:=⟨c0,c2,Below.refl _ _⟩
  have hS:w1.drew.cell? ⟨g,0,none⟩=some (.string (B x0))∧w1.drew.cell? ⟨g,2,none⟩=some (.string (B x2))∧Below w1.heap.size w1 w1.drew:=⟨c0,c2,(Below.refl _ _).drew⟩
  have c0':w1.drew.cell? ⟨g,0,none⟩=some (.string (B x0)):=c0
  have c2':w1.drew.cell? ⟨g,2,none⟩=some (.string (B x2)):=c2
  go_upto_region 4 with fail
  go_cut [5] from 16 (fun v5 wc=>∃ b5 va vn vc,v5=.pointer (some ⟨b5,0,none⟩)∧RcAt wc b5 (.slice va vn vc) 0 (Pu.kindOf x2) [] (.slice (some ⟨g,3,none⟩) (N - 3) (cap - 3))∧NmR wc w1.heap.size (.slice va vn vc) (nmR true x0)∧Below w1.heap.size w1 wc∧w1.heap.size≤b5)
  case first =>
   refine wp_region_held_drew (S:=(fun w':World=>w'.cell? ⟨g,0,none⟩=some (.string (B x0))∧w'.cell? ⟨g,2,none⟩=some (.string (B x2))∧Below w1.heap.size w1 w')) (by kernel_rfl) hS (fun hS=>?_)
   refine wpAnyH_take (i:=0) (v:=?_) rfl (by kernel_rfl) (by kernel_rfl) (by kernel_rfl) (fun _ _ _ h=>h) (Or.inl ⟨by rfl,by intro w hw; (try dsimp only at hw); go_simp; first | done | with_reducible rfl⟩) hS ?_
   simp only [Act.put,List.setIfInBounds_toArray,List.set_cons_zero,List.set_cons_succ]
   refine wpAnyH_take (i:=1) (v:=?_) rfl (by kernel_rfl) (by kernel_rfl) (by kernel_rfl) (fun _ _ _ h=>h) (Or.inl ⟨by rfl,by intro w hw; (try dsimp only at hw); go_simp; first | done | with_reducible rfl⟩) hS ?_
   simp only [Act.put,List.setIfInBounds_toArray,List.set_cons_zero,List.set_cons_succ]
   refine wpAnyH_take (i:=2) (v:=?_) rfl (by kernel_rfl) (by kernel_rfl) (by kernel_rfl) (fun _ _ _ h=>h) (Or.inl ⟨by rfl,by intro w hw; (try dsimp only at hw); go_simp; first | done | with_reducible rfl⟩) hS ?_
   simp only [Act.put,List.setIfInBounds_toArray,List.set_cons_zero,List.set_cons_succ]
   refine wpAnyH_take (i:=4) (v:=?_) rfl (by kernel_rfl) (by kernel_rfl) (by kernel_rfl) (fun _ _ _ h=>h) (Or.inl ⟨by rfl,by intro w hw; (try dsimp only at hw); go_simp; first | done | with_reducible rfl⟩) hS ?_
   simp only [Act.put,List.setIfInBounds_toArray,List.set_cons_zero,List.set_cons_succ]
   refine wpAnyH_take (i:=5) (v:=?_) rfl (by kernel_rfl) (by kernel_rfl) (by kernel_rfl) (fun _ _ _ h=>h) (Or.inl ⟨by rfl,by intro w hw; (try dsimp only at hw); go_simp; first | done | with_reducible rfl⟩) hS ?_
   simp only [Act.put,List.setIfInBounds_toArray,List.set_cons_zero,List.set_cons_succ]
   refine wpAnyH_take (i:=6) (v:=?_) rfl (by kernel_rfl) (by kernel_rfl) (by kernel_rfl) (fun _ _ _ h=>h) (Or.inl ⟨by rfl,by intro w hw; (try dsimp only at hw); go_simp; first | done | with_reducible rfl⟩) hS ?_
   simp only [Act.put,List.setIfInBounds_toArray,List.set_cons_zero,List.set_cons_succ]
   refine wpAnyH_take (i:=8) (v:=?_) rfl (by kernel_rfl) (by kernel_rfl) (by kernel_rfl) (fun _ _ _ h=>h) (Or.inl ⟨by rfl,by intro w hw; (try dsimp only at hw); go_simp; first | done | with_reducible rfl⟩) hS ?_
   simp only [Act.put,List.setIfInBounds_toArray,List.set_cons_zero,List.set_cons_succ]
   refine wpAnyH_take (i:=9) (v:=?_) rfl (by kernel_rfl) (by kernel_rfl) (by kernel_rfl) (fun _ _ _ h=>h) (Or.inl ⟨by rfl,by intro w hw; (try dsimp only at hw); go_simp; first | done | with_reducible rfl⟩) hS ?_
   simp only [Act.put,List.setIfInBounds_toArray,List.set_cons_zero,List.set_cons_succ]
   refine wpAnyH_ready (rs:=[3,11]) (by kernel_rfl) (by simp) (AllReadyH.cons rfl (fun K hK=>?_) (AllReadyH.cons rfl (fun K hK=>?_) AllReadyH.nil))
   ·go_simp
    go_wp2_with (go_at_call 63; go_loud (refine (aU HRN _ hS).mono ?_; rintro e W' ⟨va,vn,vc,rfl,hS',hNR,hB'⟩; have HNR:=aH hNR; have HB':=aH hB'; clear hNR hB'))
    refine hK.out _ _ hS' (fun hS=>?_)
    clear hK K hS' HB'
    try simp only [Act.put,List.setIfInBounds_toArray,List.set_cons_zero,List.set_cons_succ]
    refine wpAnyH_ready (rs:=[7,11]) (by kernel_rfl) (by simp) (AllReadyH.cons rfl (fun K hK=>?_) (AllReadyH.cons rfl (fun K hK=>?_) AllReadyH.nil))
    ·go_simp
     go_wp2_with (go_at_call 114; go_loud (refine (aU HKD _).mono ?_; rintro e W' ⟨rfl,rfl⟩))
     refine hK.out _ _ hS (fun hS=>?_)
     clear hK K
     try simp only [Act.put,List.setIfInBounds_toArray,List.set_cons_zero,List.set_cons_succ]
     refine wpAnyH_take (i:=10) (v:=?_) rfl (by kernel_rfl) (by kernel_rfl) (by kernel_rfl) (fun _ _ _ h=>h) (Or.inl ⟨by rfl,by intro w hw; (try dsimp only at hw); go_simp; first | done | with_reducible rfl⟩) hS ?_
     simp only [Act.put,List.setIfInBounds_toArray,List.set_cons_zero,List.set_cons_succ]
     refine wpAnyH_ready (rs:=[11]) (by kernel_rfl) (by simp) (AllReadyH.cons rfl (fun K hK=>?_) AllReadyH.nil)
     go_simp
     obtain ⟨hS',hR,hbn⟩:=allocS hglt hS
     have HNR:=aH (nmr_alloc (.cells #[.slice none 0 0,.int .i64 0,.int .i64 0,.string ⟨#[]⟩,.slice none 0 0] 119) (aU HNR))
     refine hK.out _ _ hS' (fun hS=>?_)
     clear hK K hS'
     revert hR HNR hS
     generalize World.alloc _ _=W'
     intro hR HNR hS
     try simp only [Act.put,List.setIfInBounds_toArray,List.set_cons_zero,List.set_cons_succ]
     obtain ⟨z0,z1,z2,z3,z4⟩:=hR.cells
     have zf:=hR.frozen
     refine wpAnyH_ready (rs:=[12]) (by kernel_rfl) (by simp) (AllReadyH.cons rfl (fun K hK=>?_) AllReadyH.nil)
     go_simp
     refine hK.out _ _ (keep1 hglt hbn (keep1 hglt hbn (keep1 hglt hbn (keep1 hglt hbn (keep1 hglt hbn hS))))) (fun hS=>?_)
     clear hK K
     refine wpAnyH_done (by kernel_rfl) ?_ _
     go_wp2_with fail
     go_meet
     case rel=>exact ⟨_,_,_,_,rfl,hR.set (.slice va vn vc) (.slice (some ⟨g,3,none⟩) (N - 3) (cap - 3)) 0 (Pu.kindOf x2) [],nmr5 hR (aU HNR),hS.2.2,hbn⟩
    ·go_simp
     obtain ⟨hS',hR,hbn⟩:=allocS hglt hS
     have HNR:=aH (nmr_alloc (.cells #[.slice none 0 0,.int .i64 0,.int .i64 0,.string ⟨#[]⟩,.slice none 0 0] 119) (aU HNR))
     refine hK.out _ _ hS' (fun hS=>?_)
     clear hK K hS'
     revert hR HNR hS
     generalize World.alloc _ _=W'
     intro hR HNR hS
     try simp only [Act.put,List.setIfInBounds_toArray,List.set_cons_zero,List.set_cons_succ]
     refine wpAnyH_ready (rs:=[7]) (by kernel_rfl) (by simp) (AllReadyH.cons rfl (fun K hK=>?_) AllReadyH.nil)
     go_simp
     go_wp2_with (go_at_call 114; go_loud (refine (aU HKD _).mono ?_; rintro e W' ⟨rfl,rfl⟩))
     refine hK.out _ _ hS (fun hS=>?_)
     clear hK K
     try simp only [Act.put,List.setIfInBounds_toArray,List.set_cons_zero,List.set_cons_succ]
     refine wpAnyH_take (i:=10) (v:=?_) rfl (by kernel_rfl) (by kernel_rfl) (by kernel_rfl) (fun _ _ _ h=>h) (Or.inl ⟨by rfl,by intro w hw; (try dsimp only at hw); go_simp; first | done | with_reducible rfl⟩) hS ?_
     simp only [Act.put,List.setIfInBounds_toArray,List.set_cons_zero,List.set_cons_succ]
     obtain ⟨z0,z1,z2,z3,z4⟩:=hR.cells
     have zf:=hR.frozen
     refine wpAnyH_ready (rs:=[12]) (by kernel_rfl) (by simp) (AllReadyH.cons rfl (fun K hK=>?_) AllReadyH.nil)
     go_simp
     refine hK.out _ _ (keep1 hglt hbn (keep1 hglt hbn (keep1 hglt hbn (keep1 hglt hbn (keep1 hglt hbn hS))))) (fun hS=>?_)
     clear hK K
     refine wpAnyH_done (by kernel_rfl) ?_ _
     go_wp2_with fail
     go_meet
     case rel=>exact ⟨_,_,_,_,rfl,hR.set (.slice va vn vc) (.slice (some ⟨g,3,none⟩) (N - 3) (cap - 3)) 0 (Pu.kindOf x2) [],nmr5 hR (aU HNR),hS.2.2,hbn⟩
   ·go_simp
    obtain ⟨hS',hR,hbn⟩:=allocD hglt hS0
    refine hK.out _ _ hS' (fun hS=>?_)
    clear hK K hS'
    revert hR hS
    generalize World.drew _=W'
    intro hR hS
    try simp only [Act.put,List.setIfInBounds_toArray,List.set_cons_zero,List.set_cons_succ]
    refine wpAnyH_ready (rs:=[3]) (by kernel_rfl) (by simp) (AllReadyH.cons rfl (fun K hK=>?_) AllReadyH.nil)
    go_simp
    go_wp2_with (go_at_call 63; go_loud (refine (aU HRN _ hS).mono ?_; rintro e W' ⟨va,vn,vc,rfl,hS',hNR,hB'⟩; have HNR:=aH hNR; have HB':=aH hB'; clear hNR hB'))
    have hR:=hR.kept ((aU HB').block _ hR.lt)
    refine hK.out _ _ hS' (fun hS=>?_)
    clear hK K hS' HB'
    try simp only [Act.put,List.setIfInBounds_toArray,List.set_cons_zero,List.set_cons_succ]
    refine wpAnyH_ready (rs:=[7]) (by kernel_rfl) (by simp) (AllReadyH.cons rfl (fun K hK=>?_) AllReadyH.nil)
    go_simp
    go_wp2_with (go_at_call 114; go_loud (refine (aU HKD _).mono ?_; rintro e W' ⟨rfl,rfl⟩))
    refine hK.out _ _ hS (fun hS=>?_)
    clear hK K
    try simp only [Act.put,List.setIfInBounds_toArray,List.set_cons_zero,List.set_cons_succ]
    refine wpAnyH_take (i:=10) (v:=?_) rfl (by kernel_rfl) (by kernel_rfl) (by kernel_rfl) (fun _ _ _ h=>h) (Or.inl ⟨by rfl,by intro w hw; (try dsimp only at hw); go_simp; first | done | with_reducible rfl⟩) hS ?_
    simp only [Act.put,List.setIfInBounds_toArray,List.set_cons_zero,List.set_cons_succ]
    obtain ⟨z0,z1,z2,z3,z4⟩:=hR.cells
    have zf:=hR.frozen
    refine wpAnyH_ready (rs:=[12]) (by kernel_rfl) (by simp) (AllReadyH.cons rfl (fun K hK=>?_) AllReadyH.nil)
    go_simp
    refine hK.out _ _ (keep1 hglt hbn (keep1 hglt hbn (keep1 hglt hbn (keep1 hglt hbn (keep1 hglt hbn hS))))) (fun hS=>?_)
    clear hK K
    refine wpAnyH_done (by kernel_rfl) ?_ _
    go_wp2_with fail
    go_meet
    case rel=>exact ⟨_,_,_,_,rfl,hR.set (.slice va vn vc) (.slice (some ⟨g,3,none⟩) (N - 3) (cap - 3)) 0 (Pu.kindOf x2) [],nmr5 hR (aU HNR),hS.2.2,hbn⟩
  case rest =>
   obtain ⟨b5,va,vn,vc,rfl,hr5,hnm5,hb5,hbn5⟩:=hcut
   have hs5:=hb5.size
   have d1:wc.cell? ⟨g,1,none⟩=some (.string (B x1)):=(hb5.cell (p:=⟨g,1,none⟩) hglt).trans c1
   obtain ⟨r0,r1,r2,r3,r4⟩:=hr5.cells
   have rf:=hr5.frozen
   have HR5:=aH hr5
   have HNM:=aH hnm5
   have HB5:=aH hb5
   have HNU:=aH (fun W=>number_any x1 86400 W (by omega) (by decide))
   have hTl:T.length=N - 3:=by have:=aU HN4; omega
   have hTx:Hid (TxAt wc g 3 T):=by
    have h:=(aU HO).2.1.below hb5
    refine ⟨h.1,fun j hj=>?_⟩
    have:=h.2 (3+j) (by simp; omega)
    rw [Nat.zero_add] at this
    rw [this]
    have:(x0 :: x1 :: x2 :: T)[3+j]'(by simp; omega)=T[j]:=by
     simp only [show 3+j=j+1+1+1 by omega,List.getElem_cons_succ]
    rw [this]
   clear hr5 hnm5 hb5 c0 c1 c2 a0' a2' hS0 hS c0' c2' HRN HKD
   go_wp2_with fail
   refine (aU HNU _).mono ?_
   rintro e w6 ⟨⟨ttl,rfl,hnv⟩,rfl⟩
   have HNV:=aH hnv
   clear hnv
   have hgb:g≠b5:=by omega
   have hwl:w.heap.size<w1.heap.size:=(aU HR0).lt
   have hR7:=(aU HR5).set1 ttl
   have HR7:=aH hR7
   obtain ⟨s0,s1,s2,s3,s4⟩:=hR7.cells
   have HNM7:=aH (nmr_set (i:=1) (u:=.int .i64 ttl) (aU HR5) (aU HNM))
   have HTX7:=aH (tx_set (b:=b5) (i:=1) (u:=.int .i64 ttl) hgb (aU hTx))
   have HB7:=aH ((aU HB5).setCell (p:=⟨b5,1,none⟩) hbn5 (.int .i64 ttl))
   have HMT:Hid (∀ x∈T,x.length≤3000):=fun x hx=>aU HME x (List.mem_cons_of_mem _ (List.mem_cons_of_mem _ (List.mem_cons_of_mem _ hx)))
   have HNO:Hid (∀ x∈T,(32:UInt8) ∉ x):=fun x hx=>aU HNO0 x (List.mem_cons_of_mem _ (List.mem_cons_of_mem _ (List.mem_cons_of_mem _ hx)))
   have hTl2:T.length≤3001:=by simp at hlen; omega
   obtain ⟨ok,hok⟩ : ∃ ok,numB 86400 x1=ok:=⟨_,rfl⟩
   obtain ⟨dd,hdd⟩ : ∃ dd,Ke.isData (Pu.kindOf x2) T=dd:=⟨_,rfl⟩
   rw [hok]
   have HNVO:Hid (ok=true→ttl=numV 86400 x1):=fun h=>aU HNV (by rw [hok]; exact h)
   have HOKD:=aH (And.intro hok hdd)
   have HD:Hid (0<Pu.kindOf x2→Calls Tryz.prog 116 #[.int .i64 (Pu.kindOf x2),.slice (some ⟨g,3,none⟩) (N - 3) (cap - 3)] (w6.setCell ⟨b5,1,none⟩ (.int .i64 ttl)) fun e w'=>e=.returned (.bool dd)∧Below (w6.setCell ⟨b5,1,none⟩ (.int .i64 ttl)).heap.size (w6.setCell ⟨b5,1,none⟩ (.int .i64 ttl)) w'):=fun hk=>by
    have:=data_any x2 hk g 3 (cap - 3) T _ (aU HTX7) hTl2 (by omega) (aU HMT)
    rw [hTl,hdd] at this
    exact this
   have hk0:Hid (Pu.kindOf x2=0→dd=false):=fun h=>by rw [← hdd,h]; exact isD_zero T
   obtain ⟨kd,hkd⟩ : ∃ kd,Pu.kindOf x2=kd:=⟨_,rfl⟩
   have hkp:0≤kd:=by rw [← hkd]; rcases kind_cases x2 with e | e | e | e | e | e | e <;> omega
   have HKD2:=aH hkd
   rw [hkd] at HR5 HR7 HD hk0 r2 s2
   clear hkd hok hdd HNV hR7
   go_upto_region 7 with fail
   go_cut [8] from 36 (fun v8 wx=>v8=.bool dd∧RcAt wx b5 (.slice va vn vc) ttl kd [] (.slice (some ⟨g,3,none⟩) (N - 3) (cap - 3))∧NmR wx w1.heap.size (.slice va vn vc) (nmR true x0)∧TxAt wx g 3 T∧Below w1.heap.size w1 wx)
   case first =>
    by_cases hk:0<kd
    ·go_wp2_with fail
     refine (aU HD hk).mono ?_
     rintro e w8 ⟨rfl,hb8⟩
     have HR8:=aH ((aU HR7).kept (hb8.block b5 (by have:=(aU HR7).lt; exact this)))
     have HTX8:=aH ((aU HTX7).below hb8)
     have HNM8:Hid (NmR w8 w1.heap.size (.slice va vn vc) (nmR true x0)):=by
      have:=aU HNM7
      cases ho:nmR true x0 with
      | none=>rw [ho] at this; exact this
      | some l =>
       rw [ho] at this
       obtain ⟨h1,g',cap',h2,h3,h4,h5⟩:=this
       exact ⟨h1,g',cap',h2,h3,h4,h5.below hb8⟩
     have HB8:=aH ((aU HB7).trans (hb8.mono (aU HB7).size))
     clear HD hb8 r0 r1 r2 r3 r4 rf s0 s1 s2 s3 s4 d1
     go_wp2_with fail
     go_meet
     case rel=>exact ⟨rfl,aU HR8,aU HNM8,aU HTX8,aU HB8⟩
    ·have hkd0:kd=0:=by omega
     have hdf:=aU hk0 hkd0
     have HDF:=aH hdf
     clear HD hdf
     go_wp2_with fail
     go_meet
     case rel=>exact ⟨by rw [aU HDF],aU HR7,aU HNM7,aU HTX7,aU HB7⟩
   case rest =>
    obtain ⟨rfl,hR7,hNM7,hTX7,hB7⟩:=hcut
    clear HD HR7 HNM7 HTX7 HB7 r0 r1 r2 r3 r4 rf s0 s1 s2 s3 s4 d1 HR5 HNM HB5 hTx
    have HR7:=aH hR7
    have HNM7:=aH hNM7
    have HTX7:=aH hTX7
    have HB7:=aH hB7
    obtain ⟨s0,s1,s2,s3,s4⟩:=hR7.cells
    clear hR7 hNM7 hTX7 hB7
    go_wp2_with fail
    go_loopw [9] (fun i wr=>∃ k:Nat,k≤T.length∧i=.int .i64 k∧RcAt wr b5 (.slice va vn vc) ttl kd (joinC 32 (T.take k)) (.slice (some ⟨g,3,none⟩) (N - 3) (cap - 3))∧NmR wr w1.heap.size (.slice va vn vc) (nmR true x0)∧TxAt wr g 3 T∧Below w1.heap.size w1 wr) (fun i _=>T.length - (intOf i).toNat)
    case atStart=>exact ⟨0,Nat.zero_le _,rfl,aU HR7,aU HNM7,aU HTX7,aU HB7⟩
    case round =>
     obtain ⟨k,hk,rfl,hr,hnm,htx,hb⟩:=hrel
     have hjl:=joinC_len 32 (T.take k) 3000 (fun x hx=>aU HMT x (List.mem_of_mem_take hx))
     have hjs:(B (joinC 32 (T.take k))).size≤9006001:=by
      rw [size_B]
      have:(T.take k).length≤3001:=by rw [List.length_take]; omega
      have:=Nat.mul_le_mul_right (3000+1) this
      omega
     obtain ⟨c0,c1,c2,c3,c4⟩:=hr.cells
     have cf:=hr.frozen
     have HR:=aH hr
     have HNM':=aH hnm
     have HTX':=aH htx
     have HB':=aH hb
     have hsz:=hb.size
     by_cases hlt:k<T.length
     ·have hltI:(k:Int)<((N - 3:Nat):Int):=by omega
      have cw:=htx.2 k hlt
      have hxl:=aU HMT T[k] (List.getElem_mem hlt)
      have ht:=List.take_succ_eq_append_getElem hlt
      obtain ⟨x,hx⟩ : ∃ x,x=T[k]:=⟨_,rfl⟩
      rw [← hx] at cw hxl ht
      have hxs:(B x).size≤3000:=by rw [size_B]; exact hxl
      clear hr hnm htx hb hx
      by_cases hk0:k=0
      ·subst hk0
       have HFIN:Hid (B (joinC 32 ([]:List Str))++B x=B (joinC 32 (T.take (0+1)))):=by
        rw [Hid,ht]; exact rfl
       rw [Nat.add_zero] at cw
       have hj0:(B (joinC 32 ([]:List Str))).size≤5:=by decide
       clear ht hjl
       go_upto_region 13 with fail
       go_region
       all_goals
        go_wp2_with fail
        refine ⟨⟨0+1,by omega,by first | rfl | go_num,?_,?_,?_,?_⟩,by simp [intOf]; omega⟩
        ·rw [aU HFIN]; exact (aU HR).set3 _
        ·exact nmr_set (aU HR) (aU HNM')
        ·exact tx_set (by omega) (aU HTX')
        ·exact ((aU HB').setCell (p:=⟨b5,3,none⟩) hbn5 _).drew
      ·have hkI:(0:Int)<(k:Int):=by omega
       have HFIN:Hid (B (joinC 32 (T.take k)++[32])++B x=B (joinC 32 (T.take (k+1)))):=by
        rw [Hid,ht,joinC_snoc 32 x _ (by intro h; have:=congrArg List.length h; rw [List.length_take,List.length_nil] at this; omega),B_app]
        simp
       have hrS:=(aU HR).set3 (joinC 32 (T.take k)++[32])
       have HRS:=aH hrS
       obtain ⟨e0,e1,e2,e3,e4⟩:=hrS.cells
       have ef:=hrS.frozen
       have htS:=tx_set (b:=b5) (i:=3) (u:=.string (B (joinC 32 (T.take k)++[32]))) (by omega) (aU HTX')
       have cwS:(wr.setCell ⟨b5,3,none⟩ (.string (B (joinC 32 (T.take k)++[32])))).cell? ⟨g,3+k,none⟩=some (.string (B x)):=(World.cell?_of_block (a:=⟨g,3+k,none⟩) (Below.heap_setCell _ _ _ _ (by omega))).trans cw
       have h32:=B_32 (joinC 32 (T.take k))
       have hjs2:(B (joinC 32 (T.take k)++[32])).size≤9006002:=by rw [← h32,ByteArray.size_append]; show _+1≤_; omega
       have HNS:=aH (nmr_set (i:=3) (u:=.string (B (joinC 32 (T.take k)++[32]))) (aU HR) (aU HNM'))
       have HTS:=aH htS
       clear ht hjl hk0 hrS htS
       go_upto_region 13 with fail
       go_region
       all_goals
        go_wp2_with fail
        refine ⟨⟨k+1,by omega,by first | rfl | go_num,?_,?_,?_,?_⟩,by simp [intOf]; omega⟩
        ·rw [aU HFIN]; exact (aU HRS).set3 _
        ·exact nmr_set (aU HRS) (aU HNS)
        ·exact tx_set (by omega) (aU HTS)
        ·exact (((aU HB').setCell (p:=⟨b5,3,none⟩) hbn5 _).setCell (p:=⟨b5,3,none⟩) hbn5 _).drew
     ·have hltI : ¬ (k:Int)<((N - 3:Nat):Int):=by omega
      have hk2:k=T.length:=by omega
      have HFIN:Hid (joinC 32 (T.take k)=joinC 32 T):=by rw [Hid,hk2,List.take_length]
      have hrb:RcAt wr w.heap.size (.slice none 0 0) 0 0 [] (.slice none 0 0):=(aU HR0).kept (hb.block w.heap.size hwl)
      obtain ⟨p0,p1,p2,p3,p4⟩:=hrb.cells
      have pf:=hrb.frozen
      have hres:RecC s w.heap.size (.returned (.tuple #[.agg #[.slice va vn vc,.int .i64 ttl,.int .i64 kd,.string (B (joinC 32 (T.take k))),.slice (some ⟨g,3,none⟩) (N - 3) (cap - 3)],.bool (ok && dd && !va.isNone)])) ((((((wr.setCell ⟨w.heap.size,0,none⟩ (.slice va vn vc)).setCell ⟨w.heap.size,1,none⟩ (.int .i64 ttl)).setCell ⟨w.heap.size,2,none⟩ (.int .i64 kd)).setCell ⟨w.heap.size,3,none⟩ (.string (B (joinC 32 (T.take k))))).setCell ⟨w.heap.size,4,none⟩ (.slice (some ⟨g,3,none⟩) (N - 3) (cap - 3))).drew):=by
       rw [aU HFIN]
       refine fin_rec hT (aU HNO) (aU HRR) (aU HKD2) (aU HOKD) (aU HNVO) hnm htx hTl (by omega) (b:=w.heap.size) (fun k hk=>?_) (by simp [World.setCell]) hwl (by have:=(aU HO).1; omega)
       show (((((wr.setCell ⟨w.heap.size,0,none⟩ _).setCell ⟨w.heap.size,1,none⟩ _).setCell ⟨w.heap.size,2,none⟩ _).setCell ⟨w.heap.size,3,none⟩ _).setCell ⟨w.heap.size,4,none⟩ _).heap[k]? = _
       rw [Below.heap_setCell _ _ _ _ (by exact hk),Below.heap_setCell _ _ _ _ (by exact hk),Below.heap_setCell _ _ _ _ (by exact hk),Below.heap_setCell _ _ _ _ (by exact hk),Below.heap_setCell _ _ _ _ (by exact hk)]
      have HRES:=aH hres
      have HRB:=aH hrb
      clear hr hnm htx hb hjl hrb hres
      generalize joinC 32 (T.take k)=D at *
      have hcs:ok=false∨(ok=true∧dd=false)∨(ok=true∧dd=true):=by cases ok <;> cases dd <;> simp
      rcases hcs with rfl | ⟨rfl,rfl⟩ | ⟨rfl,rfl⟩
      all_goals go_upto_region 14 with fail
      all_goals go_region
      all_goals
       go_wp2_with fail
       have A9:=(aU HRB).set (.slice va vn vc) (.slice (some ⟨g,3,none⟩) (N - 3) (cap - 3)) ttl kd D
       obtain ⟨n0,n1,n2,n3,n4⟩:=A9.cells
       have hR9:=aU HRES
       simp only [Bool.and_true,Bool.true_and,Bool.false_and,Bool.and_false] at hR9
       refine bodyPost_ret ?_ rfl ⟨hR9,?_⟩
       ·simp [results,Tryz.results64,go_sem,n0,n1,n2,n3,n4]
       ·have hB9:=(aU HO).2.2.trans ((aU HB').mono (by omega))
        exact (((((hB9.setCell (p:=⟨w.heap.size,0,none⟩) (Nat.le_refl _) _).setCell (p:=⟨w.heap.size,1,none⟩) (Nat.le_refl _) _).setCell (p:=⟨w.heap.size,2,none⟩) (Nat.le_refl _) _).setCell (p:=⟨w.heap.size,3,none⟩) (Nat.le_refl _) _).setCell (p:=⟨w.heap.size,4,none⟩) (Nat.le_refl _) _).drew
end Eg
namespace Eq'
open Ka Eh Ej
theorem right_none (zb:Nat) (vo:Value) (w:World) (hz:w.heap[zb]? = some (.cells #[vo,.slice none 0 0] 117)) :
  Calls Tryz.prog 65 #[.pointer (some ⟨zb,0,none⟩)] w fun e w'=>e=.returned (.bool false)∧Below w.heap.size w w':=by
 have y1:w.cell? ⟨zb,1,none⟩=some (.slice none 0 0):=by unfold World.cell?; rw [hz]; rfl
 clear hz
 go_enter Tryz.func65,Tryz.ntmps65
 go_wp2
 go_ret
 exact ⟨rfl,Below.refl _ _⟩
end Eq'
end Go.Proofs.YtkkpahmoljiepaaGreatDoor
