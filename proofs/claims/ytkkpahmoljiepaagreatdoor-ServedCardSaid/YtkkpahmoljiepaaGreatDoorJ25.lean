/- Contracts: wire's put of fields whose writing leans on what lies in memory. -/
import Derived.Test.YtkkpahmoljiepaaGreatDoorJ12
import Derived.Test.YtkkpahmoljiepaaGreatDoorJ15
import Derived.BigRegion
import Derived.Test.YtkkpahmoljiepaaGreatDoorJ03
set_option linter.unusedSimpArgs false
set_option linter.unusedVariables false
set_option maxRecDepth 1000000
set_option maxHeartbeats 12800000
namespace Go.Proofs.YtkkpahmoljiepaaGreatDoor
open Go.RowKit
open Pu (Str aH aU)
def WrI (mb base:Nat) (vp:Value) (I:World→Prop) (fn:FuncId) (x:Value) (out:Str):Prop:=∀ (vb:Value) (l:Str) (w:World),I w→MsgAt w mb vb vp→OwnB w base vb l→base≤w.heap.size→l.length+out.length≤60000 →
 Calls Tryz.prog fn #[x,.pointer (some ⟨mb,0,none⟩)] w fun e w'=>e=.returned (.tuple #[])∧(∃ vb',MsgAt w' mb vb' vp∧OwnB w' base vb' (l++out))∧TF mb base w w'
def Fd.OkI (mb base : Nat) (vp : Value) (I : World → Prop) (f : Fd) : Prop := (∀ W : World, (method 521 f.t f.x "beacon/wire.writeTo").run Tryz.prog W = .ok (f.fn, f.x) W) ∧ (∀ (args : Array Value) (W : World), (callFunc f.fn args).run Tryz.prog W = .ok (.enter f.fn args) W) ∧ WrI mb base vp I f.fn f.x f.out
theorem Fd.Ok.toI {f:Fd} (h:f.Ok) (mb base:Nat) (vp:Value) (I:World→Prop):f.OkI mb base vp I :=
 ⟨h.1,h.2.1,fun vb l w _ hm ho hb hl=>h.2.2 mb base vb vp l w hm ho hb (by omega)⟩
def Stable (mb base:Nat) (I:World→Prop):Prop:=∀ w w',I w→TF mb base w w'→I w'
namespace Wn
open Ka Wa Wb Wc Wd We Wf Wg Wh Wi Wj Wk Wl Wm Re
theorem put_I (mb base g cap:Nat) (I:World→Prop) (fs:List Fd) (vb vp:Value) (l:Str) (w:World) (hI:I w) (hst:Stable mb base I) (hm:MsgAt w mb vb vp) (ho:OwnB w base vb l) (hbs:base≤w.heap.size)
  (hok : ∀ f∈fs,f.OkI mb base vp I) (hlt:g<w.heap.size) (hgm:g≠mb) (hkeep:g<base∨∀ cur,w.heap[g]?≠some (.cells cur 5 (0,0))) (hcells : ∀ j (h:j<fs.length),w.cell? ⟨g,j,none⟩=some (.iface fs[j].t fs[j].x))
  (hn:fs.length≤cap) (hc:fs.length≤1000000) (hl:l.length+(outs fs).length≤60000) :
  Calls Tryz.prog 139 #[.pointer (some ⟨mb,0,none⟩),.slice (some ⟨g,0,none⟩) fs.length cap] w fun e w' =>
   e=.returned (.tuple #[])∧(∃ vb',MsgAt w' mb vb' vp∧OwnB w' base vb' (l++outs fs))∧TF mb base w w':=by
 have HM:=aH hm
 have HO:=aH ho
 have HOK:=aH hok
 have HC:=aH hcells
 have HK:=aH hkeep
 have HI:=aH hI
 have HST:=aH hst
 clear hm ho hok hcells hkeep hI hst
 go_enter Tryz.func139,Tryz.ntmps139
 go_wp2_with fail
 go_loopw [8] (fun i wr=>∃ (k:Nat) (vb':Value),i=.int .i64 k∧k≤fs.length∧MsgAt wr mb vb' vp∧OwnB wr base vb' (l++outs (fs.take k))∧TF mb base w wr) (fun i _=>fs.length - (intOf i).toNat)
 case atStart=>exact ⟨0,vb,rfl,Nat.zero_le _,aU HM,by simpa [outs] using aU HO,TF.refl _ _ _⟩
 case round =>
  obtain ⟨k,vb',rfl,hk,hm,ho,ht⟩:=hrel
  have HM1:=aH hm
  have HO1:=aH ho
  have HT1:=aH ht
  have hsz:=ht.size
  clear hm ho ht
  by_cases hlk:k<fs.length
  ·have hcell:wr.cell? ⟨g,k,none⟩=some (.iface fs[k].t fs[k].x):=(World.cell?_of_block (w:=w) ((aU HT1).block g hlt hgm (aU HK))).trans (aU HC k hlk)
   have hOK:=aU HOK fs[k] (List.getElem_mem hlk)
   have HE:=aH (outs_take fs k hlk)
   have HL:=aH (outs_le fs (k+1))
   rw [outs_take fs k hlk,List.length_append] at HL
   generalize fs[k]=f at *
   have hmeth:=hOK.1
   have hcf:=hOK.2.1
   have HW:=aH (hOK.2.2 vb' _ wr (aU HST w wr (aU HI) (aU HT1)) (aU HM1) (aU HO1) (by omega) (by rw [List.length_append]; have:=aU HL; omega))
   clear hOK
   go_wp2_with fail
   refine (aU HW).mono ?_
   rintro e w2 ⟨rfl,⟨vb2,h1,h2⟩,h3⟩
   rw [List.append_assoc,← aU HE] at h2
   have HF:=aH (And.intro h1 (And.intro h2 ((aU HT1).trans h3)))
   clear h1 h2 h3 HW
   go_wp2_with fail
   exact ⟨⟨k+1,vb2,by go_num,by omega,(aU HF).1,(aU HF).2.1,(aU HF).2.2⟩,by simp [intOf]; omega⟩
  ·have hkl:k=fs.length:=by omega
   subst hkl
   have HO2:=aU HO1
   rw [List.take_length] at HO2
   have HO3:=aH HO2
   clear HO2
   go_wp2
   refine bodyPost_end (v:=.tuple #[]) (by simp [results,Tryz.results139]) rfl ?_
   exact ⟨rfl,⟨vb',aU HM1,aU HO3⟩,aU HT1⟩
end Wn
def placeCells (ps:List (Str×Nat)):List Value:=ps.flatMap fun p=>[.string (B p.1),.int .i64 (p.2:Int)]
def OwnP (w:World) (base:Nat) (v:Value) (ps:List (Str×Nat)):Prop:=w.ownsRow base 343 2 v ps.length (placeCells ps)
namespace Wo
open Ka Kd Rg Ia Wa Wb Wc Wd We Wf Wg Wh Wi Wj Wk Wl Wm Wn Re
theorem infoP:(Tryz.prog.info? 343).map (fun i=>(i.zero,i.size,i.bytes))=some (some (.agg #[.string ⟨#[]⟩,.int .i64 0]),2,24):=by kernel_rfl
theorem underP:Tryz.prog.underlying 281=some (.slice 343):=by kernel_rfl
theorem placeCells_snoc (ps:List (Str×Nat)) (p:Str×Nat):placeCells (ps++[p])=placeCells ps++[.string (B p.1),.int .i64 (p.2:Int)]:=by
 simp [placeCells]
theorem placeCells_get : ∀ (ps:List (Str×Nat)) (j:Nat) (h:j<ps.length),(placeCells ps)[j*2]? = some (.string (B ps[j].1))∧(placeCells ps)[j*2+1]? = some (.int .i64 (ps[j].2:Int))
 | [],j,h=>by simp at h
 | p :: t,0,h=>by simp [placeCells]
 | p :: t,j+1,h=>by
  have:=placeCells_get t j (by simpa using h)
  have e:placeCells (p :: t)=.string (B p.1) :: .int .i64 (p.2:Int) :: placeCells t:=by simp [placeCells]
  rw [e,show (j+1)*2=j*2+1+1 by omega]
  simpa using this
theorem msg_neP {w:World} {mb base:Nat} {vb vp v:Value} {ps:List (Str×Nat)} (hm:MsgAt w mb vb vp) (ho:OwnP w base v ps):some mb≠v.ownBlock:=fun e=>by
 obtain ⟨_,⟨rfl,_⟩ | ⟨g,cap,cur,rfl,_,hcur,_⟩⟩:=ho
 ·simp [Value.ownBlock] at e
 ·simp only [Value.ownBlock,Option.some.injEq] at e
  subst e
  rw [hm] at hcur
  simp at hcur
theorem newMessage_any (w:World) :
  Calls Tryz.prog 130 #[] w fun e w'=>e=.returned (.pointer (some ⟨w.heap.size+1,0,none⟩))∧(∃ vb,MsgAt w' (w.heap.size+1) vb (.slice none 0 0)∧OwnB w' w.heap.size vb (List.replicate 12 0))∧Below w.heap.size w w':=by
 have hmk : ∀ w:World,(Instr.makeSlice 58 (.int .i64 12) (.int .i64 12)).run Tryz.prog w=.ok (.slice (some ⟨w.heap.size,0,none⟩) 12 12) (w.alloc (.cells (Array.replicate 12 (.int .u8 0)) 5)):=fun _=>by kernel_rfl
 generalize hrep:(Array.replicate 12 (Value.int .u8 0))=R at *
 go_enter Tryz.func130,Tryz.ntmps130
 go_wp2
 go_ret
 have hnew:=World.alloc_heap_new (w.alloc (.cells R 5)) (.cells #[.slice (some ⟨w.heap.size,0,none⟩) 12 12,.slice none 0 0] 283)
 simp only [World.size_alloc] at hnew
 refine ⟨rfl,⟨_,hnew,by simp,.inr ⟨w.heap.size,12,R,rfl,Nat.le_refl _,(Below.heap_alloc _ _ _ (by simp)).trans (World.alloc_heap_new w _),by simp,by unfold maxLen; omega,by rw [← hrep]; rfl,by rw [← hrep]; rfl⟩⟩,((Below.refl _ _).alloc (Nat.le_refl _) _).alloc (by simp) _⟩
theorem learn_w (mb base:Nat) (x:Str) (n:Nat) (vb vp:Value) (ps:List (Str×Nat)) (w:World) (hm:MsgAt w mb vb vp) (ho:OwnP w base vp ps) (hbs:base≤w.heap.size) (hl:ps.length≤1000) (hn:n<16384) :
  Calls Tryz.prog 202 #[.pointer (some ⟨mb,0,none⟩),.string (B x),.int .i64 (n:Int)] w fun e w' =>
   e=.returned (.tuple #[])∧∃ vp',MsgAt w' mb vb vp'∧OwnP w' base vp' (ps++[(x,n)])∧(vp'.ownBlock=vp.ownBlock∨∃ g,vp'.ownBlock=some g∧w.heap.size≤g)∧Fr (fun i=>i≠mb∧some i≠vp.ownBlock) w w':=by
 obtain ⟨i0,hi,hz0,hz1,hz2⟩:=info_parts infoP
 have hc0:=hm.cells.2
 have HM:=aH hm
 have HO:=aH ho
 have hlt:=hm.lt
 have hnI:(n:Int)<16384:=by omega
 clear hm ho
 go_enter Tryz.func202,Tryz.ntmps202
 go_wp2_with (at_builtin; go_loud (refine wpList_append_own_at _ rfl (.tmp 12) (.tmp 16) 281 rfl base 343 i0 (.agg #[.string ⟨#[]⟩,.int .i64 0]) 2 24 underP hi hz0 hz1 hz2 rfl (by decide) _ ps.length _ rfl ((aU HO).alloc _) ⟨w.heap.size,0,none⟩ 1 1 [.string (B x),.int .i64 (n:Int)] rfl rfl ?c1 ?c2 ?c3 ?c4 ?c5 ?_))
 case c1 =>
  intro j u hj
  match j,hj with
  | 0,hj=>simp at hj; subst hj; simp [Addr.add]
  | 1,hj=>simp at hj; subst hj; simp [Addr.add]
  | n+2,hj=>simp at hj
 case c2=>intro u hu; simp at hu; rcases hu with rfl | rfl <;> rfl
 case c3=>unfold maxLen; omega
 case c4=>omega
 case c5=>simp; omega
 intro v' w3 hown' hgrow _ hat
 obtain ⟨va,vn,vc,rfl⟩:=own_slice hown'
 have HO3:Hid (OwnP w3 base (.slice va vn vc) (ps++[(x,n)])):=by
  unfold Hid OwnP
  rw [List.length_append,placeCells_snoc]
  exact hown'
 have hblk : ∀ i,i<w.heap.size→some i≠vp.ownBlock→w3.heap[i]? = w.heap[i]?:=fun i hi hne =>
  (hgrow.block i (by simp; omega) hne).trans (Below.heap_alloc _ _ _ hi)
 have hne:some mb≠vp.ownBlock:=msg_neP (aU HM) (aU HO)
 have HM3:=aH ((aU HM).kept (hblk mb hlt hne))
 have HF3:Hid (Fr (fun i=>i≠mb∧some i≠vp.ownBlock) w w3) :=
  ⟨hgrow.os,hgrow.tape,hgrow.output,Nat.le_trans (by simp) hgrow.size,fun i hi hp=>hblk i hi hp.2⟩
 have HA:Hid ((Value.slice va vn vc).ownBlock=vp.ownBlock∨∃ g,(Value.slice va vn vc).ownBlock=some g∧w.heap.size≤g):=by
  rcases hat with h | h
  ·exact .inl h
  ·exact .inr ⟨_,h,by simp⟩
 have hfz:=(aU HM3).frozen
 have hc:=(aU HM3).cells.2
 clear hown' hgrow hat hblk hne HM HO
 go_wp2_with fail
 refine bodyPost_end (v:=.tuple #[]) (by simp [results,Tryz.results202]) rfl ?_
 refine ⟨rfl,_,(aU HM3).set1 _,?_,aU HA,(aU HF3).trans (Fr.of_set _ fun i h=>h.1)⟩
 exact aS (aU HO3) (msg_neP (aU HM3) (aU HO3)) _ _
theorem place_at {w:World} {base:Nat} {v:Value} {ps:List (Str×Nat)} (h:OwnP w base v ps) (hne:ps≠[]) : ∃ g cap,v=.slice (some ⟨g,0,none⟩) ps.length cap∧g<w.heap.size∧ps.length≤cap∧∀ j (hj:j<ps.length),w.cell? ⟨g,j*2,none⟩=some (.string (B ps[j].1))∧w.cell? ⟨g,j*2+1,none⟩=some (.int .i64 (ps[j].2:Int)):=by
 have h0:=h
 obtain ⟨_,⟨rfl,hz⟩ | ⟨g,cap,cur,rfl,hb,hcur,hc,_⟩⟩:=h
 ·exact absurd (List.eq_nil_of_length_eq_zero hz) hne
 ·refine ⟨g,cap,rfl,(Array.getElem?_eq_some_iff.1 hcur).1,hc,fun j hj=>?_⟩
  have hg:=placeCells_get ps j hj
  have c0:=World.ownsRow.cellAt h0 (j*2) (by omega)
  have c1:=World.ownsRow.cellAt h0 (j*2+1) (by omega)
  exact ⟨c0.trans hg.1,c1.trans hg.2⟩
theorem placeOf_hit (mb base j0:Nat) (x:Str) (vb vp:Value) (ps:List (Str×Nat)) (w:World) (hm:MsgAt w mb vb vp) (ho:OwnP w base vp ps) (hj:j0<ps.length) (he:ps[j0].1=x) (hb : ∀ j (h:j<j0),(ps[j].1 == x)=false) (hl:ps.length≤1000) :
  Calls Tryz.prog 339 #[.pointer (some ⟨mb,0,none⟩),.string (B x)] w fun e w' =>
   e=.returned (.tuple #[.int .i64 (ps[j0].2:Int),.bool true])∧Below w.heap.size w w':=by
 obtain ⟨g,cap,rfl,hg,hcap,hcell⟩:=place_at ho (by intro h; subst h; simp at hj)
 have hc0:=hm.cells.2
 have HC:=aH hcell
 have HB:=aH hb
 have HE:=aH he
 clear hm ho hcell hb he
 go_enter Tryz.func339,Tryz.ntmps339
 go_wp2_with fail
 go_loopw [13] (fun i wr=>∃ k:Nat,i=.int .i64 k∧k≤j0∧Below w.heap.size w wr) (fun i _=>ps.length - (intOf i).toNat)
 case atStart=>exact ⟨0,rfl,Nat.zero_le _,Below.refl _ _⟩
 case round =>
  obtain ⟨k,rfl,hk,hbr⟩:=hrel
  have hkl:k<ps.length:=by omega
  have hkI:(k:Int)<(ps.length:Int):=by omega
  obtain ⟨c0,c1⟩:=aU HC k hkl
  have d0:=(hbr.cell (p:=⟨g,k*2,none⟩) hg).trans c0
  have d1:=(hbr.cell (p:=⟨g,k*2+1,none⟩) hg).trans c1
  have hBB:((B ps[k].1).toList == (B x).toList)=(ps[k].1 == x):=B_inj
  have HBR:=aH hbr
  have hs:=hbr.size
  clear c0 c1 hbr
  by_cases hkj:k=j0
  ·subst hkj
   clear hBB hk
   rw [aU HE] at d0
   obtain ⟨pn,hpn⟩ : ∃ pn,pn=ps[k].2:=⟨_,rfl⟩
   rw [← hpn] at d1
   have HPN:=aH hpn
   clear hpn
   go_wp2_with fail
   go_ret2
   refine ⟨?_,(aU HBR).alloc hs _⟩
   rw [← aU HPN]
   rfl
  ·rw [aU HB k (by omega)] at hBB
   generalize ps[k].2=pn at *
   generalize B ps[k].1=pb at *
   go_wp2_with fail
   go_roundw
   case rel=>exact ⟨k+1,by go_num,by omega,(aU HBR).alloc hs _⟩
   case measure=>simp [intOf]; omega
end Wo
def FdsAt (mb:Nat) (w:World) (g:Nat) (fs:List Fd):Prop:=g<w.heap.size∧g≠mb∧(∀ cur,w.heap[g]?≠some (.cells cur 5 (0,0)))∧∀ j (h:j<fs.length),w.cell? ⟨g,j,none⟩=some (.iface fs[j].t fs[j].x)
theorem FdsAt.tf {mb base g:Nat} {fs:List Fd} {w w':World} (h:FdsAt mb w g fs) (ht:TF mb base w w'):FdsAt mb w' g fs:=by
 have e:=ht.block g h.1 h.2.1 (.inr h.2.2.1)
 exact ⟨Nat.lt_of_lt_of_le h.1 ht.size,h.2.1,by rw [e]; exact h.2.2.1,fun j hj=>(World.cell?_of_block e).trans (h.2.2.2 j hj)⟩
namespace Wp
open Ka Wa Wb Wc Wd We Wf Wg Wh Wi Wj Wk Wl Wm Wn Wo Re
theorem own_at {w:World} {base:Nat} {v:Value} {l:Str} (h:OwnB w base v l) (hne:l≠[]) : ∃ g cap cur,v=.slice (some ⟨g,0,none⟩) l.length cap∧base≤g∧w.heap[g]? = some (.cells cur 5 (0,0))∧l.length≤cap∧cap≤maxLen:=by
 obtain ⟨_,⟨rfl,hz⟩ | ⟨g,cap,cur,rfl,hb,hcur,hc,hm,_⟩⟩:=h
 ·exact absurd (List.eq_nil_of_length_eq_zero hz) hne
 ·exact ⟨g,cap,cur,rfl,hb,hcur,hc,hm⟩
theorem own_setB {w:World} {base g n cap:Nat} {l:Str} (h:OwnB w base (.slice (some ⟨g,0,none⟩) n cap) l) (i:Nat) (c:UInt8) (hi:i<l.length) :
  OwnB (w.setCell ⟨g,i,none⟩ (.int .u8 c.toNat)) base (.slice (some ⟨g,0,none⟩) n cap) (l.set i c):=by
 obtain ⟨h1,⟨e,hz⟩ | ⟨g',cap',cur,e,hb,hcur,hc,hm,hs,ht⟩⟩:=h
 ·cases e
 ·cases e
  refine ⟨by simp,.inr ⟨g,cap,cur.setIfInBounds i (.int .u8 c.toNat),by simp,hb,?_,by rw [List.length_set]; exact hc,hm,by rw [Array.size_setIfInBounds]; exact hs,?_⟩⟩
  ·simp only [World.setCell]; rw [Array.getElem?_modify,if_pos rfl,hcur]; rfl
  ·rw [Array.toList_setIfInBounds,List.take_set]
   rw [List.length_set,ht]
   rw [List.map_set]
theorem tf_set {mb base g:Nat} {w w':World} (h:TF mb base w w') (i:Nat) (u:Value) {cur:Array Value} (hb:base≤g) (hcur:w'.heap[g]? = some (.cells cur 5 (0,0))):TF mb base w (w'.setCell ⟨g,i,none⟩ u) :=
 h.trans ⟨rfl,rfl,rfl,by simp [World.setCell],fun k hk hm hp=>by
  by_cases e:k=g
  ·subst e
   rcases hp with hp | hp
   ·omega
   ·exact absurd hcur (hp cur)
  ·exact Below.heap_setCell _ _ _ _ e⟩
theorem m_sized (a : Option Addr) (n c : Nat) (W : World) : (method 521 293 (.slice a n c) "beacon/wire.writeTo").run Tryz.prog W = .ok (342, .slice a n c) W := by kernel_rfl
theorem c_sized (args:Array Value) (W:World):(callFunc 342 args).run Tryz.prog W=.ok (.enter 342 args) W:=by kernel_rfl
def sizedOut (fs:List Fd):Str:=hi (outs fs).length :: lo (outs fs).length :: outs fs
def fSized (g cap:Nat) (fs:List Fd):Fd:=⟨293,.slice (some ⟨g,0,none⟩) fs.length cap,342,sizedOut fs⟩
theorem set2 (l m:Str) (a b c d:UInt8):((l++a :: b :: m).set l.length c).set (l.length+1) d=l++c :: d :: m:=by
 induction l with
 | nil=>rfl
 | cons x t ih=>simp
theorem sized_w (mb base g cap:Nat) (vp:Value) (I:World→Prop) (fs:List Fd) (hst:Stable mb base I) (hI : ∀ w,I w→FdsAt mb w g fs) (hok : ∀ f∈fs,f.OkI mb base vp I) (hn:fs.length≤cap) (hc:fs.length≤1000000) :
  WrI mb base vp I 342 (.slice (some ⟨g,0,none⟩) fs.length cap) (sizedOut fs):=by
 intro vb l w hIw hm ho hbs hl
 have HM:=aH hm
 have HO:=aH ho
 have HIW:=aH hIw
 have HST:=aH hst
 have HI:=aH hI
 have HOK:=aH hok
 have hlt:=hm.lt
 have hl2:l.length+(outs fs).length+2≤60000:=by simp [sizedOut] at hl; omega
 have HL:=aH hl2
 clear hm ho hIw hst hI hok hl
 go_enter Tryz.func342,Tryz.ntmps342
 go_wp2_with fail
 have hnew:=World.alloc_heap_new w (.cells #[.iface 284 (.int .u16 0)] 297)
 refine (put_any mb base w.heap.size 1 [fShort 0] vb vp l _ ((Below.heap_alloc _ _ _ hlt).trans (aU HM)) ((aU HO).alloc _) (by simp; omega) ?_ (by simp) (by omega) (.inr ?_) ?_ (by simp) (by simp) ?_).mono ?_
 ·intro f hf
  simp at hf
  subst hf; exact short_ok _ (by omega)
 ·intro cur h
  rw [hnew] at h
  simp at h
 ·intro j hj
  match j,hj with
  | 0,_=>unfold World.cell?; rw [hnew]; rfl
  | j+1,hj=>simp at hj
 ·simp [outs,fShort]; omega
 rintro e w2 ⟨rfl,⟨vb2,h1,h2⟩,h3⟩
 have T2:Hid (TF mb base w w2):=(TF.of_below ((Below.refl _ _).alloc (Nat.le_refl _) _)).trans h3
 have HM2:=aH h1
 have HO2:Hid (OwnB w2 base vb2 (l++[0,0])):=h2
 clear h1 h2 h3 hnew HM HO
 obtain ⟨g2,cap2,cur2,rfl,hb2,hcur2,hc2,_⟩:=own_at (aU HO2) (by simp)
 have c2:=(aU HM2).cells.1
 have hs2:=(aU T2).size
 rw [List.length_append] at c2
 simp only [List.length_cons,List.length_nil] at c2
 have HP:=aH (put_I mb base g cap I fs _ vp (l++[0,0]) w2 (aU HST w w2 (aU HIW) (aU T2)) (aU HST) (aU HM2) (aU HO2) (by omega) (aU HOK) (aU HI _ (aU HST w w2 (aU HIW) (aU T2))).1 (aU HI _ (aU HST w w2 (aU HIW) (aU T2))).2.1 (.inr (aU HI _ (aU HST w w2 (aU HIW) (aU T2))).2.2.1) (aU HI _ (aU HST w w2 (aU HIW) (aU T2))).2.2.2 hn hc (by rw [List.length_append]; simp; omega))
 clear hcur2 hb2
 go_wp2_with fail
 refine (aU HP).mono ?_
 rintro e w3 ⟨rfl,⟨vb3,h1,h2⟩,h3⟩
 have T3:Hid (TF mb base w w3):=(aU T2).trans h3
 have HM3:=aH h1
 have HO3:=aH h2
 clear h1 h2 h3 HP c2
 obtain ⟨g3,cap3,cur3,rfl,hb3,hcur3,hc3,hm3⟩:=own_at (aU HO3) (by simp)
 have HC3:=aH hcur3
 have c3:=(aU HM3).cells.1
 have hgm:mb≠g3:=fun e=>by
  have:=aU HM3
  rw [MsgAt,e,hcur3] at this
  simp at this
 have hlen3:(l++[0,0]++outs fs).length=l.length+2+(outs fs).length:=by simp; omega
 rw [hlen3] at c3 hc3
 have k0:w3.frozen? ⟨g3,l.length,none⟩=false:=by simp [World.frozen?,hcur3]
 have k1 : ∀ u,(w3.setCell ⟨g3,l.length,none⟩ u).frozen? ⟨g3,l.length+1,none⟩=false:=fun u=>by
  simp [World.frozen?,World.setCell,Array.getElem?_modify,hcur3]
 have hx0:=World.ownsRow.cellAt (aU HO3) l.length (by simp)
 have hx1:=World.ownsRow.cellAt (aU HO3) (l.length+1) (by simp)
 simp at hx0 hx1
 clear hcur3 hlen3
 generalize hL:(outs fs).length=L at *
 have e1:(l.length:Int)+2+(L:Int) - ((l.length:Int)+2)=(L:Int):=by omega
 go_wp2_with fail
 go_region
 have eh:(L:Int)/256=((hi L).toNat:Int):=by unfold hi; rw [UInt8.toNat_ofNat']; omega
 have el:(L:Int)%256=((lo L).toNat:Int):=by unfold lo; rw [UInt8.toNat_ofNat']; omega
 rw [eh,el]
 have O4:=own_setB (own_setB (aU HO3) l.length (hi L) (by simp)) (l.length+1) (lo L) (by simp)
 rw [List.append_assoc l,show ([0,0]++outs fs:Str)=0 :: 0 :: outs fs from rfl,set2] at O4
 rw [show hi L :: lo L :: outs fs=sizedOut fs by rw [sizedOut,hL]] at O4
 have M4:=(aU HM3).kept (w':=((w3.setCell ⟨g3,l.length,none⟩ (.int .u8 (hi L).toNat)).setCell ⟨g3,l.length+1,none⟩ (.int .u8 (lo L).toNat))) ((Below.heap_setCell _ _ _ _ hgm).trans (Below.heap_setCell _ _ _ _ hgm))
 have T4:=tf_set (tf_set (aU T3) l.length (.int .u8 (hi L).toNat) hb3 (aU HC3)) (l.length+1) (.int .u8 (lo L).toNat) hb3 (cur:=cur3.setIfInBounds l.length (.int .u8 (hi L).toNat)) (by simp only [World.setCell]; rw [Array.getElem?_modify,if_pos rfl,aU HC3]; rfl)
 rw [List.append_assoc l,show ([0,0]++outs fs:Str)=0 :: 0 :: outs fs from rfl] at M4
 have HF:=aH (And.intro O4 (And.intro M4 T4))
 clear O4 M4 T4 eh el
 generalize ((w3.setCell ⟨g3,l.length,none⟩ (.int .u8 (hi L).toNat)).setCell ⟨g3,l.length+1,none⟩ (.int .u8 (lo L).toNat))=w4 at *
 go_wp2_with fail
 refine bodyPost_end (v:=.tuple #[]) (by simp [results,Tryz.results342]) rfl ?_
 obtain ⟨h1,h2,h3⟩:=aU HF
 exact ⟨rfl,⟨_,h2.kept rfl,own_below h1 (Below.refl _ _).drew⟩,h3.trans (TF.of_below (Below.refl _ _).drew)⟩
end Wp
def OwnF (w:World) (base:Nat) (v:Value) (fs:List Fd):Prop:=w.ownsRow base 297 1 v fs.length (fs.map fun f=>.iface f.t f.x)
namespace Wq
open Ka Wa Wb Wc Wd We Wf Wg Wh Wi Wj Wk Wl Wm Wn Wo Wp Re
theorem infoF:(Tryz.prog.info? 297).map (fun i=>(i.zero,i.size,i.bytes))=some (some .nilIface,1,16):=by kernel_rfl
theorem underZ:Tryz.prog.underlying 293=some (.slice 297):=by kernel_rfl
theorem below_bytes (w:World) (t:TypeId) (s:ByteArray):Below w.heap.size w (Lib.bytesWorld w t s):=Go.Joins.below_bytesWorld _ _ _ _ (Nat.le_refl _)
theorem number_ok (s:ByteArray) (u:Nat) (w:World) (hs:s.size≤3000) (h:Lib.parseUintB 64 s.data.toList=.ok u) :
  Calls Tryz.prog 280 #[.string s] w fun e w'=>e=.returned (.int .u64 (u:Int))∧Below w.heap.size w w':=by
 have HC:=aH (Tryz.strconv_ParseUint_10_at64_ok s (by omega) u h w)
 clear h
 go_enter Tryz.func280,Tryz.ntmps280
 go_wp2_with fail
 refine (aU HC).mono ?_
 rintro e w1 ⟨rfl,hw1⟩
 have hb:Below w.heap.size w w1:=by
  rcases hw1 with rfl | rfl
  ·exact Below.refl _ _
  ·exact below_bytes _ _ _
 clear hw1
 go_wp2_with fail
 go_ret
 exact ⟨rfl,hb⟩
def AddrOk (d:Str) (us:List Nat):Prop:=(Sp.spl 46 d).map (Lib.parseUintB 64)=us.map .ok
def addrFs (us:List Nat):List Fd:=us.map fun u=>fOctet (UInt8.ofNat u)
theorem addressOf_any (d:Str) (us:List Nat) (w:World) (hg:G w) (hd:d.length≤3000) (hu:AddrOk d us) :
  Calls Tryz.prog 281 #[.string (B d)] w fun e w'=>(∃ v,e=.returned v∧OwnF w' w.heap.size v (addrFs us))∧Below w.heap.size w w':=by
 obtain ⟨i0,hi,hz0,hz1,hz2⟩:=info_parts infoF
 have hat:=strsAt_alloc w (Sp.pieces 46 (B d))
 have hcall:=split_any (B d) 46 w hg (by rw [size_B]; omega)
 have hb:Below w.heap.size w (w.alloc (.cells ((Sp.pieces 46 (B d)).map Value.string).toArray 9)):=(Below.refl _ _).alloc (Nat.le_refl _) _
 have hps:Hid (∀ x∈Sp.pieces 46 (B d),x.size≤3000):=fun x hx=>by
  have:=Sp.piece_size 46 (B d) x hx
  rw [size_B] at this; omega
 have hpu:Hid ((Sp.pieces 46 (B d)).map (fun x=>Lib.parseUintB 64 x.data.toList)=us.map .ok):=by
  have:=Sp.pieces_data 46 (B d)
  rw [data_B] at this
  unfold AddrOk at hu
  rw [← this,List.map_map] at hu
  exact hu
 have hlen:(Sp.pieces 46 (B d)).length=us.length:=by
  have:=congrArg List.length (aU hpu)
  simpa using this
 have hle:us.length≤3001:=by
  have:=Sp.spl_len_le 46 (B d).data.toList
  rw [← Sp.pieces_data,List.length_map,data_B] at this
  omega
 generalize Sp.pieces 46 (B d)=L at *
 generalize w.alloc (.cells (L.map Value.string).toArray 9)=W at *
 have HC:=aH hcall
 have HB:=aH hb
 have hWs:=hb.size
 rw [hlen] at HC
 clear hcall hb
 obtain ⟨hsz,hcell⟩:=hat
 have HL:=aH hcell
 have HLEN:=aH hlen
 clear hcell hlen hu hg
 go_enter Tryz.func281,Tryz.ntmps281
 go_wp2_with (go_at_call 97; refine (aU HC).mono ?_; rintro e W ⟨rfl,rfl⟩)
 go_loopw [9,3] (fun i v wr=>∃ (k:Nat) (a:Option Addr) (n c:Nat),i=.int .i64 k∧v=.slice a n c∧k≤us.length∧OwnF wr W.heap.size (.slice a n c) (addrFs (us.take k))∧Below W.heap.size W wr) (fun i _ _=>us.length - (intOf i).toNat)
 case atStart=>exact ⟨0,none,0,0,rfl,rfl,Nat.zero_le _,World.ownsRow_nil _ _ _ _,Below.refl _ _⟩
 case round =>
  obtain ⟨k,a,n,c,rfl,rfl,hk,hof,hbr⟩:=hrel
  have HOF:=aH hof
  have HBR:=aH hbr
  have hsr:=hbr.size
  clear hof
  by_cases hlt:k<us.length
  ·have hkL:k<L.length:=by rw [aU HLEN]; exact hlt
   have hck:=(hbr.cell (p:=⟨w.heap.size,0+k,none⟩) hsz).trans ((aU HL) k hkL)
   rw [Nat.zero_add] at hck
   have hkI:(k:Int)<(us.length:Int):=by omega
   have hpk:Lib.parseUintB 64 L[k].data.toList=.ok us[k]:=by
    have:=congrArg (fun l:List _=>l[k]?) (aU hpu)
    simpa [hkL,hlt] using this
   have HN:=aH (number_ok L[k] us[k] wr (aU hps L[k] (List.getElem_mem hkL)) hpk)
   have HT:Hid (addrFs (us.take (k+1))=addrFs (us.take k)++[fOctet (UInt8.ofNat us[k])]):=by
    rw [Hid,addrFs,List.take_succ_eq_append_getElem hlt,List.map_append]; rfl
   have hwr:(us[k]:Int)%256=((UInt8.ofNat us[k]).toNat:Int):=by
    rw [UInt8.toNat_ofNat']; omega
   have HWR:=aH hwr
   have hfl:(addrFs (us.take k)).length=k:=by simp [addrFs]; omega
   clear hpk hbr hwr
   generalize L[k]=x at *
   generalize us[k]=u at *
   go_wp2_with fail
   refine (aU HN).mono ?_
   rintro e w2 ⟨rfl,hb2⟩
   have HO2:Hid (OwnF w2 W.heap.size (.slice a n c) (addrFs (us.take k))):=own_below (aU HOF) hb2
   have hs2:=hb2.size
   have HB2:=aH ((aU HBR).trans (hb2.mono hsr))
   clear hb2
   go_wp2_with (at_builtin; go_loud (refine wpList_append_own _ rfl (.tmp 13) (.tmp 18) 293 rfl W.heap.size 297 i0 .nilIface 1 16 underZ hi hz0 hz1 hz2 rfl (by decide) _ (addrFs (us.take k)).length _ rfl ((aU HO2).alloc _) ⟨w2.heap.size,0,none⟩ 1 1 [.iface 292 (.int .u8 ((u:Int)%256))] rfl rfl ?c1 ?c2 ?c3 ?c4 ?c5 ?_))
   case c1 =>
    intro j u' hj
    match j,hj with
    | 0,hj=>simp at hj; subst hj; simp [Addr.add]
    | n+1,hj=>simp at hj
   case c2=>intro u' hu'; simp at hu'; subst hu'; rfl
   case c3=>unfold maxLen; omega
   case c4=>omega
   case c5=>simp; omega
   intro v' w3 hown' hgrow _
   obtain ⟨va,vn,vc,rfl⟩:=own_slice hown'
   have HO3:Hid (OwnF w3 W.heap.size (.slice va vn vc) (addrFs (us.take (k+1)))):=by
    unfold Hid OwnF
    rw [aU HT,List.length_append,List.map_append,hfl]
    rw [aU HWR] at hown'
    exact hown'
   have HB3:Hid (Below W.heap.size W w3):=((aU HB2).alloc (by omega) _).grown hgrow (by simp; omega) (fun k' hk'=>((aU HO2).lt k' hk').1)
   clear hown' hgrow
   go_wp2_with fail
   exact ⟨⟨k+1,_,_,_,by go_num,rfl,by omega,aU HO3,aU HB3⟩,by simp [intOf]; omega⟩
  ·have hkl:k=us.length:=by omega
   subst hkl
   have HO2:=aU HOF
   rw [List.take_length] at HO2
   have HO3:=aH HO2
   clear HO2
   go_wp2
   go_ret
   exact ⟨⟨_,rfl,own_base (aU HO3) (by omega)⟩,(aU HB).trans ((aU HBR).mono hWs)⟩
theorem dataOf_A (r:Rec) (us:List Nat) (w:World) (hg:G w) (ht:r.type=1) (hd:r.data.length≤3000) (hu:AddrOk r.data us) :
  Calls Tryz.prog 254 #[.agg #[.string (B r.owner),.int .i64 r.ttl,.int .i64 r.type,.string (B r.data)]] w fun e w'=>(∃ v,e=.returned v∧OwnF w' w.heap.size v (addrFs us))∧Below w.heap.size w w':=by
 have hb0:Below w.heap.size w (w.alloc (.cells #[.string (B r.owner),.int .i64 r.ttl,.int .i64 r.type,.string (B r.data)] 47)):=(Below.refl _ _).alloc (Nat.le_refl _) _
 have hs0:=hb0.size
 have HC:=aH (split_any (B r.data) 32 _ (hg.below hb0) (by rw [size_B]; omega))
 have hb1:Below w.heap.size w ((w.alloc (.cells #[.string (B r.owner),.int .i64 r.ttl,.int .i64 r.type,.string (B r.data)] 47)).alloc (.cells ((Sp.pieces 32 (B r.data)).map Value.string).toArray 9)):=hb0.alloc (by simp) _
 have HA:=aH (addressOf_any r.data us _ (hg.below hb1) hd hu)
 rw [ht] at *
 clear hg ht hu
 generalize Sp.pieces 32 (B r.data)=L at *
 have HB1:=aH hb1
 clear hb1 hb0 hs0
 go_enter Tryz.func254,Tryz.ntmps254
 go_wp2_with fail
 refine (aU HC).mono ?_
 rintro e w1 ⟨rfl,rfl⟩
 go_wp2_with fail
 refine (aU HA).mono ?_
 rintro e w2 ⟨⟨v,rfl,hv⟩,hb2⟩
 have HV:=aH hv
 obtain ⟨va,vn,vc,rfl⟩:=own_slice hv
 clear hv
 have hs1:=(aU HB1).size
 go_wp2_with fail
 go_ret
 exact ⟨⟨_,rfl,own_base (aU HV) hs1⟩,(aU HB1).trans (hb2.mono hs1)⟩
end Wq
end Go.Proofs.YtkkpahmoljiepaaGreatDoor

namespace Go.Proofs.YtkkpahmoljiepaaGreatDoor
open Go.RowKit
namespace It
variable {P:Program} {α:Type}
theorem rangeT {g:Operand} {ps:Array Tmp} {assign body:Code} {Q:Exit→Act→World→Prop} {a:Act} {w:World}
  {gf:Nat} {lb:Array Value} (hg:a.eval g=.func (.func gf) #[] lb) (eg : ∀ args w,(callFunc gf args).run P w=.ok (.enter gf args) w)
  {encs:α→Array Value} {xs:List α} {St Kp Kx:World→World→Prop} (hps : ∀ x,(encs x).size=ps.size)
  (hseq : ∀ r,Seq P gf lb encs xs St Kp Kx ((w.alloc (.deferred (some []))).alloc (.loop r)))
  (I:Nat→World→Prop) (Ix:Code→World→Prop)
  (hSt : ∀ A B,w.heap.size+2≤A.heap.size→St A B→Loops w.heap.size A B)
  (hI : ∀ i A B,I i A→St A B→I i B) (hIx : ∀ c A B,Ix c A→St A B→Ix c B)
  (hIp : ∀ i A r o,I i A→A.heap[w.heap.size+1]? = some (.loop r)→I i (A.putObj (w.heap.size+1) o))
  (hIxp : ∀ c A r o,Ix c A→A.heap[w.heap.size+1]? = some (.loop r)→Ix c (A.putObj (w.heap.size+1) o))
  (h0 : ∀ r,I 0 ((w.alloc (.deferred (some []))).alloc (.loop r)))
  (Kb:World→World→Prop)
  (hKp : ∀ W r r' r'' Wc,W.heap[w.heap.size+1]? = some (.loop r)→Kb (W.putObj (w.heap.size+1) (.loop r')) Wc→Loops w.heap.size (W.putObj (w.heap.size+1) (.loop r')) Wc→Kp W (Wc.putObj (w.heap.size+1) (.loop r'')))
  (Kbx:World→World→Prop)
  (hKx : ∀ W r r' r'' Wc,W.heap[w.heap.size+1]? = some (.loop r)→Kbx (W.putObj (w.heap.size+1) (.loop r')) Wc→Loops w.heap.size (W.putObj (w.heap.size+1) (.loop r')) Wc→Kx W (Wc.putObj (w.heap.size+1) (.loop r'')))
  (hround : ∀ (l i:Nat) (x:α) (V W:World),xs[i]? = some x→I i W→w.heap.size+2≤W.heap.size→W.heap[w.heap.size]? = some (.deferred (some []))→(∃ r,W.heap[w.heap.size+1]? = some (.loop r)) →
   assign.wpIn (Fence.wide.inRound l) 0 P (Exit.then (fun a₁ V'=>V'=V∧body.wpIn (Fence.wide.inRound l) 0 P (post w.heap.size Kb Kbx (I (i+1)) Ix W) a₁ W) (fun _ _ _=>False)) { tmps:=(ps.zip (encs x)).foldl (fun t (p,v)=>t.setIfInBounds p v) a.tmps,defers:=[] } V)
  (hdone : ∀ W,I xs.length W→W.heap[w.heap.size]? = some (.deferred (some []))→w.heap.size+2≤W.heap.size→Q .normal { a with defers:={ target:=.collected w.heap.size,args:=#[] } :: a.defers } W)
  (hstop : ∀ c W,Ix c W→W.heap[w.heap.size]? = some (.deferred (some []))→w.heap.size+2≤W.heap.size→c.wpIn Fence.wide 0 P Q { a with defers:={ target:=.collected w.heap.size,args:=#[] } :: a.defers } W) :
  (Code.rangeFunc g ps assign body).wpIn Fence.wide 0 P Q a w:=by
 refine wpIn_rangeFunc fun fn hfn=>?_
 obtain ⟨D,hD⟩ : ∃ D,D=w.heap.size:=⟨_,rfl⟩
 obtain ⟨rec,hrec⟩ : ∃ rec:LoopState→Option Code→Loop,rec=fun st pe=>{ state:=st,pending:=pe,fn,tmps:=a.tmps,params:=ps,assign,body,defers:=w.heap.size }:=⟨_,rfl⟩
 have henter:=run_enterLoop_outer (P:=P) (w:=w) fn a.tmps ps assign body
 refine ⟨w.heap.size+1,[{ target:=.collected w.heap.size,args:=#[] }],(w.alloc (.deferred (some []))).alloc (.loop (rec .ready none)),
  { target:=.fn (.func gf) lb,args:=#[.func (.yield (w.heap.size+1)) #[] #[]] },(w.alloc (.deferred (some []))).alloc (.loop (rec .ready none)),gf,
  #[.func (.yield (w.heap.size+1)) #[] #[]]++lb,(w.alloc (.deferred (some []))).alloc (.loop (rec .ready none)),?_,?_,fun _ _=>trivial,?_,fun h=>by simp [Fence.wide] at h,?_⟩
 ·rw [hrec]; exact henter
 ·simp only [resolve,hg]
  simp [go_sem]
 ·simp [invoke,go_sem,eg]
 ·obtain ⟨W1,hW1⟩ : ∃ W1,(w.alloc (.deferred (some []))).alloc (.loop (rec .ready none))=W1:=⟨_,rfl⟩
  have hl1:W1.heap[w.heap.size+1]? = some (.loop (rec .ready none)):=by
   rw [← hW1]; have:=World.alloc_heap_new (w.alloc (.deferred (some []))) (.loop (rec .ready none)); rwa [World.size_alloc] at this
  have hd1:W1.heap[w.heap.size]? = some (.deferred (some [])):=by
   rw [← hW1]; exact (Below.heap_alloc _ _ _ (by simp)).trans (World.alloc_heap_new w _)
  have hsz : ∀ W:World,(∃ o,W.heap[w.heap.size+1]? = some o)→w.heap.size+2≤W.heap.size:=fun W ⟨o,h⟩=>by
   have:=(Array.getElem?_eq_some_iff.1 h).1; omega
  have hs:=hseq (rec .ready none) (w.heap.size+1)
   (fun i W=>I i W∧W.heap[w.heap.size+1]? = some (.loop (rec .ready none))∧W.heap[w.heap.size]? = some (.deferred (some [])))
   (fun W=>∃ c,Ix c W∧W.heap[w.heap.size+1]? = some (.loop (rec .done (some c)))∧W.heap[w.heap.size]? = some (.deferred (some [])))
   (fun i A B hA hst=>by
    obtain ⟨h1,h2,h3⟩:=hA
    have hL:=hSt A B (hsz A ⟨_,h2⟩) hst
    exact ⟨hI i A B h1 hst,hL.2.2.trans h2,hL.2.1.trans h3⟩)
   (fun A B hA hst=>by
    obtain ⟨c,h1,h2,h3⟩:=hA
    have hL:=hSt A B (hsz A ⟨_,h2⟩) hst
    exact ⟨c,hIx c A B h1 hst,hL.2.2.trans h2,hL.2.1.trans h3⟩)
   (fun i x W hx hj=>by
    obtain ⟨h1,h2,h3⟩:=hj
    have hy:=run_yield (P:=P) (args:=encs x) h2 (by rw [hrec]; exact hps x)
    rw [hrec] at hy
    have hlt:w.heap.size+1<W.heap.size:=(Array.getElem?_eq_some_iff.1 h2).1
    have e2:(W.putObj (w.heap.size+1) (.loop { rec .ready none with state:=.busy })).heap[w.heap.size+1]? = some (.loop { rec .ready none with state:=.busy }):=World.putObj_heap_same hlt
    have e3:(W.putObj (w.heap.size+1) (.loop { rec .ready none with state:=.busy })).heap[w.heap.size]? = some (.deferred (some [])):=(World.putObj_heap_other (by omega)).trans h3
    refine ⟨fn,_,assign,body,hy,roundIn_of_wpIn hfn (wpIn_mono (hround _ i x W (W.putObj (w.heap.size+1) (.loop { rec .ready none with state:=.busy })) hx (hIp i W _ _ h1 h2) (by rw [World.putObj_size]; omega) e3 ⟨_,e2⟩) ?_)⟩
    rintro e0 a0 V0 hp0
    have hn0:e0=.normal:=by cases e0 <;> first | rfl | exact hp0.elim
    subst hn0
    obtain ⟨hV0,hbd⟩:=hp0
    replace hV0:=hV0.symm
    subst hV0
    refine ⟨_,run_beginRound h2 (by rw [hrec]),wpIn_mono hbd ?_⟩
    have fin : ∀ (jump:Option Code) (W3:World),Loops w.heap.size (W.putObj (w.heap.size+1) (.loop { rec .ready none with state:=.busy })) W3 →
      (Instr.endRound (w.heap.size+1) jump).run P W3=.ok (.bool jump.isNone) (W3.putObj (w.heap.size+1) (.loop (rec (if jump.isNone then .ready else .done) jump))) ∧
      W3.heap[w.heap.size+1]? = some (.loop { rec .ready none with state:=.busy }) ∧
      (W3.putObj (w.heap.size+1) (.loop (rec (if jump.isNone then .ready else .done) jump))).heap[w.heap.size+1]? = some (.loop (rec (if jump.isNone then .ready else .done) jump)) ∧
      (W3.putObj (w.heap.size+1) (.loop (rec (if jump.isNone then .ready else .done) jump))).heap[w.heap.size]? = some (.deferred (some [])):=fun jump W3 hL=>by
     have l3:=hL.2.2.trans e2
     have hr:=run_endRound (P:=P) jump l3
     refine ⟨?_,l3,World.putObj_heap_same (Array.getElem?_eq_some_iff.1 l3).1,(World.putObj_heap_other (by omega)).trans (hL.2.1.trans e3)⟩
     rw [hr,hrec]
    rintro e a3 W3 hp
    cases e with
    | normal =>
     obtain ⟨hL,hk,hi⟩:=hp
     obtain ⟨f1,f2,f3,f4⟩:=fin none W3 hL
     exact ⟨_,_,f1,.inl ⟨rfl,⟨hIp _ _ _ _ hi f2,f3,f4⟩,hKp W _ _ _ W3 h2 hk hL⟩⟩
    | ret =>
     obtain ⟨hL,hk,hi⟩:=hp
     obtain ⟨f1,f2,f3,f4⟩:=fin (some .ret) W3 hL
     exact ⟨_,_,f1,.inr ⟨rfl,⟨.ret,hIxp _ _ _ _ hi f2,f3,f4⟩,hKx W _ _ _ W3 h2 hk hL⟩⟩
    | exit id =>
     obtain ⟨hL,hk,hi⟩:=hp
     obtain ⟨f1,f2,f3,f4⟩:=fin (some (.exit id)) W3 hL
     exact ⟨_,_,f1,.inr ⟨rfl,⟨.exit id,hIxp _ _ _ _ hi f2,f3,f4⟩,hKx W _ _ _ W3 h2 hk hL⟩⟩
    | goto t =>
     obtain ⟨hL,hk,hi⟩:=hp
     obtain ⟨f1,f2,f3,f4⟩:=fin (some (.goto t)) W3 hL
     exact ⟨_,_,f1,.inr ⟨rfl,⟨.goto t,hIxp _ _ _ _ hi f2,f3,f4⟩,hKx W _ _ _ W3 h2 hk hL⟩⟩
    | panic ch=>exact hp.elim
    | outgrown=>exact hp.elim)
   (by rw [hW1]; exact ⟨by rw [← hW1]; exact h0 _,hl1,hd1⟩)
  refine hs.mono ?_
  rintro e W2 ⟨⟨v,rfl⟩,⟨hi,hl,hk⟩ | ⟨c,hi,hl,hk⟩⟩
  ·have:=run_endLoop (P:=P) hl (by rw [hrec]; simp)
   exact ⟨none,_,by rw [this,hrec],hdone _ (hIp _ _ _ _ hi hl) ((World.putObj_heap_other (by omega)).trans hk) (by rw [World.putObj_size]; exact hsz _ ⟨_,hl⟩)⟩
  ·have:=run_endLoop (P:=P) hl (by rw [hrec]; simp)
   exact ⟨some c,_,by rw [this,hrec],hstop c _ (hIxp _ _ _ _ hi hl) ((World.putObj_heap_other (by omega)).trans hk) (by rw [World.putObj_size]; exact hsz _ ⟨_,hl⟩)⟩
theorem rangeE {g:Operand} {ps:Array Tmp} {assign body:Code} {Q:Exit→Act→World→Prop} {a:Act} {w:World}
  {gf:Nat} {lb:Array Value} (hg:a.eval g=.func (.func gf) #[] lb) (eg : ∀ args w,(callFunc gf args).run P w=.ok (.enter gf args) w)
  {encs:α→Array Value} {xs:List α} {St Kp Kx:World→World→Prop} (hps : ∀ x,(encs x).size=ps.size)
  (hseq : ∀ r,Seq P gf lb encs xs St Kp Kx ((w.alloc (.deferred (some []))).alloc (.loop r)))
  (ks:List Nat) (hks : ∀ k∈ks,k<w.heap.size)
  (hSt : ∀ A B,St A B→Below A.heap.size A B)
  (hKp : ∀ A B,(∀ k∈ks,B.heap[k]? = A.heap[k]?)→A.heap.size≤B.heap.size→Kp A B)
  (hKx : ∀ A B,Kx A B)
  (I:Nat→World→Prop) (Ix:Code→World→Prop)
  (hI : ∀ i A B,I i A→w.heap.size≤A.heap.size→Keeps (w.heap.size+1) A B→I i B) (hIx : ∀ c A B,Ix c A→w.heap.size+2≤A.heap.size→Keeps (w.heap.size+1) A B→Ix c B)
  (h0:I 0 w)
  (hround : ∀ (l i:Nat) (x:α) (V W:World),xs[i]? = some x→I i W→w.heap.size+2≤W.heap.size→W.heap[w.heap.size]? = some (.deferred (some []))→(∃ r,W.heap[w.heap.size+1]? = some (.loop r)) →
   assign.wpIn (Fence.wide.inRound l) 0 P (Exit.then (fun a₁ V'=>V'=V∧body.wpIn (Fence.wide.inRound l) 0 P (postD w.heap.size ks (I (i+1)) Ix W) a₁ W) (fun _ _ _=>False)) { tmps:=(ps.zip (encs x)).foldl (fun t (p,v)=>t.setIfInBounds p v) a.tmps,defers:=[] } V)
  (hdone : ∀ W,I xs.length W→W.heap[w.heap.size]? = some (.deferred (some []))→w.heap.size+2≤W.heap.size→Q .normal { a with defers:={ target:=.collected w.heap.size,args:=#[] } :: a.defers } W)
  (hstop : ∀ c W,Ix c W→W.heap[w.heap.size]? = some (.deferred (some []))→w.heap.size+2≤W.heap.size→c.wpIn Fence.wide 0 P Q { a with defers:={ target:=.collected w.heap.size,args:=#[] } :: a.defers } W) :
  (Code.rangeFunc g ps assign body).wpIn Fence.wide 0 P Q a w:=by
 have hput : ∀ (A:World) (r:Loop) (o:Obj),A.heap[w.heap.size+1]? = some (.loop r)→Keeps (w.heap.size+1) A (A.putObj (w.heap.size+1) o):=fun A r o hrec=>Keeps.put A _ o
 refine rangeT (Kb:=fun A B=>∀ k∈ks,B.heap[k]? = A.heap[k]?) (Kbx:=fun _ _=>True) hg eg hps hseq
  (fun i W=>I i W∧w.heap.size+2≤W.heap.size) (fun c W=>Ix c W∧w.heap.size+2≤W.heap.size) ?_ ?_ ?_ ?_ ?_ ?_ ?_ ?_ ?_ (fun W h=>hdone W h.1) (fun c W h=>hstop c W h.1)
 ·intro A B hA hst
  have:=hSt A B hst
  exact ⟨this.size,this.block _ (by omega),this.block _ (by omega)⟩
 ·intro i A B hA hst
  have:=hSt A B hst
  exact ⟨hI i A B hA.1 (by omega) (Keeps.of_below this),Nat.le_trans hA.2 this.size⟩
 ·intro c A B hA hst
  have:=hSt A B hst
  exact ⟨hIx c A B hA.1 hA.2 (Keeps.of_below this),Nat.le_trans hA.2 this.size⟩
 ·exact fun i A r o h hrec=>⟨hI i A _ h.1 (by omega) (hput A r o hrec),by rw [World.putObj_size]; exact h.2⟩
 ·exact fun c A r o h hrec=>⟨hIx c A _ h.1 h.2 (hput A r o hrec),by rw [World.putObj_size]; exact h.2⟩
 ·exact fun r=>⟨hI 0 w _ h0 (Nat.le_refl _) (Keeps.of_below (((Below.refl _ _).alloc (Nat.le_refl _) _).alloc (by simp) _)),by simp⟩
 ·intro W r r' r'' Wc hrec hk hL
  refine hKp _ _ (fun k hk'=>?_) ?_
  ·have:=hks k hk'
   rw [World.putObj_heap_other (by omega),hk k hk',World.putObj_heap_other (by omega)]
  ·have:=hL.1
   rw [World.putObj_size] at this ⊢
   exact this
 ·intro W r r' r'' Wc hrec hk hL
  exact hKx _ _
 ·intro l i x V W hx hi hsz hd1 hd2
  refine wpIn_mono (hround l i x V W hx hi.1 hsz hd1 hd2) ?_
  rintro e0 a0 V0 hp0
  have hn0:e0=.normal:=by cases e0 <;> first | rfl | exact hp0.elim
  subst hn0
  obtain ⟨hV0,hbd⟩:=hp0
  refine ⟨hV0,wpIn_mono hbd ?_⟩
  rintro e a3 W3 hp
  cases e with
  | normal=>exact ⟨hp.1,hp.2.1,hp.2.2,Nat.le_trans hsz hp.1.1⟩
  | ret=>exact ⟨hp.1,trivial,hp.2,Nat.le_trans hsz hp.1.1⟩
  | exit id=>exact ⟨hp.1,trivial,hp.2,Nat.le_trans hsz hp.1.1⟩
  | goto t=>exact ⟨hp.1,trivial,hp.2,Nat.le_trans hsz hp.1.1⟩
  | panic ch=>exact hp.elim
  | outgrown=>exact hp.elim
theorem Box.kept {W W':World} {k:Nat} {v:Value} {t:TypeId} (h:Box W k v t) (e:W'.heap[k]? = W.heap[k]?):Box W' k v t:=e.trans h
end It
end Go.Proofs.YtkkpahmoljiepaaGreatDoor
