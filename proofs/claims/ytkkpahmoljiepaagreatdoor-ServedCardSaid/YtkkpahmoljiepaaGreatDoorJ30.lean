/- Contract: wire.Reply to the question of the statement Told: the walk. -/
import Derived.Test.YtkkpahmoljiepaaGreatDoorJ29
import Derived.Test.YtkkpahmoljiepaaGreatDoorJ25
import Derived.Test.YtkkpahmoljiepaaGreatDoorJ26
set_option linter.unusedSimpArgs false
set_option linter.unusedVariables false
set_option maxRecDepth 1000000
set_option maxHeartbeats 12800000
namespace Go.Proofs.YtkkpahmoljiepaaGreatDoor
open Go.RowKit
open Pu (Str aH aU)
namespace Xc
open Ka Kd Rf Rg Ia Iow Ie Zb Zc Za La Lb Lc Lg Lj Wa Wb Wc Wd We Wf Wg Wh Wi Wj Wk Wl Wm Wn Wo Wp Wq Ws Wt Wu Wv Wx Wy Wz Xa Xb Va Vb Vd Re
open Ta (zz)
theorem reply_told (zb g cap i:Nat) (d:UInt8) (hd:IsK d) (t0 t1:Str) (l0:t0.length=2) (l1:t1.length=2) (f0:foldL t0 = [104,d]) (f1:foldL t1 = [122,122]) (hi':i<65536) (w:World) (hz:aN w zb zz g 0 cap recs) (hg:G w) :
  Calls Tryz.prog 27 #[.pointer (some ⟨zb,0,none⟩),.string (B (asks i (quest t0 t1 1)))] w fun e w'=>e=.returned (.string (B (tellS i (quest t0 t1 1) d)))∧Below w.heap.size w w':=by
 obtain ⟨qs,hqs⟩ : ∃ qs,qs=quest t0 t1 1:=⟨_,rfl⟩
 have hql:qs.length=11:=by rw [hqs]; obtain ⟨a,b,rfl⟩:=two_of l0; obtain ⟨c,e,rfl⟩:=two_of l1; rfl
 have hal:(asks i qs).length=23:=by simp [asks,hql]
 have HRH:=aH (readHeader_any (asks i qs) w (by omega))
 rw [hdr_asks i qs hi'] at HRH
 have e1:labP ((asks i qs).drop 12) false=([t0,t1],[0,1,0,1],false):=by
  rw [show (asks i qs).drop 12=qs from rfl,hqs]
  obtain ⟨a,b,rfl⟩:=two_of l0
  obtain ⟨c,e,rfl⟩:=two_of l1
  exact lab2 a b c e
 have HRQ:=aH (fun W=>readQuery_plain i 256 (asks i qs) W (by omega) (by omega) e1 sh1 sh2)
 rw [show (asks i qs).drop 12=qs from rfl,show (qs.take (qs.length - ([]:Str).length))=qs by simp,name2 f0 f1] at HRQ
 have HQA:=aH (fun W (hb:Below w.heap.size w W)=>qanswer_plain zb g 0 cap 1 zz (aJ d) qs i 256 1 0 0 0 recs W (hz.below hb) (hg.below hb) (plainK hd) (by decide) (by decide) (by decide))
 rw [rcK hd,ansK hd,authK hd,cutK hd] at HQA
 have HRP:=aH (fun W va vb (hg:G W) (ha:RV W va [recN d]) (hb:RV W vb [])=>by
  obtain ⟨ba,oa,La,Ra⟩:=rv_lies ha hg
  obtain ⟨bb,ob,Lb,Rb⟩:=rv_lies hb hg
  exact reply_plain i 34048 ba oa bb ob 256 1 0 0 0 1 0 qs (aJ d) va vb [recN d] [] pN (dfN d) W hg La Ra (by simp) Lb Rb (by simp) hi' (by omega) bitsT (by simp [aJ]) (by omega)
   (fun mb base vp h1 h2 r hr=>by simp at hr; subst hr; exact rr_ok hd mb base vp h1 h2) (by
    rw [List.flatMap_nil,List.flatMap_cons,List.flatMap_nil,List.append_nil,ro_eq hd]
    simp; omega))
 have HTE:=aH (tell_eq hd i qs)
 have HG:=aH hg
 rw [← hqs]
 have hs:(B (asks i qs)).size=23:=by rw [size_B]; exact hal
 have b1:bits .and .i64 256 32768=0:=by kernel_rfl
 have b2:bits .and .i64 256 30720=0:=by kernel_rfl
 unfold qVal at HRQ HQA HRP
 clear hz hg e1 hqs l0 l1 f0 f1 hal
 generalize asks i qs=m at *
 go_enter Tryz.func27,Tryz.ntmps27
 go_wp2_with fail
 refine (aU HRH).mono ?_
 rintro e w1 ⟨rfl,hb1⟩
 simp only [List.map_cons,List.map_nil]
 have hB1:=aH hb1
 have hs1:=hb1.size
 clear hb1
 go_wp2_with fail
 refine (aU HRQ _).mono ?_
 rintro e w2 ⟨rfl,hb2⟩
 have hB2:Below w.heap.size w w2:=((aU hB1).alloc hs1 _).trans (hb2.mono (by simp; omega))
 have HB2:=aH hB2
 have hs2:=hB2.size
 clear hb2 hB2 hB1 HRQ HRH
 go_wp2_with fail
 have hQ:QAt (w2.alloc (.cells #[.int .i64 i,.int .i64 256,.int .i64 1,.int .i64 0,.int .i64 0,.int .i64 0,.string (B qs),.string (B (aJ d)),.int .i64 1,.int .i64 1,.bool false,.int .i64 0,.int .i64 0] 137)) w2.heap.size i 256 1 0 0 0 qs (aJ d) 1 1 false 0 0:=World.alloc_heap_new w2 _
 have hBX:Below w.heap.size w (w2.alloc (.cells #[.int .i64 i,.int .i64 256,.int .i64 1,.int .i64 0,.int .i64 0,.int .i64 0,.string (B qs),.string (B (aJ d)),.int .i64 1,.int .i64 1,.bool false,.int .i64 0,.int .i64 0] 137)):=(aU HB2).alloc hs2 _
 clear HB2
 generalize (w2.alloc (.cells #[.int .i64 i,.int .i64 256,.int .i64 1,.int .i64 0,.int .i64 0,.int .i64 0,.string (B qs),.string (B (aJ d)),.int .i64 1,.int .i64 1,.bool false,.int .i64 0,.int .i64 0] 137))=X at *
 have kS : ∀ W W':World,Below W.heap.size W W'→(W.cell? ⟨w2.heap.size,0,none⟩=some (.int .i64 i)∧W.cell? ⟨w2.heap.size,1,none⟩=some (.int .i64 256)∧W.cell? ⟨w2.heap.size,2,none⟩=some (.int .i64 1)∧W.cell? ⟨w2.heap.size,3,none⟩=some (.int .i64 0)∧W.cell? ⟨w2.heap.size,4,none⟩=some (.int .i64 0)∧W.cell? ⟨w2.heap.size,5,none⟩=some (.int .i64 0)∧W.cell? ⟨w2.heap.size,6,none⟩=some (.string (B qs))∧W.cell? ⟨w2.heap.size,7,none⟩=some (.string (B (aJ d)))∧W.cell? ⟨w2.heap.size,8,none⟩=some (.int .i64 1)∧W.cell? ⟨w2.heap.size,9,none⟩=some (.int .i64 1)∧W.cell? ⟨w2.heap.size,10,none⟩=some (.bool false)∧W.cell? ⟨w2.heap.size,11,none⟩=some (.int .i64 0)∧W.cell? ⟨w2.heap.size,12,none⟩=some (.int .i64 0))→(W'.cell? ⟨w2.heap.size,0,none⟩=some (.int .i64 i)∧W'.cell? ⟨w2.heap.size,1,none⟩=some (.int .i64 256)∧W'.cell? ⟨w2.heap.size,2,none⟩=some (.int .i64 1)∧W'.cell? ⟨w2.heap.size,3,none⟩=some (.int .i64 0)∧W'.cell? ⟨w2.heap.size,4,none⟩=some (.int .i64 0)∧W'.cell? ⟨w2.heap.size,5,none⟩=some (.int .i64 0)∧W'.cell? ⟨w2.heap.size,6,none⟩=some (.string (B qs))∧W'.cell? ⟨w2.heap.size,7,none⟩=some (.string (B (aJ d)))∧W'.cell? ⟨w2.heap.size,8,none⟩=some (.int .i64 1)∧W'.cell? ⟨w2.heap.size,9,none⟩=some (.int .i64 1)∧W'.cell? ⟨w2.heap.size,10,none⟩=some (.bool false)∧W'.cell? ⟨w2.heap.size,11,none⟩=some (.int .i64 0)∧W'.cell? ⟨w2.heap.size,12,none⟩=some (.int .i64 0)):=fun W W' hb h=>by
  have kp : ∀ (a:Addr) (v:Value),W.cell? a=some v→W'.cell? a=some v:=fun a v h=>(hb.cell (World.block_lt_of_cell? W a h)).trans h
  obtain ⟨e0,e1,e2,e3,e4,e5,e6,e7,e8,e9,e10,e11,e12⟩:=h
  exact ⟨kp _ _ e0,kp _ _ e1,kp _ _ e2,kp _ _ e3,kp _ _ e4,kp _ _ e5,kp _ _ e6,kp _ _ e7,kp _ _ e8,kp _ _ e9,kp _ _ e10,kp _ _ e11,kp _ _ e12⟩
 have HQ2:Hid (∀ W,Below w.heap.size w W→(W.cell? ⟨w2.heap.size,0,none⟩=some (.int .i64 i)∧W.cell? ⟨w2.heap.size,1,none⟩=some (.int .i64 256)∧W.cell? ⟨w2.heap.size,2,none⟩=some (.int .i64 1)∧W.cell? ⟨w2.heap.size,3,none⟩=some (.int .i64 0)∧W.cell? ⟨w2.heap.size,4,none⟩=some (.int .i64 0)∧W.cell? ⟨w2.heap.size,5,none⟩=some (.int .i64 0)∧W.cell? ⟨w2.heap.size,6,none⟩=some (.string (B qs))∧W.cell? ⟨w2.heap.size,7,none⟩=some (.string (B (aJ d)))∧W.cell? ⟨w2.heap.size,8,none⟩=some (.int .i64 1)∧W.cell? ⟨w2.heap.size,9,none⟩=some (.int .i64 1)∧W.cell? ⟨w2.heap.size,10,none⟩=some (.bool false)∧W.cell? ⟨w2.heap.size,11,none⟩=some (.int .i64 0)∧W.cell? ⟨w2.heap.size,12,none⟩=some (.int .i64 0))→Calls Tryz.prog 74 #[(.agg #[.int .i64 i,.int .i64 256,.int .i64 1,.int .i64 0,.int .i64 0,.int .i64 0,.string (B qs),.string (B (aJ d)),.int .i64 1,.int .i64 1,.bool false,.int .i64 0,.int .i64 0]),.pointer (some ⟨zb,0,none⟩)] W fun e w' =>
   ∃ aa ca ab cb,e=.returned (.agg #[.int .i64 0,.bool true,.slice aa 1 ca,.slice ab 0 cb,.slice none 0 0])∧(w'.cell? ⟨w2.heap.size,0,none⟩=some (.int .i64 i)∧w'.cell? ⟨w2.heap.size,1,none⟩=some (.int .i64 256)∧w'.cell? ⟨w2.heap.size,2,none⟩=some (.int .i64 1)∧w'.cell? ⟨w2.heap.size,3,none⟩=some (.int .i64 0)∧w'.cell? ⟨w2.heap.size,4,none⟩=some (.int .i64 0)∧w'.cell? ⟨w2.heap.size,5,none⟩=some (.int .i64 0)∧w'.cell? ⟨w2.heap.size,6,none⟩=some (.string (B qs))∧w'.cell? ⟨w2.heap.size,7,none⟩=some (.string (B (aJ d)))∧w'.cell? ⟨w2.heap.size,8,none⟩=some (.int .i64 1)∧w'.cell? ⟨w2.heap.size,9,none⟩=some (.int .i64 1)∧w'.cell? ⟨w2.heap.size,10,none⟩=some (.bool false)∧w'.cell? ⟨w2.heap.size,11,none⟩=some (.int .i64 0)∧w'.cell? ⟨w2.heap.size,12,none⟩=some (.int .i64 0))∧Hid (Below w.heap.size w w'∧G w'∧RV w' (.slice aa 1 ca) [recN d]∧RV w' (.slice ab 0 cb) [])):=by
  intro W hb hS
  refine (aU HQA W hb).mono ?_
  rintro e w' ⟨⟨va,vb,rfl,ha,hv⟩,hb'⟩
  have hB':=hb.trans (hb'.mono hb.size)
  have ra:=ha.rv
  have rb:=hv.rv
  obtain ⟨aa,ca,rfl⟩:=ha.slice
  obtain ⟨ab,cb,rfl⟩:=hv.slice
  exact ⟨aa,ca,ab,cb,rfl,kS W w' hb' hS,hB',(aU HG).below hB',ra,rb⟩
 have HR2:Hid (∀ W aa ca ab cb,Hid (Below w.heap.size w W∧G W∧RV W (.slice aa 1 ca) [recN d]∧RV W (.slice ab 0 cb) [])→(W.cell? ⟨w2.heap.size,0,none⟩=some (.int .i64 i)∧W.cell? ⟨w2.heap.size,1,none⟩=some (.int .i64 256)∧W.cell? ⟨w2.heap.size,2,none⟩=some (.int .i64 1)∧W.cell? ⟨w2.heap.size,3,none⟩=some (.int .i64 0)∧W.cell? ⟨w2.heap.size,4,none⟩=some (.int .i64 0)∧W.cell? ⟨w2.heap.size,5,none⟩=some (.int .i64 0)∧W.cell? ⟨w2.heap.size,6,none⟩=some (.string (B qs))∧W.cell? ⟨w2.heap.size,7,none⟩=some (.string (B (aJ d)))∧W.cell? ⟨w2.heap.size,8,none⟩=some (.int .i64 1)∧W.cell? ⟨w2.heap.size,9,none⟩=some (.int .i64 1)∧W.cell? ⟨w2.heap.size,10,none⟩=some (.bool false)∧W.cell? ⟨w2.heap.size,11,none⟩=some (.int .i64 0)∧W.cell? ⟨w2.heap.size,12,none⟩=some (.int .i64 0))→Calls Tryz.prog 73 #[(.agg #[.int .i64 i,.int .i64 256,.int .i64 1,.int .i64 0,.int .i64 0,.int .i64 0,.string (B qs),.string (B (aJ d)),.int .i64 1,.int .i64 1,.bool false,.int .i64 0,.int .i64 0]),.agg #[.int .i64 0,.bool true,.slice aa 1 ca,.slice ab 0 cb,.slice none 0 0]] W fun e w' =>
   e=.returned (.string (B (tellS i qs d)))∧(w'.cell? ⟨w2.heap.size,0,none⟩=some (.int .i64 i)∧w'.cell? ⟨w2.heap.size,1,none⟩=some (.int .i64 256)∧w'.cell? ⟨w2.heap.size,2,none⟩=some (.int .i64 1)∧w'.cell? ⟨w2.heap.size,3,none⟩=some (.int .i64 0)∧w'.cell? ⟨w2.heap.size,4,none⟩=some (.int .i64 0)∧w'.cell? ⟨w2.heap.size,5,none⟩=some (.int .i64 0)∧w'.cell? ⟨w2.heap.size,6,none⟩=some (.string (B qs))∧w'.cell? ⟨w2.heap.size,7,none⟩=some (.string (B (aJ d)))∧w'.cell? ⟨w2.heap.size,8,none⟩=some (.int .i64 1)∧w'.cell? ⟨w2.heap.size,9,none⟩=some (.int .i64 1)∧w'.cell? ⟨w2.heap.size,10,none⟩=some (.bool false)∧w'.cell? ⟨w2.heap.size,11,none⟩=some (.int .i64 0)∧w'.cell? ⟨w2.heap.size,12,none⟩=some (.int .i64 0))∧Hid (Below w.heap.size w w')):=by
  intro W aa ca ab cb hB hS
  obtain ⟨hb,hgW,ra,rb⟩:=aU hB
  refine (aU HRP W _ _ hgW ra rb).mono ?_
  rintro e w' ⟨rfl,hb'⟩
  refine ⟨?_,kS W w' hb' hS,hb.trans (hb'.mono hb.size)⟩
  rw [← aU HTE]
  rfl
 have hS:X.drew.cell? ⟨w2.heap.size,0,none⟩=some (.int .i64 i)∧X.drew.cell? ⟨w2.heap.size,1,none⟩=some (.int .i64 256)∧X.drew.cell? ⟨w2.heap.size,2,none⟩=some (.int .i64 1)∧X.drew.cell? ⟨w2.heap.size,3,none⟩=some (.int .i64 0)∧X.drew.cell? ⟨w2.heap.size,4,none⟩=some (.int .i64 0)∧X.drew.cell? ⟨w2.heap.size,5,none⟩=some (.int .i64 0)∧X.drew.cell? ⟨w2.heap.size,6,none⟩=some (.string (B qs))∧X.drew.cell? ⟨w2.heap.size,7,none⟩=some (.string (B (aJ d)))∧X.drew.cell? ⟨w2.heap.size,8,none⟩=some (.int .i64 1)∧X.drew.cell? ⟨w2.heap.size,9,none⟩=some (.int .i64 1)∧X.drew.cell? ⟨w2.heap.size,10,none⟩=some (.bool false)∧X.drew.cell? ⟨w2.heap.size,11,none⟩=some (.int .i64 0)∧X.drew.cell? ⟨w2.heap.size,12,none⟩=some (.int .i64 0):=hQ.cells
 have hBD:Below w.heap.size w X.drew:=hBX.drew
 have HBD:=aH hBD
 clear hQ hBX hBD HQA HRP kS
 go_region_held (fun w'=>w'.cell? ⟨w2.heap.size,0,none⟩=some (.int .i64 i)∧w'.cell? ⟨w2.heap.size,1,none⟩=some (.int .i64 256)∧w'.cell? ⟨w2.heap.size,2,none⟩=some (.int .i64 1)∧w'.cell? ⟨w2.heap.size,3,none⟩=some (.int .i64 0)∧w'.cell? ⟨w2.heap.size,4,none⟩=some (.int .i64 0)∧w'.cell? ⟨w2.heap.size,5,none⟩=some (.int .i64 0)∧w'.cell? ⟨w2.heap.size,6,none⟩=some (.string (B qs))∧w'.cell? ⟨w2.heap.size,7,none⟩=some (.string (B (aJ d)))∧w'.cell? ⟨w2.heap.size,8,none⟩=some (.int .i64 1)∧w'.cell? ⟨w2.heap.size,9,none⟩=some (.int .i64 1)∧w'.cell? ⟨w2.heap.size,10,none⟩=some (.bool false)∧w'.cell? ⟨w2.heap.size,11,none⟩=some (.int .i64 0)∧w'.cell? ⟨w2.heap.size,12,none⟩=some (.int .i64 0)) (first | assumption | go_keep)
  (first
   | (go_at_call 74; go_loud (refine (aU HQ2 _ (aU HBD) ?_).mono ?_; assumption; rintro e w5 ⟨aa,ca,ab,cb,rfl,hS5,HB5⟩))
   | (go_at_call 73; go_loud (refine (aU HR2 _ _ _ _ _ HB5 ?_).mono ?_; assumption; rintro e w6 ⟨rfl,hS6,HB6⟩)))
 rename_i hH
 clear hH hS hS5 hS6 HB5
 go_wp2_with fail
 go_ret
 exact ⟨rfl,aU HB6⟩
end Xc
structure TG (mb base:Nat) (w w':World):Prop where
 os:w'.os=w.os
 tape:w'.tape=w.tape
 output:w'.output=w.output
 size:w.heap.size≤w'.heap.size
 block : ∀ i,i<w.heap.size→i≠mb→(i<base∨((∀ cur,w.heap[i]?≠some (.cells cur 5 (0,0)))∧∀ cur,w.heap[i]?≠some (.cells cur 343 (0,0))))→w'.heap[i]? = w.heap[i]?
section
variable {mb base:Nat} {A B C:World}
theorem TG.refl (mb base:Nat) (w:World):TG mb base w w:=⟨rfl,rfl,rfl,Nat.le_refl _,fun _ _ _ _=>rfl⟩
theorem TG.trans (h:TG mb base A B) (k:TG mb base B C):TG mb base A C :=
 ⟨k.os.trans h.os,k.tape.trans h.tape,k.output.trans h.output,Nat.le_trans h.size k.size,fun i hi hm hp=>by
  have e:=h.block i hi hm hp
  refine (k.block i (Nat.lt_of_lt_of_le hi h.size) hm ?_).trans e
  rw [e]; exact hp⟩
theorem TG.of_below (h:Below A.heap.size A B):TG mb base A B:=⟨h.os,h.tape,h.output,h.size,fun i hi _ _=>h.block i hi⟩
theorem TG.of_tf (h:TF mb base A B):TG mb base A B:=⟨h.os,h.tape,h.output,h.size,fun i hi hm hp=>h.block i hi hm (hp.imp id And.left)⟩
theorem TG.keeps {w:World} {d:Nat} (h:TG mb base w A) (hk:It.Keeps d A B) (hd:w.heap.size≤d):TG mb base w B :=
 ⟨hk.os.trans h.os,hk.tape.trans h.tape,hk.output.trans h.output,Nat.le_trans h.size hk.size,fun i hi hm hp=>(hk.block i (Nat.lt_of_lt_of_le hi h.size) (by omega)).trans (h.block i hi hm hp)⟩
theorem G.tg {w w':World} (h:G w) (ht:TG mb base w w') (hb:0<base) (hm:0<mb):G w':=by
 obtain ⟨h0,m,hc⟩:=h
 exact ⟨Nat.lt_of_lt_of_le h0 ht.size,m,(World.cell?_of_block (ht.block 0 h0 (by omega) (.inl hb))).trans hc⟩
theorem TG.box {w w':World} (ht:TG mb base w w') {k:Nat} {cs:Array Value} {t:TypeId} (h:w.heap[k]? = some (.cells cs t)) (hm:k≠mb) (h1:t≠5) (h2:t≠343):w'.heap[k]? = some (.cells cs t) :=
 (ht.block k (Array.getElem?_eq_some_iff.1 h).1 hm (.inr ⟨fun c hc=>by rw [h] at hc; simp at hc; exact h1 hc.2,fun c hc=>by rw [h] at hc; simp at hc; exact h2 hc.2⟩)).trans h
end
theorem no_cells {w:World} {d:Nat} {o:Obj} (h:w.heap[d]? = some o) (ho : ∀ cs t f,o≠.cells cs t f):(∀ cur,w.heap[d]?≠some (.cells cur 5 (0,0)))∧∀ cur,w.heap[d]?≠some (.cells cur 343 (0,0)) :=
 ⟨fun c hc=>by rw [h] at hc; exact ho _ _ _ (Option.some.inj hc),fun c hc=>by rw [h] at hc; exact ho _ _ _ (Option.some.inj hc)⟩
theorem TG.other {mb base:Nat} {w w':World} (ht:TG mb base w w') {d:Nat} {o:Obj} (h:w.heap[d]? = some o) (hm:d≠mb) (ho : ∀ cs t f,o≠.cells cs t f):w'.heap[d]? = w.heap[d]? :=
 ht.block d (Array.getElem?_eq_some_iff.1 h).1 hm (.inr (no_cells h ho))
abbrev Pl:=List (Str×Nat)
def MsgN (w:World) (mb base d:Nat) (l:Str) (ps:Pl):Prop:=∃ vb vp,MsgAt w mb vb vp∧OwnB w base vb l∧OwnP w base vp ps∧(∀ g,vb.ownBlock=some g→g≠d)∧∀ g,vp.ownBlock=some g→g≠d
def Msg (w:World) (mb base:Nat) (l:Str) (ps:Pl):Prop:=∃ vb vp,MsgAt w mb vb vp∧OwnB w base vb l∧OwnP w base vp ps
theorem own_kindP {W:World} {base g:Nat} {v:Value} {ps:Pl} (h:OwnP W base v ps) (hg:v.ownBlock=some g) : ∃ cur,W.heap[g]? = some (.cells cur 343 (0,0)):=by
 obtain ⟨_,⟨rfl,_⟩ | ⟨g',cap,cur,rfl,_,hcur,_⟩⟩:=h
 ·simp [Value.ownBlock] at hg
 ·simp only [Value.ownBlock,Option.some.injEq] at hg
  subst hg
  exact ⟨cur,hcur⟩
section
variable {w w':World} {mb base d:Nat} {l:Str} {ps:Pl}
theorem MsgN.msg (h:MsgN w mb base d l ps):Msg w mb base l ps:=by
 obtain ⟨vb,vp,h1,h2,h3,_⟩:=h
 exact ⟨vb,vp,h1,h2,h3⟩
theorem Msg.lt (h:Msg w mb base l ps):mb<w.heap.size:=by
 obtain ⟨vb,vp,h1,_⟩:=h
 exact h1.lt
theorem Msg.away (h:Msg w mb base l ps) (hd:(∀ cur,w.heap[d]?≠some (.cells cur 5 (0,0)))∧∀ cur,w.heap[d]?≠some (.cells cur 343 (0,0))):MsgN w mb base d l ps:=by
 obtain ⟨vb,vp,h1,h2,h3⟩:=h
 refine ⟨vb,vp,h1,h2,h3,fun g hg e=>?_,fun g hg e=>?_⟩
 ·obtain ⟨cur,hcur⟩:=own_kindB h2 hg
  rw [e] at hcur; exact hd.1 cur hcur
 ·obtain ⟨cur,hcur⟩:=own_kindP h3 hg
  rw [e] at hcur; exact hd.2 cur hcur
theorem Msg.new (h:Msg w mb base l ps) (hd:w.heap.size≤d):MsgN w mb base d l ps:=h.away ⟨fun cur hc=>by have:=(Array.getElem?_eq_some_iff.1 hc).1; omega,fun cur hc=>by have:=(Array.getElem?_eq_some_iff.1 hc).1; omega⟩
theorem Msg.below (h:Msg w mb base l ps) (hb:Below w.heap.size w w'):Msg w' mb base l ps:=by
 obtain ⟨vb,vp,h1,h2,h3⟩:=h
 exact ⟨vb,vp,h1.kept (hb.block mb h1.lt),own_below h2 hb,own_below h3 hb⟩
theorem MsgN.keeps (h:MsgN w mb base d l ps) (hk:It.Keeps d w w') (hm:mb≠d):MsgN w' mb base d l ps:=by
 obtain ⟨vb,vp,h1,h2,h3,h4,h5⟩:=h
 exact ⟨vb,vp,h1.kept (hk.block mb h1.lt hm),own_kept h2 fun g hg=>hk.block g (World.ownsRow.lt h2 g hg).2 (h4 g hg),own_kept h3 fun g hg=>hk.block g (World.ownsRow.lt h3 g hg).2 (h5 g hg),h4,h5⟩
theorem MsgN.put (h:MsgN w mb base d l ps) (o:Obj) (hm:mb≠d):Msg (w.putObj d o) mb base l ps:=(h.keeps (It.Keeps.put (d:=d) w d o) hm).msg
end
namespace Ma
open Ka Kd Rg Ia Wa Wb Wc Wd We Wf Wg Wh Wi Wj Wk Wl Wm Wn Wo Wp Ws Re
theorem own_tfP {w w':World} {mb base:Nat} {vb vp:Value} {ps:Pl} (h:OwnP w base vp ps) (hm:MsgAt w mb vb vp) (ht:TF mb base w w'):OwnP w' base vp ps :=
 own_kept h fun g hg=>by
  obtain ⟨cur,hcur⟩:=own_kindP h hg
  refine ht.block g (World.ownsRow.lt h g hg).2 (fun e=>?_) (.inr fun c hc=>?_)
  ·rw [e,hm] at hcur; simp at hcur
  ·rw [hcur] at hc; simp at hc
theorem put_m (mb base g cap:Nat) (fs:List Fd) (l:Str) (ps:Pl) (w:World) (hm:Msg w mb base l ps) (hbs:base≤w.heap.size)
  (hok : ∀ f∈fs,f.Ok) (hlt:g<w.heap.size) (hgm:g≠mb) (hkeep:g<base∨∀ cur,w.heap[g]?≠some (.cells cur 5 (0,0))) (hcells : ∀ j (h:j<fs.length),w.cell? ⟨g,j,none⟩=some (.iface fs[j].t fs[j].x))
  (hn:fs.length≤cap) (hc:fs.length≤1000000) (hl:l.length+(outs fs).length≤1000000) :
  Calls Tryz.prog 139 #[.pointer (some ⟨mb,0,none⟩),.slice (some ⟨g,0,none⟩) fs.length cap] w fun e w' =>
   e=.returned (.tuple #[])∧Msg w' mb base (l++outs fs) ps∧TG mb base w w':=by
 obtain ⟨vb,vp,h1,h2,h3⟩:=hm
 refine (put_any mb base g cap fs vb vp l w h1 h2 hbs hok hlt hgm hkeep hcells hn hc hl).mono ?_
 rintro e w' ⟨rfl,⟨vb',k1,k2⟩,k3⟩
 exact ⟨rfl,⟨vb',vp,k1,k2,own_tfP h3 h1 k3⟩,TG.of_tf k3⟩
def learnP (ps:Pl) (x:Str) (n:Nat):Pl:=if n<16384 then ps++[(x,n)] else ps
theorem learnP_len (ps:Pl) (x:Str) (n:Nat):(learnP ps x n).length≤ps.length+1:=by unfold learnP; split <;> simp
theorem learnP_ge (ps:Pl) (x:Str) (n:Nat):ps.length≤(learnP ps x n).length:=by unfold learnP; split <;> simp
theorem learn_skip (mb:Nat) (x:Str) (n:Nat) (w:World) (hn : ¬ n<16384) (hn2:n≤1000000) :
  Calls Tryz.prog 202 #[.pointer (some ⟨mb,0,none⟩),.string (B x),.int .i64 (n:Int)] w fun e w'=>e=.returned (.tuple #[])∧w'=w:=by
 have hnI : ¬ (n:Int)<16384:=by omega
 go_enter Tryz.func202,Tryz.ntmps202
 go_wp2
 refine bodyPost_end (v:=.tuple #[]) (by simp [results,Tryz.results202]) rfl ?_
 exact ⟨rfl,rfl⟩
def findP:Pl→Str→Option Nat
 | [],_=>none
 | p :: t,x=>if p.1 == x then some p.2 else findP t x
theorem findP_miss : ∀ (ps:Pl) (x:Str),findP ps x=none→∀ j (h:j<ps.length),(ps[j].1 == x)=false
 | [],_,_,j,h=>by simp at h
 | p :: t,x,hf,j,h=>by
  unfold findP at hf
  split at hf
  ·cases hf
  ·rename_i hp
   match j,h with
   | 0,_=>simpa using hp
   | j+1,h=>exact findP_miss t x hf j (by simpa using h)
theorem findP_hit : ∀ (ps:Pl) (x:Str) (n:Nat),findP ps x=some n→∃ j,∃ h:j<ps.length,ps[j].2=n∧ps[j].1=x∧∀ i (hi:i<j),(ps[i].1 == x)=false
 | [],_,_,hf=>by cases hf
 | p :: t,x,n,hf=>by
  unfold findP at hf
  split at hf
  ·rename_i hp
   exact ⟨0,by simp,by simpa using hf,by simpa using hp,fun i hi=>by omega⟩
  ·rename_i hp
   obtain ⟨j,hj,h1,h2,h3⟩:=findP_hit t x n hf
   refine ⟨j+1,by simpa using hj,by simpa using h1,by simpa using h2,fun i hi=>?_⟩
   match i,hi with
   | 0,_=>simpa using hp
   | i+1,hi=>simpa using h3 i (by omega)
theorem placeOf_miss (mb base:Nat) (x:Str) (vb vp:Value) (ps:Pl) (w:World) (hm:MsgAt w mb vb vp) (ho:OwnP w base vp ps) (hb : ∀ j (h:j<ps.length),(ps[j].1 == x)=false) (hl:ps.length≤1000) :
  Calls Tryz.prog 339 #[.pointer (some ⟨mb,0,none⟩),.string (B x)] w fun e w' =>
   e=.returned (.tuple #[.int .i64 0,.bool false])∧Below w.heap.size w w':=by
 by_cases hne:ps = []
 ·subst hne
  obtain ⟨a,n,c,rfl⟩:=own_slice ho
  obtain rfl:n=0:=by
   obtain ⟨_,⟨e,hz⟩ | ⟨g',cap',cur',e,_⟩⟩:=ho
   ·cases e; rfl
   ·cases e; rfl
  have hc0:=hm.cells.2
  clear hm ho hb
  go_enter Tryz.func339,Tryz.ntmps339
  go_wp2_with fail
  refine wp_loop_rounds 1 ?_
  rw [rounds_succ]
  go_wp2_with fail
  go_ret2
  exact ⟨rfl,Below.refl _ _⟩
 obtain ⟨g,cap,rfl,hg,hcap,hcell⟩:=place_at ho hne
 have hc0:=hm.cells.2
 have HC:=aH hcell
 have HB:=aH hb
 clear hm ho hcell hb hne
 go_enter Tryz.func339,Tryz.ntmps339
 go_wp2_with fail
 go_loopw [13] (fun i wr=>∃ k:Nat,i=.int .i64 k∧k≤ps.length∧Below w.heap.size w wr) (fun i _=>ps.length - (intOf i).toNat)
 case atStart=>exact ⟨0,rfl,Nat.zero_le _,Below.refl _ _⟩
 case round =>
  obtain ⟨k,rfl,hk,hbr⟩:=hrel
  have HBR:=aH hbr
  have hs:=hbr.size
  by_cases hkl:k<ps.length
  ·have hkI:(k:Int)<(ps.length:Int):=by omega
   obtain ⟨c0,c1⟩:=aU HC k hkl
   have d0:=(hbr.cell (p:=⟨g,k*2,none⟩) hg).trans c0
   have d1:=(hbr.cell (p:=⟨g,k*2+1,none⟩) hg).trans c1
   have hBB:((B ps[k].1).toList == (B x).toList)=(ps[k].1 == x):=B_inj
   clear c0 c1 hbr
   rw [aU HB k hkl] at hBB
   generalize ps[k].2=pn at *
   generalize B ps[k].1=pb at *
   go_wp2_with fail
   go_roundw
   case rel=>exact ⟨k+1,by go_num,by omega,(aU HBR).alloc hs _⟩
   case measure=>simp [intOf]; omega
  ·obtain rfl:k=ps.length:=by omega
   clear hbr
   go_wp2_with fail
   go_ret2
   exact ⟨rfl,aU HBR⟩
theorem placeOf_any (mb base:Nat) (x:Str) (l:Str) (ps:Pl) (w:World) (hm:Msg w mb base l ps) (hl:ps.length≤1000) :
  Calls Tryz.prog 339 #[.pointer (some ⟨mb,0,none⟩),.string (B x)] w fun e w' =>
   e=.returned (.tuple #[.int .i64 ((findP ps x).getD 0:Nat),.bool (findP ps x).isSome])∧Below w.heap.size w w':=by
 obtain ⟨vb,vp,h1,h2,h3⟩:=hm
 cases hf:findP ps x with
 | none=>exact placeOf_miss mb base x vb vp ps w h1 h3 (findP_miss ps x hf) hl
 | some n =>
  obtain ⟨j,hj,e1,e2,e3⟩:=findP_hit ps x n hf
  have:=placeOf_hit mb base j x vb vp ps w h1 h3 hj e2 e3 hl
  rw [e1] at this
  exact this
end Ma
end Go.Proofs.YtkkpahmoljiepaaGreatDoor
