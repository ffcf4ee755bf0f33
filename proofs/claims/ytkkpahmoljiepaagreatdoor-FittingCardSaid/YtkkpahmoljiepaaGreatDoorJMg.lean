/- Contract: wire's fill of three lists in general, where all fits. -/
import Derived.Test.YtkkpahmoljiepaaGreatDoorJ20
import Derived.Test.YtkkpahmoljiepaaGreatDoorJ18
import Derived.LoopNIn
set_option linter.unusedSimpArgs false
set_option linter.unusedVariables false
set_option maxRecDepth 1000000
set_option maxHeartbeats 12800000
namespace Go.Proofs.YtkkpahmoljiepaaGreatDoor
open Go.RowKit
open Pu (Str aH aU)
attribute [local go_sem] Oper.semAt_some undef
namespace Mg
open Ka Kd Rf Rg Ia Iow Ie Zb Zc Za La Lb Lg Wa Wb Wc Wd We Wf Wg Wh Wi Wj Wk Wl Wm Wn Wo Wp Wq Ws Wt Wu Wv Wz Ma Mb Mc Md Me Mf Re
theorem fill_g (mb base lb:Nat) (size:Int) (df:Rec→List Fe) (v0 v1 v2:Value) (r0 r1 r2:List Rec) (b0 o0 b1 o1 b2 o2:Nat) (S0 S1 S2 S3:Str×Pl) (w:World)
  (e1:aC df r0 S0.1 S0.2=S1) (e2:aC df r1 S1.1 S1.2=S2) (e3:aC df r2 S2.1 S2.2=S3)
  (hm:Msg w mb base S0.1 S0.2) (hpo:PlOk S0.2) (hg:G w) (hbs:base≤w.heap.size) (hb0:0<base) (hm0:0<mb)
  (hlb:w.heap[lb]? = some (.cells #[v0,v1,v2] 41)) (hlm:lb≠mb)
  (hL0:Lies v0 b0 o0 r0) (hR0:bE w b0 o0 r0) (hbb0:b0<base) (hbm0:b0≠mb) (hn0:r0.length≤3001)
  (hL1:Lies v1 b1 o1 r1) (hR1:bE w b1 o1 r1) (hbb1:b1<base) (hbm1:b1≠mb) (hn1:r1.length≤3001)
  (hL2:Lies v2 b2 o2 r2) (hR2:bE w b2 o2 r2) (hbb2:b2<base) (hbm2:b2≠mb) (hn2:r2.length≤3001)
  (hk0 : ∀ r∈r0,RrG r (df r)) (hk1 : ∀ r∈r1,RrG r (df r)) (hk2 : ∀ r∈r2,RrG r (df r))
  (hl:S3.1.length≤50000) (hp:S3.2.length≤700) (hsz:(S3.1.length:Int)≤size) :
  Calls Tryz.prog 137 #[.pointer (some ⟨mb,0,none⟩),.int .i64 size,.slice (some ⟨lb,0,none⟩) 3 3] w fun e w' =>
   e=.returned (.slice (some ⟨w.heap.size+3,0,none⟩) 3 3)∧NumsAt w' (w.heap.size+3) [(r0.length:Int),r1.length,r2.length] 3∧Msg w' mb base S3.1 S3.2∧TG mb base w w':=by
 have h1:=recsStep_more df r0 hk0 S0.1 S0.2
 have h2:=recsStep_more df r1 hk1 S1.1 S1.2
 have h3:=recsStep_more df r2 hk2 S2.1 S2.2
 rw [e1] at h1
 rw [e2] at h2
 rw [e3] at h3
 have HB0:Hid (S1.1.length≤50000∧S1.2.length≤700∧(S1.1.length:Int)≤size):=⟨by omega,by omega,by omega⟩
 have HB1:Hid (S2.1.length≤50000∧S2.2.length≤700∧(S2.1.length:Int)≤size):=⟨by omega,by omega,by omega⟩
 have HB2:Hid (S3.1.length≤50000∧S3.2.length≤700∧(S3.1.length:Int)≤size):=⟨by omega,by omega,by omega⟩
 have HP0:Hid (PlOk S0.2):=hpo
 have HP1:Hid (PlOk S1.2):=h1.2.2 hpo
 have HP2:Hid (PlOk S2.2):=h2.2.2 (h1.2.2 hpo)
 have HK0:=aH hk0
 have HK1:=aH hk1
 have HK2:=aH hk2
 have HE1:=aH e1
 have HE2:=aH e2
 have HE3:=aH e3
 clear h1 h2 h3 hk0 hk1 hk2 e1 e2 e3 hl hp hsz
 refine (callsIn_wide (n:=0)).1 ?_
 refine callsIn_of_wp_marks Tryz.func137 rfl trivial ?_
 simp only [Tryz.ntmps137,List.size_toArray,List.length_cons,List.length_nil,Nat.reduceAdd,Nat.reduceSub,Array.replicate_succ,Array.replicate_zero,List.push_toArray,List.append_toArray,List.nil_append,List.cons_append]
 obtain ⟨a0,c0,rfl⟩ : ∃ a c,v0=.slice a r0.length c:=by rcases hL0 with ⟨rfl,rfl⟩ | ⟨c,rfl,_⟩ <;> exact ⟨_,_,rfl⟩
 obtain ⟨a1,c1,rfl⟩ : ∃ a c,v1=.slice a r1.length c:=by rcases hL1 with ⟨rfl,rfl⟩ | ⟨c,rfl,_⟩ <;> exact ⟨_,_,rfl⟩
 obtain ⟨a2,c2,rfl⟩ : ∃ a c,v2=.slice a r2.length c:=by rcases hL2 with ⟨rfl,rfl⟩ | ⟨c,rfl,_⟩ <;> exact ⟨_,_,rfl⟩
 have hmlt:=hm.lt
 have hlblt:lb<w.heap.size:=(Array.getElem?_eq_some_iff.1 hlb).1
 have hg0:=hg.1
 have HR0:=aH hR0
 have HR1:=aH hR1
 have HR2:=aH hR2
 have HL0:=aH hL0
 have HL1:=aH hL1
 have HL2:=aH hL2
 have hq0:=hR0.1
 have hq1:=hR1.1
 have hq2:=hR2.1
 have HF0:Hid (∀ V,Below w.heap.size w V→FB w.heap.size mb size [0,0,0] V→FJ mb base w.heap.size lb size #[.slice a0 r0.length c0,.slice a1 r1.length c1,.slice a2 r2.length c2] w [] [0,0,0] mb S0 V):=fun V hB hF=>by
  have hT:TG mb base w V:=TG.of_below hB
  exact ⟨hF,(hB.block lb hlblt).trans hlb,msg_self (hm.below hB),hpo,hg.below hB,hT,fun x hx=>by cases hx⟩
 clear hm hpo hg hlb hR0 hR1 hR2 hL0 hL1 hL2
 have mk:=made3
 gi_wp2_with fail
 have HI0:=aH (aU HF0 (((((w.alloc (.cells #[.pointer (some ⟨mb,0,none⟩)] 216)).alloc (.cells #[.int .i64 size] 3)).alloc (.cells #[.slice none 0 0] 56)).alloc (.cells #[.int .i64 0,.int .i64 0,.int .i64 0] 3)).alloc (.cells #[.slice (some ⟨w.heap.size+1+1+1,0,none⟩) 3 3] 56)) (((((Below.refl _ _).alloc (Nat.le_refl _) _).alloc (by simp) _).alloc (by simp <;> omega) _ |>.alloc (by simp <;> omega) _).alloc (by simp <;> omega) _) (by
  have n0:=World.alloc_heap_new w (.cells #[.pointer (some ⟨mb,0,none⟩)] 216)
  have n1:=World.alloc_heap_new (w.alloc (.cells #[.pointer (some ⟨mb,0,none⟩)] 216)) (.cells #[.int .i64 size] 3)
  have n2:=World.alloc_heap_new ((w.alloc (.cells #[.pointer (some ⟨mb,0,none⟩)] 216)).alloc (.cells #[.int .i64 size] 3)) (.cells #[.slice none 0 0] 56)
  have n3:=World.alloc_heap_new (((w.alloc (.cells #[.pointer (some ⟨mb,0,none⟩)] 216)).alloc (.cells #[.int .i64 size] 3)).alloc (.cells #[.slice none 0 0] 56)) (.cells #[.int .i64 0,.int .i64 0,.int .i64 0] 3)
  have n4:=World.alloc_heap_new ((((w.alloc (.cells #[.pointer (some ⟨mb,0,none⟩)] 216)).alloc (.cells #[.int .i64 size] 3)).alloc (.cells #[.slice none 0 0] 56)).alloc (.cells #[.int .i64 0,.int .i64 0,.int .i64 0] 3)) (.cells #[.slice (some ⟨w.heap.size+1+1+1,0,none⟩) 3 3] 56)
  simp only [World.size_alloc] at n1 n2 n3 n4
  refine ⟨?_,?_,?_,?_,n4⟩
  ·exact (Below.heap_alloc _ _ _ (by simp <;> omega)).trans ((Below.heap_alloc _ _ _ (by simp <;> omega)).trans ((Below.heap_alloc _ _ _ (by simp <;> omega)).trans ((Below.heap_alloc _ _ _ (by simp <;> omega)).trans n0)))
  ·exact (Below.heap_alloc _ _ _ (by simp <;> omega)).trans ((Below.heap_alloc _ _ _ (by simp <;> omega)).trans ((Below.heap_alloc _ _ _ (by simp <;> omega)).trans n1))
  ·exact (Below.heap_alloc _ _ _ (by simp <;> omega)).trans ((Below.heap_alloc _ _ _ (by simp <;> omega)).trans n2)
  ·exact (Below.heap_alloc _ _ _ (by simp <;> omega)).trans n3))
 have s0:w.heap.size+5≤(((((w.alloc (.cells #[.pointer (some ⟨mb,0,none⟩)] 216)).alloc (.cells #[.int .i64 size] 3)).alloc (.cells #[.slice none 0 0] 56)).alloc (.cells #[.int .i64 0,.int .i64 0,.int .i64 0] 3)).alloc (.cells #[.slice (some ⟨w.heap.size+1+1+1,0,none⟩) 3 3] 56)).heap.size:=by simp <;> omega
 clear HF0 mk
 generalize (((((w.alloc (.cells #[.pointer (some ⟨mb,0,none⟩)] 216)).alloc (.cells #[.int .i64 size] 3)).alloc (.cells #[.slice none 0 0] 56)).alloc (.cells #[.int .i64 0,.int .i64 0,.int .i64 0] 3)).alloc (.cells #[.slice (some ⟨w.heap.size+1+1+1,0,none⟩) 3 3] 56))=V0 at *
 refine wpIn_loop_rounds 4 ?_
 rw [roundsIn_succ]
 have cl0:V0.cell? ⟨lb,0,none⟩=some (.slice a0 r0.length c0):=by
  have:=(aU HI0).lists
  simp [World.cell?,this]
 gi_wp2_with fail
 refine ⟨trivial,rfl,?_⟩
 refine (callsIn_wide.2 (sets_b _ _ _ _)).mono ?_
 rintro e W0 ⟨rfl,ez,hbz,bx1,bx2⟩
 have bx0:It.Box W0 V0.heap.size (.int .i64 0) 3:=(It.Box.new _ _ _).below hbz (by simp)
 have hVW:Below V0.heap.size V0 W0:=((Below.refl _ _).alloc (Nat.le_refl _) _).trans (hbz.mono (by simp))
 simp only [World.size_alloc] at ez bx1 bx2
 have t0:V0.heap.size+3≤W0.heap.size:=by omega
 have HIW0:Hid (FJ mb base w.heap.size lb size #[.slice a0 r0.length c0,.slice a1 r1.length c1,.slice a2 r2.length c2] w [] [0,0,0] (W0.heap.size+1) S0 W0):=((aU HI0).below hVW).re _ ⟨fun cur hc=>by have:=(Array.getElem?_eq_some_iff.1 hc).1; omega,fun cur hc=>by have:=(Array.getElem?_eq_some_iff.1 hc).1; omega⟩
 have HX0:=aH (And.intro bx0 (And.intro bx1 bx2))
 clear ez hbz bx0 bx1 bx2 hVW cl0 HI0
 gi_wp2_with fail
 have hgrow : ∀ r,Below W0.heap.size W0 ((W0.alloc (.deferred (some []))).alloc (.loop r)):=fun r=>((Below.refl _ _).alloc (Nat.le_refl _) _).alloc (by simp) _
 have hRW : ∀ W,TG mb base w W→bE W b0 o0 r0:=fun W ht=>Ia.bE.kept (aU HR0) ht.size (ht.block b0 hq0 hbm0 (.inl hbb0))
 refine It.rangeE (xs:=runs aD r0) (encs:=fun x:Nat×List Rec=>#[.slice (some ⟨b0,o0+x.1*4,none⟩) x.2.length x.2.length]) (St:=fun A B=>Below A.heap.size A B) (Kp:=It.Keep3 (V0.heap.size+1) (V0.heap.size+1+1) b0) (Kx:=fun _ _=>True)
  (gf:=233) (lb:=#[.pointer (some ⟨V0.heap.size+1,0,none⟩),.pointer (some ⟨V0.heap.size+1+1,0,none⟩)]) rfl (enters_of Tryz.func233 (by kernel_rfl) rfl) (fun _=>rfl) ?seq0
  [V0.heap.size+1,V0.heap.size+1+1,b0] (by simp; omega) (fun A B h=>h) (fun A B h h'=>⟨h',h _ (by simp),h _ (by simp),h _ (by simp)⟩) (fun _ _=>trivial)
  (fun i W=>FJ mb base w.heap.size lb size #[.slice a0 r0.length c0,.slice a1 r1.length c1,.slice a2 r2.length c2] w [] [((tk r0 i).length:Int),0,0] (W0.heap.size+1) (aC df (tk r0 i) S0.1 S0.2) W∧It.Box W V0.heap.size (.int .i64 0) 3∧It.Box W (V0.heap.size+1) (.slice a0 r0.length c0) 41∧It.Box W (V0.heap.size+1+1) (.func (.func 177) #[] #[]) 261)
  (fun _ _=>False)
  (fun i A B h hA hk=>⟨h.1.keeps hk (by omega) (by omega) (by omega) (by omega) (fun x hx=>by cases hx),It.Box.kept h.2.1 (hk.block _ (It.Box.lt h.2.1) (by omega)),It.Box.kept h.2.2.1 (hk.block _ (It.Box.lt h.2.2.1) (by omega)),It.Box.kept h.2.2.2 (hk.block _ (It.Box.lt h.2.2.2) (by omega))⟩)
  (fun c A B h hA hk=>h)
  ⟨by rw [tk_zero,recsStep_nil]; simpa using aU HIW0,(aU HX0).1,(aU HX0).2.1,(aU HX0).2.2⟩
  ?round0 ?done0 ?stop0
 case seq0 =>
  intro r
  have hg:=hgrow r
  exact seqV _ b0 o0 _ _ r0 _ (aU HL0) ((hg.cell (p:=⟨V0.heap.size+1,0,none⟩) (by show V0.heap.size+1<W0.heap.size; omega)).trans (It.Box.cell (aU HX0).2.1)) ((hg.cell (p:=⟨V0.heap.size+1+1,0,none⟩) (by show V0.heap.size+1+1<W0.heap.size; omega)).trans (It.Box.cell (aU HX0).2.2)) ((hRW W0 (aU HIW0).tg).below hg) (by have:=hg.size; omega) (by have:=hg.size; omega) hn0
 case stop0 =>
  intro c W hI hdef hsz
  exact hI.elim
 case round0 =>
  intro l' i x Vr W hx hI hszW hd1 hd2
  obtain ⟨hF,y0,y1,y2⟩:=hI
  have hmem:x∈runs aD r0:=List.mem_of_getElem? hx
  have hxl:=runs_len hmem
  have hRx:=bE.piece (hRW W hF.tg) hmem
  have htk:=tk_succ hx
  have hst:aC df x.2 (aC df (tk r0 i) S0.1 S0.2).1 (aC df (tk r0 i) S0.1 S0.2).2=(aC df (tk r0 (i+1)) S0.1 S0.2):=by rw [htk,recsStep_app]
  have hle:=tkS_le df r0 (aU HK0) (i+1) S0.1 S0.2
  have hpS:=tkS_po df r0 (aU HK0) (i+1) S0.1 S0.2 (aU HP0)
  rw [aU HE1,← hst] at hle
  have htl:(tk r0 i).length≤3001:=Nat.le_trans (tk_len r0 i) hn0
  have HFIT:Hid (Calls Tryz.prog 203 #[.pointer (some ⟨mb,0,none⟩),.int .i64 size,.slice (some ⟨b0,o0+x.1*4,none⟩) x.2.length x.2.length] W fun e w' =>
    e=.returned (.bool true)∧Msg w' mb base (aC df (tk r0 (i+1)) S0.1 S0.2).1 (aC df (tk r0 (i+1)) S0.1 S0.2).2∧TG mb base W w'):=by
   have hb:=aU HB0
   have:=fit_g mb base b0 (o0+x.1*4) x.2.length size df x.2 (aC df (tk r0 i) S0.1 S0.2).2 (aC df (tk r0 i) S0.1 S0.2).1 W hF.msg.msg hF.po hF.g (Nat.le_trans hbs hF.tg.size) hb0 hm0 hRx hbb0 hbm0 (Nat.le_refl _) (by omega)
    (fun r hr=>aU HK0 r (tk_mem hmem hr)) (by omega) (by omega) (by omega)
   rw [hst] at this
   exact this
  have c0':=It.Box.cell hF.fb.b0
  have c1':=It.Box.cell hF.fb.b1
  have HAFT:Hid (∀ W3,Msg W3 mb base (aC df (tk r0 (i+1)) S0.1 S0.2).1 (aC df (tk r0 (i+1)) S0.1 S0.2).2→TG mb base W W3 →
    W3.cell? ⟨w.heap.size+1+1+1+1,0,none⟩=some (.slice (some ⟨w.heap.size+1+1+1,0,none⟩) 3 3)∧W3.cell? ⟨V0.heap.size,0,none⟩=some (.int .i64 0)∧W3.cell? ⟨w.heap.size+1+1+1,0,none⟩=some (.int .i64 (tk r0 i).length)∧W3.frozen? ⟨w.heap.size+1+1+1,0,none⟩=false ∧
    Hid (It.Loops W0.heap.size W (W3.setCell ⟨w.heap.size+1+1+1,0,none⟩ (.int .i64 ((tk r0 i).length+x.2.length:Int)))∧(∀ k∈[V0.heap.size+1,V0.heap.size+1+1,b0],(W3.setCell ⟨w.heap.size+1+1+1,0,none⟩ (.int .i64 ((tk r0 i).length+x.2.length:Int))).heap[k]? = W.heap[k]?) ∧
     (FJ mb base w.heap.size lb size #[.slice a0 r0.length c0,.slice a1 r1.length c1,.slice a2 r2.length c2] w [] [((tk r0 (i+1)).length:Int),0,0] (W0.heap.size+1) (aC df (tk r0 (i+1)) S0.1 S0.2) (W3.setCell ⟨w.heap.size+1+1+1,0,none⟩ (.int .i64 ((tk r0 i).length+x.2.length:Int)))∧It.Box (W3.setCell ⟨w.heap.size+1+1+1,0,none⟩ (.int .i64 ((tk r0 i).length+x.2.length:Int))) V0.heap.size (.int .i64 0) 3∧It.Box (W3.setCell ⟨w.heap.size+1+1+1,0,none⟩ (.int .i64 ((tk r0 i).length+x.2.length:Int))) (V0.heap.size+1) (.slice a0 r0.length c0) 41∧It.Box (W3.setCell ⟨w.heap.size+1+1+1,0,none⟩ (.int .i64 ((tk r0 i).length+x.2.length:Int))) (V0.heap.size+1+1) (.func (.func 177) #[] #[]) 261))):=by
   intro W3 m3 t3
   obtain ⟨lr,hlr⟩:=hd2
   have hdl:=(t3.block (W0.heap.size+1) (by omega) (by omega) (.inr ⟨fun c hc=>(by rw [hlr] at hc; cases hc),fun c hc=>by rw [hlr] at hc; cases hc⟩))
   have hdd:=(t3.block W0.heap.size (by omega) (by omega) (.inr ⟨fun c hc=>(by rw [hd1] at hc; cases hc),fun c hc=>by rw [hd1] at hc; cases hc⟩))
   have hF3:=hF.fit t3 m3 hpS (by omega) hlm hb0 hm0 (fun x hx=>by cases hx) ⟨fun cur hc=>(by rw [hdl,hlr] at hc; cases hc),fun cur hc=>by rw [hdl,hlr] at hc; cases hc⟩
   have z0:=box_tg y0 t3 (by omega) (by decide) (by decide)
   have z1:=box_tg y1 t3 (by omega) (by decide) (by decide)
   have z2:=box_tg y2 t3 (by omega) (by decide) (by decide)
   have hF4:=hF3.set 0 ((tk r0 i).length+x.2.length:Int) (by omega) (by omega) (Nat.le_refl _) (fun x hx=>by cases hx)
   have hne : ∀ k',k'≠w.heap.size+3→(W3.setCell ⟨w.heap.size+1+1+1,0,none⟩ (.int .i64 ((tk r0 i).length+x.2.length:Int))).heap[k']? = W3.heap[k']?:=fun k' hk=>Below.heap_setCell _ _ _ _ hk
   have hlen:((tk r0 (i+1)).length:Int)=(tk r0 i).length+x.2.length:=by rw [htk,List.length_append]; omega
   refine ⟨It.Box.cell hF3.fb.b4,It.Box.cell z0,hF3.fb.b3.cell 0 (by simp),hF3.fb.b3.frozen 0,⟨Nat.le_trans t3.size (by simp [World.setCell]),(hne _ (by omega)).trans hdd,(hne _ (by omega)).trans hdl⟩,fun k hk=>?_,?_,It.Box.kept z0 (hne _ (by omega)),It.Box.kept z1 (hne _ (by omega)),It.Box.kept z2 (hne _ (by omega))⟩
   ·simp only [List.mem_cons,List.mem_nil_iff,or_false] at hk
    rcases hk with rfl | rfl | rfl
    ·exact (hne _ (by omega)).trans (z1.trans y1.symm)
    ·exact (hne _ (by omega)).trans (z2.trans y2.symm)
    ·exact (hne _ (by omega)).trans (t3.block _ (by have:=hF.tg.size; omega) hbm0 (.inl hbb0))
   ·rw [hlen]
    exact hF4
  clear hF y0 y1 y2 hmem hRx htk hle hpS hst hd1 hd2 hx HIW0 HX0 hgrow hRW
  gi_wp2_with fail
  refine ⟨trivial,?_⟩
  gi_wp2_with fail
  refine ⟨trivial,rfl,?_⟩
  refine (CallsIn.inRound l' (callsIn_wide.2 (aU HFIT))).mono ?_
  rintro e W3 ⟨rfl,m3,t3⟩
  obtain ⟨k1,k2,k3,k4,HE⟩:=aU HAFT W3 m3 t3
  clear m3 t3 HAFT HFIT
  generalize (tk r0 i).length=T at *
  gi_wp2_with fail
  exact ⟨(aU HE).1,(aU HE).2.1,(aU HE).2.2⟩
 case done0 =>
  intro V1 hI hdef hszW
  rw [tk_all,aU HE1] at hI
  have hF:=hI.1
  have HI1:Hid (FJ mb base w.heap.size lb size #[.slice a0 r0.length c0,.slice a1 r1.length c1,.slice a2 r2.length c2] w (W0.heap.size :: []) [(r0.length:Int),0,0] mb S1 V1):=by
   obtain ⟨vb',vp',hmW,_⟩:=hF.msg
   have hR:=hF.re mb ⟨fun cur hc=>by rw [hmW] at hc; simp at hc,fun cur hc=>by rw [hmW] at hc; simp at hc⟩
   exact ⟨hR.fb,hR.lists,hR.msg,hR.po,hR.g,hR.tg,fun x hx=>by
    rcases List.mem_cons.1 hx with rfl | hx
    ·exact hdef
    ·exact hR.defs x hx⟩
  have s1:w.heap.size+5≤V1.heap.size:=by omega
  have u0:W0.heap.size<V1.heap.size:=by omega
  clear hI hF hdef hszW HIW0 HX0 hgrow hRW
  gi_wp2_with fail
  rw [roundsIn_succ]
  have cl1:V1.cell? ⟨lb,1,none⟩=some (.slice a1 r1.length c1):=by
   have:=(aU HI1).lists
   simp [World.cell?,this]
  gi_wp2_with fail
  refine ⟨trivial,rfl,?_⟩
  refine (callsIn_wide.2 (sets_b _ _ _ _)).mono ?_
  rintro e W1 ⟨rfl,ez,hbz,bx1,bx2⟩
  have bx0:It.Box W1 V1.heap.size (.int .i64 1) 3:=(It.Box.new _ _ _).below hbz (by simp)
  have hVW:Below V1.heap.size V1 W1:=((Below.refl _ _).alloc (Nat.le_refl _) _).trans (hbz.mono (by simp))
  simp only [World.size_alloc] at ez bx1 bx2
  have t1:V1.heap.size+3≤W1.heap.size:=by omega
  have HIW1:Hid (FJ mb base w.heap.size lb size #[.slice a0 r0.length c0,.slice a1 r1.length c1,.slice a2 r2.length c2] w [W0.heap.size] [(r0.length:Int),0,0] (W1.heap.size+1) S1 W1):=((aU HI1).below hVW).re _ ⟨fun cur hc=>by have:=(Array.getElem?_eq_some_iff.1 hc).1; omega,fun cur hc=>by have:=(Array.getElem?_eq_some_iff.1 hc).1; omega⟩
  have HX1:=aH (And.intro bx0 (And.intro bx1 bx2))
  clear ez hbz bx0 bx1 bx2 hVW cl1 HI1
  gi_wp2_with fail
  have hgrow : ∀ r,Below W1.heap.size W1 ((W1.alloc (.deferred (some []))).alloc (.loop r)):=fun r=>((Below.refl _ _).alloc (Nat.le_refl _) _).alloc (by simp) _
  have hRW : ∀ W,TG mb base w W→bE W b1 o1 r1:=fun W ht=>Ia.bE.kept (aU HR1) ht.size (ht.block b1 hq1 hbm1 (.inl hbb1))
  refine It.rangeE (xs:=runs aD r1) (encs:=fun x:Nat×List Rec=>#[.slice (some ⟨b1,o1+x.1*4,none⟩) x.2.length x.2.length]) (St:=fun A B=>Below A.heap.size A B) (Kp:=It.Keep3 (V1.heap.size+1) (V1.heap.size+1+1) b1) (Kx:=fun _ _=>True)
   (gf:=233) (lb:=#[.pointer (some ⟨V1.heap.size+1,0,none⟩),.pointer (some ⟨V1.heap.size+1+1,0,none⟩)]) rfl (enters_of Tryz.func233 (by kernel_rfl) rfl) (fun _=>rfl) ?seq1
   [V1.heap.size+1,V1.heap.size+1+1,b1] (by simp; omega) (fun A B h=>h) (fun A B h h'=>⟨h',h _ (by simp),h _ (by simp),h _ (by simp)⟩) (fun _ _=>trivial)
   (fun i W=>FJ mb base w.heap.size lb size #[.slice a0 r0.length c0,.slice a1 r1.length c1,.slice a2 r2.length c2] w [W0.heap.size] [(r0.length:Int),((tk r1 i).length:Int),0] (W1.heap.size+1) (aC df (tk r1 i) S1.1 S1.2) W∧It.Box W V1.heap.size (.int .i64 1) 3∧It.Box W (V1.heap.size+1) (.slice a1 r1.length c1) 41∧It.Box W (V1.heap.size+1+1) (.func (.func 177) #[] #[]) 261)
   (fun _ _=>False)
   (fun i A B h hA hk=>⟨h.1.keeps hk (by omega) (by omega) (by omega) (by omega) (fun x hx=>by simp only [List.mem_cons,List.mem_nil_iff,or_false] at hx; omega),It.Box.kept h.2.1 (hk.block _ (It.Box.lt h.2.1) (by omega)),It.Box.kept h.2.2.1 (hk.block _ (It.Box.lt h.2.2.1) (by omega)),It.Box.kept h.2.2.2 (hk.block _ (It.Box.lt h.2.2.2) (by omega))⟩)
   (fun c A B h hA hk=>h)
   ⟨by rw [tk_zero,recsStep_nil]; simpa using aU HIW1,(aU HX1).1,(aU HX1).2.1,(aU HX1).2.2⟩
   ?round1 ?done1 ?stop1
  case seq1 =>
   intro r
   have hg:=hgrow r
   exact seqV _ b1 o1 _ _ r1 _ (aU HL1) ((hg.cell (p:=⟨V1.heap.size+1,0,none⟩) (by show V1.heap.size+1<W1.heap.size; omega)).trans (It.Box.cell (aU HX1).2.1)) ((hg.cell (p:=⟨V1.heap.size+1+1,0,none⟩) (by show V1.heap.size+1+1<W1.heap.size; omega)).trans (It.Box.cell (aU HX1).2.2)) ((hRW W1 (aU HIW1).tg).below hg) (by have:=hg.size; omega) (by have:=hg.size; omega) hn1
  case stop1 =>
   intro c W hI hdef hsz
   exact hI.elim
  case round1 =>
   intro l' i x Vr W hx hI hszW hd1 hd2
   obtain ⟨hF,y0,y1,y2⟩:=hI
   have hmem:x∈runs aD r1:=List.mem_of_getElem? hx
   have hxl:=runs_len hmem
   have hRx:=bE.piece (hRW W hF.tg) hmem
   have htk:=tk_succ hx
   have hst:aC df x.2 (aC df (tk r1 i) S1.1 S1.2).1 (aC df (tk r1 i) S1.1 S1.2).2=(aC df (tk r1 (i+1)) S1.1 S1.2):=by rw [htk,recsStep_app]
   have hle:=tkS_le df r1 (aU HK1) (i+1) S1.1 S1.2
   have hpS:=tkS_po df r1 (aU HK1) (i+1) S1.1 S1.2 (aU HP1)
   rw [aU HE2,← hst] at hle
   have htl:(tk r1 i).length≤3001:=Nat.le_trans (tk_len r1 i) hn1
   have HFIT:Hid (Calls Tryz.prog 203 #[.pointer (some ⟨mb,0,none⟩),.int .i64 size,.slice (some ⟨b1,o1+x.1*4,none⟩) x.2.length x.2.length] W fun e w' =>
     e=.returned (.bool true)∧Msg w' mb base (aC df (tk r1 (i+1)) S1.1 S1.2).1 (aC df (tk r1 (i+1)) S1.1 S1.2).2∧TG mb base W w'):=by
    have hb:=aU HB1
    have:=fit_g mb base b1 (o1+x.1*4) x.2.length size df x.2 (aC df (tk r1 i) S1.1 S1.2).2 (aC df (tk r1 i) S1.1 S1.2).1 W hF.msg.msg hF.po hF.g (Nat.le_trans hbs hF.tg.size) hb0 hm0 hRx hbb1 hbm1 (Nat.le_refl _) (by omega)
     (fun r hr=>aU HK1 r (tk_mem hmem hr)) (by omega) (by omega) (by omega)
    rw [hst] at this
    exact this
   have c0':=It.Box.cell hF.fb.b0
   have c1':=It.Box.cell hF.fb.b1
   have HAFT:Hid (∀ W3,Msg W3 mb base (aC df (tk r1 (i+1)) S1.1 S1.2).1 (aC df (tk r1 (i+1)) S1.1 S1.2).2→TG mb base W W3 →
     W3.cell? ⟨w.heap.size+1+1+1+1,0,none⟩=some (.slice (some ⟨w.heap.size+1+1+1,0,none⟩) 3 3)∧W3.cell? ⟨V1.heap.size,0,none⟩=some (.int .i64 1)∧W3.cell? ⟨w.heap.size+1+1+1,1,none⟩=some (.int .i64 (tk r1 i).length)∧W3.frozen? ⟨w.heap.size+1+1+1,1,none⟩=false ∧
     Hid (It.Loops W1.heap.size W (W3.setCell ⟨w.heap.size+1+1+1,1,none⟩ (.int .i64 ((tk r1 i).length+x.2.length:Int)))∧(∀ k∈[V1.heap.size+1,V1.heap.size+1+1,b1],(W3.setCell ⟨w.heap.size+1+1+1,1,none⟩ (.int .i64 ((tk r1 i).length+x.2.length:Int))).heap[k]? = W.heap[k]?) ∧
      (FJ mb base w.heap.size lb size #[.slice a0 r0.length c0,.slice a1 r1.length c1,.slice a2 r2.length c2] w [W0.heap.size] [(r0.length:Int),((tk r1 (i+1)).length:Int),0] (W1.heap.size+1) (aC df (tk r1 (i+1)) S1.1 S1.2) (W3.setCell ⟨w.heap.size+1+1+1,1,none⟩ (.int .i64 ((tk r1 i).length+x.2.length:Int)))∧It.Box (W3.setCell ⟨w.heap.size+1+1+1,1,none⟩ (.int .i64 ((tk r1 i).length+x.2.length:Int))) V1.heap.size (.int .i64 1) 3∧It.Box (W3.setCell ⟨w.heap.size+1+1+1,1,none⟩ (.int .i64 ((tk r1 i).length+x.2.length:Int))) (V1.heap.size+1) (.slice a1 r1.length c1) 41∧It.Box (W3.setCell ⟨w.heap.size+1+1+1,1,none⟩ (.int .i64 ((tk r1 i).length+x.2.length:Int))) (V1.heap.size+1+1) (.func (.func 177) #[] #[]) 261))):=by
    intro W3 m3 t3
    obtain ⟨lr,hlr⟩:=hd2
    have hdl:=(t3.block (W1.heap.size+1) (by omega) (by omega) (.inr ⟨fun c hc=>(by rw [hlr] at hc; cases hc),fun c hc=>by rw [hlr] at hc; cases hc⟩))
    have hdd:=(t3.block W1.heap.size (by omega) (by omega) (.inr ⟨fun c hc=>(by rw [hd1] at hc; cases hc),fun c hc=>by rw [hd1] at hc; cases hc⟩))
    have hF3:=hF.fit t3 m3 hpS (by omega) hlm hb0 hm0 (fun x hx=>by simp only [List.mem_cons,List.mem_nil_iff,or_false] at hx; omega) ⟨fun cur hc=>(by rw [hdl,hlr] at hc; cases hc),fun cur hc=>by rw [hdl,hlr] at hc; cases hc⟩
    have z0:=box_tg y0 t3 (by omega) (by decide) (by decide)
    have z1:=box_tg y1 t3 (by omega) (by decide) (by decide)
    have z2:=box_tg y2 t3 (by omega) (by decide) (by decide)
    have hF4:=hF3.set 1 ((tk r1 i).length+x.2.length:Int) (by omega) (by omega) (Nat.le_refl _) (fun x hx=>by simp only [List.mem_cons,List.mem_nil_iff,or_false] at hx; omega)
    have hne : ∀ k',k'≠w.heap.size+3→(W3.setCell ⟨w.heap.size+1+1+1,1,none⟩ (.int .i64 ((tk r1 i).length+x.2.length:Int))).heap[k']? = W3.heap[k']?:=fun k' hk=>Below.heap_setCell _ _ _ _ hk
    have hlen:((tk r1 (i+1)).length:Int)=(tk r1 i).length+x.2.length:=by rw [htk,List.length_append]; omega
    refine ⟨It.Box.cell hF3.fb.b4,It.Box.cell z0,hF3.fb.b3.cell 1 (by simp),hF3.fb.b3.frozen 1,⟨Nat.le_trans t3.size (by simp [World.setCell]),(hne _ (by omega)).trans hdd,(hne _ (by omega)).trans hdl⟩,fun k hk=>?_,?_,It.Box.kept z0 (hne _ (by omega)),It.Box.kept z1 (hne _ (by omega)),It.Box.kept z2 (hne _ (by omega))⟩
    ·simp only [List.mem_cons,List.mem_nil_iff,or_false] at hk
     rcases hk with rfl | rfl | rfl
     ·exact (hne _ (by omega)).trans (z1.trans y1.symm)
     ·exact (hne _ (by omega)).trans (z2.trans y2.symm)
     ·exact (hne _ (by omega)).trans (t3.block _ (by have:=hF.tg.size; omega) hbm1 (.inl hbb1))
    ·rw [hlen]
     exact hF4
   clear hF y0 y1 y2 hmem hRx htk hle hpS hst hd1 hd2 hx HIW1 HX1 hgrow hRW
   gi_wp2_with fail
   refine ⟨trivial,?_⟩
   gi_wp2_with fail
   refine ⟨trivial,rfl,?_⟩
   refine (CallsIn.inRound l' (callsIn_wide.2 (aU HFIT))).mono ?_
   rintro e W3 ⟨rfl,m3,t3⟩
   obtain ⟨k1,k2,k3,k4,HE⟩:=aU HAFT W3 m3 t3
   clear m3 t3 HAFT HFIT
   generalize (tk r1 i).length=T at *
   gi_wp2_with fail
   exact ⟨(aU HE).1,(aU HE).2.1,(aU HE).2.2⟩
  case done1 =>
   intro V2 hI hdef hszW
   rw [tk_all,aU HE2] at hI
   have hF:=hI.1
   have HI2:Hid (FJ mb base w.heap.size lb size #[.slice a0 r0.length c0,.slice a1 r1.length c1,.slice a2 r2.length c2] w (W1.heap.size :: [W0.heap.size]) [(r0.length:Int),(r1.length:Int),0] mb S2 V2):=by
    obtain ⟨vb',vp',hmW,_⟩:=hF.msg
    have hR:=hF.re mb ⟨fun cur hc=>by rw [hmW] at hc; simp at hc,fun cur hc=>by rw [hmW] at hc; simp at hc⟩
    exact ⟨hR.fb,hR.lists,hR.msg,hR.po,hR.g,hR.tg,fun x hx=>by
     rcases List.mem_cons.1 hx with rfl | hx
     ·exact hdef
     ·exact hR.defs x hx⟩
   have s2:w.heap.size+5≤V2.heap.size:=by omega
   have u1:W1.heap.size<V2.heap.size:=by omega
   clear hI hF hdef hszW HIW1 HX1 hgrow hRW
   gi_wp2_with fail
   rw [roundsIn_succ]
   have cl2:V2.cell? ⟨lb,2,none⟩=some (.slice a2 r2.length c2):=by
    have:=(aU HI2).lists
    simp [World.cell?,this]
   gi_wp2_with fail
   refine ⟨trivial,rfl,?_⟩
   refine (callsIn_wide.2 (sets_b _ _ _ _)).mono ?_
   rintro e W2 ⟨rfl,ez,hbz,bx1,bx2⟩
   have bx0:It.Box W2 V2.heap.size (.int .i64 2) 3:=(It.Box.new _ _ _).below hbz (by simp)
   have hVW:Below V2.heap.size V2 W2:=((Below.refl _ _).alloc (Nat.le_refl _) _).trans (hbz.mono (by simp))
   simp only [World.size_alloc] at ez bx1 bx2
   have t2:V2.heap.size+3≤W2.heap.size:=by omega
   have HIW2:Hid (FJ mb base w.heap.size lb size #[.slice a0 r0.length c0,.slice a1 r1.length c1,.slice a2 r2.length c2] w [W1.heap.size,W0.heap.size] [(r0.length:Int),(r1.length:Int),0] (W2.heap.size+1) S2 W2):=((aU HI2).below hVW).re _ ⟨fun cur hc=>by have:=(Array.getElem?_eq_some_iff.1 hc).1; omega,fun cur hc=>by have:=(Array.getElem?_eq_some_iff.1 hc).1; omega⟩
   have HX2:=aH (And.intro bx0 (And.intro bx1 bx2))
   clear ez hbz bx0 bx1 bx2 hVW cl2 HI2
   gi_wp2_with fail
   have hgrow : ∀ r,Below W2.heap.size W2 ((W2.alloc (.deferred (some []))).alloc (.loop r)):=fun r=>((Below.refl _ _).alloc (Nat.le_refl _) _).alloc (by simp) _
   have hRW : ∀ W,TG mb base w W→bE W b2 o2 r2:=fun W ht=>Ia.bE.kept (aU HR2) ht.size (ht.block b2 hq2 hbm2 (.inl hbb2))
   refine It.rangeE (xs:=runs aD r2) (encs:=fun x:Nat×List Rec=>#[.slice (some ⟨b2,o2+x.1*4,none⟩) x.2.length x.2.length]) (St:=fun A B=>Below A.heap.size A B) (Kp:=It.Keep3 (V2.heap.size+1) (V2.heap.size+1+1) b2) (Kx:=fun _ _=>True)
    (gf:=233) (lb:=#[.pointer (some ⟨V2.heap.size+1,0,none⟩),.pointer (some ⟨V2.heap.size+1+1,0,none⟩)]) rfl (enters_of Tryz.func233 (by kernel_rfl) rfl) (fun _=>rfl) ?seq2
    [V2.heap.size+1,V2.heap.size+1+1,b2] (by simp; omega) (fun A B h=>h) (fun A B h h'=>⟨h',h _ (by simp),h _ (by simp),h _ (by simp)⟩) (fun _ _=>trivial)
    (fun i W=>FJ mb base w.heap.size lb size #[.slice a0 r0.length c0,.slice a1 r1.length c1,.slice a2 r2.length c2] w [W1.heap.size,W0.heap.size] [(r0.length:Int),(r1.length:Int),((tk r2 i).length:Int)] (W2.heap.size+1) (aC df (tk r2 i) S2.1 S2.2) W∧It.Box W V2.heap.size (.int .i64 2) 3∧It.Box W (V2.heap.size+1) (.slice a2 r2.length c2) 41∧It.Box W (V2.heap.size+1+1) (.func (.func 177) #[] #[]) 261)
    (fun _ _=>False)
    (fun i A B h hA hk=>⟨h.1.keeps hk (by omega) (by omega) (by omega) (by omega) (fun x hx=>by simp only [List.mem_cons,List.mem_nil_iff,or_false] at hx; omega),It.Box.kept h.2.1 (hk.block _ (It.Box.lt h.2.1) (by omega)),It.Box.kept h.2.2.1 (hk.block _ (It.Box.lt h.2.2.1) (by omega)),It.Box.kept h.2.2.2 (hk.block _ (It.Box.lt h.2.2.2) (by omega))⟩)
    (fun c A B h hA hk=>h)
    ⟨by rw [tk_zero,recsStep_nil]; simpa using aU HIW2,(aU HX2).1,(aU HX2).2.1,(aU HX2).2.2⟩
    ?round2 ?done2 ?stop2
   case seq2 =>
    intro r
    have hg:=hgrow r
    exact seqV _ b2 o2 _ _ r2 _ (aU HL2) ((hg.cell (p:=⟨V2.heap.size+1,0,none⟩) (by show V2.heap.size+1<W2.heap.size; omega)).trans (It.Box.cell (aU HX2).2.1)) ((hg.cell (p:=⟨V2.heap.size+1+1,0,none⟩) (by show V2.heap.size+1+1<W2.heap.size; omega)).trans (It.Box.cell (aU HX2).2.2)) ((hRW W2 (aU HIW2).tg).below hg) (by have:=hg.size; omega) (by have:=hg.size; omega) hn2
   case stop2 =>
    intro c W hI hdef hsz
    exact hI.elim
   case round2 =>
    intro l' i x Vr W hx hI hszW hd1 hd2
    obtain ⟨hF,y0,y1,y2⟩:=hI
    have hmem:x∈runs aD r2:=List.mem_of_getElem? hx
    have hxl:=runs_len hmem
    have hRx:=bE.piece (hRW W hF.tg) hmem
    have htk:=tk_succ hx
    have hst:aC df x.2 (aC df (tk r2 i) S2.1 S2.2).1 (aC df (tk r2 i) S2.1 S2.2).2=(aC df (tk r2 (i+1)) S2.1 S2.2):=by rw [htk,recsStep_app]
    have hle:=tkS_le df r2 (aU HK2) (i+1) S2.1 S2.2
    have hpS:=tkS_po df r2 (aU HK2) (i+1) S2.1 S2.2 (aU HP2)
    rw [aU HE3,← hst] at hle
    have htl:(tk r2 i).length≤3001:=Nat.le_trans (tk_len r2 i) hn2
    have HFIT:Hid (Calls Tryz.prog 203 #[.pointer (some ⟨mb,0,none⟩),.int .i64 size,.slice (some ⟨b2,o2+x.1*4,none⟩) x.2.length x.2.length] W fun e w' =>
      e=.returned (.bool true)∧Msg w' mb base (aC df (tk r2 (i+1)) S2.1 S2.2).1 (aC df (tk r2 (i+1)) S2.1 S2.2).2∧TG mb base W w'):=by
     have hb:=aU HB2
     have:=fit_g mb base b2 (o2+x.1*4) x.2.length size df x.2 (aC df (tk r2 i) S2.1 S2.2).2 (aC df (tk r2 i) S2.1 S2.2).1 W hF.msg.msg hF.po hF.g (Nat.le_trans hbs hF.tg.size) hb0 hm0 hRx hbb2 hbm2 (Nat.le_refl _) (by omega)
      (fun r hr=>aU HK2 r (tk_mem hmem hr)) (by omega) (by omega) (by omega)
     rw [hst] at this
     exact this
    have c0':=It.Box.cell hF.fb.b0
    have c1':=It.Box.cell hF.fb.b1
    have HAFT:Hid (∀ W3,Msg W3 mb base (aC df (tk r2 (i+1)) S2.1 S2.2).1 (aC df (tk r2 (i+1)) S2.1 S2.2).2→TG mb base W W3 →
      W3.cell? ⟨w.heap.size+1+1+1+1,0,none⟩=some (.slice (some ⟨w.heap.size+1+1+1,0,none⟩) 3 3)∧W3.cell? ⟨V2.heap.size,0,none⟩=some (.int .i64 2)∧W3.cell? ⟨w.heap.size+1+1+1,2,none⟩=some (.int .i64 (tk r2 i).length)∧W3.frozen? ⟨w.heap.size+1+1+1,2,none⟩=false ∧
      Hid (It.Loops W2.heap.size W (W3.setCell ⟨w.heap.size+1+1+1,2,none⟩ (.int .i64 ((tk r2 i).length+x.2.length:Int)))∧(∀ k∈[V2.heap.size+1,V2.heap.size+1+1,b2],(W3.setCell ⟨w.heap.size+1+1+1,2,none⟩ (.int .i64 ((tk r2 i).length+x.2.length:Int))).heap[k]? = W.heap[k]?) ∧
       (FJ mb base w.heap.size lb size #[.slice a0 r0.length c0,.slice a1 r1.length c1,.slice a2 r2.length c2] w [W1.heap.size,W0.heap.size] [(r0.length:Int),(r1.length:Int),((tk r2 (i+1)).length:Int)] (W2.heap.size+1) (aC df (tk r2 (i+1)) S2.1 S2.2) (W3.setCell ⟨w.heap.size+1+1+1,2,none⟩ (.int .i64 ((tk r2 i).length+x.2.length:Int)))∧It.Box (W3.setCell ⟨w.heap.size+1+1+1,2,none⟩ (.int .i64 ((tk r2 i).length+x.2.length:Int))) V2.heap.size (.int .i64 2) 3∧It.Box (W3.setCell ⟨w.heap.size+1+1+1,2,none⟩ (.int .i64 ((tk r2 i).length+x.2.length:Int))) (V2.heap.size+1) (.slice a2 r2.length c2) 41∧It.Box (W3.setCell ⟨w.heap.size+1+1+1,2,none⟩ (.int .i64 ((tk r2 i).length+x.2.length:Int))) (V2.heap.size+1+1) (.func (.func 177) #[] #[]) 261))):=by
     intro W3 m3 t3
     obtain ⟨lr,hlr⟩:=hd2
     have hdl:=(t3.block (W2.heap.size+1) (by omega) (by omega) (.inr ⟨fun c hc=>(by rw [hlr] at hc; cases hc),fun c hc=>by rw [hlr] at hc; cases hc⟩))
     have hdd:=(t3.block W2.heap.size (by omega) (by omega) (.inr ⟨fun c hc=>(by rw [hd1] at hc; cases hc),fun c hc=>by rw [hd1] at hc; cases hc⟩))
     have hF3:=hF.fit t3 m3 hpS (by omega) hlm hb0 hm0 (fun x hx=>by simp only [List.mem_cons,List.mem_nil_iff,or_false] at hx; omega) ⟨fun cur hc=>(by rw [hdl,hlr] at hc; cases hc),fun cur hc=>by rw [hdl,hlr] at hc; cases hc⟩
     have z0:=box_tg y0 t3 (by omega) (by decide) (by decide)
     have z1:=box_tg y1 t3 (by omega) (by decide) (by decide)
     have z2:=box_tg y2 t3 (by omega) (by decide) (by decide)
     have hF4:=hF3.set 2 ((tk r2 i).length+x.2.length:Int) (by omega) (by omega) (Nat.le_refl _) (fun x hx=>by simp only [List.mem_cons,List.mem_nil_iff,or_false] at hx; omega)
     have hne : ∀ k',k'≠w.heap.size+3→(W3.setCell ⟨w.heap.size+1+1+1,2,none⟩ (.int .i64 ((tk r2 i).length+x.2.length:Int))).heap[k']? = W3.heap[k']?:=fun k' hk=>Below.heap_setCell _ _ _ _ hk
     have hlen:((tk r2 (i+1)).length:Int)=(tk r2 i).length+x.2.length:=by rw [htk,List.length_append]; omega
     refine ⟨It.Box.cell hF3.fb.b4,It.Box.cell z0,hF3.fb.b3.cell 2 (by simp),hF3.fb.b3.frozen 2,⟨Nat.le_trans t3.size (by simp [World.setCell]),(hne _ (by omega)).trans hdd,(hne _ (by omega)).trans hdl⟩,fun k hk=>?_,?_,It.Box.kept z0 (hne _ (by omega)),It.Box.kept z1 (hne _ (by omega)),It.Box.kept z2 (hne _ (by omega))⟩
     ·simp only [List.mem_cons,List.mem_nil_iff,or_false] at hk
      rcases hk with rfl | rfl | rfl
      ·exact (hne _ (by omega)).trans (z1.trans y1.symm)
      ·exact (hne _ (by omega)).trans (z2.trans y2.symm)
      ·exact (hne _ (by omega)).trans (t3.block _ (by have:=hF.tg.size; omega) hbm2 (.inl hbb2))
     ·rw [hlen]
      exact hF4
    clear hF y0 y1 y2 hmem hRx htk hle hpS hst hd1 hd2 hx HIW2 HX2 hgrow hRW
    gi_wp2_with fail
    refine ⟨trivial,?_⟩
    gi_wp2_with fail
    refine ⟨trivial,rfl,?_⟩
    refine (CallsIn.inRound l' (callsIn_wide.2 (aU HFIT))).mono ?_
    rintro e W3 ⟨rfl,m3,t3⟩
    obtain ⟨k1,k2,k3,k4,HE⟩:=aU HAFT W3 m3 t3
    clear m3 t3 HAFT HFIT
    generalize (tk r2 i).length=T at *
    gi_wp2_with fail
    exact ⟨(aU HE).1,(aU HE).2.1,(aU HE).2.2⟩
   case done2 =>
    intro V3 hI hdef hszW
    rw [tk_all,aU HE3] at hI
    have hF:=hI.1
    have HI3:Hid (FJ mb base w.heap.size lb size #[.slice a0 r0.length c0,.slice a1 r1.length c1,.slice a2 r2.length c2] w (W2.heap.size :: [W1.heap.size,W0.heap.size]) [(r0.length:Int),(r1.length:Int),(r2.length:Int)] mb S3 V3):=by
     obtain ⟨vb',vp',hmW,_⟩:=hF.msg
     have hR:=hF.re mb ⟨fun cur hc=>by rw [hmW] at hc; simp at hc,fun cur hc=>by rw [hmW] at hc; simp at hc⟩
     exact ⟨hR.fb,hR.lists,hR.msg,hR.po,hR.g,hR.tg,fun x hx=>by
      rcases List.mem_cons.1 hx with rfl | hx
      ·exact hdef
      ·exact hR.defs x hx⟩
    have s3:w.heap.size+5≤V3.heap.size:=by omega
    have u2:W2.heap.size<V3.heap.size:=by omega
    clear hI hF hdef hszW HIW2 HX2 hgrow hRW
    gi_wp2_with fail
    rw [roundsIn_succ]
    have hF:=aU HI3
    obtain ⟨vb',vp',hmW,hoW,hpW,_⟩:=hF.msg
    have k4:V3.cell? ⟨w.heap.size+1+1+1+1,0,none⟩=some (.slice (some ⟨w.heap.size+1+1+1,0,none⟩) 3 3):=It.Box.cell hF.fb.b4
    have k2:V3.cell? ⟨w.heap.size+1+1,0,none⟩=some (.slice none 0 0):=It.Box.cell hF.fb.b2
    have f2:V3.frozen? ⟨w.heap.size+1+1,0,none⟩=false:=It.Box.frozen hF.fb.b2
    have HC:=aH (And.intro hmW (And.intro hoW hpW))
    clear hF hmW hoW hpW
    gi_wp2_with fail
    have hF:=aU HI3
    have d2:=hF.defs W2.heap.size (by simp)
    have d1:=hF.defs W1.heap.size (by simp)
    have d0:=hF.defs W0.heap.size (by simp)
    obtain ⟨Z,hZ⟩ : ∃ Z,Z=V3.setCell ⟨w.heap.size+1+1,0,none⟩ (.slice (some ⟨w.heap.size+1+1+1,0,none⟩) 3 3):=⟨_,rfl⟩
    have hz : ∀ k,k≠w.heap.size+2→Z.heap[k]? = V3.heap[k]?:=fun k hk=>by rw [hZ]; exact Below.heap_setCell _ _ _ _ hk
    have hzb:It.Box Z (w.heap.size+1+1) (.slice (some ⟨w.heap.size+1+1+1,0,none⟩) 3 3) 56:=by rw [hZ]; exact It.Box.set hF.fb.b2 _
    have hzs:Z.heap.size=V3.heap.size:=by rw [hZ]; simp [World.setCell]
    have hzo:Z.os=V3.os∧Z.tape=V3.tape∧Z.output=V3.output:=by rw [hZ]; exact ⟨rfl,rfl,rfl⟩
    rw [← hZ]
    refine ⟨by simp,.inl ⟨_,_,rfl,run_takeDeferred ((hz _ (by omega)).trans d2),?_⟩⟩
    refine ⟨by simp,.inl ⟨_,_,rfl,run_takeDeferred ((World.putObj_heap_other (by omega)).trans ((hz _ (by omega)).trans d1)),?_⟩⟩
    refine ⟨by simp,.inl ⟨_,_,rfl,run_takeDeferred ((World.putObj_heap_other (by omega)).trans ((World.putObj_heap_other (by omega)).trans ((hz _ (by omega)).trans d0))),?_⟩⟩
    have cr:=It.Box.cell (((hzb.put (d:=W2.heap.size) (o:=.deferred none) (by omega)).put (d:=W1.heap.size) (o:=.deferred none) (by omega)).put (d:=W0.heap.size) (o:=.deferred none) (by omega))
    have hfin : ∀ k,k≠w.heap.size+2→k≠W2.heap.size→k≠W1.heap.size→k≠W0.heap.size→(((Z.putObj W2.heap.size (.deferred none)).putObj W1.heap.size (.deferred none)).putObj W0.heap.size (.deferred none)).heap[k]? = V3.heap[k]?:=fun k h h2 h1 h0 =>
     (World.putObj_heap_other h0).trans ((World.putObj_heap_other h1).trans ((World.putObj_heap_other h2).trans (hz k h)))
    obtain ⟨hmW,hoW,hpW⟩:=aU HC
    have hnum:=hF.fb.b3
    have hob : ∀ g,vb'.ownBlock=some g→(((Z.putObj W2.heap.size (.deferred none)).putObj W1.heap.size (.deferred none)).putObj W0.heap.size (.deferred none)).heap[g]? = V3.heap[g]?:=fun g hg=>by
     obtain ⟨cur,hcur⟩:=own_kindB hoW hg
     refine hfin g (fun e=>?_) (fun e=>?_) (fun e=>?_) (fun e=>?_)
     ·have:=hF.fb.b2
      rw [e,this] at hcur; simp at hcur
     ·rw [e,d2] at hcur; cases hcur
     ·rw [e,d1] at hcur; cases hcur
     ·rw [e,d0] at hcur; cases hcur
    have hopl : ∀ g,vp'.ownBlock=some g→(((Z.putObj W2.heap.size (.deferred none)).putObj W1.heap.size (.deferred none)).putObj W0.heap.size (.deferred none)).heap[g]? = V3.heap[g]?:=fun g hg=>by
     obtain ⟨cur,hcur⟩:=own_kindP hpW hg
     refine hfin g (fun e=>?_) (fun e=>?_) (fun e=>?_) (fun e=>?_)
     ·have:=hF.fb.b2
      rw [e,this] at hcur; simp at hcur
     ·rw [e,d2] at hcur; cases hcur
     ·rw [e,d1] at hcur; cases hcur
     ·rw [e,d0] at hcur; cases hcur
    exact ⟨.slice (some ⟨w.heap.size+3,0,none⟩) 3 3,by simp [results,Tryz.results137,go_sem,cr],rfl,(hfin _ (by omega) (by omega) (by omega) (by omega)).trans hnum,⟨vb',vp',hmW.kept (hfin mb (by omega) (by omega) (by omega) (by omega)),own_kept hoW hob,own_kept hpW hopl⟩,
     hF.tg.same hzo.1 hzo.2.1 hzo.2.2 (by rw [World.putObj_size,World.putObj_size,World.putObj_size,hzs]; exact Nat.le_refl _) fun i hi=>hfin i (by omega) (by omega) (by omega) (by omega)⟩
end Mg
end Go.Proofs.YtkkpahmoljiepaaGreatDoor
