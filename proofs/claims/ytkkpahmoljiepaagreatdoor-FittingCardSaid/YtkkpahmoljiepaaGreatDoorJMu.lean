/- Contract: (query).reply, whatever fill has written: its contract is given. -/
import Derived.Test.YtkkpahmoljiepaaGreatDoorJMh
set_option linter.unusedSimpArgs false
set_option linter.unusedVariables false
set_option maxRecDepth 1000000
set_option maxHeartbeats 12800000
namespace Go.Proofs.YtkkpahmoljiepaaGreatDoor
open Go.RowKit
open Pu (Str aH aU)
namespace Mu
open Ka Kd Rf Rg Ia Iow Ie Zb Zc Za La Lb Lg Lj Wa Wb Wc Wd We Wf Wg Wh Wi Wj Wk Wl Wm Wn Wo Wp Wq Ws Wt Wu Wv Wy Wz Ma Mb Mc Md Me Mf Mg Mh Re
structure RX (s hb:Nat) (h0 h1 h2 h3 h4 h5:Int) (q n:Str) (k kc:Int) (op:Bool) (sz ver:Int) (rc:Int) (au va vb vc:Value) (hs:List Int) (W:World):Prop where
 qu:QAt W s h0 h1 h2 h3 h4 h5 q n k kc op sz ver
 an:aL W (s+1) (.int .i64 rc) au va vb vc
 hd:NumsAt W hb hs 133
 g:G W
theorem RX.keep {s hb base:Nat} {h0 h1 h2 h3 h4 h5:Int} {q n:Str} {k kc:Int} {op:Bool} {sz ver:Int} {rc:Int} {au va vb vc:Value} {hs:List Int} {W W':World} (h:RX s hb h0 h1 h2 h3 h4 h5 q n k kc op sz ver rc au va vb vc hs W)
  (hk : ∀ i,i<base→W'.heap[i]? = W.heap[i]?) (hz:W.heap.size≤W'.heap.size) (e1:s+1<base) (e2:hb<base):RX s hb h0 h1 h2 h3 h4 h5 q n k kc op sz ver rc au va vb vc hs W':=by
 obtain ⟨g0,m,gc⟩:=h.g
 exact ⟨h.qu.kept (hk _ (by omega)),(hk _ (by omega)).trans h.an,(hk _ (by omega)).trans h.hd,⟨Nat.lt_of_lt_of_le g0 hz,m,(World.cell?_of_block (hk 0 (by omega))).trans gc⟩⟩
theorem reply_na1 (id b b2 n0 n1 n2 c0 c1 c2 ca cb cc:Nat) (aa ab ac:Option Addr) (h1 h2 h3 h4 h5 k kc rc:Int) (q n:Str) (sz ver lim:Int) (L:Str) (S2:Str×Pl) (w:World) (hg:G w) (hc0:c0≤3001) (hc1:c1≤3001) (hc2:c2≤3001)
  (hid:id<65536) (hbt:b<65536) (hT:bits .or .i64 (turnedP h1 rc) 1024=(b:Int)) (hn:n.length≤900) (hq:q.length≤300)
  (htr:(c0:Int)<(n0:Int)) (hT2:bits .or .i64 (b:Int) 512=(b2:Int)) (hb2:b2<65536)
  (hfill : ∀ W mb base lb,Below w.heap.size w W→w.heap.size≤base→base≤W.heap.size→w.heap.size≤mb→Msg W mb base (List.replicate 12 0++q) (plcs 12 n)→W.heap[lb]? = some (.cells #[.slice aa n0 ca,.slice ab n1 cb,.slice ac n2 cc] 41)→lb≠mb→Calls Tryz.prog 137 #[.pointer (some ⟨mb,0,none⟩),.int .i64 (lim - (L.length:Int)),.slice (some ⟨lb,0,none⟩) 3 3] W fun e w' =>
   e=.returned (.slice (some ⟨W.heap.size+3,0,none⟩) 3 3)∧NumsAt w' (W.heap.size+3) [(c0:Int),c1,c2] 3∧Msg w' mb base S2.1 S2.2∧TG mb base W w')
  (hlast : ∀ W,G W→Calls Tryz.prog 136 #[qVal id h1 h2 h3 h4 h5 q n k kc false sz ver,.int .i64 rc] W fun e w'=>e=.returned (.string (B L))∧Below W.heap.size W w')
  (hlimit : ∀ W,Calls Tryz.prog 138 #[qVal id h1 h2 h3 h4 h5 q n k kc false sz ver] W fun e w'=>e=.returned (.int .i64 lim)∧Below W.heap.size W w')
  (hLl:L.length≤100) (hlim:lim≤2000) (hlim0:0≤lim) (h12:12≤S2.1.length) (hl2:S2.1.length+L.length≤5000) :
  Calls Tryz.prog 73 #[qVal id h1 h2 h3 h4 h5 q n k kc false sz ver,.agg #[.int .i64 rc,.bool true,.slice aa n0 ca,.slice ab n1 cb,.slice ac n2 cc]] w fun e w' =>
   e=.returned (.string (B (outs (hdrFs id b2 1 c0 c1 c2)++(S2.1++L).drop 12)))∧Below w.heap.size w w':=by
 have HFL:=aH hfill
 have HLAST:=aH hlast
 have HLIMT:=aH hlimit
 have hLs:(B L).size=L.length:=size_B L
 have hwr:IntKind.i64.wrap (lim - (L.length:Int))=lim - (L.length:Int):=by rw [IntKind.wrap_i64]; omega
 clear hfill hlast hlimit
 obtain ⟨X0,hX0⟩ : ∃ X0,X0=(w.alloc (.cells #[.int .i64 id,.int .i64 h1,.int .i64 h2,.int .i64 h3,.int .i64 h4,.int .i64 h5,.string (B q),.string (B n),.int .i64 k,.int .i64 kc,.bool false,.int .i64 sz,.int .i64 ver] 137)).alloc (.cells #[.int .i64 rc,.bool true,.slice aa n0 ca,.slice ab n1 cb,.slice ac n2 cc] 43):=⟨_,rfl⟩
 have hB0:Below w.heap.size w X0:=by rw [hX0]; exact ((Below.refl _ _).alloc (Nat.le_refl _) _).alloc (by simp) _
 have hQ0:QAt X0 w.heap.size id h1 h2 h3 h4 h5 q n k kc false sz ver:=by
  rw [hX0]
  exact (Below.heap_alloc _ _ _ (by simp)).trans (World.alloc_heap_new w _)
 have hA0:aL X0 (w.heap.size+1) (.int .i64 rc) (.bool true) (.slice aa n0 ca) (.slice ab n1 cb) (.slice ac n2 cc):=by
  rw [hX0]
  have:=World.alloc_heap_new (w.alloc (.cells #[.int .i64 id,.int .i64 h1,.int .i64 h2,.int .i64 h3,.int .i64 h4,.int .i64 h5,.string (B q),.string (B n),.int .i64 k,.int .i64 kc,.bool false,.int .i64 sz,.int .i64 ver] 137)) (.cells #[.int .i64 rc,.bool true,.slice aa n0 ca,.slice ab n1 cb,.slice ac n2 cc] 43)
  rwa [World.size_alloc] at this
 have HX:=aH (And.intro hB0 (And.intro hQ0 hA0))
 have HIN:=aH hg
 have hX0s:w.heap.size+2≤X0.heap.size:=by rw [hX0]; simp <;> omega
 clear hg hB0 hQ0 hA0
 unfold qVal
 go_enter Tryz.func73,Tryz.ntmps73
 go_wp2_with fail
 rw [← hX0]
 have HX0:=aH hX0
 clear hX0
 refine (turned_any _ _ _ _ _ _ _ _).mono ?_
 rintro e w1 ⟨rfl,hb1⟩
 obtain ⟨hB0,hQ0,hA0⟩:=aU HX
 have hg:=aU HIN
 have hQ1:=hQ0.kept (hb1.block _ hQ0.lt)
 have hA1:aL w1 (w.heap.size+1) _ _ _ _ _:=(hb1.block _ (by omega)).trans hA0
 have hB1:Below w.heap.size w w1:=hB0.trans (hb1.mono hB0.size)
 have hs1:=hb1.size
 obtain ⟨k0,k1,k2,k3,k4⟩:=aL.cells hA1
 obtain ⟨T,hTT⟩ : ∃ T,T=turnedP h1 rc:=⟨_,rfl⟩
 rw [← hTT] at hT ⊢
 have HC1:=aH (And.intro hQ1 (And.intro hA1 hB1))
 clear hB0 hQ0 hA0 hg hQ1 hA1 hB1 hTT hb1 HX k2 k3 k4
 have lt1:w.heap.size+1<w1.heap.size:=by omega
 go_wp2_with fail
 have HR1:Hid ((RX w.heap.size w1.heap.size id h1 h2 h3 h4 h5 q n k kc false sz ver rc (.bool true) (.slice aa n0 ca) (.slice ab n1 cb) (.slice ac n2 cc) [(id:Int),b,0,0,0,0] (w1.alloc (.cells #[.int .i64 id,.int .i64 b,.int .i64 0,.int .i64 0,.int .i64 0,.int .i64 0] 133)))∧Below w.heap.size w (w1.alloc (.cells #[.int .i64 id,.int .i64 b,.int .i64 0,.int .i64 0,.int .i64 0,.int .i64 0] 133))∧w1.heap.size<(w1.alloc (.cells #[.int .i64 id,.int .i64 b,.int .i64 0,.int .i64 0,.int .i64 0,.int .i64 0] 133)).heap.size):=by
  obtain ⟨hQ1,hA1,hB1⟩:=aU HC1
  have hg:=aU HIN
  have hB2:=hB1.alloc (by omega) (.cells #[.int .i64 id,.int .i64 b,.int .i64 0,.int .i64 0,.int .i64 0,.int .i64 0] 133)
  exact ⟨⟨hQ1.kept (Below.heap_alloc _ _ _ (by omega)),(Below.heap_alloc _ _ _ (by omega)).trans hA1,World.alloc_heap_new w1 _,hg.below hB2⟩,hB2,by simp⟩
 clear HC1 k0 k1 hT HX0
 generalize (w1.alloc (.cells #[.int .i64 id,.int .i64 b,.int .i64 0,.int .i64 0,.int .i64 0,.int .i64 0] 133))=X1 at *
 refine (newMessage_any _).mono ?_
 rintro e w2 ⟨rfl,⟨vm,hm2,ho2⟩,hb2⟩
 obtain ⟨hR1,hB1,hs2⟩:=aU HR1
 have hXs:=hb2.size
 have hR2:=hR1.keep (fun i hi=>hb2.block i hi) hb2.size (by omega) (by omega)
 obtain ⟨base,hbase⟩ : ∃ base,base=X1.heap.size:=⟨_,rfl⟩
 obtain ⟨mb,hmb⟩ : ∃ mb,mb=X1.heap.size+1:=⟨_,rfl⟩
 have hB2:Below w.heap.size w w2:=hB1.trans (hb2.mono (by omega))
 rw [← hmb] at hm2 ⊢
 rw [← hbase] at ho2 hs2 hXs
 have hbm:base<mb:=by omega
 have HPQ:=aH (putQuestion_g mb base id h1 h2 h3 h4 h5 q n k kc false sz ver vm (List.replicate 12 0) w2 hm2 ho2 hR2.g hXs (by omega) (by omega) hn (by simp; omega))
 unfold qVal at HPQ
 obtain ⟨q0,q1,q2,q3,q4,q5,q6,q7,q8,q9,q10,q11,q12⟩:=hR2.qu.cells
 have HR2:=aH (And.intro hR2 hB2)
 clear hR2 hB2 hm2 ho2 hb2 hR1 hB1 HR1 hbase hmb
 go_wp2_with fail
 refine (aU HPQ).mono ?_
 rintro e w3 ⟨rfl,⟨vb3,vp3,hm3,ho3,hp3⟩,hb3⟩
 obtain ⟨hR2,hB2⟩:=aU HR2
 have hR3:=hR2.keep (fun i hi=>hb3.block i hi) hb3.size (by omega) (by omega)
 have hB3:Below w.heap.size w w3:=hB2.trans (hb3.mono (by omega))
 have hXs3:base≤w3.heap.size:=Nat.le_trans hXs hb3.size
 clear q0 q1 q2 q3 q4 q5 q6 q7 q8 q9 q10 q11 q12
 obtain ⟨q0,q1,q2,q3,q4,q5,q6,q7,q8,q9,q10,q11,q12⟩:=hR3.qu.cells
 obtain ⟨g0,g1,g2,g3,g4⟩:=aL.cells hR3.an
 have HLA:=aH (aU HLAST w3 hR3.g)
 unfold qVal at HLA
 have HM3:Hid (Msg w3 mb base (List.replicate 12 0++q) (plcs 12 n)):=⟨vb3,vp3,hm3,ho3,hp3⟩
 have HR3:=aH (And.intro hR3 hB3)
 clear hm3 ho3 hp3 hR3 hB3 hR2 hB2 HR2 HPQ hb3
 go_wp2_with fail
 refine (aU HLA).mono ?_
 rintro e w4 ⟨rfl,hb4⟩
 obtain ⟨hR3,hB3⟩:=aU HR3
 have hm3:=aU HM3
 have hR4:=hR3.keep (base:=base) (fun i hi=>hb4.block i (by omega)) hb4.size (by omega) (by omega)
 have hB4:Below w.heap.size w w4:=hB3.trans (hb4.mono (by omega))
 have hm4:=hm3.below hb4
 have hXs4:base≤w4.heap.size:=Nat.le_trans hXs3 hb4.size
 clear q0 q1 q2 q3 q4 q5 q6 q7 q8 q9 q10 q11 q12 g0 g1 g2 g3 g4
 obtain ⟨q0,q1,q2,q3,q4,q5,q6,q7,q8,q9,q10,q11,q12⟩:=hR4.qu.cells
 obtain ⟨g0,g1,g2,g3,g4⟩:=aL.cells hR4.an
 have HLI4:Hid (∀ W,Calls Tryz.prog 138 #[.agg #[.int .i64 id,.int .i64 h1,.int .i64 h2,.int .i64 h3,.int .i64 h4,.int .i64 h5,.string (B q),.string (B n),.int .i64 k,.int .i64 kc,.bool false,.int .i64 sz,.int .i64 ver]] W fun e w'=>e=.returned (.int .i64 lim)∧Below W.heap.size W w'):=aU HLIMT
 have HF4:Hid (∀ W lb,Below w4.heap.size w4 W→W.heap[lb]? = some (.cells #[.slice aa n0 ca,.slice ab n1 cb,.slice ac n2 cc] 41)→w4.heap.size≤lb→Calls Tryz.prog 137 #[.pointer (some ⟨mb,0,none⟩),.int .i64 (lim - (L.length:Int)),.slice (some ⟨lb,0,none⟩) 3 3] W fun e w' =>
   ∃ nb,e=.returned (.slice (some ⟨nb,0,none⟩) 3 3)∧(w'.cell? ⟨w.heap.size,0,none⟩=some (.int .i64 id)∧w'.cell? ⟨w.heap.size,1,none⟩=some (.int .i64 h1)∧w'.cell? ⟨w.heap.size,2,none⟩=some (.int .i64 h2)∧w'.cell? ⟨w.heap.size,3,none⟩=some (.int .i64 h3)∧w'.cell? ⟨w.heap.size,4,none⟩=some (.int .i64 h4)∧w'.cell? ⟨w.heap.size,5,none⟩=some (.int .i64 h5)∧w'.cell? ⟨w.heap.size,6,none⟩=some (.string (B q))∧w'.cell? ⟨w.heap.size,7,none⟩=some (.string (B n))∧w'.cell? ⟨w.heap.size,8,none⟩=some (.int .i64 k)∧w'.cell? ⟨w.heap.size,9,none⟩=some (.int .i64 kc)∧w'.cell? ⟨w.heap.size,10,none⟩=some (.bool false)∧w'.cell? ⟨w.heap.size,11,none⟩=some (.int .i64 sz)∧w'.cell? ⟨w.heap.size,12,none⟩=some (.int .i64 ver)∧w'.cell? ⟨w.heap.size+1,2,none⟩=some (.slice aa n0 ca)∧w'.cell? ⟨w.heap.size+1,3,none⟩=some (.slice ab n1 cb)∧w'.cell? ⟨w.heap.size+1,4,none⟩=some (.slice ac n2 cc))∧Hid (w4.heap.size≤nb∧NumsAt w' nb [(c0:Int),c1,c2] 3∧RX w.heap.size w1.heap.size id h1 h2 h3 h4 h5 q n k kc false sz ver rc (.bool true) (.slice aa n0 ca) (.slice ab n1 cb) (.slice ac n2 cc) [(id:Int),b,0,0,0,0] w'∧Below w.heap.size w w'∧base≤w'.heap.size∧Msg w' mb base S2.1 S2.2)):=by
  intro W lb hb hlb hle
  have hmlt4:=hm4.lt
  have hR:=hR4.keep (base:=base) (fun i hi=>hb.block i (by omega)) hb.size (by omega) (by omega)
  have hbsz:=hb.size
  refine (aU HFL W mb base lb (hB4.trans (hb.mono (by omega))) (by omega) (by omega) (by omega) (hm4.below hb) hlb (by omega)).mono ?_
  rintro e w' ⟨rfl,hnum,m5,t5⟩
  have hR5:=hR.keep (base:=base) (fun i hi=>t5.block i (by omega) (by omega) (.inl hi)) t5.size (by omega) (by omega)
  have hBw:Below w.heap.size w W:=hB4.trans (hb.mono (by omega))
  have hts:=t5.size
  obtain ⟨q0,q1,q2,q3,q4,q5,q6,q7,q8,q9,q10,q11,q12⟩:=hR5.qu.cells
  obtain ⟨_,_,g2,g3,g4⟩:=aL.cells hR5.an
  refine ⟨W.heap.size+3,rfl,⟨q0,q1,q2,q3,q4,q5,q6,q7,q8,q9,q10,q11,q12,g2,g3,g4⟩,by omega,hnum,hR5,hBw.trans (show Below w.heap.size W w' from ⟨t5.os,t5.tape,t5.output,t5.size,fun i hi=>t5.block i (by omega) (by omega) (.inl (by omega))⟩),by omega,m5⟩
 have HR4:=aH (And.intro hR4 hB4)
 have hS:w4.drew.cell? ⟨w.heap.size,0,none⟩=some (.int .i64 id)∧w4.drew.cell? ⟨w.heap.size,1,none⟩=some (.int .i64 h1)∧w4.drew.cell? ⟨w.heap.size,2,none⟩=some (.int .i64 h2)∧w4.drew.cell? ⟨w.heap.size,3,none⟩=some (.int .i64 h3)∧w4.drew.cell? ⟨w.heap.size,4,none⟩=some (.int .i64 h4)∧w4.drew.cell? ⟨w.heap.size,5,none⟩=some (.int .i64 h5)∧w4.drew.cell? ⟨w.heap.size,6,none⟩=some (.string (B q))∧w4.drew.cell? ⟨w.heap.size,7,none⟩=some (.string (B n))∧w4.drew.cell? ⟨w.heap.size,8,none⟩=some (.int .i64 k)∧w4.drew.cell? ⟨w.heap.size,9,none⟩=some (.int .i64 kc)∧w4.drew.cell? ⟨w.heap.size,10,none⟩=some (.bool false)∧w4.drew.cell? ⟨w.heap.size,11,none⟩=some (.int .i64 sz)∧w4.drew.cell? ⟨w.heap.size,12,none⟩=some (.int .i64 ver)∧w4.drew.cell? ⟨w.heap.size+1,2,none⟩=some (.slice aa n0 ca)∧w4.drew.cell? ⟨w.heap.size+1,3,none⟩=some (.slice ab n1 cb)∧w4.drew.cell? ⟨w.heap.size+1,4,none⟩=some (.slice ac n2 cc):=⟨q0,q1,q2,q3,q4,q5,q6,q7,q8,q9,q10,q11,q12,g2,g3,g4⟩
 clear hm3 hR3 hB3 HR3 HM3 hR4 hB4 hm4 HLA hb4
 have HAR:=aH (And.intro hid (And.intro hbt (And.intro h12 (And.intro hl2 (And.intro hc0 (And.intro hc1 hc2))))))
 clear hid hbt h12 hl2 hc0 hc1 hc2 hn hq
 go_wp2_with fail
 go_region_held (fun w'=>w'.cell? ⟨w.heap.size,0,none⟩=some (.int .i64 id)∧w'.cell? ⟨w.heap.size,1,none⟩=some (.int .i64 h1)∧w'.cell? ⟨w.heap.size,2,none⟩=some (.int .i64 h2)∧w'.cell? ⟨w.heap.size,3,none⟩=some (.int .i64 h3)∧w'.cell? ⟨w.heap.size,4,none⟩=some (.int .i64 h4)∧w'.cell? ⟨w.heap.size,5,none⟩=some (.int .i64 h5)∧w'.cell? ⟨w.heap.size,6,none⟩=some (.string (B q))∧w'.cell? ⟨w.heap.size,7,none⟩=some (.string (B n))∧w'.cell? ⟨w.heap.size,8,none⟩=some (.int .i64 k)∧w'.cell? ⟨w.heap.size,9,none⟩=some (.int .i64 kc)∧w'.cell? ⟨w.heap.size,10,none⟩=some (.bool false)∧w'.cell? ⟨w.heap.size,11,none⟩=some (.int .i64 sz)∧w'.cell? ⟨w.heap.size,12,none⟩=some (.int .i64 ver)∧w'.cell? ⟨w.heap.size+1,2,none⟩=some (.slice aa n0 ca)∧w'.cell? ⟨w.heap.size+1,3,none⟩=some (.slice ab n1 cb)∧w'.cell? ⟨w.heap.size+1,4,none⟩=some (.slice ac n2 cc)) (first | assumption | go_keep)
  (first
   | (go_at_call 138; go_loud (refine (aU HLI4 _).mono ?_; rintro e w5 ⟨rfl,hb5⟩; have hS5:=keep16 hb5 (by assumption)))
   | (go_at_call 137; refine (aU HF4 _ _ (((Below.refl _ _).drew.trans hb5).alloc hb5.size _) (World.alloc_heap_new _ _) hb5.size).mono ?_; rintro e w6 ⟨nb,rfl,hS6,HB6⟩)
   | (go_at_call 137; refine (aU HF4 _ _ (((Below.refl _ _).alloc (Nat.le_refl _) _).drew.trans (hb5.mono (by simp))) ((hb5.block _ (by simp)).trans (World.alloc_heap_new w4 _)) (Nat.le_refl _)).mono ?_; rintro e w6 ⟨nb,rfl,hS6,HB6⟩))
 all_goals
  rename_i hH
  obtain ⟨hid,hbt,h12,hl2,hc0,hc1,hc2⟩:=aU HAR
  clear hH hS6 hb5 hS5 HF4 HLI4 HR4 hS q0 q1 q2 q3 q4 q5 q6 q7 q8 q9 q10 q11 q12 g0 g1 g2 g3 g4
  obtain ⟨hnb4,hnum,hR6,hB6,hXs6,hm6⟩:=aU HB6
  have z0:=hnum.cell 0 (by simp)
  have z1:=hnum.cell 1 (by simp)
  have z2:=hnum.cell 2 (by simp)
  simp only [List.getElem_cons_zero,List.getElem_cons_succ] at z0 z1 z2
  obtain ⟨g0,g1,g2,g3,g4⟩:=aL.cells hR6.an
  have HC6:=aH (And.intro hnum (And.intro hR6 (And.intro hB6 hm6)))
  clear hnum hR6 hB6 hm6 HB6
  have hd0:decide ((c0:Int)<(n0:Int))=true:=decide_eq_true htr
  go_wp2_with fail
  go_quiet (fail)
  have hD:Below w6.heap.size w6 (w6.drewN nq):=Rg.below_drewN (Below.refl _ _) nq
  obtain ⟨hnum,hR6,hB6,hm6⟩:=aU HC6
  have hR7:=hR6.keep (base:=base) (fun i hi=>hD.block i (by omega)) hD.size (by omega) (by omega)
  have hn7:NumsAt (w6.drewN nq) nb [(c0:Int),c1,c2] 3:=(hD.block nb hnum.lt).trans hnum
  have hm7:=hm6.below hD
  have hB7:Below w.heap.size w (w6.drewN nq):=hB6.trans (hD.mono hB6.size)
  have hXs7:base≤(w6.drewN nq).heap.size:=Nat.le_trans hXs6 hD.size
  clear hnum hR6 hB6 hm6 HC6 z0 z1 z2 g0 g1 g2 g3 g4 hD
  generalize w6.drewN nq=w7 at *
  have z0:=hn7.cell 0 (by simp)
  have z1:=hn7.cell 1 (by simp)
  have z2:=hn7.cell 2 (by simp)
  simp only [List.getElem_cons_zero,List.getElem_cons_succ] at z0 z1 z2
  have y2:=hR7.hd.cell 2 (by simp)
  have y3:=hR7.hd.cell 3 (by simp)
  have y4:=hR7.hd.cell 4 (by simp)
  have y5:=hR7.hd.cell 5 (by simp)
  simp only [List.getElem_cons_zero,List.getElem_cons_succ] at y2 y3 y4 y5
  have yf:=hR7.hd.frozen
  have hnbh:nb≠w1.heap.size:=by omega
  have y1:=hR7.hd.cell 1 (by simp)
  simp only [List.getElem_cons_zero,List.getElem_cons_succ] at y1
  have hneA : ∀ i,i≠w1.heap.size→(w7.setCell ⟨w1.heap.size,1,none⟩ (.int .i64 b2)).heap[i]? = w7.heap[i]?:=fun i hi=>Below.heap_setCell _ _ _ _ hi
  have hnmA:(∀ cur,w7.heap[w1.heap.size]?≠some (.cells cur 5 (0,0)))∧∀ cur,w7.heap[w1.heap.size]?≠some (.cells cur 343 (0,0)):=by
   have:=hR7.hd
   unfold NumsAt at this
   exact ⟨fun c hc=>by rw [this] at hc; simp at hc,fun c hc=>by rw [this] at hc; simp at hc⟩
  have hszA:(w7.setCell ⟨w1.heap.size,1,none⟩ (.int .i64 b2)).heap.size=w7.heap.size:=by simp [World.setCell]
  have HC7a:Hid (RX w.heap.size w1.heap.size id h1 h2 h3 h4 h5 q n k kc false sz ver rc (.bool true) (.slice aa n0 ca) (.slice ab n1 cb) (.slice ac n2 cc) [(id:Int),b2,0,0,0,0] (w7.setCell ⟨w1.heap.size,1,none⟩ (.int .i64 b2))∧Msg (w7.setCell ⟨w1.heap.size,1,none⟩ (.int .i64 b2)) mb base S2.1 S2.2∧Below w.heap.size w (w7.setCell ⟨w1.heap.size,1,none⟩ (.int .i64 b2))∧NumsAt (w7.setCell ⟨w1.heap.size,1,none⟩ (.int .i64 b2)) nb [(c0:Int),c1,c2] 3∧base≤(w7.setCell ⟨w1.heap.size,1,none⟩ (.int .i64 b2)).heap.size):=by
   obtain ⟨g0',gm',gc'⟩:=hR7.g
   exact ⟨⟨hR7.qu.kept (hneA _ (by omega)),(hneA _ (by omega)).trans hR7.an,hR7.hd.set 1 b2,⟨by rw [hszA]; exact g0',gm',(World.cell?_of_block (hneA 0 (by omega))).trans gc'⟩⟩,(msgN_but (msg_self hm7) hnmA (by omega) hneA).msg,hB7.trans ⟨rfl,rfl,rfl,by rw [hszA]; exact Nat.le_refl _,fun i hi=>hneA i (by omega)⟩,(hneA nb hnbh).trans hn7,by rw [hszA]; exact hXs7⟩
  clear hR7 hm7 hB7 hn7 hneA hnmA hszA z0 z1 z2 y2 y3 y4 y5 hXs7
  go_upto_region 10 with fail
  obtain ⟨hR7,hm7,hB7,hn7,hXs7⟩:=aU HC7a
  clear HC7a y1 yf hT2
  generalize w7.setCell ⟨w1.heap.size,1,none⟩ (.int .i64 b2)=w7b at *
  have z0:=hn7.cell 0 (by simp)
  have z1:=hn7.cell 1 (by simp)
  have z2:=hn7.cell 2 (by simp)
  simp only [List.getElem_cons_zero,List.getElem_cons_succ] at z0 z1 z2
  have y2:=hR7.hd.cell 2 (by simp)
  have y3:=hR7.hd.cell 3 (by simp)
  have y4:=hR7.hd.cell 4 (by simp)
  have y5:=hR7.hd.cell 5 (by simp)
  simp only [List.getElem_cons_zero,List.getElem_cons_succ] at y2 y3 y4 y5
  have yf:=hR7.hd.frozen
  have HC7:=aH (And.intro hR7 (And.intro hm7 hB7))
  clear hR7 hm7 hB7 hn7
  go_region
  have H8:Hid (QAt ((((w7b.setCell ⟨w1.heap.size,2,none⟩ (.int .i64 1)).setCell ⟨w1.heap.size,3,none⟩ (.int .i64 c0)).setCell ⟨w1.heap.size,4,none⟩ (.int .i64 c1)).setCell ⟨w1.heap.size,5,none⟩ (.int .i64 c2)).drew w.heap.size id h1 h2 h3 h4 h5 q n k kc false sz ver∧NumsAt ((((w7b.setCell ⟨w1.heap.size,2,none⟩ (.int .i64 1)).setCell ⟨w1.heap.size,3,none⟩ (.int .i64 c0)).setCell ⟨w1.heap.size,4,none⟩ (.int .i64 c1)).setCell ⟨w1.heap.size,5,none⟩ (.int .i64 c2)).drew w1.heap.size [(id:Int),b2,1,c0,c1,c2] 133∧Msg ((((w7b.setCell ⟨w1.heap.size,2,none⟩ (.int .i64 1)).setCell ⟨w1.heap.size,3,none⟩ (.int .i64 c0)).setCell ⟨w1.heap.size,4,none⟩ (.int .i64 c1)).setCell ⟨w1.heap.size,5,none⟩ (.int .i64 c2)).drew mb base S2.1 S2.2∧Below w.heap.size w ((((w7b.setCell ⟨w1.heap.size,2,none⟩ (.int .i64 1)).setCell ⟨w1.heap.size,3,none⟩ (.int .i64 c0)).setCell ⟨w1.heap.size,4,none⟩ (.int .i64 c1)).setCell ⟨w1.heap.size,5,none⟩ (.int .i64 c2)).drew∧base≤(((((w7b.setCell ⟨w1.heap.size,2,none⟩ (.int .i64 1)).setCell ⟨w1.heap.size,3,none⟩ (.int .i64 c0)).setCell ⟨w1.heap.size,4,none⟩ (.int .i64 c1)).setCell ⟨w1.heap.size,5,none⟩ (.int .i64 c2)).drew).heap.size):=by
   obtain ⟨hR7,hm7,hB7⟩:=aU HC7
   have hh:=(((hR7.hd.set 2 1).set 3 c0).set 4 c1).set 5 c2
   have hne : ∀ i,i≠w1.heap.size→(((((w7b.setCell ⟨w1.heap.size,2,none⟩ (.int .i64 1)).setCell ⟨w1.heap.size,3,none⟩ (.int .i64 c0)).setCell ⟨w1.heap.size,4,none⟩ (.int .i64 c1)).setCell ⟨w1.heap.size,5,none⟩ (.int .i64 c2)).drew).heap[i]? = w7b.heap[i]?:=fun i hi =>
    (Below.heap_setCell _ _ _ _ hi).trans ((Below.heap_setCell _ _ _ _ hi).trans ((Below.heap_setCell _ _ _ _ hi).trans (Below.heap_setCell _ _ _ _ hi)))
   have hsz:(((((w7b.setCell ⟨w1.heap.size,2,none⟩ (.int .i64 1)).setCell ⟨w1.heap.size,3,none⟩ (.int .i64 c0)).setCell ⟨w1.heap.size,4,none⟩ (.int .i64 c1)).setCell ⟨w1.heap.size,5,none⟩ (.int .i64 c2)).drew).heap.size=w7b.heap.size:=by simp [World.setCell,World.drew]
   have hnm:(∀ cur,w7b.heap[w1.heap.size]?≠some (.cells cur 5 (0,0)))∧∀ cur,w7b.heap[w1.heap.size]?≠some (.cells cur 343 (0,0)):=by
    have:=hR7.hd
    unfold NumsAt at this
    exact ⟨fun c hc=>by rw [this] at hc; simp at hc,fun c hc=>by rw [this] at hc; simp at hc⟩
   refine ⟨hR7.qu.kept (hne _ (by omega)),hh,(msgN_but (msg_self hm7) hnm (by omega) hne).msg,?_,by rw [hsz]; exact hXs7⟩
   ·refine hB7.trans (show Below w.heap.size w7b ((((w7b.setCell ⟨w1.heap.size,2,none⟩ (.int .i64 1)).setCell ⟨w1.heap.size,3,none⟩ (.int .i64 c0)).setCell ⟨w1.heap.size,4,none⟩ (.int .i64 c1)).setCell ⟨w1.heap.size,5,none⟩ (.int .i64 c2)).drew from ⟨rfl,rfl,rfl,by rw [hsz]; exact Nat.le_refl _,fun i hi=>hne i (by omega)⟩)
  clear z0 z1 z2 y2 y3 y4 y5 yf HC7
  generalize ((((w7b.setCell ⟨w1.heap.size,2,none⟩ (.int .i64 1)).setCell ⟨w1.heap.size,3,none⟩ (.int .i64 c0)).setCell ⟨w1.heap.size,4,none⟩ (.int .i64 c1)).setCell ⟨w1.heap.size,5,none⟩ (.int .i64 c2)).drew=w8 at *
  obtain ⟨hq8,hh8,hm8,hB8,hX8⟩:=aU H8
  obtain ⟨_,_,_,_,_,_,_,_,_,_,q10,_,_⟩:=hq8.cells
  have hszY:w8.heap.size=w8.heap.size:=rfl
  have H9:Hid (NumsAt w8 w1.heap.size [(id:Int),b2,1,c0,c1,c2] 133∧Msg w8 mb base S2.1 S2.2∧Below w.heap.size w w8∧base≤w8.heap.size):=⟨hh8,hm8,hB8,hX8⟩
  obtain ⟨hh9,hm9,hB9,hX9⟩:=aU H9
  have hm9lt:=hm9.lt
  have hnew:=World.alloc_heap_new w8 (.cells #[.iface 224 (.string (B L))] 297)
  rw [hszY] at hnew
  have HPUT:Hid (Calls Tryz.prog 139 #[.pointer (some ⟨mb,0,none⟩),.slice (some ⟨w8.heap.size,0,none⟩) 1 1] (w8.alloc (.cells #[.iface 224 (.string (B L))] 297)) fun e w'=>e=.returned (.tuple #[])∧Msg w' mb base (S2.1++outs [fRaw L]) S2.2∧TG mb base (w8.alloc (.cells #[.iface 224 (.string (B L))] 297)) w') :=
   put_m mb base w8.heap.size 1 [fRaw L] S2.1 S2.2 (w8.alloc (.cells #[.iface 224 (.string (B L))] 297)) (hm9.below ((Below.refl _ _).alloc (Nat.le_refl _) _)) (by simp; omega)
   (fun f hf=>by simp at hf; subst hf; exact raw_ok _) (by rw [World.size_alloc,hszY]; omega) (by rw [hszY] at hm9lt; omega) (.inr fun cur h=>by rw [hnew] at h; simp at h)
   (fun j hj=>by
    match j,hj with
    | 0,_=>unfold World.cell?; rw [hnew]; rfl
    | j+1,hj=>simp at hj) (by simp) (by simp) (by
     simp only [outs,fRaw,List.flatMap_cons,List.flatMap_nil,List.append_nil]
     omega)
  clear hq8 hh8 hm8 hB8 hnew hh9 hm9 hB9
  go_wp2_with fail
  refine (aU HPUT).mono ?_
  rintro e w9 ⟨rfl,hm10,ht9⟩
  obtain ⟨hh8,hm8,hB8,hX8'⟩:=aU H9
  have hT9:TG mb base w8 w9:=(TG.of_below ((Below.refl _ _).alloc (Nat.le_refl _) _)).trans ht9
  have hh9:NumsAt w9 w1.heap.size [(id:Int),b2,1,c0,c1,c2] 133:=(hT9.block _ (by omega) (by omega) (.inl (by omega))).trans hh8
  have hB9:Below w.heap.size w w9:=hB8.trans (show Below w.heap.size w8 w9 from ⟨hT9.os,hT9.tape,hT9.output,hT9.size,fun i hi=>hT9.block i (by omega) (by omega) (.inl (by omega))⟩)
  have hX9':base≤w9.heap.size:=Nat.le_trans hX8' hT9.size
  rw [show outs [fRaw L]=L by simp [outs,fRaw]] at hm10
  obtain ⟨vb9,vp9,hm9,ho9,_⟩:=hm10
  have x0:=hh9.cell 0 (by simp)
  have x1:=hh9.cell 1 (by simp)
  have x2:=hh9.cell 2 (by simp)
  have x3:=hh9.cell 3 (by simp)
  have x4:=hh9.cell 4 (by simp)
  have x5:=hh9.cell 5 (by simp)
  simp only [List.getElem_cons_zero,List.getElem_cons_succ] at x0 x1 x2 x3 x4 x5
  have HU:Hid (Calls Tryz.prog 131 #[.pointer (some ⟨mb,0,none⟩),.agg #[.int .i64 id,.int .i64 b2,.int .i64 1,.int .i64 c0,.int .i64 c1,.int .i64 c2]] w9 fun e w'=>e=.returned (.string (B (outs (hdrFs id b2 1 c0 c1 c2)++(S2.1++L).drop 12)))∧TW mb base w9 w') :=
   under_any mb base id b2 1 c0 c1 c2 vb9 vp9 _ w9 hm9 ho9 hX9' (by simp only [List.length_append]; omega) (by simp only [List.length_append]; omega) hid hb2 (by omega) (by omega) (by omega) (by omega)
  have HB9:=aH hB9
  clear hh8 hm8 hB8 hm9 ho9 ht9 hT9 hh9 hB9 HPUT H8 H9 q10
  go_wp2_with fail
  refine (aU HU).mono ?_
  rintro e w10 ⟨rfl,ht10⟩
  have hB9:=aU HB9
  have HB10:Hid (Below w.heap.size w w10):=hB9.trans (show Below w.heap.size w9 w10 from ⟨ht10.os,ht10.tape,ht10.output,ht10.size,fun i hi=>ht10.block i (by omega) (by omega) (.inl (by omega))⟩)
  clear ht10 hB9 HU x0 x1 x2 x3 x4 x5
  go_wp2_with fail
  go_ret
  exact ⟨rfl,aU HB10⟩
theorem reply_oa1 (id b b2 n0 n1 n2 c0 c1 c2 ca cb cc:Nat) (aa ab ac:Option Addr) (h1 h2 h3 h4 h5 k kc rc:Int) (q n:Str) (sz ver lim:Int) (L:Str) (S2:Str×Pl) (w:World) (hg:G w) (hc0:c0≤3001) (hc1:c1≤3001) (hc2:c2≤3001) (c3:Nat) (hc3:c3=c2+1)
  (hid:id<65536) (hbt:b<65536) (hT:bits .or .i64 (turnedP h1 rc) 1024=(b:Int)) (hn:n.length≤900) (hq:q.length≤300)
  (htr:(c0:Int)<(n0:Int)) (hT2:bits .or .i64 (b:Int) 512=(b2:Int)) (hb2:b2<65536)
  (hfill : ∀ W mb base lb,Below w.heap.size w W→w.heap.size≤base→base≤W.heap.size→w.heap.size≤mb→Msg W mb base (List.replicate 12 0++q) (plcs 12 n)→W.heap[lb]? = some (.cells #[.slice aa n0 ca,.slice ab n1 cb,.slice ac n2 cc] 41)→lb≠mb→Calls Tryz.prog 137 #[.pointer (some ⟨mb,0,none⟩),.int .i64 (lim - (L.length:Int)),.slice (some ⟨lb,0,none⟩) 3 3] W fun e w' =>
   e=.returned (.slice (some ⟨W.heap.size+3,0,none⟩) 3 3)∧NumsAt w' (W.heap.size+3) [(c0:Int),c1,c2] 3∧Msg w' mb base S2.1 S2.2∧TG mb base W w')
  (hlast : ∀ W,G W→Calls Tryz.prog 136 #[qVal id h1 h2 h3 h4 h5 q n k kc true sz ver,.int .i64 rc] W fun e w'=>e=.returned (.string (B L))∧Below W.heap.size W w')
  (hlimit : ∀ W,Calls Tryz.prog 138 #[qVal id h1 h2 h3 h4 h5 q n k kc true sz ver] W fun e w'=>e=.returned (.int .i64 lim)∧Below W.heap.size W w')
  (hLl:L.length≤100) (hlim:lim≤2000) (hlim0:0≤lim) (h12:12≤S2.1.length) (hl2:S2.1.length+L.length≤5000) :
  Calls Tryz.prog 73 #[qVal id h1 h2 h3 h4 h5 q n k kc true sz ver,.agg #[.int .i64 rc,.bool true,.slice aa n0 ca,.slice ab n1 cb,.slice ac n2 cc]] w fun e w' =>
   e=.returned (.string (B (outs (hdrFs id b2 1 c0 c1 c3)++(S2.1++L).drop 12)))∧Below w.heap.size w w':=by
 have HFL:=aH hfill
 have HLAST:=aH hlast
 have HLIMT:=aH hlimit
 have hLs:(B L).size=L.length:=size_B L
 have hwr:IntKind.i64.wrap (lim - (L.length:Int))=lim - (L.length:Int):=by rw [IntKind.wrap_i64]; omega
 clear hfill hlast hlimit
 obtain ⟨X0,hX0⟩ : ∃ X0,X0=(w.alloc (.cells #[.int .i64 id,.int .i64 h1,.int .i64 h2,.int .i64 h3,.int .i64 h4,.int .i64 h5,.string (B q),.string (B n),.int .i64 k,.int .i64 kc,.bool true,.int .i64 sz,.int .i64 ver] 137)).alloc (.cells #[.int .i64 rc,.bool true,.slice aa n0 ca,.slice ab n1 cb,.slice ac n2 cc] 43):=⟨_,rfl⟩
 have hB0:Below w.heap.size w X0:=by rw [hX0]; exact ((Below.refl _ _).alloc (Nat.le_refl _) _).alloc (by simp) _
 have hQ0:QAt X0 w.heap.size id h1 h2 h3 h4 h5 q n k kc true sz ver:=by
  rw [hX0]
  exact (Below.heap_alloc _ _ _ (by simp)).trans (World.alloc_heap_new w _)
 have hA0:aL X0 (w.heap.size+1) (.int .i64 rc) (.bool true) (.slice aa n0 ca) (.slice ab n1 cb) (.slice ac n2 cc):=by
  rw [hX0]
  have:=World.alloc_heap_new (w.alloc (.cells #[.int .i64 id,.int .i64 h1,.int .i64 h2,.int .i64 h3,.int .i64 h4,.int .i64 h5,.string (B q),.string (B n),.int .i64 k,.int .i64 kc,.bool true,.int .i64 sz,.int .i64 ver] 137)) (.cells #[.int .i64 rc,.bool true,.slice aa n0 ca,.slice ab n1 cb,.slice ac n2 cc] 43)
  rwa [World.size_alloc] at this
 have HX:=aH (And.intro hB0 (And.intro hQ0 hA0))
 have HIN:=aH hg
 have hX0s:w.heap.size+2≤X0.heap.size:=by rw [hX0]; simp <;> omega
 clear hg hB0 hQ0 hA0
 unfold qVal
 go_enter Tryz.func73,Tryz.ntmps73
 go_wp2_with fail
 rw [← hX0]
 have HX0:=aH hX0
 clear hX0
 refine (turned_any _ _ _ _ _ _ _ _).mono ?_
 rintro e w1 ⟨rfl,hb1⟩
 obtain ⟨hB0,hQ0,hA0⟩:=aU HX
 have hg:=aU HIN
 have hQ1:=hQ0.kept (hb1.block _ hQ0.lt)
 have hA1:aL w1 (w.heap.size+1) _ _ _ _ _:=(hb1.block _ (by omega)).trans hA0
 have hB1:Below w.heap.size w w1:=hB0.trans (hb1.mono hB0.size)
 have hs1:=hb1.size
 obtain ⟨k0,k1,k2,k3,k4⟩:=aL.cells hA1
 obtain ⟨T,hTT⟩ : ∃ T,T=turnedP h1 rc:=⟨_,rfl⟩
 rw [← hTT] at hT ⊢
 have HC1:=aH (And.intro hQ1 (And.intro hA1 hB1))
 clear hB0 hQ0 hA0 hg hQ1 hA1 hB1 hTT hb1 HX k2 k3 k4
 have lt1:w.heap.size+1<w1.heap.size:=by omega
 go_wp2_with fail
 have HR1:Hid ((RX w.heap.size w1.heap.size id h1 h2 h3 h4 h5 q n k kc true sz ver rc (.bool true) (.slice aa n0 ca) (.slice ab n1 cb) (.slice ac n2 cc) [(id:Int),b,0,0,0,0] (w1.alloc (.cells #[.int .i64 id,.int .i64 b,.int .i64 0,.int .i64 0,.int .i64 0,.int .i64 0] 133)))∧Below w.heap.size w (w1.alloc (.cells #[.int .i64 id,.int .i64 b,.int .i64 0,.int .i64 0,.int .i64 0,.int .i64 0] 133))∧w1.heap.size<(w1.alloc (.cells #[.int .i64 id,.int .i64 b,.int .i64 0,.int .i64 0,.int .i64 0,.int .i64 0] 133)).heap.size):=by
  obtain ⟨hQ1,hA1,hB1⟩:=aU HC1
  have hg:=aU HIN
  have hB2:=hB1.alloc (by omega) (.cells #[.int .i64 id,.int .i64 b,.int .i64 0,.int .i64 0,.int .i64 0,.int .i64 0] 133)
  exact ⟨⟨hQ1.kept (Below.heap_alloc _ _ _ (by omega)),(Below.heap_alloc _ _ _ (by omega)).trans hA1,World.alloc_heap_new w1 _,hg.below hB2⟩,hB2,by simp⟩
 clear HC1 k0 k1 hT HX0
 generalize (w1.alloc (.cells #[.int .i64 id,.int .i64 b,.int .i64 0,.int .i64 0,.int .i64 0,.int .i64 0] 133))=X1 at *
 refine (newMessage_any _).mono ?_
 rintro e w2 ⟨rfl,⟨vm,hm2,ho2⟩,hb2⟩
 obtain ⟨hR1,hB1,hs2⟩:=aU HR1
 have hXs:=hb2.size
 have hR2:=hR1.keep (fun i hi=>hb2.block i hi) hb2.size (by omega) (by omega)
 obtain ⟨base,hbase⟩ : ∃ base,base=X1.heap.size:=⟨_,rfl⟩
 obtain ⟨mb,hmb⟩ : ∃ mb,mb=X1.heap.size+1:=⟨_,rfl⟩
 have hB2:Below w.heap.size w w2:=hB1.trans (hb2.mono (by omega))
 rw [← hmb] at hm2 ⊢
 rw [← hbase] at ho2 hs2 hXs
 have hbm:base<mb:=by omega
 have HPQ:=aH (putQuestion_g mb base id h1 h2 h3 h4 h5 q n k kc true sz ver vm (List.replicate 12 0) w2 hm2 ho2 hR2.g hXs (by omega) (by omega) hn (by simp; omega))
 unfold qVal at HPQ
 obtain ⟨q0,q1,q2,q3,q4,q5,q6,q7,q8,q9,q10,q11,q12⟩:=hR2.qu.cells
 have HR2:=aH (And.intro hR2 hB2)
 clear hR2 hB2 hm2 ho2 hb2 hR1 hB1 HR1 hbase hmb
 go_wp2_with fail
 refine (aU HPQ).mono ?_
 rintro e w3 ⟨rfl,⟨vb3,vp3,hm3,ho3,hp3⟩,hb3⟩
 obtain ⟨hR2,hB2⟩:=aU HR2
 have hR3:=hR2.keep (fun i hi=>hb3.block i hi) hb3.size (by omega) (by omega)
 have hB3:Below w.heap.size w w3:=hB2.trans (hb3.mono (by omega))
 have hXs3:base≤w3.heap.size:=Nat.le_trans hXs hb3.size
 clear q0 q1 q2 q3 q4 q5 q6 q7 q8 q9 q10 q11 q12
 obtain ⟨q0,q1,q2,q3,q4,q5,q6,q7,q8,q9,q10,q11,q12⟩:=hR3.qu.cells
 obtain ⟨g0,g1,g2,g3,g4⟩:=aL.cells hR3.an
 have HLA:=aH (aU HLAST w3 hR3.g)
 unfold qVal at HLA
 have HM3:Hid (Msg w3 mb base (List.replicate 12 0++q) (plcs 12 n)):=⟨vb3,vp3,hm3,ho3,hp3⟩
 have HR3:=aH (And.intro hR3 hB3)
 clear hm3 ho3 hp3 hR3 hB3 hR2 hB2 HR2 HPQ hb3
 go_wp2_with fail
 refine (aU HLA).mono ?_
 rintro e w4 ⟨rfl,hb4⟩
 obtain ⟨hR3,hB3⟩:=aU HR3
 have hm3:=aU HM3
 have hR4:=hR3.keep (base:=base) (fun i hi=>hb4.block i (by omega)) hb4.size (by omega) (by omega)
 have hB4:Below w.heap.size w w4:=hB3.trans (hb4.mono (by omega))
 have hm4:=hm3.below hb4
 have hXs4:base≤w4.heap.size:=Nat.le_trans hXs3 hb4.size
 clear q0 q1 q2 q3 q4 q5 q6 q7 q8 q9 q10 q11 q12 g0 g1 g2 g3 g4
 obtain ⟨q0,q1,q2,q3,q4,q5,q6,q7,q8,q9,q10,q11,q12⟩:=hR4.qu.cells
 obtain ⟨g0,g1,g2,g3,g4⟩:=aL.cells hR4.an
 have HLI4:Hid (∀ W,Calls Tryz.prog 138 #[.agg #[.int .i64 id,.int .i64 h1,.int .i64 h2,.int .i64 h3,.int .i64 h4,.int .i64 h5,.string (B q),.string (B n),.int .i64 k,.int .i64 kc,.bool true,.int .i64 sz,.int .i64 ver]] W fun e w'=>e=.returned (.int .i64 lim)∧Below W.heap.size W w'):=aU HLIMT
 have HF4:Hid (∀ W lb,Below w4.heap.size w4 W→W.heap[lb]? = some (.cells #[.slice aa n0 ca,.slice ab n1 cb,.slice ac n2 cc] 41)→w4.heap.size≤lb→Calls Tryz.prog 137 #[.pointer (some ⟨mb,0,none⟩),.int .i64 (lim - (L.length:Int)),.slice (some ⟨lb,0,none⟩) 3 3] W fun e w' =>
   ∃ nb,e=.returned (.slice (some ⟨nb,0,none⟩) 3 3)∧(w'.cell? ⟨w.heap.size,0,none⟩=some (.int .i64 id)∧w'.cell? ⟨w.heap.size,1,none⟩=some (.int .i64 h1)∧w'.cell? ⟨w.heap.size,2,none⟩=some (.int .i64 h2)∧w'.cell? ⟨w.heap.size,3,none⟩=some (.int .i64 h3)∧w'.cell? ⟨w.heap.size,4,none⟩=some (.int .i64 h4)∧w'.cell? ⟨w.heap.size,5,none⟩=some (.int .i64 h5)∧w'.cell? ⟨w.heap.size,6,none⟩=some (.string (B q))∧w'.cell? ⟨w.heap.size,7,none⟩=some (.string (B n))∧w'.cell? ⟨w.heap.size,8,none⟩=some (.int .i64 k)∧w'.cell? ⟨w.heap.size,9,none⟩=some (.int .i64 kc)∧w'.cell? ⟨w.heap.size,10,none⟩=some (.bool true)∧w'.cell? ⟨w.heap.size,11,none⟩=some (.int .i64 sz)∧w'.cell? ⟨w.heap.size,12,none⟩=some (.int .i64 ver)∧w'.cell? ⟨w.heap.size+1,2,none⟩=some (.slice aa n0 ca)∧w'.cell? ⟨w.heap.size+1,3,none⟩=some (.slice ab n1 cb)∧w'.cell? ⟨w.heap.size+1,4,none⟩=some (.slice ac n2 cc))∧Hid (w4.heap.size≤nb∧NumsAt w' nb [(c0:Int),c1,c2] 3∧RX w.heap.size w1.heap.size id h1 h2 h3 h4 h5 q n k kc true sz ver rc (.bool true) (.slice aa n0 ca) (.slice ab n1 cb) (.slice ac n2 cc) [(id:Int),b,0,0,0,0] w'∧Below w.heap.size w w'∧base≤w'.heap.size∧Msg w' mb base S2.1 S2.2)):=by
  intro W lb hb hlb hle
  have hmlt4:=hm4.lt
  have hR:=hR4.keep (base:=base) (fun i hi=>hb.block i (by omega)) hb.size (by omega) (by omega)
  have hbsz:=hb.size
  refine (aU HFL W mb base lb (hB4.trans (hb.mono (by omega))) (by omega) (by omega) (by omega) (hm4.below hb) hlb (by omega)).mono ?_
  rintro e w' ⟨rfl,hnum,m5,t5⟩
  have hR5:=hR.keep (base:=base) (fun i hi=>t5.block i (by omega) (by omega) (.inl hi)) t5.size (by omega) (by omega)
  have hBw:Below w.heap.size w W:=hB4.trans (hb.mono (by omega))
  have hts:=t5.size
  obtain ⟨q0,q1,q2,q3,q4,q5,q6,q7,q8,q9,q10,q11,q12⟩:=hR5.qu.cells
  obtain ⟨_,_,g2,g3,g4⟩:=aL.cells hR5.an
  refine ⟨W.heap.size+3,rfl,⟨q0,q1,q2,q3,q4,q5,q6,q7,q8,q9,q10,q11,q12,g2,g3,g4⟩,by omega,hnum,hR5,hBw.trans (show Below w.heap.size W w' from ⟨t5.os,t5.tape,t5.output,t5.size,fun i hi=>t5.block i (by omega) (by omega) (.inl (by omega))⟩),by omega,m5⟩
 have HR4:=aH (And.intro hR4 hB4)
 have hS:w4.drew.cell? ⟨w.heap.size,0,none⟩=some (.int .i64 id)∧w4.drew.cell? ⟨w.heap.size,1,none⟩=some (.int .i64 h1)∧w4.drew.cell? ⟨w.heap.size,2,none⟩=some (.int .i64 h2)∧w4.drew.cell? ⟨w.heap.size,3,none⟩=some (.int .i64 h3)∧w4.drew.cell? ⟨w.heap.size,4,none⟩=some (.int .i64 h4)∧w4.drew.cell? ⟨w.heap.size,5,none⟩=some (.int .i64 h5)∧w4.drew.cell? ⟨w.heap.size,6,none⟩=some (.string (B q))∧w4.drew.cell? ⟨w.heap.size,7,none⟩=some (.string (B n))∧w4.drew.cell? ⟨w.heap.size,8,none⟩=some (.int .i64 k)∧w4.drew.cell? ⟨w.heap.size,9,none⟩=some (.int .i64 kc)∧w4.drew.cell? ⟨w.heap.size,10,none⟩=some (.bool true)∧w4.drew.cell? ⟨w.heap.size,11,none⟩=some (.int .i64 sz)∧w4.drew.cell? ⟨w.heap.size,12,none⟩=some (.int .i64 ver)∧w4.drew.cell? ⟨w.heap.size+1,2,none⟩=some (.slice aa n0 ca)∧w4.drew.cell? ⟨w.heap.size+1,3,none⟩=some (.slice ab n1 cb)∧w4.drew.cell? ⟨w.heap.size+1,4,none⟩=some (.slice ac n2 cc):=⟨q0,q1,q2,q3,q4,q5,q6,q7,q8,q9,q10,q11,q12,g2,g3,g4⟩
 clear hm3 hR3 hB3 HR3 HM3 hR4 hB4 hm4 HLA hb4
 have HAR:=aH (And.intro hid (And.intro hbt (And.intro h12 (And.intro hl2 (And.intro hc0 (And.intro hc1 hc2))))))
 clear hid hbt h12 hl2 hc0 hc1 hc2 hn hq
 have HC3:=aH hc3
 clear hc3
 go_wp2_with fail
 go_region_held (fun w'=>w'.cell? ⟨w.heap.size,0,none⟩=some (.int .i64 id)∧w'.cell? ⟨w.heap.size,1,none⟩=some (.int .i64 h1)∧w'.cell? ⟨w.heap.size,2,none⟩=some (.int .i64 h2)∧w'.cell? ⟨w.heap.size,3,none⟩=some (.int .i64 h3)∧w'.cell? ⟨w.heap.size,4,none⟩=some (.int .i64 h4)∧w'.cell? ⟨w.heap.size,5,none⟩=some (.int .i64 h5)∧w'.cell? ⟨w.heap.size,6,none⟩=some (.string (B q))∧w'.cell? ⟨w.heap.size,7,none⟩=some (.string (B n))∧w'.cell? ⟨w.heap.size,8,none⟩=some (.int .i64 k)∧w'.cell? ⟨w.heap.size,9,none⟩=some (.int .i64 kc)∧w'.cell? ⟨w.heap.size,10,none⟩=some (.bool true)∧w'.cell? ⟨w.heap.size,11,none⟩=some (.int .i64 sz)∧w'.cell? ⟨w.heap.size,12,none⟩=some (.int .i64 ver)∧w'.cell? ⟨w.heap.size+1,2,none⟩=some (.slice aa n0 ca)∧w'.cell? ⟨w.heap.size+1,3,none⟩=some (.slice ab n1 cb)∧w'.cell? ⟨w.heap.size+1,4,none⟩=some (.slice ac n2 cc)) (first | assumption | go_keep)
  (first
   | (go_at_call 138; go_loud (refine (aU HLI4 _).mono ?_; rintro e w5 ⟨rfl,hb5⟩; have hS5:=keep16 hb5 (by assumption)))
   | (go_at_call 137; refine (aU HF4 _ _ (((Below.refl _ _).drew.trans hb5).alloc hb5.size _) (World.alloc_heap_new _ _) hb5.size).mono ?_; rintro e w6 ⟨nb,rfl,hS6,HB6⟩)
   | (go_at_call 137; refine (aU HF4 _ _ (((Below.refl _ _).alloc (Nat.le_refl _) _).drew.trans (hb5.mono (by simp))) ((hb5.block _ (by simp)).trans (World.alloc_heap_new w4 _)) (Nat.le_refl _)).mono ?_; rintro e w6 ⟨nb,rfl,hS6,HB6⟩))
 all_goals
  rename_i hH
  obtain ⟨hid,hbt,h12,hl2,hc0,hc1,hc2⟩:=aU HAR
  have hc3b:c3≤3002:=by have:=aU HC3; omega
  clear hH hS6 hb5 hS5 HF4 HLI4 HR4 hS q0 q1 q2 q3 q4 q5 q6 q7 q8 q9 q10 q11 q12 g0 g1 g2 g3 g4
  obtain ⟨hnb4,hnum,hR6,hB6,hXs6,hm6⟩:=aU HB6
  have z0:=hnum.cell 0 (by simp)
  have z1:=hnum.cell 1 (by simp)
  have z2:=hnum.cell 2 (by simp)
  simp only [List.getElem_cons_zero,List.getElem_cons_succ] at z0 z1 z2
  obtain ⟨g0,g1,g2,g3,g4⟩:=aL.cells hR6.an
  have HC6:=aH (And.intro hnum (And.intro hR6 (And.intro hB6 hm6)))
  clear hnum hR6 hB6 hm6 HB6
  have hd0:decide ((c0:Int)<(n0:Int))=true:=decide_eq_true htr
  go_wp2_with fail
  go_quiet (fail)
  have hD:Below w6.heap.size w6 (w6.drewN nq):=Rg.below_drewN (Below.refl _ _) nq
  obtain ⟨hnum,hR6,hB6,hm6⟩:=aU HC6
  have hR7:=hR6.keep (base:=base) (fun i hi=>hD.block i (by omega)) hD.size (by omega) (by omega)
  have hn7:NumsAt (w6.drewN nq) nb [(c0:Int),c1,c2] 3:=(hD.block nb hnum.lt).trans hnum
  have hm7:=hm6.below hD
  have hB7:Below w.heap.size w (w6.drewN nq):=hB6.trans (hD.mono hB6.size)
  have hXs7:base≤(w6.drewN nq).heap.size:=Nat.le_trans hXs6 hD.size
  clear hnum hR6 hB6 hm6 HC6 z0 z1 z2 g0 g1 g2 g3 g4 hD
  generalize w6.drewN nq=w7 at *
  have z0:=hn7.cell 0 (by simp)
  have z1:=hn7.cell 1 (by simp)
  have z2:=hn7.cell 2 (by simp)
  simp only [List.getElem_cons_zero,List.getElem_cons_succ] at z0 z1 z2
  have y2:=hR7.hd.cell 2 (by simp)
  have y3:=hR7.hd.cell 3 (by simp)
  have y4:=hR7.hd.cell 4 (by simp)
  have y5:=hR7.hd.cell 5 (by simp)
  simp only [List.getElem_cons_zero,List.getElem_cons_succ] at y2 y3 y4 y5
  have yf:=hR7.hd.frozen
  have hnbh:nb≠w1.heap.size:=by omega
  have y1:=hR7.hd.cell 1 (by simp)
  simp only [List.getElem_cons_zero,List.getElem_cons_succ] at y1
  have hneA : ∀ i,i≠w1.heap.size→(w7.setCell ⟨w1.heap.size,1,none⟩ (.int .i64 b2)).heap[i]? = w7.heap[i]?:=fun i hi=>Below.heap_setCell _ _ _ _ hi
  have hnmA:(∀ cur,w7.heap[w1.heap.size]?≠some (.cells cur 5 (0,0)))∧∀ cur,w7.heap[w1.heap.size]?≠some (.cells cur 343 (0,0)):=by
   have:=hR7.hd
   unfold NumsAt at this
   exact ⟨fun c hc=>by rw [this] at hc; simp at hc,fun c hc=>by rw [this] at hc; simp at hc⟩
  have hszA:(w7.setCell ⟨w1.heap.size,1,none⟩ (.int .i64 b2)).heap.size=w7.heap.size:=by simp [World.setCell]
  have HC7a:Hid (RX w.heap.size w1.heap.size id h1 h2 h3 h4 h5 q n k kc true sz ver rc (.bool true) (.slice aa n0 ca) (.slice ab n1 cb) (.slice ac n2 cc) [(id:Int),b2,0,0,0,0] (w7.setCell ⟨w1.heap.size,1,none⟩ (.int .i64 b2))∧Msg (w7.setCell ⟨w1.heap.size,1,none⟩ (.int .i64 b2)) mb base S2.1 S2.2∧Below w.heap.size w (w7.setCell ⟨w1.heap.size,1,none⟩ (.int .i64 b2))∧NumsAt (w7.setCell ⟨w1.heap.size,1,none⟩ (.int .i64 b2)) nb [(c0:Int),c1,c2] 3∧base≤(w7.setCell ⟨w1.heap.size,1,none⟩ (.int .i64 b2)).heap.size):=by
   obtain ⟨g0',gm',gc'⟩:=hR7.g
   exact ⟨⟨hR7.qu.kept (hneA _ (by omega)),(hneA _ (by omega)).trans hR7.an,hR7.hd.set 1 b2,⟨by rw [hszA]; exact g0',gm',(World.cell?_of_block (hneA 0 (by omega))).trans gc'⟩⟩,(msgN_but (msg_self hm7) hnmA (by omega) hneA).msg,hB7.trans ⟨rfl,rfl,rfl,by rw [hszA]; exact Nat.le_refl _,fun i hi=>hneA i (by omega)⟩,(hneA nb hnbh).trans hn7,by rw [hszA]; exact hXs7⟩
  clear hR7 hm7 hB7 hn7 hneA hnmA hszA z0 z1 z2 y2 y3 y4 y5 hXs7
  go_upto_region 10 with fail
  obtain ⟨hR7,hm7,hB7,hn7,hXs7⟩:=aU HC7a
  clear HC7a y1 yf hT2
  generalize w7.setCell ⟨w1.heap.size,1,none⟩ (.int .i64 b2)=w7b at *
  have z0:=hn7.cell 0 (by simp)
  have z1:=hn7.cell 1 (by simp)
  have z2:=hn7.cell 2 (by simp)
  simp only [List.getElem_cons_zero,List.getElem_cons_succ] at z0 z1 z2
  have y2:=hR7.hd.cell 2 (by simp)
  have y3:=hR7.hd.cell 3 (by simp)
  have y4:=hR7.hd.cell 4 (by simp)
  have y5:=hR7.hd.cell 5 (by simp)
  simp only [List.getElem_cons_zero,List.getElem_cons_succ] at y2 y3 y4 y5
  have yf:=hR7.hd.frozen
  have HC7:=aH (And.intro hR7 (And.intro hm7 hB7))
  clear hR7 hm7 hB7 hn7
  go_region
  have H8:Hid (QAt ((((w7b.setCell ⟨w1.heap.size,2,none⟩ (.int .i64 1)).setCell ⟨w1.heap.size,3,none⟩ (.int .i64 c0)).setCell ⟨w1.heap.size,4,none⟩ (.int .i64 c1)).setCell ⟨w1.heap.size,5,none⟩ (.int .i64 c2)).drew w.heap.size id h1 h2 h3 h4 h5 q n k kc true sz ver∧NumsAt ((((w7b.setCell ⟨w1.heap.size,2,none⟩ (.int .i64 1)).setCell ⟨w1.heap.size,3,none⟩ (.int .i64 c0)).setCell ⟨w1.heap.size,4,none⟩ (.int .i64 c1)).setCell ⟨w1.heap.size,5,none⟩ (.int .i64 c2)).drew w1.heap.size [(id:Int),b2,1,c0,c1,c2] 133∧Msg ((((w7b.setCell ⟨w1.heap.size,2,none⟩ (.int .i64 1)).setCell ⟨w1.heap.size,3,none⟩ (.int .i64 c0)).setCell ⟨w1.heap.size,4,none⟩ (.int .i64 c1)).setCell ⟨w1.heap.size,5,none⟩ (.int .i64 c2)).drew mb base S2.1 S2.2∧Below w.heap.size w ((((w7b.setCell ⟨w1.heap.size,2,none⟩ (.int .i64 1)).setCell ⟨w1.heap.size,3,none⟩ (.int .i64 c0)).setCell ⟨w1.heap.size,4,none⟩ (.int .i64 c1)).setCell ⟨w1.heap.size,5,none⟩ (.int .i64 c2)).drew∧base≤(((((w7b.setCell ⟨w1.heap.size,2,none⟩ (.int .i64 1)).setCell ⟨w1.heap.size,3,none⟩ (.int .i64 c0)).setCell ⟨w1.heap.size,4,none⟩ (.int .i64 c1)).setCell ⟨w1.heap.size,5,none⟩ (.int .i64 c2)).drew).heap.size):=by
   obtain ⟨hR7,hm7,hB7⟩:=aU HC7
   have hh:=(((hR7.hd.set 2 1).set 3 c0).set 4 c1).set 5 c2
   have hne : ∀ i,i≠w1.heap.size→(((((w7b.setCell ⟨w1.heap.size,2,none⟩ (.int .i64 1)).setCell ⟨w1.heap.size,3,none⟩ (.int .i64 c0)).setCell ⟨w1.heap.size,4,none⟩ (.int .i64 c1)).setCell ⟨w1.heap.size,5,none⟩ (.int .i64 c2)).drew).heap[i]? = w7b.heap[i]?:=fun i hi =>
    (Below.heap_setCell _ _ _ _ hi).trans ((Below.heap_setCell _ _ _ _ hi).trans ((Below.heap_setCell _ _ _ _ hi).trans (Below.heap_setCell _ _ _ _ hi)))
   have hsz:(((((w7b.setCell ⟨w1.heap.size,2,none⟩ (.int .i64 1)).setCell ⟨w1.heap.size,3,none⟩ (.int .i64 c0)).setCell ⟨w1.heap.size,4,none⟩ (.int .i64 c1)).setCell ⟨w1.heap.size,5,none⟩ (.int .i64 c2)).drew).heap.size=w7b.heap.size:=by simp [World.setCell,World.drew]
   have hnm:(∀ cur,w7b.heap[w1.heap.size]?≠some (.cells cur 5 (0,0)))∧∀ cur,w7b.heap[w1.heap.size]?≠some (.cells cur 343 (0,0)):=by
    have:=hR7.hd
    unfold NumsAt at this
    exact ⟨fun c hc=>by rw [this] at hc; simp at hc,fun c hc=>by rw [this] at hc; simp at hc⟩
   refine ⟨hR7.qu.kept (hne _ (by omega)),hh,(msgN_but (msg_self hm7) hnm (by omega) hne).msg,?_,by rw [hsz]; exact hXs7⟩
   ·refine hB7.trans (show Below w.heap.size w7b ((((w7b.setCell ⟨w1.heap.size,2,none⟩ (.int .i64 1)).setCell ⟨w1.heap.size,3,none⟩ (.int .i64 c0)).setCell ⟨w1.heap.size,4,none⟩ (.int .i64 c1)).setCell ⟨w1.heap.size,5,none⟩ (.int .i64 c2)).drew from ⟨rfl,rfl,rfl,by rw [hsz]; exact Nat.le_refl _,fun i hi=>hne i (by omega)⟩)
  clear z0 z1 z2 y2 y3 y4 y5 yf HC7
  generalize ((((w7b.setCell ⟨w1.heap.size,2,none⟩ (.int .i64 1)).setCell ⟨w1.heap.size,3,none⟩ (.int .i64 c0)).setCell ⟨w1.heap.size,4,none⟩ (.int .i64 c1)).setCell ⟨w1.heap.size,5,none⟩ (.int .i64 c2)).drew=w8 at *
  obtain ⟨hq8,hh8,hm8,hB8,hX8⟩:=aU H8
  obtain ⟨_,_,_,_,_,_,_,_,_,_,q10,_,_⟩:=hq8.cells
  have y5:=hh8.cell 5 (by simp)
  simp only [List.getElem_cons_zero,List.getElem_cons_succ] at y5
  have yf:=hh8.frozen
  have hc3I:(c2:Int)+1=(c3:Int):=by have:=aU HC3; omega
  have hneY : ∀ i,i≠w1.heap.size→(w8.setCell ⟨w1.heap.size,5,none⟩ (.int .i64 c3)).heap[i]? = w8.heap[i]?:=fun i hi=>Below.heap_setCell _ _ _ _ hi
  have hszY:(w8.setCell ⟨w1.heap.size,5,none⟩ (.int .i64 c3)).heap.size=w8.heap.size:=by simp [World.setCell]
  have H9:Hid (NumsAt (w8.setCell ⟨w1.heap.size,5,none⟩ (.int .i64 c3)) w1.heap.size [(id:Int),b2,1,c0,c1,c3] 133∧Msg (w8.setCell ⟨w1.heap.size,5,none⟩ (.int .i64 c3)) mb base S2.1 S2.2∧Below w.heap.size w (w8.setCell ⟨w1.heap.size,5,none⟩ (.int .i64 c3))∧base≤(w8.setCell ⟨w1.heap.size,5,none⟩ (.int .i64 c3)).heap.size):=by
   have hnm:(∀ cur,w8.heap[w1.heap.size]?≠some (.cells cur 5 (0,0)))∧∀ cur,w8.heap[w1.heap.size]?≠some (.cells cur 343 (0,0)):=by
    have:=hh8
    unfold NumsAt at this
    exact ⟨fun c hc=>by rw [this] at hc; simp at hc,fun c hc=>by rw [this] at hc; simp at hc⟩
   refine ⟨hdr_set hh8 c3,(msgN_but (msg_self hm8) hnm (by omega) hneY).msg,?_,by rw [hszY]; exact hX8⟩
   exact hB8.trans (show Below w.heap.size w8 (w8.setCell ⟨w1.heap.size,5,none⟩ (.int .i64 c3)) from ⟨rfl,rfl,rfl,by rw [hszY]; exact Nat.le_refl _,fun i hi=>hneY i (by omega)⟩)
  obtain ⟨hh9,hm9,hB9,hX9⟩:=aU H9
  have hm9lt:=hm9.lt
  have hnew:=World.alloc_heap_new (w8.setCell ⟨w1.heap.size,5,none⟩ (.int .i64 c3)) (.cells #[.iface 224 (.string (B L))] 297)
  rw [hszY] at hnew
  have HPUT:Hid (Calls Tryz.prog 139 #[.pointer (some ⟨mb,0,none⟩),.slice (some ⟨w8.heap.size,0,none⟩) 1 1] ((w8.setCell ⟨w1.heap.size,5,none⟩ (.int .i64 c3)).alloc (.cells #[.iface 224 (.string (B L))] 297)) fun e w'=>e=.returned (.tuple #[])∧Msg w' mb base (S2.1++outs [fRaw L]) S2.2∧TG mb base ((w8.setCell ⟨w1.heap.size,5,none⟩ (.int .i64 c3)).alloc (.cells #[.iface 224 (.string (B L))] 297)) w') :=
   put_m mb base w8.heap.size 1 [fRaw L] S2.1 S2.2 ((w8.setCell ⟨w1.heap.size,5,none⟩ (.int .i64 c3)).alloc (.cells #[.iface 224 (.string (B L))] 297)) (hm9.below ((Below.refl _ _).alloc (Nat.le_refl _) _)) (by simp; omega)
   (fun f hf=>by simp at hf; subst hf; exact raw_ok _) (by rw [World.size_alloc,hszY]; omega) (by rw [hszY] at hm9lt; omega) (.inr fun cur h=>by rw [hnew] at h; simp at h)
   (fun j hj=>by
    match j,hj with
    | 0,_=>unfold World.cell?; rw [hnew]; rfl
    | j+1,hj=>simp at hj) (by simp) (by simp) (by
     simp only [outs,fRaw,List.flatMap_cons,List.flatMap_nil,List.append_nil]
     omega)
  clear hq8 hh8 hm8 hB8 hnew hh9 hm9 hB9
  go_wp2_with fail
  refine (aU HPUT).mono ?_
  rintro e w9 ⟨rfl,hm10,ht9⟩
  obtain ⟨hh8,hm8,hB8,hX8'⟩:=aU H9
  have hT9:TG mb base (w8.setCell ⟨w1.heap.size,5,none⟩ (.int .i64 c3)) w9:=(TG.of_below ((Below.refl _ _).alloc (Nat.le_refl _) _)).trans ht9
  have hh9:NumsAt w9 w1.heap.size [(id:Int),b2,1,c0,c1,c3] 133:=(hT9.block _ (by omega) (by omega) (.inl (by omega))).trans hh8
  have hB9:Below w.heap.size w w9:=hB8.trans (show Below w.heap.size (w8.setCell ⟨w1.heap.size,5,none⟩ (.int .i64 c3)) w9 from ⟨hT9.os,hT9.tape,hT9.output,hT9.size,fun i hi=>hT9.block i (by omega) (by omega) (.inl (by omega))⟩)
  have hX9':base≤w9.heap.size:=Nat.le_trans hX8' hT9.size
  rw [show outs [fRaw L]=L by simp [outs,fRaw]] at hm10
  obtain ⟨vb9,vp9,hm9,ho9,_⟩:=hm10
  have x0:=hh9.cell 0 (by simp)
  have x1:=hh9.cell 1 (by simp)
  have x2:=hh9.cell 2 (by simp)
  have x3:=hh9.cell 3 (by simp)
  have x4:=hh9.cell 4 (by simp)
  have x5:=hh9.cell 5 (by simp)
  simp only [List.getElem_cons_zero,List.getElem_cons_succ] at x0 x1 x2 x3 x4 x5
  have HU:Hid (Calls Tryz.prog 131 #[.pointer (some ⟨mb,0,none⟩),.agg #[.int .i64 id,.int .i64 b2,.int .i64 1,.int .i64 c0,.int .i64 c1,.int .i64 c3]] w9 fun e w'=>e=.returned (.string (B (outs (hdrFs id b2 1 c0 c1 c3)++(S2.1++L).drop 12)))∧TW mb base w9 w') :=
   under_any mb base id b2 1 c0 c1 c3 vb9 vp9 _ w9 hm9 ho9 hX9' (by simp only [List.length_append]; omega) (by simp only [List.length_append]; omega) hid hb2 (by omega) (by omega) (by omega) (by omega)
  have HB9:=aH hB9
  clear hh8 hm8 hB8 hm9 ho9 ht9 hT9 hh9 hB9 HPUT H8 H9 q10 y5 yf hneY
  go_wp2_with fail
  refine (aU HU).mono ?_
  rintro e w10 ⟨rfl,ht10⟩
  have hB9:=aU HB9
  have HB10:Hid (Below w.heap.size w w10):=hB9.trans (show Below w.heap.size w9 w10 from ⟨ht10.os,ht10.tape,ht10.output,ht10.size,fun i hi=>ht10.block i (by omega) (by omega) (.inl (by omega))⟩)
  clear ht10 hB9 HU x0 x1 x2 x3 x4 x5
  go_wp2_with fail
  go_ret
  exact ⟨rfl,aU HB10⟩
end Mu
end Go.Proofs.YtkkpahmoljiepaaGreatDoor
