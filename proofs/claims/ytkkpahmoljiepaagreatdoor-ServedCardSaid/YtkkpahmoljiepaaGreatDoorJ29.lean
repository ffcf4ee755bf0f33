/- Contract: (query).reply of a query without an OPT, where all fits. -/
import Derived.Test.YtkkpahmoljiepaaGreatDoorJWz
import Derived.Test.YtkkpahmoljiepaaGreatDoorJ28
import Derived.BigQuiet
import Derived.Test.YtkkpahmoljiepaaGreatDoorJ15
import Derived.LoopN
import Derived.Test.YtkkpahmoljiepaaGreatDoorJ12
set_option linter.unusedSimpArgs false
set_option linter.unusedVariables false
set_option maxRecDepth 1000000
set_option maxHeartbeats 12800000
namespace Go.Proofs.YtkkpahmoljiepaaGreatDoor
open Go.RowKit
open Pu (Str aH aU)
namespace Xa
open Ka Kd Rf Rg Ia Iow Ie Zb Zc Za La Lb Lg Lj Wa Wb Wc Wd We Wf Wg Wh Wi Wj Wk Wl Wm Wn Wo Wp Wq Ws Wt Wu Wv Wy Wz Re
structure RF (s hb ba oa bb ob:Nat) (h0 h1 h2 h3 h4 h5:Int) (q n:Str) (k:Int) (rc:Int) (va vb:Value) (hs:List Int) (r0 r1:List Rec) (W:World):Prop where
 qu:QAt W s h0 h1 h2 h3 h4 h5 q n k 1 false 0 0
 an:aL W (s+1) (.int .i64 rc) (.bool true) va vb (.slice none 0 0)
 hd:NumsAt W hb hs 133
 g:G W
 ra:bE W ba oa r0
 rb:bE W bb ob r1
theorem RF.keep {s hb ba oa bb ob base:Nat} {h0 h1 h2 h3 h4 h5:Int} {q n:Str} {k:Int} {rc:Int} {va vb:Value} {hs:List Int} {r0 r1:List Rec} {W W':World} (h:RF s hb ba oa bb ob h0 h1 h2 h3 h4 h5 q n k rc va vb hs r0 r1 W)
  (hk : ∀ i,i<base→W'.heap[i]? = W.heap[i]?) (hz:W.heap.size≤W'.heap.size) (e1:s+1<base) (e2:hb<base) (e3:ba<base) (e4:bb<base):RF s hb ba oa bb ob h0 h1 h2 h3 h4 h5 q n k rc va vb hs r0 r1 W':=by
 obtain ⟨g0,m,gc⟩:=h.g
 exact ⟨h.qu.kept (hk _ (by omega)),(hk _ (by omega)).trans h.an,(hk _ (by omega)).trans h.hd,⟨Nat.lt_of_lt_of_le g0 hz,m,(World.cell?_of_block (hk 0 (by omega))).trans gc⟩,Ia.bE.kept h.ra hz (hk _ (by omega)),Ia.bE.kept h.rb hz (hk _ (by omega))⟩
theorem keep16 {W W':World} {s:Nat} {c0 c1 c2 c3 c4 c5 c6 c7 c8 c9 c10 c11 c12 d2 d3 d4:Value} (hb:Below W.heap.size W W')
  (h:W.cell? ⟨s,0,none⟩=some c0∧W.cell? ⟨s,1,none⟩=some c1∧W.cell? ⟨s,2,none⟩=some c2∧W.cell? ⟨s,3,none⟩=some c3∧W.cell? ⟨s,4,none⟩=some c4∧W.cell? ⟨s,5,none⟩=some c5∧W.cell? ⟨s,6,none⟩=some c6∧W.cell? ⟨s,7,none⟩=some c7∧W.cell? ⟨s,8,none⟩=some c8∧W.cell? ⟨s,9,none⟩=some c9∧W.cell? ⟨s,10,none⟩=some c10∧W.cell? ⟨s,11,none⟩=some c11∧W.cell? ⟨s,12,none⟩=some c12∧W.cell? ⟨s+1,2,none⟩=some d2∧W.cell? ⟨s+1,3,none⟩=some d3∧W.cell? ⟨s+1,4,none⟩=some d4) :
  W'.cell? ⟨s,0,none⟩=some c0∧W'.cell? ⟨s,1,none⟩=some c1∧W'.cell? ⟨s,2,none⟩=some c2∧W'.cell? ⟨s,3,none⟩=some c3∧W'.cell? ⟨s,4,none⟩=some c4∧W'.cell? ⟨s,5,none⟩=some c5∧W'.cell? ⟨s,6,none⟩=some c6∧W'.cell? ⟨s,7,none⟩=some c7∧W'.cell? ⟨s,8,none⟩=some c8∧W'.cell? ⟨s,9,none⟩=some c9∧W'.cell? ⟨s,10,none⟩=some c10∧W'.cell? ⟨s,11,none⟩=some c11∧W'.cell? ⟨s,12,none⟩=some c12∧W'.cell? ⟨s+1,2,none⟩=some d2∧W'.cell? ⟨s+1,3,none⟩=some d3∧W'.cell? ⟨s+1,4,none⟩=some d4:=by
 have kp : ∀ (a:Addr) (v:Value),W.cell? a=some v→W'.cell? a=some v:=fun a v h=>(hb.cell (World.block_lt_of_cell? W a h)).trans h
 obtain ⟨e0,e1,e2,e3,e4,e5,e6,e7,e8,e9,e10,e11,e12,f2,f3,f4⟩:=h
 exact ⟨kp _ _ e0,kp _ _ e1,kp _ _ e2,kp _ _ e3,kp _ _ e4,kp _ _ e5,kp _ _ e6,kp _ _ e7,kp _ _ e8,kp _ _ e9,kp _ _ e10,kp _ _ e11,kp _ _ e12,kp _ _ f2,kp _ _ f3,kp _ _ f4⟩
theorem reply_plain (id b ba oa bb ob:Nat) (h1 h2 h3 h4 h5 k rc:Int) (q n:Str) (va vb:Value) (r0 r1:List Rec) (p:Rec→Nat) (df:Rec→List Fd) (w:World) (hg:G w)
  (hLa:Lies va ba oa r0) (hRa:bE w ba oa r0) (hna:r0.length≤3001) (hLb:Lies vb bb ob r1) (hRb:bE w bb ob r1) (hnb:r1.length≤3001)
  (hid:id<65536) (hbt:b<65536) (hT:bits .or .i64 (turnedP h1 rc) 1024=(b:Int)) (hn:n.length≤900) (hq:q.length≤300)
  (hok : ∀ mb base vp,0<base→0<mb→∀ r∈r0++r1,RrOk mb base vp (plcs 12 n) r (p r) (df r))
  (hl:12+q.length+(r0.flatMap (roF p df)).length+(r1.flatMap (roF p df)).length≤512) :
  Calls Tryz.prog 73 #[qVal id h1 h2 h3 h4 h5 q n k 1 false 0 0,.agg #[.int .i64 rc,.bool true,va,vb,.slice none 0 0]] w fun e w' =>
   e=.returned (.string (B (outs (hdrFs id b 1 r0.length r1.length 0)++(q++r0.flatMap (roF p df)++r1.flatMap (roF p df)))))∧Below w.heap.size w w':=by
 obtain ⟨aa,ca,rfl⟩ : ∃ a c,va=.slice a r0.length c:=by rcases hLa with ⟨rfl,rfl⟩ | ⟨c,rfl,_⟩ <;> exact ⟨_,_,rfl⟩
 obtain ⟨ab,cb,rfl⟩ : ∃ a c,vb=.slice a r1.length c:=by rcases hLb with ⟨rfl,rfl⟩ | ⟨c,rfl,_⟩ <;> exact ⟨_,_,rfl⟩
 obtain ⟨X0,hX0⟩ : ∃ X0,X0=(w.alloc (.cells #[.int .i64 id,.int .i64 h1,.int .i64 h2,.int .i64 h3,.int .i64 h4,.int .i64 h5,.string (B q),.string (B n),.int .i64 k,.int .i64 1,.bool false,.int .i64 0,.int .i64 0] 137)).alloc (.cells #[.int .i64 rc,.bool true,.slice aa r0.length ca,.slice ab r1.length cb,.slice none 0 0] 43):=⟨_,rfl⟩
 have hB0:Below w.heap.size w X0:=by rw [hX0]; exact ((Below.refl _ _).alloc (Nat.le_refl _) _).alloc (by simp) _
 have hQ0:QAt X0 w.heap.size id h1 h2 h3 h4 h5 q n k 1 false 0 0:=by
  rw [hX0]
  exact (Below.heap_alloc _ _ _ (by simp)).trans (World.alloc_heap_new w _)
 have hA0:aL X0 (w.heap.size+1) (.int .i64 rc) (.bool true) (.slice aa r0.length ca) (.slice ab r1.length cb) (.slice none 0 0):=by
  rw [hX0]
  have:=World.alloc_heap_new (w.alloc (.cells #[.int .i64 id,.int .i64 h1,.int .i64 h2,.int .i64 h3,.int .i64 h4,.int .i64 h5,.string (B q),.string (B n),.int .i64 k,.int .i64 1,.bool false,.int .i64 0,.int .i64 0] 137)) (.cells #[.int .i64 rc,.bool true,.slice aa r0.length ca,.slice ab r1.length cb,.slice none 0 0] 43)
  rwa [World.size_alloc] at this
 have HX:=aH (And.intro hB0 (And.intro hQ0 hA0))
 have HIN:=aH (And.intro hg (And.intro hRa hRb))
 have HLI:=aH (And.intro hLa hLb)
 have HOK:=aH hok
 have hba:=hRa.1
 have hbb:=hRb.1
 have hX0s:w.heap.size+2≤X0.heap.size:=by rw [hX0]; simp <;> omega
 clear hg hRa hRb hLa hLb hok hB0 hQ0 hA0
 unfold qVal
 go_enter Tryz.func73,Tryz.ntmps73
 go_wp2_with fail
 rw [← hX0]
 have HX0:=aH hX0
 clear hX0
 refine (turned_any _ _ _ _ _ _ _ _).mono ?_
 rintro e w1 ⟨rfl,hb1⟩
 obtain ⟨hB0,hQ0,hA0⟩:=aU HX
 obtain ⟨hg,hRa,hRb⟩:=aU HIN
 have hQ1:=hQ0.kept (hb1.block _ hQ0.lt)
 have hA1:aL w1 (w.heap.size+1) _ _ _ _ _:=(hb1.block _ (by omega)).trans hA0
 have hB1:Below w.heap.size w w1:=hB0.trans (hb1.mono hB0.size)
 have hs1:=hb1.size
 obtain ⟨k0,k1,k2,k3,k4⟩:=aL.cells hA1
 obtain ⟨T,hTT⟩ : ∃ T,T=turnedP h1 rc:=⟨_,rfl⟩
 rw [← hTT] at hT ⊢
 have HC1:=aH (And.intro hQ1 (And.intro hA1 hB1))
 clear hB0 hQ0 hA0 hg hRa hRb hQ1 hA1 hB1 hTT hb1 HX k2 k3 k4
 have lt1:w.heap.size+1<w1.heap.size:=by omega
 go_wp2_with fail
 have HR1:Hid ((RF w.heap.size w1.heap.size ba oa bb ob id h1 h2 h3 h4 h5 q n k rc (.slice aa r0.length ca) (.slice ab r1.length cb) [(id:Int),b,0,0,0,0] r0 r1 (w1.alloc (.cells #[.int .i64 id,.int .i64 b,.int .i64 0,.int .i64 0,.int .i64 0,.int .i64 0] 133)))∧Below w.heap.size w (w1.alloc (.cells #[.int .i64 id,.int .i64 b,.int .i64 0,.int .i64 0,.int .i64 0,.int .i64 0] 133))∧w1.heap.size<(w1.alloc (.cells #[.int .i64 id,.int .i64 b,.int .i64 0,.int .i64 0,.int .i64 0,.int .i64 0] 133)).heap.size):=by
  obtain ⟨hQ1,hA1,hB1⟩:=aU HC1
  obtain ⟨hg,hRa,hRb⟩:=aU HIN
  have hB2:=hB1.alloc (by omega) (.cells #[.int .i64 id,.int .i64 b,.int .i64 0,.int .i64 0,.int .i64 0,.int .i64 0] 133)
  exact ⟨⟨hQ1.kept (Below.heap_alloc _ _ _ (by omega)),(Below.heap_alloc _ _ _ (by omega)).trans hA1,World.alloc_heap_new w1 _,hg.below hB2,hRa.below hB2,hRb.below hB2⟩,hB2,by simp⟩
 clear HC1 k0 k1 hT HX0
 generalize (w1.alloc (.cells #[.int .i64 id,.int .i64 b,.int .i64 0,.int .i64 0,.int .i64 0,.int .i64 0] 133))=X1 at *
 refine (newMessage_any _).mono ?_
 rintro e w2 ⟨rfl,⟨vm,hm2,ho2⟩,hb2⟩
 obtain ⟨hR1,hB1,hs2⟩:=aU HR1
 have hXs:=hb2.size
 have hR2:=hR1.keep (fun i hi=>hb2.block i hi) hb2.size (by omega) (by omega) (by omega) (by omega)
 obtain ⟨base,hbase⟩ : ∃ base,base=X1.heap.size:=⟨_,rfl⟩
 obtain ⟨mb,hmb⟩ : ∃ mb,mb=X1.heap.size+1:=⟨_,rfl⟩
 have hB2:Below w.heap.size w w2:=hB1.trans (hb2.mono (by omega))
 rw [← hmb] at hm2 ⊢
 rw [← hbase] at ho2 hs2 hXs
 have hbm:base<mb:=by omega
 have HPQ:=aH (putQuestion_any mb base id h1 h2 h3 h4 h5 q n k 1 vm (List.replicate 12 0) w2 hm2 ho2 hR2.g hXs (by omega) (by omega) hn (by simp; omega))
 unfold qVal at HPQ
 obtain ⟨q0,q1,q2,q3,q4,q5,q6,q7,q8,q9,q10,q11,q12⟩:=hR2.qu.cells
 have HR2:=aH (And.intro hR2 hB2)
 clear hR2 hB2 hm2 ho2 hb2 hR1 hB1 HR1 hbase hmb
 go_wp2_with fail
 refine (aU HPQ).mono ?_
 rintro e w3 ⟨rfl,⟨vb3,vp3,hm3,ho3,hp3⟩,hb3⟩
 obtain ⟨hR2,hB2⟩:=aU HR2
 have hR3:=hR2.keep (fun i hi=>hb3.block i hi) hb3.size (by omega) (by omega) (by omega) (by omega)
 have hB3:Below w.heap.size w w3:=hB2.trans (hb3.mono (by omega))
 have hXs3:base≤w3.heap.size:=Nat.le_trans hXs hb3.size
 clear q0 q1 q2 q3 q4 q5 q6 q7 q8 q9 q10 q11 q12
 obtain ⟨q0,q1,q2,q3,q4,q5,q6,q7,q8,q9,q10,q11,q12⟩:=hR3.qu.cells
 obtain ⟨g0,g1,g2,g3,g4⟩:=aL.cells hR3.an
 have HLA:=aH (last_plain id h1 h2 h3 h4 h5 q n k 1 0 0 rc w3)
 unfold qVal at HLA
 have HM3:=aH (And.intro hm3 (And.intro ho3 hp3))
 have HR3:=aH (And.intro hR3 hB3)
 clear hm3 ho3 hp3 hR3 hB3 hR2 hB2 HR2 HPQ hb3
 go_wp2_with fail
 refine (aU HLA).mono ?_
 rintro e w4 ⟨rfl,hb4⟩
 obtain ⟨hR3,hB3⟩:=aU HR3
 obtain ⟨hm3,ho3,hp3⟩:=aU HM3
 have hR4:=hR3.keep (base:=base) (fun i hi=>hb4.block i (by omega)) hb4.size (by omega) (by omega) (by omega) (by omega)
 have hB4:Below w.heap.size w w4:=hB3.trans (hb4.mono (by omega))
 have hm4:=hm3.kept (hb4.block mb hm3.lt)
 have ho4:OwnB w4 base vb3 (List.replicate 12 0++q):=own_below ho3 hb4
 have hp4:OwnP w4 base vp3 (plcs 12 n):=own_below hp3 hb4
 have hXs4:base≤w4.heap.size:=Nat.le_trans hXs3 hb4.size
 clear q0 q1 q2 q3 q4 q5 q6 q7 q8 q9 q10 q11 q12 g0 g1 g2 g3 g4
 obtain ⟨q0,q1,q2,q3,q4,q5,q6,q7,q8,q9,q10,q11,q12⟩:=hR4.qu.cells
 obtain ⟨g0,g1,g2,g3,g4⟩:=aL.cells hR4.an
 have HLI4:Hid (∀ W,Calls Tryz.prog 138 #[.agg #[.int .i64 id,.int .i64 h1,.int .i64 h2,.int .i64 h3,.int .i64 h4,.int .i64 h5,.string (B q),.string (B n),.int .i64 k,.int .i64 1,.bool false,.int .i64 0,.int .i64 0]] W fun e w'=>e=.returned (.int .i64 512)∧Below W.heap.size W w'):=fun W=>limit_plain id h1 h2 h3 h4 h5 q n k 1 0 0 W
 have HF4:Hid (∀ W lb,Below w4.heap.size w4 W→W.heap[lb]? = some (.cells #[.slice aa r0.length ca,.slice ab r1.length cb,.slice none 0 0] 41)→w4.heap.size≤lb→Calls Tryz.prog 137 #[.pointer (some ⟨mb,0,none⟩),.int .i64 512,.slice (some ⟨lb,0,none⟩) 3 3] W fun e w' =>
   ∃ nb,e=.returned (.slice (some ⟨nb,0,none⟩) 3 3)∧(w'.cell? ⟨w.heap.size,0,none⟩=some (.int .i64 id)∧w'.cell? ⟨w.heap.size,1,none⟩=some (.int .i64 h1)∧w'.cell? ⟨w.heap.size,2,none⟩=some (.int .i64 h2)∧w'.cell? ⟨w.heap.size,3,none⟩=some (.int .i64 h3)∧w'.cell? ⟨w.heap.size,4,none⟩=some (.int .i64 h4)∧w'.cell? ⟨w.heap.size,5,none⟩=some (.int .i64 h5)∧w'.cell? ⟨w.heap.size,6,none⟩=some (.string (B q))∧w'.cell? ⟨w.heap.size,7,none⟩=some (.string (B n))∧w'.cell? ⟨w.heap.size,8,none⟩=some (.int .i64 k)∧w'.cell? ⟨w.heap.size,9,none⟩=some (.int .i64 1)∧w'.cell? ⟨w.heap.size,10,none⟩=some (.bool false)∧w'.cell? ⟨w.heap.size,11,none⟩=some (.int .i64 0)∧w'.cell? ⟨w.heap.size,12,none⟩=some (.int .i64 0)∧w'.cell? ⟨w.heap.size+1,2,none⟩=some (.slice aa r0.length ca)∧w'.cell? ⟨w.heap.size+1,3,none⟩=some (.slice ab r1.length cb)∧w'.cell? ⟨w.heap.size+1,4,none⟩=some (.slice none 0 0))∧Hid (w4.heap.size≤nb∧NumsAt w' nb [(r0.length:Int),r1.length,0] 3∧RF w.heap.size w1.heap.size ba oa bb ob id h1 h2 h3 h4 h5 q n k rc (.slice aa r0.length ca) (.slice ab r1.length cb) [(id:Int),b,0,0,0,0] r0 r1 w'∧Below w.heap.size w w'∧base≤w'.heap.size∧∃ vb5,MsgAt w' mb vb5 vp3∧OwnB w' base vb5 (List.replicate 12 0++q++r0.flatMap (roF p df)++r1.flatMap (roF p df)))):=by
  intro W lb hb hlb hle
  have hmlt4:=hm4.lt
  have hR:=hR4.keep (base:=base) (fun i hi=>hb.block i (by omega)) hb.size (by omega) (by omega) (by omega) (by omega)
  obtain ⟨hLa,hLb⟩:=aU HLI
  have hbsz:=hb.size
  refine (fill_all mb base lb 512 p df _ _ _ r0 r1 [] ba oa bb ob 0 0 (plcs 12 n) vb3 vp3 (List.replicate 12 0++q) W (hm4.kept (hb.block mb hmlt4)) (own_below ho4 hb) ⟨base,own_below hp4 hb,fun e=>msg_neP hm4 hp4 e.symm⟩ hR.g (by omega) (by omega) (by omega) hlb (by omega)
   hLa hR.ra (by omega) (by omega) hna hLb hR.rb (by omega) (by omega) hnb (.inl ⟨rfl,rfl⟩) ⟨hR.g.1,fun j hj=>by simp at hj⟩ (by omega) (by omega) (by simp) (fun r hr=>aU HOK mb base vp3 (by omega) (by omega) r (by simpa using hr)) (by rw [List.length_append,List.length_replicate]; simp only [List.flatMap_nil,List.length_nil]; omega) (by rw [List.length_append,List.length_replicate]; simp only [List.flatMap_nil,List.length_nil]; omega)).mono ?_
  rintro e w' ⟨rfl,hnum,⟨vb5,m5,o5⟩,t5⟩
  have hR5:=hR.keep (base:=base) (fun i hi=>t5.block i (by omega) (by omega) (.inl hi)) t5.size (by omega) (by omega) (by omega) (by omega)
  have hBw:Below w.heap.size w W:=hB4.trans (hb.mono (by omega))
  have hts:=t5.size
  obtain ⟨q0,q1,q2,q3,q4,q5,q6,q7,q8,q9,q10,q11,q12⟩:=hR5.qu.cells
  obtain ⟨_,_,g2,g3,g4⟩:=aL.cells hR5.an
  refine ⟨W.heap.size+3,rfl,⟨q0,q1,q2,q3,q4,q5,q6,q7,q8,q9,q10,q11,q12,g2,g3,g4⟩,by omega,hnum,hR5,hBw.trans (show Below w.heap.size W w' from ⟨t5.os,t5.tape,t5.output,t5.size,fun i hi=>t5.block i (by omega) (by omega) (.inl (by omega))⟩),by omega,vb5,m5,?_⟩
  simpa using o5
 have HR4:=aH (And.intro hR4 hB4)
 have hS:w4.drew.cell? ⟨w.heap.size,0,none⟩=some (.int .i64 id)∧w4.drew.cell? ⟨w.heap.size,1,none⟩=some (.int .i64 h1)∧w4.drew.cell? ⟨w.heap.size,2,none⟩=some (.int .i64 h2)∧w4.drew.cell? ⟨w.heap.size,3,none⟩=some (.int .i64 h3)∧w4.drew.cell? ⟨w.heap.size,4,none⟩=some (.int .i64 h4)∧w4.drew.cell? ⟨w.heap.size,5,none⟩=some (.int .i64 h5)∧w4.drew.cell? ⟨w.heap.size,6,none⟩=some (.string (B q))∧w4.drew.cell? ⟨w.heap.size,7,none⟩=some (.string (B n))∧w4.drew.cell? ⟨w.heap.size,8,none⟩=some (.int .i64 k)∧w4.drew.cell? ⟨w.heap.size,9,none⟩=some (.int .i64 1)∧w4.drew.cell? ⟨w.heap.size,10,none⟩=some (.bool false)∧w4.drew.cell? ⟨w.heap.size,11,none⟩=some (.int .i64 0)∧w4.drew.cell? ⟨w.heap.size,12,none⟩=some (.int .i64 0)∧w4.drew.cell? ⟨w.heap.size+1,2,none⟩=some (.slice aa r0.length ca)∧w4.drew.cell? ⟨w.heap.size+1,3,none⟩=some (.slice ab r1.length cb)∧w4.drew.cell? ⟨w.heap.size+1,4,none⟩=some (.slice none 0 0):=⟨q0,q1,q2,q3,q4,q5,q6,q7,q8,q9,q10,q11,q12,g2,g3,g4⟩
 clear hm3 ho3 hp3 hR3 hB3 HR3 HM3 hR4 hB4 hm4 ho4 hp4 HLA hb4
 go_wp2_with fail
 go_region_held (fun w'=>w'.cell? ⟨w.heap.size,0,none⟩=some (.int .i64 id)∧w'.cell? ⟨w.heap.size,1,none⟩=some (.int .i64 h1)∧w'.cell? ⟨w.heap.size,2,none⟩=some (.int .i64 h2)∧w'.cell? ⟨w.heap.size,3,none⟩=some (.int .i64 h3)∧w'.cell? ⟨w.heap.size,4,none⟩=some (.int .i64 h4)∧w'.cell? ⟨w.heap.size,5,none⟩=some (.int .i64 h5)∧w'.cell? ⟨w.heap.size,6,none⟩=some (.string (B q))∧w'.cell? ⟨w.heap.size,7,none⟩=some (.string (B n))∧w'.cell? ⟨w.heap.size,8,none⟩=some (.int .i64 k)∧w'.cell? ⟨w.heap.size,9,none⟩=some (.int .i64 1)∧w'.cell? ⟨w.heap.size,10,none⟩=some (.bool false)∧w'.cell? ⟨w.heap.size,11,none⟩=some (.int .i64 0)∧w'.cell? ⟨w.heap.size,12,none⟩=some (.int .i64 0)∧w'.cell? ⟨w.heap.size+1,2,none⟩=some (.slice aa r0.length ca)∧w'.cell? ⟨w.heap.size+1,3,none⟩=some (.slice ab r1.length cb)∧w'.cell? ⟨w.heap.size+1,4,none⟩=some (.slice none 0 0)) (first | assumption | go_keep)
  (first
   | (go_at_call 138; go_loud (refine (aU HLI4 _).mono ?_; rintro e w5 ⟨rfl,hb5⟩; have hS5:=keep16 hb5 (by assumption)))
   | (go_at_call 137; refine (aU HF4 _ _ (((Below.refl _ _).drew.trans hb5).alloc hb5.size _) (World.alloc_heap_new _ _) hb5.size).mono ?_; rintro e w6 ⟨nb,rfl,hS6,HB6⟩)
   | (go_at_call 137; refine (aU HF4 _ _ (((Below.refl _ _).alloc (Nat.le_refl _) _).drew.trans (hb5.mono (by simp))) ((hb5.block _ (by simp)).trans (World.alloc_heap_new w4 _)) (Nat.le_refl _)).mono ?_; rintro e w6 ⟨nb,rfl,hS6,HB6⟩))
 all_goals
  rename_i hH
  clear hH hS6 hb5 hS5 HF4 HLI4 HR4 hS q0 q1 q2 q3 q4 q5 q6 q7 q8 q9 q10 q11 q12 g0 g1 g2 g3 g4
  obtain ⟨hnb4,hnum,hR6,hB6,hXs6,vb5,hm6,ho6⟩:=aU HB6
  have z0:=hnum.cell 0 (by simp)
  have z1:=hnum.cell 1 (by simp)
  have z2:=hnum.cell 2 (by simp)
  simp only [List.getElem_cons_zero,List.getElem_cons_succ] at z0 z1 z2
  obtain ⟨g0,g1,g2,g3,g4⟩:=aL.cells hR6.an
  have HC6:=aH (And.intro hnum (And.intro hR6 (And.intro hB6 (And.intro hm6 ho6))))
  clear hnum hR6 hB6 hm6 ho6 HB6
  go_wp2_with fail
  go_quiet (fail)
  have hD:Below w6.heap.size w6 (w6.drewN nq):=Rg.below_drewN (Below.refl _ _) nq
  obtain ⟨hnum,hR6,hB6,hm6,ho6⟩:=aU HC6
  have hR7:=hR6.keep (base:=base) (fun i hi=>hD.block i (by omega)) hD.size (by omega) (by omega) (by omega) (by omega)
  have hn7:NumsAt (w6.drewN nq) nb [(r0.length:Int),r1.length,0] 3:=(hD.block nb hnum.lt).trans hnum
  have hm7:=hm6.kept (hD.block mb hm6.lt)
  have ho7:OwnB (w6.drewN nq) base vb5 _:=own_below ho6 hD
  have hB7:Below w.heap.size w (w6.drewN nq):=hB6.trans (hD.mono hB6.size)
  have hXs7:base≤(w6.drewN nq).heap.size:=Nat.le_trans hXs6 hD.size
  clear hnum hR6 hB6 hm6 ho6 HC6 z0 z1 z2 g0 g1 g2 g3 g4 hD
  generalize w6.drewN nq=w7 at *
  have z0:=hn7.cell 0 (by simp)
  have z1:=hn7.cell 1 (by simp)
  have z2:=hn7.cell 2 (by simp)
  simp only [List.getElem_cons_zero,List.getElem_cons_succ] at z0 z1 z2
  have y2:=hR7.hd.cell 2 (by simp)
  have y3:=hR7.hd.cell 3 (by simp)
  have y4:=hR7.hd.cell 4 (by simp)
  have y5:=hR7.hd.cell 5 (by simp)
  simp only [List.getElem_cons_zero,List.getElem_cons_succ] at y2 y3 y4 y5
  have yf:=hR7.hd.frozen
  have hnbh:nb≠w1.heap.size:=by omega
  have HC7:=aH (And.intro hR7 (And.intro hm7 (And.intro ho7 hB7)))
  clear hR7 hm7 ho7 hB7 hn7
  go_wp2_with fail
  go_region
  have H8:Hid (QAt ((((w7.setCell ⟨w1.heap.size,2,none⟩ (.int .i64 1)).setCell ⟨w1.heap.size,3,none⟩ (.int .i64 r0.length)).setCell ⟨w1.heap.size,4,none⟩ (.int .i64 r1.length)).setCell ⟨w1.heap.size,5,none⟩ (.int .i64 0)).drew w.heap.size id h1 h2 h3 h4 h5 q n k 1 false 0 0∧NumsAt ((((w7.setCell ⟨w1.heap.size,2,none⟩ (.int .i64 1)).setCell ⟨w1.heap.size,3,none⟩ (.int .i64 r0.length)).setCell ⟨w1.heap.size,4,none⟩ (.int .i64 r1.length)).setCell ⟨w1.heap.size,5,none⟩ (.int .i64 0)).drew w1.heap.size [(id:Int),b,1,r0.length,r1.length,0] 133∧MsgAt ((((w7.setCell ⟨w1.heap.size,2,none⟩ (.int .i64 1)).setCell ⟨w1.heap.size,3,none⟩ (.int .i64 r0.length)).setCell ⟨w1.heap.size,4,none⟩ (.int .i64 r1.length)).setCell ⟨w1.heap.size,5,none⟩ (.int .i64 0)).drew mb vb5 vp3∧OwnB ((((w7.setCell ⟨w1.heap.size,2,none⟩ (.int .i64 1)).setCell ⟨w1.heap.size,3,none⟩ (.int .i64 r0.length)).setCell ⟨w1.heap.size,4,none⟩ (.int .i64 r1.length)).setCell ⟨w1.heap.size,5,none⟩ (.int .i64 0)).drew base vb5 (List.replicate 12 0++q++r0.flatMap (roF p df)++r1.flatMap (roF p df))∧Below w.heap.size w ((((w7.setCell ⟨w1.heap.size,2,none⟩ (.int .i64 1)).setCell ⟨w1.heap.size,3,none⟩ (.int .i64 r0.length)).setCell ⟨w1.heap.size,4,none⟩ (.int .i64 r1.length)).setCell ⟨w1.heap.size,5,none⟩ (.int .i64 0)).drew∧base≤(((((w7.setCell ⟨w1.heap.size,2,none⟩ (.int .i64 1)).setCell ⟨w1.heap.size,3,none⟩ (.int .i64 r0.length)).setCell ⟨w1.heap.size,4,none⟩ (.int .i64 r1.length)).setCell ⟨w1.heap.size,5,none⟩ (.int .i64 0)).drew).heap.size):=by
   obtain ⟨hR7,hm7,ho7,hB7⟩:=aU HC7
   have hh:=(((hR7.hd.set 2 1).set 3 r0.length).set 4 r1.length).set 5 0
   have hne : ∀ i,i≠w1.heap.size→(((((w7.setCell ⟨w1.heap.size,2,none⟩ (.int .i64 1)).setCell ⟨w1.heap.size,3,none⟩ (.int .i64 r0.length)).setCell ⟨w1.heap.size,4,none⟩ (.int .i64 r1.length)).setCell ⟨w1.heap.size,5,none⟩ (.int .i64 0)).drew).heap[i]? = w7.heap[i]?:=fun i hi =>
    (Below.heap_setCell _ _ _ _ hi).trans ((Below.heap_setCell _ _ _ _ hi).trans ((Below.heap_setCell _ _ _ _ hi).trans (Below.heap_setCell _ _ _ _ hi)))
   have hsz:(((((w7.setCell ⟨w1.heap.size,2,none⟩ (.int .i64 1)).setCell ⟨w1.heap.size,3,none⟩ (.int .i64 r0.length)).setCell ⟨w1.heap.size,4,none⟩ (.int .i64 r1.length)).setCell ⟨w1.heap.size,5,none⟩ (.int .i64 0)).drew).heap.size=w7.heap.size:=by simp [World.setCell,World.drew]
   refine ⟨hR7.qu.kept (hne _ (by omega)),hh,hm7.kept (hne _ (by omega)),own_kept ho7 (fun g hg=>hne g ?_),?_,by rw [hsz]; exact hXs7⟩
   ·have:=(World.ownsRow.lt ho7 g hg).1
    omega
   ·refine hB7.trans (show Below w.heap.size w7 ((((w7.setCell ⟨w1.heap.size,2,none⟩ (.int .i64 1)).setCell ⟨w1.heap.size,3,none⟩ (.int .i64 r0.length)).setCell ⟨w1.heap.size,4,none⟩ (.int .i64 r1.length)).setCell ⟨w1.heap.size,5,none⟩ (.int .i64 0)).drew from ⟨rfl,rfl,rfl,by rw [hsz]; exact Nat.le_refl _,fun i hi=>hne i (by omega)⟩)
  clear z0 z1 z2 y2 y3 y4 y5 yf HC7
  generalize ((((w7.setCell ⟨w1.heap.size,2,none⟩ (.int .i64 1)).setCell ⟨w1.heap.size,3,none⟩ (.int .i64 r0.length)).setCell ⟨w1.heap.size,4,none⟩ (.int .i64 r1.length)).setCell ⟨w1.heap.size,5,none⟩ (.int .i64 0)).drew=w8 at *
  obtain ⟨hq8,hh8,hm8,ho8,hB8,hX8⟩:=aU H8
  obtain ⟨_,_,_,_,_,_,_,_,_,_,q10,_,_⟩:=hq8.cells
  have hm8lt:=hm8.lt
  have hnew:=World.alloc_heap_new w8 (.cells #[.iface 224 (.string (B []))] 297)
  have HPUT:Hid (Calls Tryz.prog 139 #[.pointer (some ⟨mb,0,none⟩),.slice (some ⟨w8.heap.size,0,none⟩) 1 1] (w8.alloc (.cells #[.iface 224 (.string ⟨#[]⟩)] 297)) fun e w'=>e=.returned (.tuple #[])∧(∃ vb',MsgAt w' mb vb' vp3∧OwnB w' base vb' (List.replicate 12 0++q++r0.flatMap (roF p df)++r1.flatMap (roF p df)++outs [fRaw []]))∧TF mb base (w8.alloc (.cells #[.iface 224 (.string ⟨#[]⟩)] 297)) w') :=
   put_any mb base w8.heap.size 1 [fRaw []] vb5 vp3 _ (w8.alloc (.cells #[.iface 224 (.string (B []))] 297)) ((Below.heap_alloc _ _ _ hm8lt).trans hm8) (ho8.alloc _) (by simp; omega)
   (fun f hf=>by simp at hf; subst hf; exact raw_ok _) (by simp) (by omega) (.inr fun cur h=>by rw [hnew] at h; simp at h)
   (fun j hj=>by
    match j,hj with
    | 0,_=>unfold World.cell?; rw [hnew]; rfl
    | j+1,hj=>simp at hj) (by simp) (by simp) (by
     simp only [List.length_append,List.length_replicate,outs,fRaw,List.flatMap_cons,List.flatMap_nil,List.length_nil]
     omega)
  clear hq8 hh8 hm8 ho8 hB8 hnew
  go_wp2_with fail
  refine (aU HPUT).mono ?_
  rintro e w9 ⟨rfl,⟨vb9,hm9,ho9⟩,ht9⟩
  obtain ⟨hq8,hh8,hm8,ho8,hB8,hX8⟩:=aU H8
  have hT9:TF mb base w8 w9:=(TF.of_below ((Below.refl _ _).alloc (Nat.le_refl _) _)).trans ht9
  have hh9:NumsAt w9 w1.heap.size [(id:Int),b,1,r0.length,r1.length,0] 133:=(hT9.block _ (by omega) (by omega) (.inl (by omega))).trans hh8
  have hB9:Below w.heap.size w w9:=hB8.trans (show Below w.heap.size w8 w9 from ⟨hT9.os,hT9.tape,hT9.output,hT9.size,fun i hi=>hT9.block i (by omega) (by omega) (.inl (by omega))⟩)
  have hX9:base≤w9.heap.size:=Nat.le_trans hX8 hT9.size
  rw [show outs [fRaw []] = [] from rfl,List.append_nil] at ho9
  have x0:=hh9.cell 0 (by simp)
  have x1:=hh9.cell 1 (by simp)
  have x2:=hh9.cell 2 (by simp)
  have x3:=hh9.cell 3 (by simp)
  have x4:=hh9.cell 4 (by simp)
  have x5:=hh9.cell 5 (by simp)
  simp only [List.getElem_cons_zero,List.getElem_cons_succ] at x0 x1 x2 x3 x4 x5
  have HU:Hid (Calls Tryz.prog 131 #[.pointer (some ⟨mb,0,none⟩),.agg #[.int .i64 id,.int .i64 b,.int .i64 1,.int .i64 r0.length,.int .i64 r1.length,.int .i64 0]] w9 fun e w'=>e=.returned (.string (B (outs (hdrFs id b 1 r0.length r1.length 0)++(List.replicate 12 0++q++r0.flatMap (roF p df)++r1.flatMap (roF p df)).drop 12)))∧TF mb base w9 w') :=
   under_any mb base id b 1 r0.length r1.length 0 vb9 vp3 _ w9 hm9 ho9 hX9 (by simp only [List.length_append,List.length_replicate]; omega) (by simp only [List.length_append,List.length_replicate]; omega) hid hbt (by omega) (by omega) (by omega) (by omega)
  have HB9:=aH hB9
  clear hq8 hh8 hm8 ho8 hB8 hm9 ho9 ht9 hT9 hh9 hB9 HPUT H8 q10
  go_wp2_with fail
  refine (aU HU).mono ?_
  rintro e w10 ⟨rfl,ht10⟩
  have hB9:=aU HB9
  have HB10:Hid (Below w.heap.size w w10):=hB9.trans (show Below w.heap.size w9 w10 from ⟨ht10.os,ht10.tape,ht10.output,ht10.size,fun i hi=>ht10.block i (by omega) (by omega) (.inl (by omega))⟩)
  have HE:Hid ((List.replicate 12 0++q++r0.flatMap (roF p df)++r1.flatMap (roF p df)).drop 12=q++r0.flatMap (roF p df)++r1.flatMap (roF p df)):=by
   rw [Hid,List.append_assoc (List.replicate 12 0),List.append_assoc (List.replicate 12 0),List.drop_left' (by simp)]
  rw [aU HE]
  clear ht10 hB9 HU HE x0 x1 x2 x3 x4 x5
  go_wp2_with fail
  go_ret
  refine ⟨?_,aU HB10⟩
  rw [List.append_assoc q]
  rfl
end Xa
namespace Vd
open Ka Kc Wa Wb Wd Wi Wl Wm Va Vb
def quest (x y:Str) (t:Nat):Str:=UInt8.ofNat x.length :: x++UInt8.ofNat y.length :: y++[0,hi t,lo t,0,1]
theorem conv_drew (w:World) (c:UInt8):(convert 58 9 (.slice (some ⟨w.heap.size,0,none⟩) 1 1)).run Tryz.prog (w.alloc (.cells #[.int .u8 c.toNat] 5)).drew=.ok (.string ⟨#[c]⟩) (w.alloc (.cells #[.int .u8 c.toNat] 5)).drew :=
 own_string (base:=0) (l:=[c]) ⟨by simp,.inr ⟨w.heap.size,1,#[.int .u8 c.toNat],rfl,Nat.zero_le _,World.alloc_heap_new w _,Nat.le_refl _,by simp [maxLen],by simp,by simp⟩⟩
theorem question_two (b t:Nat) (x y:Str) (w:World) (hx:w.cell? ⟨b,0,none⟩=some (.string (B x))) (hy:w.cell? ⟨b,1,none⟩=some (.string (B y))) (lx:x.length≤60) (ly:y.length≤60) (ht:t<65536) :
  Calls Tryz.prog 29 #[.slice (some ⟨b,0,none⟩) 2 2,.int .i64 t] w fun e w'=>e=.returned (.string (B (quest x y t)))∧Below w.heap.size w w':=by
 have sx:(B x).size=x.length:=size_B x
 have sy:(B y).size=y.length:=size_B y
 obtain ⟨cx,hcx⟩ : ∃ c,c=UInt8.ofNat x.length:=⟨_,rfl⟩
 obtain ⟨cy,hcy⟩ : ∃ c,c=UInt8.ofNat y.length:=⟨_,rfl⟩
 have ax:IntKind.u8.wrap (x.length:Int)=(cx.toNat:Int):=by rw [IntKind.wrap_u8,hcx,UInt8.toNat_ofNat']; omega
 have ay:IntKind.u8.wrap (y.length:Int)=(cy.toNat:Int):=by rw [IntKind.wrap_u8,hcy,UInt8.toNat_ofNat']; omega
 have HQ:Hid (quest x y t=cx :: x++cy :: y++[0,hi t,lo t,0,1]):=by rw [Hid,hcx,hcy]; rfl
 have kx:=conv_drew w cx
 have HT:=aH (fun W=>two_any t W ht)
 have H1:Hid (∀ W,Calls Tryz.prog 33 #[.int .i64 1] W fun e w'=>e=.returned (.string ⟨#[0,1]⟩)∧Below W.heap.size W w'):=fun W=>two_any 1 W (by omega)
 clear hcx hcy ht
 go_enter Tryz.func29,Tryz.ntmps29
 go_wp2_with fail
 refine wp_loop_rounds 3 ?_
 rw [rounds_succ]
 go_wp2_with fail
 go_region_held (fun w'=>w'.cell? ⟨b,0,none⟩=some (.string (B x))∧w'.cell? ⟨b,1,none⟩=some (.string (B y))) (first | assumption | go_keep) (fail)
 rename_i hH
 have hB1:Below w.heap.size w (w.alloc (.cells #[.int .u8 cx.toNat] 5)).drew:=((Below.refl _ _).alloc (Nat.le_refl _) _).drew
 obtain ⟨hx1,hy1⟩:=hH
 clear hx hy kx
 generalize (w.alloc (.cells #[.int .u8 cx.toNat] 5)).drew=w1 at *
 have ky:=conv_drew w1 cy
 go_wp2_with fail
 rw [rounds_succ]
 go_wp2_with fail
 go_region_held (fun w'=>w'.cell? ⟨b,0,none⟩=some (.string (B x))∧w'.cell? ⟨b,1,none⟩=some (.string (B y))) (first | assumption | go_keep) (fail)
 rename_i hH
 have hB2:Below w.heap.size w (w1.alloc (.cells #[.int .u8 cy.toNat] 5)).drew:=hB1.trans ((((Below.refl _ _).alloc (Nat.le_refl _) _).drew).mono hB1.size)
 clear hH hx1 hy1 ky ax ay hB1
 generalize (w1.alloc (.cells #[.int .u8 cy.toNat] 5)).drew=w2 at *
 go_wp2_with fail
 rw [rounds_succ]
 go_wp2_with fail
 refine (aU HT _).mono ?_
 rintro e w3 ⟨rfl,hb3⟩
 have hB3:=hB2.trans (hb3.mono hB2.size)
 have st:(B [hi t,lo t]).size=2:=rfl
 go_wp2_with fail
 refine (aU H1 _).mono ?_
 rintro e w4 ⟨rfl,hb4⟩
 have hB4:=aH (hB3.trans (hb4.mono hB3.size))
 clear hB2 hB3 hb3 hb4
 go_wp2_with fail
 go_ret
 refine ⟨?_,aU hB4⟩
 rw [aU HQ]
 exact congrArg (fun x=>Ending.returned (.string x)) (ba_ext (by simp [B]))
def asks (i:Nat) (q:Str):Str:=[hi i,lo i,1,0,0,1,0,0,0,0,0,0]++q
theorem query_plain (i:Nat) (q:Str) (w:World) (hi':i<65536) (hq:q.length≤1000) :
  Calls Tryz.prog 31 #[.int .i64 i,.string (B q),.int .i64 (-1)] w fun e w'=>e=.returned (.string (B (asks i q)))∧Below w.heap.size w w':=by
 have sq:(B q).size=q.length:=size_B q
 have HT:=aH (fun W=>two_any i W hi')
 have H0:Hid (∀ W,Calls Tryz.prog 33 #[.int .i64 0] W fun e w'=>e=.returned (.string ⟨#[0,0]⟩)∧Below W.heap.size W w'):=fun W=>two_any 0 W (by omega)
 go_enter Tryz.func31,Tryz.ntmps31
 go_wp2_with fail
 refine (aU HT _).mono ?_
 rintro e w3 ⟨rfl,hb3⟩
 have st:(B [hi i,lo i]).size=2:=rfl
 go_wp2_with fail
 refine (aU H0 _).mono ?_
 rintro e w4 ⟨rfl,hb4⟩
 have hB4:=aH (hb3.trans (hb4.mono hb3.size))
 clear hb3 hb4
 go_wp2_with fail
 go_ret
 refine ⟨?_,aU hB4⟩
 exact congrArg (fun x=>Ending.returned (.string x)) (ba_ext (by simp [B,asks]))
end Vd
namespace Xb
open Ka Kd Rf Rg Ia Iow Ie Zb Zc Za La Lb Lc Lg Lj Wa Wb Wc Wd We Wf Wg Wh Wi Wj Wk Wl Wm Wn Wo Wp Wq Ws Wt Wu Wv Wx Wy Wz Xa Va Vb Vd Re
open Ta (zz)
theorem hilo (i:Nat) (h:i<65536):(hi i).toNat*256+(lo i).toNat=i:=by
 unfold hi lo
 rw [UInt8.toNat_ofNat',UInt8.toNat_ofNat']
 omega
theorem hdr_asks (i:Nat) (q:Str) (h:i<65536):hdrP (asks i q)=([i,256,1,0,0,0],true):=by
 have:=hilo i h
 simp [hdrP,cntP,shortP,octP,asks,this]
theorem rv_lies {w:World} {v:Value} {rs:List Rec} (h:RV w v rs) (hg:G w) : ∃ b off,Lies v b off rs∧bE w b off rs:=by
 rcases h with ⟨rfl,rfl⟩ | ⟨b,off,cap,rfl,hc,hr⟩
 ·exact ⟨0,0,.inl ⟨rfl,rfl⟩,hg.1,fun j hj=>by simp at hj⟩
 ·exact ⟨b,off,.inr ⟨cap,rfl,hc⟩,hr⟩
theorem two_of {t:Str} (h:t.length=2) : ∃ a b,t = [a,b]:=by
 match t,h with
 | [a,b],_=>exact ⟨a,b,rfl⟩
theorem lab2 (a b c d:UInt8):labP (quest [a,b] [c,d] 1) false=([[a,b],[c,d]],[0,1,0,1],false):=rfl
theorem sh1:shortP [0,1,0,1] false=(1,[0,1],false):=rfl
theorem sh2:shortP [0,1] false=(1,[],false):=rfl
theorem name2 {t0 t1:Str} {d:UInt8} (f0:foldL t0 = [104,d]) (f1:foldL t1 = [122,122]):nameP [t0,t1]=aJ d:=by
 unfold nameP
 rw [List.map_cons,List.map_cons,List.map_nil,f0,f1]
 rfl
def dfN (d:UInt8) (_:Rec):List Fd:=addrFs [10,0,d.toNat - 48,7]
theorem addr_ok {d:UInt8} (h:IsK d):AddrOk (recN d).data [10,0,d.toNat - 48,7]:=by
 rcases h with rfl | rfl | rfl <;> (unfold AddrOk; kernel_rfl)
theorem rr_ok {d:UInt8} (h:IsK d) (mb base:Nat) (vp:Value) (hb:0<base) (hm:0<mb):RrOk mb base vp (plcs 12 (aJ d)) (recN d) 12 (dfN d (recN d)) where
 own:=by
  have hps:plcs 12 (aJ d) = [(aJ d,12),([122,122],15)]:=by rcases h with rfl | rfl | rfl <;> kernel_rfl
  have:=comp_w mb base 0 vp (plcs 12 (aJ d)) (aJ d) (by simp [aJ]) (by simp [aJ]) (by rw [hps]; simp) (by rw [hps]; simp) (by simp [hps]) (fun j hj=>by omega) (by simp [hps]) hb hm
  have e:(plcs 12 (aJ d))[0]'(by rw [hps]; simp)=(aJ d,12):=by simp [hps]
  rw [e] at this
  exact ⟨m_comp _,c_comp,this⟩
 typ:=⟨rfl,by show (1:Int).toNat<65536; decide⟩
 ttl:=by
  have:d.toNat<256:=UInt8.toNat_lt d
  show d.toNat - 48<4294967296
  omega
 data:=fun W hg=>dataOf_A (recN d) _ W hg rfl (by simp [recN,Rec.data,dataN]) (addr_ok h)
 ok:=fun f hf=>by
  simp only [dfN,addrFs,List.mem_map] at hf
  obtain ⟨u,_,rfl⟩:=hf
  exact octet_ok _
 ne:=by simp [dfN,addrFs]
 few:=by simp [dfN,addrFs]
def pN (_:Rec):Nat:=12
def tellS (i:Nat) (q:Str) (d:UInt8):Str:=[hi i,lo i,133,0,0,1,0,1,0,0,0,0]++q++[192,12,0,1,0,1,0,0,0,d - 48,0,4,10,0,d - 48,7]
theorem ro_eq {d:UInt8} (h:IsK d):roF pN (dfN d) (recN d) = [192,12,0,1,0,1,0,0,0,d - 48,0,4,10,0,d - 48,7]:=by
 rcases h with rfl | rfl | rfl <;> kernel_rfl
theorem tell_eq {d:UInt8} (h:IsK d) (i:Nat) (q:Str):outs (hdrFs i 34048 1 1 0 0)++(q++[recN d].flatMap (roF pN (dfN d))++([]:List Rec).flatMap (roF pN (dfN d)))=tellS i q d:=by
 have e1 : [recN d].flatMap (roF pN (dfN d)) = [192,12,0,1,0,1,0,0,0,d - 48,0,4,10,0,d - 48,7]:=by
  rw [List.flatMap_cons,List.flatMap_nil,List.append_nil]; exact ro_eq h
 rw [e1,List.flatMap_nil,List.append_nil]
 rfl
theorem bitsT:bits .or .i64 (turnedP 256 0) 1024=((34048:Nat):Int):=by kernel_rfl
end Xb
end Go.Proofs.YtkkpahmoljiepaaGreatDoor
