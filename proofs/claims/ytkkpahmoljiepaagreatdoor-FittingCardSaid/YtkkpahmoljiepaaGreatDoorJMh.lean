/- Contract: (query).reply in general, where all fits, with an OPT or without. -/
import Derived.Test.YtkkpahmoljiepaaGreatDoorJMg
import Derived.Test.YtkkpahmoljiepaaGreatDoorJ22
import Derived.BigQuiet
set_option linter.unusedSimpArgs false
set_option linter.unusedVariables false
set_option maxRecDepth 1000000
set_option maxHeartbeats 12800000
namespace Go.Proofs.YtkkpahmoljiepaaGreatDoor
open Go.RowKit
open Pu (Str aH aU)
namespace Mh
open Ka Kd Rf Rg Ia Iow Ie Zb Zc Za La Lb Lg Lj Wa Wb Wc Wd We Wf Wg Wh Wi Wj Wk Wl Wm Wn Wo Wp Wq Ws Wt Wu Wv Wy Wz Ma Mb Mc Md Me Mf Mg Re
structure RG (s hb ba oa bb ob:Nat) (h0 h1 h2 h3 h4 h5:Int) (q n:Str) (k:Int) (op:Bool) (sz ver:Int) (rc:Int) (va vb:Value) (hs:List Int) (r0 r1:List Rec) (W:World):Prop where
 qu:QAt W s h0 h1 h2 h3 h4 h5 q n k 1 op sz ver
 an:aL W (s+1) (.int .i64 rc) (.bool true) va vb (.slice none 0 0)
 hd:NumsAt W hb hs 133
 g:G W
 ra:bE W ba oa r0
 rb:bE W bb ob r1
theorem RG.keep {s hb ba oa bb ob base:Nat} {h0 h1 h2 h3 h4 h5:Int} {q n:Str} {k:Int} {op:Bool} {sz ver:Int} {rc:Int} {va vb:Value} {hs:List Int} {r0 r1:List Rec} {W W':World} (h:RG s hb ba oa bb ob h0 h1 h2 h3 h4 h5 q n k op sz ver rc va vb hs r0 r1 W)
  (hk : ∀ i,i<base→W'.heap[i]? = W.heap[i]?) (hz:W.heap.size≤W'.heap.size) (e1:s+1<base) (e2:hb<base) (e3:ba<base) (e4:bb<base):RG s hb ba oa bb ob h0 h1 h2 h3 h4 h5 q n k op sz ver rc va vb hs r0 r1 W':=by
 obtain ⟨g0,m,gc⟩:=h.g
 exact ⟨h.qu.kept (hk _ (by omega)),(hk _ (by omega)).trans h.an,(hk _ (by omega)).trans h.hd,⟨Nat.lt_of_lt_of_le g0 hz,m,(World.cell?_of_block (hk 0 (by omega))).trans gc⟩,Ia.bE.kept h.ra hz (hk _ (by omega)),Ia.bE.kept h.rb hz (hk _ (by omega))⟩
theorem keep16 {W W':World} {s:Nat} {c0 c1 c2 c3 c4 c5 c6 c7 c8 c9 c10 c11 c12 d2 d3 d4:Value} (hb:Below W.heap.size W W')
  (h:W.cell? ⟨s,0,none⟩=some c0∧W.cell? ⟨s,1,none⟩=some c1∧W.cell? ⟨s,2,none⟩=some c2∧W.cell? ⟨s,3,none⟩=some c3∧W.cell? ⟨s,4,none⟩=some c4∧W.cell? ⟨s,5,none⟩=some c5∧W.cell? ⟨s,6,none⟩=some c6∧W.cell? ⟨s,7,none⟩=some c7∧W.cell? ⟨s,8,none⟩=some c8∧W.cell? ⟨s,9,none⟩=some c9∧W.cell? ⟨s,10,none⟩=some c10∧W.cell? ⟨s,11,none⟩=some c11∧W.cell? ⟨s,12,none⟩=some c12∧W.cell? ⟨s+1,2,none⟩=some d2∧W.cell? ⟨s+1,3,none⟩=some d3∧W.cell? ⟨s+1,4,none⟩=some d4) :
  W'.cell? ⟨s,0,none⟩=some c0∧W'.cell? ⟨s,1,none⟩=some c1∧W'.cell? ⟨s,2,none⟩=some c2∧W'.cell? ⟨s,3,none⟩=some c3∧W'.cell? ⟨s,4,none⟩=some c4∧W'.cell? ⟨s,5,none⟩=some c5∧W'.cell? ⟨s,6,none⟩=some c6∧W'.cell? ⟨s,7,none⟩=some c7∧W'.cell? ⟨s,8,none⟩=some c8∧W'.cell? ⟨s,9,none⟩=some c9∧W'.cell? ⟨s,10,none⟩=some c10∧W'.cell? ⟨s,11,none⟩=some c11∧W'.cell? ⟨s,12,none⟩=some c12∧W'.cell? ⟨s+1,2,none⟩=some d2∧W'.cell? ⟨s+1,3,none⟩=some d3∧W'.cell? ⟨s+1,4,none⟩=some d4:=by
 have kp : ∀ (a:Addr) (v:Value),W.cell? a=some v→W'.cell? a=some v:=fun a v h=>(hb.cell (World.block_lt_of_cell? W a h)).trans h
 obtain ⟨e0,e1,e2,e3,e4,e5,e6,e7,e8,e9,e10,e11,e12,f2,f3,f4⟩:=h
 exact ⟨kp _ _ e0,kp _ _ e1,kp _ _ e2,kp _ _ e3,kp _ _ e4,kp _ _ e5,kp _ _ e6,kp _ _ e7,kp _ _ e8,kp _ _ e9,kp _ _ e10,kp _ _ e11,kp _ _ e12,kp _ _ f2,kp _ _ f3,kp _ _ f4⟩
theorem plcs_ok (n:Str) (hn:n.length≤900):PlOk (plcs 12 n):=by
 intro p hp
 unfold plcs at hp
 obtain ⟨e,_,rfl⟩:=List.mem_map.1 hp
 show 12+n.length - e.length<16384
 omega
theorem hdr_set {W:World} {hb:Nat} {a b c d e f:Int} (h:NumsAt W hb [a,b,c,d,e,f] 133) (x:Int):NumsAt (W.setCell ⟨hb,5,none⟩ (.int .i64 x)) hb [a,b,c,d,e,x] 133:=h.set 5 x
theorem reply_no (id b ba oa bb ob:Nat) (h1 h2 h3 h4 h5 k rc:Int) (q n:Str) (va vb:Value) (r0 r1:List Rec) (df:Rec→List Fe) (sz ver lim:Int) (L:Str) (S1 S2:Str×Pl) (w:World) (hg:G w)
  (hLa:Lies va ba oa r0) (hRa:bE w ba oa r0) (hna:r0.length≤3001) (hLb:Lies vb bb ob r1) (hRb:bE w bb ob r1) (hnb:r1.length≤3001)
  (hid:id<65536) (hbt:b<65536) (hT:bits .or .i64 (turnedP h1 rc) 1024=(b:Int)) (hn:n.length≤900) (hq:q.length≤300)
  (hka : ∀ r∈r0,RrG r (df r)) (hkb : ∀ r∈r1,RrG r (df r)) (e1:aC df r0 (List.replicate 12 0++q) (plcs 12 n)=S1) (e2:aC df r1 S1.1 S1.2=S2)
  (hlast : ∀ W,G W→Calls Tryz.prog 136 #[qVal id h1 h2 h3 h4 h5 q n k 1 false sz ver,.int .i64 rc] W fun e w'=>e=.returned (.string (B L))∧Below W.heap.size W w')
  (hlimit : ∀ W,Calls Tryz.prog 138 #[qVal id h1 h2 h3 h4 h5 q n k 1 false sz ver] W fun e w'=>e=.returned (.int .i64 lim)∧Below W.heap.size W w')
  (hLl:L.length≤100) (hlim:lim≤2000) (hl:((S2.1.length+L.length:Nat):Int)≤lim) (hpl:S2.2.length≤700) :
  Calls Tryz.prog 73 #[qVal id h1 h2 h3 h4 h5 q n k 1 false sz ver,.agg #[.int .i64 rc,.bool true,va,vb,.slice none 0 0]] w fun e w' =>
   e=.returned (.string (B (outs (hdrFs id b 1 r0.length r1.length 0)++(S2.1++L).drop 12)))∧Below w.heap.size w w':=by
 have hm1:=recsStep_more df r0 hka (List.replicate 12 0++q) (plcs 12 n)
 have hm2:=recsStep_more df r1 hkb S1.1 S1.2
 rw [e1] at hm1
 rw [e2] at hm2
 simp only [List.length_append,List.length_replicate] at hm1
 have h12:12≤S2.1.length:=by omega
 have HPK:Hid (PlOk (plcs 12 n)):=plcs_ok n hn
 have HST:=aH (And.intro e1 e2)
 have HLAST:=aH hlast
 have HLIMT:=aH hlimit
 have hLs:(B L).size=L.length:=size_B L
 have hfz2:(S2.1.length:Int)≤lim - (L.length:Int):=by omega
 have hwr:IntKind.i64.wrap (lim - (L.length:Int))=lim - (L.length:Int):=by rw [IntKind.wrap_i64]; omega
 have hl2:S2.1.length+L.length≤2000:=by omega
 clear hm1 hm2 e1 e2 hlast hlimit
 obtain ⟨aa,ca,rfl⟩ : ∃ a c,va=.slice a r0.length c:=by rcases hLa with ⟨rfl,rfl⟩ | ⟨c,rfl,_⟩ <;> exact ⟨_,_,rfl⟩
 obtain ⟨ab,cb,rfl⟩ : ∃ a c,vb=.slice a r1.length c:=by rcases hLb with ⟨rfl,rfl⟩ | ⟨c,rfl,_⟩ <;> exact ⟨_,_,rfl⟩
 obtain ⟨X0,hX0⟩ : ∃ X0,X0=(w.alloc (.cells #[.int .i64 id,.int .i64 h1,.int .i64 h2,.int .i64 h3,.int .i64 h4,.int .i64 h5,.string (B q),.string (B n),.int .i64 k,.int .i64 1,.bool false,.int .i64 sz,.int .i64 ver] 137)).alloc (.cells #[.int .i64 rc,.bool true,.slice aa r0.length ca,.slice ab r1.length cb,.slice none 0 0] 43):=⟨_,rfl⟩
 have hB0:Below w.heap.size w X0:=by rw [hX0]; exact ((Below.refl _ _).alloc (Nat.le_refl _) _).alloc (by simp) _
 have hQ0:QAt X0 w.heap.size id h1 h2 h3 h4 h5 q n k 1 false sz ver:=by
  rw [hX0]
  exact (Below.heap_alloc _ _ _ (by simp)).trans (World.alloc_heap_new w _)
 have hA0:aL X0 (w.heap.size+1) (.int .i64 rc) (.bool true) (.slice aa r0.length ca) (.slice ab r1.length cb) (.slice none 0 0):=by
  rw [hX0]
  have:=World.alloc_heap_new (w.alloc (.cells #[.int .i64 id,.int .i64 h1,.int .i64 h2,.int .i64 h3,.int .i64 h4,.int .i64 h5,.string (B q),.string (B n),.int .i64 k,.int .i64 1,.bool false,.int .i64 sz,.int .i64 ver] 137)) (.cells #[.int .i64 rc,.bool true,.slice aa r0.length ca,.slice ab r1.length cb,.slice none 0 0] 43)
  rwa [World.size_alloc] at this
 have HX:=aH (And.intro hB0 (And.intro hQ0 hA0))
 have HIN:=aH (And.intro hg (And.intro hRa hRb))
 have HLI:=aH (And.intro hLa hLb)
 have HOK:=aH (And.intro hka hkb)
 have hba:=hRa.1
 have hbb:=hRb.1
 have hX0s:w.heap.size+2≤X0.heap.size:=by rw [hX0]; simp <;> omega
 clear hg hRa hRb hLa hLb hka hkb hB0 hQ0 hA0
 unfold qVal
 go_enter Tryz.func73,Tryz.ntmps73
 go_wp2_with fail
 rw [← hX0]
 have HX0:=aH hX0
 clear hX0
 refine (turned_any _ _ _ _ _ _ _ _).mono ?_
 rintro e w1 ⟨rfl,hb1⟩
 obtain ⟨hB0,hQ0,hA0⟩:=aU HX
 obtain ⟨hg,hRa,hRb⟩:=aU HIN
 have hQ1:=hQ0.kept (hb1.block _ hQ0.lt)
 have hA1:aL w1 (w.heap.size+1) _ _ _ _ _:=(hb1.block _ (by omega)).trans hA0
 have hB1:Below w.heap.size w w1:=hB0.trans (hb1.mono hB0.size)
 have hs1:=hb1.size
 obtain ⟨k0,k1,k2,k3,k4⟩:=aL.cells hA1
 obtain ⟨T,hTT⟩ : ∃ T,T=turnedP h1 rc:=⟨_,rfl⟩
 rw [← hTT] at hT ⊢
 have HC1:=aH (And.intro hQ1 (And.intro hA1 hB1))
 clear hB0 hQ0 hA0 hg hRa hRb hQ1 hA1 hB1 hTT hb1 HX k2 k3 k4
 have lt1:w.heap.size+1<w1.heap.size:=by omega
 go_wp2_with fail
 have HR1:Hid ((RG w.heap.size w1.heap.size ba oa bb ob id h1 h2 h3 h4 h5 q n k false sz ver rc (.slice aa r0.length ca) (.slice ab r1.length cb) [(id:Int),b,0,0,0,0] r0 r1 (w1.alloc (.cells #[.int .i64 id,.int .i64 b,.int .i64 0,.int .i64 0,.int .i64 0,.int .i64 0] 133)))∧Below w.heap.size w (w1.alloc (.cells #[.int .i64 id,.int .i64 b,.int .i64 0,.int .i64 0,.int .i64 0,.int .i64 0] 133))∧w1.heap.size<(w1.alloc (.cells #[.int .i64 id,.int .i64 b,.int .i64 0,.int .i64 0,.int .i64 0,.int .i64 0] 133)).heap.size):=by
  obtain ⟨hQ1,hA1,hB1⟩:=aU HC1
  obtain ⟨hg,hRa,hRb⟩:=aU HIN
  have hB2:=hB1.alloc (by omega) (.cells #[.int .i64 id,.int .i64 b,.int .i64 0,.int .i64 0,.int .i64 0,.int .i64 0] 133)
  exact ⟨⟨hQ1.kept (Below.heap_alloc _ _ _ (by omega)),(Below.heap_alloc _ _ _ (by omega)).trans hA1,World.alloc_heap_new w1 _,hg.below hB2,hRa.below hB2,hRb.below hB2⟩,hB2,by simp⟩
 clear HC1 k0 k1 hT HX0
 generalize (w1.alloc (.cells #[.int .i64 id,.int .i64 b,.int .i64 0,.int .i64 0,.int .i64 0,.int .i64 0] 133))=X1 at *
 refine (newMessage_any _).mono ?_
 rintro e w2 ⟨rfl,⟨vm,hm2,ho2⟩,hb2⟩
 obtain ⟨hR1,hB1,hs2⟩:=aU HR1
 have hXs:=hb2.size
 have hR2:=hR1.keep (fun i hi=>hb2.block i hi) hb2.size (by omega) (by omega) (by omega) (by omega)
 obtain ⟨base,hbase⟩ : ∃ base,base=X1.heap.size:=⟨_,rfl⟩
 obtain ⟨mb,hmb⟩ : ∃ mb,mb=X1.heap.size+1:=⟨_,rfl⟩
 have hB2:Below w.heap.size w w2:=hB1.trans (hb2.mono (by omega))
 rw [← hmb] at hm2 ⊢
 rw [← hbase] at ho2 hs2 hXs
 have hbm:base<mb:=by omega
 have HPQ:=aH (putQuestion_g mb base id h1 h2 h3 h4 h5 q n k 1 false sz ver vm (List.replicate 12 0) w2 hm2 ho2 hR2.g hXs (by omega) (by omega) hn (by simp; omega))
 unfold qVal at HPQ
 obtain ⟨q0,q1,q2,q3,q4,q5,q6,q7,q8,q9,q10,q11,q12⟩:=hR2.qu.cells
 have HR2:=aH (And.intro hR2 hB2)
 clear hR2 hB2 hm2 ho2 hb2 hR1 hB1 HR1 hbase hmb
 go_wp2_with fail
 refine (aU HPQ).mono ?_
 rintro e w3 ⟨rfl,⟨vb3,vp3,hm3,ho3,hp3⟩,hb3⟩
 obtain ⟨hR2,hB2⟩:=aU HR2
 have hR3:=hR2.keep (fun i hi=>hb3.block i hi) hb3.size (by omega) (by omega) (by omega) (by omega)
 have hB3:Below w.heap.size w w3:=hB2.trans (hb3.mono (by omega))
 have hXs3:base≤w3.heap.size:=Nat.le_trans hXs hb3.size
 clear q0 q1 q2 q3 q4 q5 q6 q7 q8 q9 q10 q11 q12
 obtain ⟨q0,q1,q2,q3,q4,q5,q6,q7,q8,q9,q10,q11,q12⟩:=hR3.qu.cells
 obtain ⟨g0,g1,g2,g3,g4⟩:=aL.cells hR3.an
 have HLA:=aH (aU HLAST w3 hR3.g)
 unfold qVal at HLA
 have HM3:Hid (Msg w3 mb base (List.replicate 12 0++q) (plcs 12 n)):=⟨vb3,vp3,hm3,ho3,hp3⟩
 have HR3:=aH (And.intro hR3 hB3)
 clear hm3 ho3 hp3 hR3 hB3 hR2 hB2 HR2 HPQ hb3
 go_wp2_with fail
 refine (aU HLA).mono ?_
 rintro e w4 ⟨rfl,hb4⟩
 obtain ⟨hR3,hB3⟩:=aU HR3
 have hm3:=aU HM3
 have hR4:=hR3.keep (base:=base) (fun i hi=>hb4.block i (by omega)) hb4.size (by omega) (by omega) (by omega) (by omega)
 have hB4:Below w.heap.size w w4:=hB3.trans (hb4.mono (by omega))
 have hm4:=hm3.below hb4
 have hXs4:base≤w4.heap.size:=Nat.le_trans hXs3 hb4.size
 clear q0 q1 q2 q3 q4 q5 q6 q7 q8 q9 q10 q11 q12 g0 g1 g2 g3 g4
 obtain ⟨q0,q1,q2,q3,q4,q5,q6,q7,q8,q9,q10,q11,q12⟩:=hR4.qu.cells
 obtain ⟨g0,g1,g2,g3,g4⟩:=aL.cells hR4.an
 have HLI4:Hid (∀ W,Calls Tryz.prog 138 #[.agg #[.int .i64 id,.int .i64 h1,.int .i64 h2,.int .i64 h3,.int .i64 h4,.int .i64 h5,.string (B q),.string (B n),.int .i64 k,.int .i64 1,.bool false,.int .i64 sz,.int .i64 ver]] W fun e w'=>e=.returned (.int .i64 lim)∧Below W.heap.size W w'):=aU HLIMT
 have HF4:Hid (∀ W lb,Below w4.heap.size w4 W→W.heap[lb]? = some (.cells #[.slice aa r0.length ca,.slice ab r1.length cb,.slice none 0 0] 41)→w4.heap.size≤lb→Calls Tryz.prog 137 #[.pointer (some ⟨mb,0,none⟩),.int .i64 (lim - (L.length:Int)),.slice (some ⟨lb,0,none⟩) 3 3] W fun e w' =>
   ∃ nb,e=.returned (.slice (some ⟨nb,0,none⟩) 3 3)∧(w'.cell? ⟨w.heap.size,0,none⟩=some (.int .i64 id)∧w'.cell? ⟨w.heap.size,1,none⟩=some (.int .i64 h1)∧w'.cell? ⟨w.heap.size,2,none⟩=some (.int .i64 h2)∧w'.cell? ⟨w.heap.size,3,none⟩=some (.int .i64 h3)∧w'.cell? ⟨w.heap.size,4,none⟩=some (.int .i64 h4)∧w'.cell? ⟨w.heap.size,5,none⟩=some (.int .i64 h5)∧w'.cell? ⟨w.heap.size,6,none⟩=some (.string (B q))∧w'.cell? ⟨w.heap.size,7,none⟩=some (.string (B n))∧w'.cell? ⟨w.heap.size,8,none⟩=some (.int .i64 k)∧w'.cell? ⟨w.heap.size,9,none⟩=some (.int .i64 1)∧w'.cell? ⟨w.heap.size,10,none⟩=some (.bool false)∧w'.cell? ⟨w.heap.size,11,none⟩=some (.int .i64 sz)∧w'.cell? ⟨w.heap.size,12,none⟩=some (.int .i64 ver)∧w'.cell? ⟨w.heap.size+1,2,none⟩=some (.slice aa r0.length ca)∧w'.cell? ⟨w.heap.size+1,3,none⟩=some (.slice ab r1.length cb)∧w'.cell? ⟨w.heap.size+1,4,none⟩=some (.slice none 0 0))∧Hid (w4.heap.size≤nb∧NumsAt w' nb [(r0.length:Int),r1.length,0] 3∧RG w.heap.size w1.heap.size ba oa bb ob id h1 h2 h3 h4 h5 q n k false sz ver rc (.slice aa r0.length ca) (.slice ab r1.length cb) [(id:Int),b,0,0,0,0] r0 r1 w'∧Below w.heap.size w w'∧base≤w'.heap.size∧Msg w' mb base S2.1 S2.2)):=by
  intro W lb hb hlb hle
  have hmlt4:=hm4.lt
  have hR:=hR4.keep (base:=base) (fun i hi=>hb.block i (by omega)) hb.size (by omega) (by omega) (by omega) (by omega)
  obtain ⟨hLa,hLb⟩:=aU HLI
  have hbsz:=hb.size
  refine (fill_g mb base lb (lim - (L.length:Int)) df _ _ _ r0 r1 [] ba oa bb ob 0 0 (List.replicate 12 0++q,plcs 12 n) S1 S2 S2 W (aU HST).1 (aU HST).2 rfl (hm4.below hb) (aU HPK) hR.g (by omega) (by omega) (by omega) hlb (by omega)
   hLa hR.ra (by omega) (by omega) hna hLb hR.rb (by omega) (by omega) hnb (.inl ⟨rfl,rfl⟩) ⟨hR.g.1,fun j hj=>by simp at hj⟩ (by omega) (by omega) (by simp) (aU HOK).1 (aU HOK).2 (fun r hr=>by cases hr) (by omega) hpl hfz2).mono ?_
  rintro e w' ⟨rfl,hnum,m5,t5⟩
  have hR5:=hR.keep (base:=base) (fun i hi=>t5.block i (by omega) (by omega) (.inl hi)) t5.size (by omega) (by omega) (by omega) (by omega)
  have hBw:Below w.heap.size w W:=hB4.trans (hb.mono (by omega))
  have hts:=t5.size
  obtain ⟨q0,q1,q2,q3,q4,q5,q6,q7,q8,q9,q10,q11,q12⟩:=hR5.qu.cells
  obtain ⟨_,_,g2,g3,g4⟩:=aL.cells hR5.an
  refine ⟨W.heap.size+3,rfl,⟨q0,q1,q2,q3,q4,q5,q6,q7,q8,q9,q10,q11,q12,g2,g3,g4⟩,by omega,hnum,hR5,hBw.trans (show Below w.heap.size W w' from ⟨t5.os,t5.tape,t5.output,t5.size,fun i hi=>t5.block i (by omega) (by omega) (.inl (by omega))⟩),by omega,m5⟩
 have HR4:=aH (And.intro hR4 hB4)
 have hS:w4.drew.cell? ⟨w.heap.size,0,none⟩=some (.int .i64 id)∧w4.drew.cell? ⟨w.heap.size,1,none⟩=some (.int .i64 h1)∧w4.drew.cell? ⟨w.heap.size,2,none⟩=some (.int .i64 h2)∧w4.drew.cell? ⟨w.heap.size,3,none⟩=some (.int .i64 h3)∧w4.drew.cell? ⟨w.heap.size,4,none⟩=some (.int .i64 h4)∧w4.drew.cell? ⟨w.heap.size,5,none⟩=some (.int .i64 h5)∧w4.drew.cell? ⟨w.heap.size,6,none⟩=some (.string (B q))∧w4.drew.cell? ⟨w.heap.size,7,none⟩=some (.string (B n))∧w4.drew.cell? ⟨w.heap.size,8,none⟩=some (.int .i64 k)∧w4.drew.cell? ⟨w.heap.size,9,none⟩=some (.int .i64 1)∧w4.drew.cell? ⟨w.heap.size,10,none⟩=some (.bool false)∧w4.drew.cell? ⟨w.heap.size,11,none⟩=some (.int .i64 sz)∧w4.drew.cell? ⟨w.heap.size,12,none⟩=some (.int .i64 ver)∧w4.drew.cell? ⟨w.heap.size+1,2,none⟩=some (.slice aa r0.length ca)∧w4.drew.cell? ⟨w.heap.size+1,3,none⟩=some (.slice ab r1.length cb)∧w4.drew.cell? ⟨w.heap.size+1,4,none⟩=some (.slice none 0 0):=⟨q0,q1,q2,q3,q4,q5,q6,q7,q8,q9,q10,q11,q12,g2,g3,g4⟩
 clear hm3 hR3 hB3 HR3 HM3 hR4 hB4 hm4 HLA hb4
 have HAR:=aH (And.intro hna (And.intro hnb (And.intro hid (And.intro hbt (And.intro hl (And.intro hpl (And.intro h12 (And.intro hfz2 hl2))))))))
 clear hna hnb hid hbt hl hpl h12 hfz2 hl2 hn hq
 go_wp2_with fail
 go_region_held (fun w'=>w'.cell? ⟨w.heap.size,0,none⟩=some (.int .i64 id)∧w'.cell? ⟨w.heap.size,1,none⟩=some (.int .i64 h1)∧w'.cell? ⟨w.heap.size,2,none⟩=some (.int .i64 h2)∧w'.cell? ⟨w.heap.size,3,none⟩=some (.int .i64 h3)∧w'.cell? ⟨w.heap.size,4,none⟩=some (.int .i64 h4)∧w'.cell? ⟨w.heap.size,5,none⟩=some (.int .i64 h5)∧w'.cell? ⟨w.heap.size,6,none⟩=some (.string (B q))∧w'.cell? ⟨w.heap.size,7,none⟩=some (.string (B n))∧w'.cell? ⟨w.heap.size,8,none⟩=some (.int .i64 k)∧w'.cell? ⟨w.heap.size,9,none⟩=some (.int .i64 1)∧w'.cell? ⟨w.heap.size,10,none⟩=some (.bool false)∧w'.cell? ⟨w.heap.size,11,none⟩=some (.int .i64 sz)∧w'.cell? ⟨w.heap.size,12,none⟩=some (.int .i64 ver)∧w'.cell? ⟨w.heap.size+1,2,none⟩=some (.slice aa r0.length ca)∧w'.cell? ⟨w.heap.size+1,3,none⟩=some (.slice ab r1.length cb)∧w'.cell? ⟨w.heap.size+1,4,none⟩=some (.slice none 0 0)) (first | assumption | go_keep)
  (first
   | (go_at_call 138; go_loud (refine (aU HLI4 _).mono ?_; rintro e w5 ⟨rfl,hb5⟩; have hS5:=keep16 hb5 (by assumption)))
   | (go_at_call 137; refine (aU HF4 _ _ (((Below.refl _ _).drew.trans hb5).alloc hb5.size _) (World.alloc_heap_new _ _) hb5.size).mono ?_; rintro e w6 ⟨nb,rfl,hS6,HB6⟩)
   | (go_at_call 137; refine (aU HF4 _ _ (((Below.refl _ _).alloc (Nat.le_refl _) _).drew.trans (hb5.mono (by simp))) ((hb5.block _ (by simp)).trans (World.alloc_heap_new w4 _)) (Nat.le_refl _)).mono ?_; rintro e w6 ⟨nb,rfl,hS6,HB6⟩))
 all_goals
  rename_i hH
  obtain ⟨hna,hnb,hid,hbt,hl,hpl,h12,hfz2,hl2⟩:=aU HAR
  clear hH hS6 hb5 hS5 HF4 HLI4 HR4 hS q0 q1 q2 q3 q4 q5 q6 q7 q8 q9 q10 q11 q12 g0 g1 g2 g3 g4
  obtain ⟨hnb4,hnum,hR6,hB6,hXs6,hm6⟩:=aU HB6
  have z0:=hnum.cell 0 (by simp)
  have z1:=hnum.cell 1 (by simp)
  have z2:=hnum.cell 2 (by simp)
  simp only [List.getElem_cons_zero,List.getElem_cons_succ] at z0 z1 z2
  obtain ⟨g0,g1,g2,g3,g4⟩:=aL.cells hR6.an
  have HC6:=aH (And.intro hnum (And.intro hR6 (And.intro hB6 hm6)))
  clear hnum hR6 hB6 hm6 HB6
  go_wp2_with fail
  go_quiet (fail)
  have hD:Below w6.heap.size w6 (w6.drewN nq):=Rg.below_drewN (Below.refl _ _) nq
  obtain ⟨hnum,hR6,hB6,hm6⟩:=aU HC6
  have hR7:=hR6.keep (base:=base) (fun i hi=>hD.block i (by omega)) hD.size (by omega) (by omega) (by omega) (by omega)
  have hn7:NumsAt (w6.drewN nq) nb [(r0.length:Int),r1.length,0] 3:=(hD.block nb hnum.lt).trans hnum
  have hm7:=hm6.below hD
  have hB7:Below w.heap.size w (w6.drewN nq):=hB6.trans (hD.mono hB6.size)
  have hXs7:base≤(w6.drewN nq).heap.size:=Nat.le_trans hXs6 hD.size
  clear hnum hR6 hB6 hm6 HC6 z0 z1 z2 g0 g1 g2 g3 g4 hD
  generalize w6.drewN nq=w7 at *
  have z0:=hn7.cell 0 (by simp)
  have z1:=hn7.cell 1 (by simp)
  have z2:=hn7.cell 2 (by simp)
  simp only [List.getElem_cons_zero,List.getElem_cons_succ] at z0 z1 z2
  have y2:=hR7.hd.cell 2 (by simp)
  have y3:=hR7.hd.cell 3 (by simp)
  have y4:=hR7.hd.cell 4 (by simp)
  have y5:=hR7.hd.cell 5 (by simp)
  simp only [List.getElem_cons_zero,List.getElem_cons_succ] at y2 y3 y4 y5
  have yf:=hR7.hd.frozen
  have hnbh:nb≠w1.heap.size:=by omega
  have HC7:=aH (And.intro hR7 (And.intro hm7 hB7))
  clear hR7 hm7 hB7 hn7
  go_wp2_with fail
  go_region
  have H8:Hid (QAt ((((w7.setCell ⟨w1.heap.size,2,none⟩ (.int .i64 1)).setCell ⟨w1.heap.size,3,none⟩ (.int .i64 r0.length)).setCell ⟨w1.heap.size,4,none⟩ (.int .i64 r1.length)).setCell ⟨w1.heap.size,5,none⟩ (.int .i64 0)).drew w.heap.size id h1 h2 h3 h4 h5 q n k 1 false sz ver∧NumsAt ((((w7.setCell ⟨w1.heap.size,2,none⟩ (.int .i64 1)).setCell ⟨w1.heap.size,3,none⟩ (.int .i64 r0.length)).setCell ⟨w1.heap.size,4,none⟩ (.int .i64 r1.length)).setCell ⟨w1.heap.size,5,none⟩ (.int .i64 0)).drew w1.heap.size [(id:Int),b,1,r0.length,r1.length,0] 133∧Msg ((((w7.setCell ⟨w1.heap.size,2,none⟩ (.int .i64 1)).setCell ⟨w1.heap.size,3,none⟩ (.int .i64 r0.length)).setCell ⟨w1.heap.size,4,none⟩ (.int .i64 r1.length)).setCell ⟨w1.heap.size,5,none⟩ (.int .i64 0)).drew mb base S2.1 S2.2∧Below w.heap.size w ((((w7.setCell ⟨w1.heap.size,2,none⟩ (.int .i64 1)).setCell ⟨w1.heap.size,3,none⟩ (.int .i64 r0.length)).setCell ⟨w1.heap.size,4,none⟩ (.int .i64 r1.length)).setCell ⟨w1.heap.size,5,none⟩ (.int .i64 0)).drew∧base≤(((((w7.setCell ⟨w1.heap.size,2,none⟩ (.int .i64 1)).setCell ⟨w1.heap.size,3,none⟩ (.int .i64 r0.length)).setCell ⟨w1.heap.size,4,none⟩ (.int .i64 r1.length)).setCell ⟨w1.heap.size,5,none⟩ (.int .i64 0)).drew).heap.size):=by
   obtain ⟨hR7,hm7,hB7⟩:=aU HC7
   have hh:=(((hR7.hd.set 2 1).set 3 r0.length).set 4 r1.length).set 5 0
   have hne : ∀ i,i≠w1.heap.size→(((((w7.setCell ⟨w1.heap.size,2,none⟩ (.int .i64 1)).setCell ⟨w1.heap.size,3,none⟩ (.int .i64 r0.length)).setCell ⟨w1.heap.size,4,none⟩ (.int .i64 r1.length)).setCell ⟨w1.heap.size,5,none⟩ (.int .i64 0)).drew).heap[i]? = w7.heap[i]?:=fun i hi =>
    (Below.heap_setCell _ _ _ _ hi).trans ((Below.heap_setCell _ _ _ _ hi).trans ((Below.heap_setCell _ _ _ _ hi).trans (Below.heap_setCell _ _ _ _ hi)))
   have hsz:(((((w7.setCell ⟨w1.heap.size,2,none⟩ (.int .i64 1)).setCell ⟨w1.heap.size,3,none⟩ (.int .i64 r0.length)).setCell ⟨w1.heap.size,4,none⟩ (.int .i64 r1.length)).setCell ⟨w1.heap.size,5,none⟩ (.int .i64 0)).drew).heap.size=w7.heap.size:=by simp [World.setCell,World.drew]
   have hnm:(∀ cur,w7.heap[w1.heap.size]?≠some (.cells cur 5 (0,0)))∧∀ cur,w7.heap[w1.heap.size]?≠some (.cells cur 343 (0,0)):=by
    have:=hR7.hd
    unfold NumsAt at this
    exact ⟨fun c hc=>by rw [this] at hc; simp at hc,fun c hc=>by rw [this] at hc; simp at hc⟩
   refine ⟨hR7.qu.kept (hne _ (by omega)),hh,(msgN_but (msg_self hm7) hnm (by omega) hne).msg,?_,by rw [hsz]; exact hXs7⟩
   ·refine hB7.trans (show Below w.heap.size w7 ((((w7.setCell ⟨w1.heap.size,2,none⟩ (.int .i64 1)).setCell ⟨w1.heap.size,3,none⟩ (.int .i64 r0.length)).setCell ⟨w1.heap.size,4,none⟩ (.int .i64 r1.length)).setCell ⟨w1.heap.size,5,none⟩ (.int .i64 0)).drew from ⟨rfl,rfl,rfl,by rw [hsz]; exact Nat.le_refl _,fun i hi=>hne i (by omega)⟩)
  clear z0 z1 z2 y2 y3 y4 y5 yf HC7
  generalize ((((w7.setCell ⟨w1.heap.size,2,none⟩ (.int .i64 1)).setCell ⟨w1.heap.size,3,none⟩ (.int .i64 r0.length)).setCell ⟨w1.heap.size,4,none⟩ (.int .i64 r1.length)).setCell ⟨w1.heap.size,5,none⟩ (.int .i64 0)).drew=w8 at *
  obtain ⟨hq8,hh8,hm8,hB8,hX8⟩:=aU H8
  obtain ⟨_,_,_,_,_,_,_,_,_,_,q10,_,_⟩:=hq8.cells
  have hszY:w8.heap.size=w8.heap.size:=rfl
  have H9:Hid (NumsAt w8 w1.heap.size [(id:Int),b,1,r0.length,r1.length,0] 133∧Msg w8 mb base S2.1 S2.2∧Below w.heap.size w w8∧base≤w8.heap.size):=⟨hh8,hm8,hB8,hX8⟩
  obtain ⟨hh9,hm9,hB9,hX9⟩:=aU H9
  have hm9lt:=hm9.lt
  have hnew:=World.alloc_heap_new w8 (.cells #[.iface 224 (.string (B L))] 297)
  rw [hszY] at hnew
  have HPUT:Hid (Calls Tryz.prog 139 #[.pointer (some ⟨mb,0,none⟩),.slice (some ⟨w8.heap.size,0,none⟩) 1 1] (w8.alloc (.cells #[.iface 224 (.string (B L))] 297)) fun e w'=>e=.returned (.tuple #[])∧Msg w' mb base (S2.1++outs [fRaw L]) S2.2∧TG mb base (w8.alloc (.cells #[.iface 224 (.string (B L))] 297)) w') :=
   put_m mb base w8.heap.size 1 [fRaw L] S2.1 S2.2 (w8.alloc (.cells #[.iface 224 (.string (B L))] 297)) (hm9.below ((Below.refl _ _).alloc (Nat.le_refl _) _)) (by simp; omega)
   (fun f hf=>by simp at hf; subst hf; exact raw_ok _) (by rw [World.size_alloc,hszY]; omega) (by rw [hszY] at hm9lt; omega) (.inr fun cur h=>by rw [hnew] at h; simp at h)
   (fun j hj=>by
    match j,hj with
    | 0,_=>unfold World.cell?; rw [hnew]; rfl
    | j+1,hj=>simp at hj) (by simp) (by simp) (by
     simp only [outs,fRaw,List.flatMap_cons,List.flatMap_nil,List.append_nil]
     omega)
  clear hq8 hh8 hm8 hB8 hnew hh9 hm9 hB9
  go_wp2_with fail
  refine (aU HPUT).mono ?_
  rintro e w9 ⟨rfl,hm10,ht9⟩
  obtain ⟨hh8,hm8,hB8,hX8'⟩:=aU H9
  have hT9:TG mb base w8 w9:=(TG.of_below ((Below.refl _ _).alloc (Nat.le_refl _) _)).trans ht9
  have hh9:NumsAt w9 w1.heap.size [(id:Int),b,1,r0.length,r1.length,0] 133:=(hT9.block _ (by omega) (by omega) (.inl (by omega))).trans hh8
  have hB9:Below w.heap.size w w9:=hB8.trans (show Below w.heap.size w8 w9 from ⟨hT9.os,hT9.tape,hT9.output,hT9.size,fun i hi=>hT9.block i (by omega) (by omega) (.inl (by omega))⟩)
  have hX9':base≤w9.heap.size:=Nat.le_trans hX8' hT9.size
  rw [show outs [fRaw L]=L by simp [outs,fRaw]] at hm10
  obtain ⟨vb9,vp9,hm9,ho9,_⟩:=hm10
  have x0:=hh9.cell 0 (by simp)
  have x1:=hh9.cell 1 (by simp)
  have x2:=hh9.cell 2 (by simp)
  have x3:=hh9.cell 3 (by simp)
  have x4:=hh9.cell 4 (by simp)
  have x5:=hh9.cell 5 (by simp)
  simp only [List.getElem_cons_zero,List.getElem_cons_succ] at x0 x1 x2 x3 x4 x5
  have HU:Hid (Calls Tryz.prog 131 #[.pointer (some ⟨mb,0,none⟩),.agg #[.int .i64 id,.int .i64 b,.int .i64 1,.int .i64 r0.length,.int .i64 r1.length,.int .i64 0]] w9 fun e w'=>e=.returned (.string (B (outs (hdrFs id b 1 r0.length r1.length 0)++(S2.1++L).drop 12)))∧TW mb base w9 w') :=
   under_any mb base id b 1 r0.length r1.length 0 vb9 vp9 _ w9 hm9 ho9 hX9' (by simp only [List.length_append]; omega) (by simp only [List.length_append]; omega) hid hbt (by omega) (by omega) (by omega) (by omega)
  have HB9:=aH hB9
  clear hh8 hm8 hB8 hm9 ho9 ht9 hT9 hh9 hB9 HPUT H8 H9 q10
  go_wp2_with fail
  refine (aU HU).mono ?_
  rintro e w10 ⟨rfl,ht10⟩
  have hB9:=aU HB9
  have HB10:Hid (Below w.heap.size w w10):=hB9.trans (show Below w.heap.size w9 w10 from ⟨ht10.os,ht10.tape,ht10.output,ht10.size,fun i hi=>ht10.block i (by omega) (by omega) (.inl (by omega))⟩)
  clear ht10 hB9 HU x0 x1 x2 x3 x4 x5
  go_wp2_with fail
  go_ret
  exact ⟨rfl,aU HB10⟩
theorem reply_opt (id b ba oa bb ob:Nat) (h1 h2 h3 h4 h5 k rc:Int) (q n:Str) (va vb:Value) (r0 r1:List Rec) (df:Rec→List Fe) (sz ver lim:Int) (L:Str) (S1 S2:Str×Pl) (w:World) (hg:G w)
  (hLa:Lies va ba oa r0) (hRa:bE w ba oa r0) (hna:r0.length≤3001) (hLb:Lies vb bb ob r1) (hRb:bE w bb ob r1) (hnb:r1.length≤3001)
  (hid:id<65536) (hbt:b<65536) (hT:bits .or .i64 (turnedP h1 rc) 1024=(b:Int)) (hn:n.length≤900) (hq:q.length≤300)
  (hka : ∀ r∈r0,RrG r (df r)) (hkb : ∀ r∈r1,RrG r (df r)) (e1:aC df r0 (List.replicate 12 0++q) (plcs 12 n)=S1) (e2:aC df r1 S1.1 S1.2=S2)
  (hlast : ∀ W,G W→Calls Tryz.prog 136 #[qVal id h1 h2 h3 h4 h5 q n k 1 true sz ver,.int .i64 rc] W fun e w'=>e=.returned (.string (B L))∧Below W.heap.size W w')
  (hlimit : ∀ W,Calls Tryz.prog 138 #[qVal id h1 h2 h3 h4 h5 q n k 1 true sz ver] W fun e w'=>e=.returned (.int .i64 lim)∧Below W.heap.size W w')
  (hLl:L.length≤100) (hlim:lim≤2000) (hl:((S2.1.length+L.length:Nat):Int)≤lim) (hpl:S2.2.length≤700) :
  Calls Tryz.prog 73 #[qVal id h1 h2 h3 h4 h5 q n k 1 true sz ver,.agg #[.int .i64 rc,.bool true,va,vb,.slice none 0 0]] w fun e w' =>
   e=.returned (.string (B (outs (hdrFs id b 1 r0.length r1.length 1)++(S2.1++L).drop 12)))∧Below w.heap.size w w':=by
 have hm1:=recsStep_more df r0 hka (List.replicate 12 0++q) (plcs 12 n)
 have hm2:=recsStep_more df r1 hkb S1.1 S1.2
 rw [e1] at hm1
 rw [e2] at hm2
 simp only [List.length_append,List.length_replicate] at hm1
 have h12:12≤S2.1.length:=by omega
 have HPK:Hid (PlOk (plcs 12 n)):=plcs_ok n hn
 have HST:=aH (And.intro e1 e2)
 have HLAST:=aH hlast
 have HLIMT:=aH hlimit
 have hLs:(B L).size=L.length:=size_B L
 have hfz2:(S2.1.length:Int)≤lim - (L.length:Int):=by omega
 have hwr:IntKind.i64.wrap (lim - (L.length:Int))=lim - (L.length:Int):=by rw [IntKind.wrap_i64]; omega
 have hl2:S2.1.length+L.length≤2000:=by omega
 clear hm1 hm2 e1 e2 hlast hlimit
 obtain ⟨aa,ca,rfl⟩ : ∃ a c,va=.slice a r0.length c:=by rcases hLa with ⟨rfl,rfl⟩ | ⟨c,rfl,_⟩ <;> exact ⟨_,_,rfl⟩
 obtain ⟨ab,cb,rfl⟩ : ∃ a c,vb=.slice a r1.length c:=by rcases hLb with ⟨rfl,rfl⟩ | ⟨c,rfl,_⟩ <;> exact ⟨_,_,rfl⟩
 obtain ⟨X0,hX0⟩ : ∃ X0,X0=(w.alloc (.cells #[.int .i64 id,.int .i64 h1,.int .i64 h2,.int .i64 h3,.int .i64 h4,.int .i64 h5,.string (B q),.string (B n),.int .i64 k,.int .i64 1,.bool true,.int .i64 sz,.int .i64 ver] 137)).alloc (.cells #[.int .i64 rc,.bool true,.slice aa r0.length ca,.slice ab r1.length cb,.slice none 0 0] 43):=⟨_,rfl⟩
 have hB0:Below w.heap.size w X0:=by rw [hX0]; exact ((Below.refl _ _).alloc (Nat.le_refl _) _).alloc (by simp) _
 have hQ0:QAt X0 w.heap.size id h1 h2 h3 h4 h5 q n k 1 true sz ver:=by
  rw [hX0]
  exact (Below.heap_alloc _ _ _ (by simp)).trans (World.alloc_heap_new w _)
 have hA0:aL X0 (w.heap.size+1) (.int .i64 rc) (.bool true) (.slice aa r0.length ca) (.slice ab r1.length cb) (.slice none 0 0):=by
  rw [hX0]
  have:=World.alloc_heap_new (w.alloc (.cells #[.int .i64 id,.int .i64 h1,.int .i64 h2,.int .i64 h3,.int .i64 h4,.int .i64 h5,.string (B q),.string (B n),.int .i64 k,.int .i64 1,.bool true,.int .i64 sz,.int .i64 ver] 137)) (.cells #[.int .i64 rc,.bool true,.slice aa r0.length ca,.slice ab r1.length cb,.slice none 0 0] 43)
  rwa [World.size_alloc] at this
 have HX:=aH (And.intro hB0 (And.intro hQ0 hA0))
 have HIN:=aH (And.intro hg (And.intro hRa hRb))
 have HLI:=aH (And.intro hLa hLb)
 have HOK:=aH (And.intro hka hkb)
 have hba:=hRa.1
 have hbb:=hRb.1
 have hX0s:w.heap.size+2≤X0.heap.size:=by rw [hX0]; simp <;> omega
 clear hg hRa hRb hLa hLb hka hkb hB0 hQ0 hA0
 unfold qVal
 go_enter Tryz.func73,Tryz.ntmps73
 go_wp2_with fail
 rw [← hX0]
 have HX0:=aH hX0
 clear hX0
 refine (turned_any _ _ _ _ _ _ _ _).mono ?_
 rintro e w1 ⟨rfl,hb1⟩
 obtain ⟨hB0,hQ0,hA0⟩:=aU HX
 obtain ⟨hg,hRa,hRb⟩:=aU HIN
 have hQ1:=hQ0.kept (hb1.block _ hQ0.lt)
 have hA1:aL w1 (w.heap.size+1) _ _ _ _ _:=(hb1.block _ (by omega)).trans hA0
 have hB1:Below w.heap.size w w1:=hB0.trans (hb1.mono hB0.size)
 have hs1:=hb1.size
 obtain ⟨k0,k1,k2,k3,k4⟩:=aL.cells hA1
 obtain ⟨T,hTT⟩ : ∃ T,T=turnedP h1 rc:=⟨_,rfl⟩
 rw [← hTT] at hT ⊢
 have HC1:=aH (And.intro hQ1 (And.intro hA1 hB1))
 clear hB0 hQ0 hA0 hg hRa hRb hQ1 hA1 hB1 hTT hb1 HX k2 k3 k4
 have lt1:w.heap.size+1<w1.heap.size:=by omega
 go_wp2_with fail
 have HR1:Hid ((RG w.heap.size w1.heap.size ba oa bb ob id h1 h2 h3 h4 h5 q n k true sz ver rc (.slice aa r0.length ca) (.slice ab r1.length cb) [(id:Int),b,0,0,0,0] r0 r1 (w1.alloc (.cells #[.int .i64 id,.int .i64 b,.int .i64 0,.int .i64 0,.int .i64 0,.int .i64 0] 133)))∧Below w.heap.size w (w1.alloc (.cells #[.int .i64 id,.int .i64 b,.int .i64 0,.int .i64 0,.int .i64 0,.int .i64 0] 133))∧w1.heap.size<(w1.alloc (.cells #[.int .i64 id,.int .i64 b,.int .i64 0,.int .i64 0,.int .i64 0,.int .i64 0] 133)).heap.size):=by
  obtain ⟨hQ1,hA1,hB1⟩:=aU HC1
  obtain ⟨hg,hRa,hRb⟩:=aU HIN
  have hB2:=hB1.alloc (by omega) (.cells #[.int .i64 id,.int .i64 b,.int .i64 0,.int .i64 0,.int .i64 0,.int .i64 0] 133)
  exact ⟨⟨hQ1.kept (Below.heap_alloc _ _ _ (by omega)),(Below.heap_alloc _ _ _ (by omega)).trans hA1,World.alloc_heap_new w1 _,hg.below hB2,hRa.below hB2,hRb.below hB2⟩,hB2,by simp⟩
 clear HC1 k0 k1 hT HX0
 generalize (w1.alloc (.cells #[.int .i64 id,.int .i64 b,.int .i64 0,.int .i64 0,.int .i64 0,.int .i64 0] 133))=X1 at *
 refine (newMessage_any _).mono ?_
 rintro e w2 ⟨rfl,⟨vm,hm2,ho2⟩,hb2⟩
 obtain ⟨hR1,hB1,hs2⟩:=aU HR1
 have hXs:=hb2.size
 have hR2:=hR1.keep (fun i hi=>hb2.block i hi) hb2.size (by omega) (by omega) (by omega) (by omega)
 obtain ⟨base,hbase⟩ : ∃ base,base=X1.heap.size:=⟨_,rfl⟩
 obtain ⟨mb,hmb⟩ : ∃ mb,mb=X1.heap.size+1:=⟨_,rfl⟩
 have hB2:Below w.heap.size w w2:=hB1.trans (hb2.mono (by omega))
 rw [← hmb] at hm2 ⊢
 rw [← hbase] at ho2 hs2 hXs
 have hbm:base<mb:=by omega
 have HPQ:=aH (putQuestion_g mb base id h1 h2 h3 h4 h5 q n k 1 true sz ver vm (List.replicate 12 0) w2 hm2 ho2 hR2.g hXs (by omega) (by omega) hn (by simp; omega))
 unfold qVal at HPQ
 obtain ⟨q0,q1,q2,q3,q4,q5,q6,q7,q8,q9,q10,q11,q12⟩:=hR2.qu.cells
 have HR2:=aH (And.intro hR2 hB2)
 clear hR2 hB2 hm2 ho2 hb2 hR1 hB1 HR1 hbase hmb
 go_wp2_with fail
 refine (aU HPQ).mono ?_
 rintro e w3 ⟨rfl,⟨vb3,vp3,hm3,ho3,hp3⟩,hb3⟩
 obtain ⟨hR2,hB2⟩:=aU HR2
 have hR3:=hR2.keep (fun i hi=>hb3.block i hi) hb3.size (by omega) (by omega) (by omega) (by omega)
 have hB3:Below w.heap.size w w3:=hB2.trans (hb3.mono (by omega))
 have hXs3:base≤w3.heap.size:=Nat.le_trans hXs hb3.size
 clear q0 q1 q2 q3 q4 q5 q6 q7 q8 q9 q10 q11 q12
 obtain ⟨q0,q1,q2,q3,q4,q5,q6,q7,q8,q9,q10,q11,q12⟩:=hR3.qu.cells
 obtain ⟨g0,g1,g2,g3,g4⟩:=aL.cells hR3.an
 have HLA:=aH (aU HLAST w3 hR3.g)
 unfold qVal at HLA
 have HM3:Hid (Msg w3 mb base (List.replicate 12 0++q) (plcs 12 n)):=⟨vb3,vp3,hm3,ho3,hp3⟩
 have HR3:=aH (And.intro hR3 hB3)
 clear hm3 ho3 hp3 hR3 hB3 hR2 hB2 HR2 HPQ hb3
 go_wp2_with fail
 refine (aU HLA).mono ?_
 rintro e w4 ⟨rfl,hb4⟩
 obtain ⟨hR3,hB3⟩:=aU HR3
 have hm3:=aU HM3
 have hR4:=hR3.keep (base:=base) (fun i hi=>hb4.block i (by omega)) hb4.size (by omega) (by omega) (by omega) (by omega)
 have hB4:Below w.heap.size w w4:=hB3.trans (hb4.mono (by omega))
 have hm4:=hm3.below hb4
 have hXs4:base≤w4.heap.size:=Nat.le_trans hXs3 hb4.size
 clear q0 q1 q2 q3 q4 q5 q6 q7 q8 q9 q10 q11 q12 g0 g1 g2 g3 g4
 obtain ⟨q0,q1,q2,q3,q4,q5,q6,q7,q8,q9,q10,q11,q12⟩:=hR4.qu.cells
 obtain ⟨g0,g1,g2,g3,g4⟩:=aL.cells hR4.an
 have HLI4:Hid (∀ W,Calls Tryz.prog 138 #[.agg #[.int .i64 id,.int .i64 h1,.int .i64 h2,.int .i64 h3,.int .i64 h4,.int .i64 h5,.string (B q),.string (B n),.int .i64 k,.int .i64 1,.bool true,.int .i64 sz,.int .i64 ver]] W fun e w'=>e=.returned (.int .i64 lim)∧Below W.heap.size W w'):=aU HLIMT
 have HF4:Hid (∀ W lb,Below w4.heap.size w4 W→W.heap[lb]? = some (.cells #[.slice aa r0.length ca,.slice ab r1.length cb,.slice none 0 0] 41)→w4.heap.size≤lb→Calls Tryz.prog 137 #[.pointer (some ⟨mb,0,none⟩),.int .i64 (lim - (L.length:Int)),.slice (some ⟨lb,0,none⟩) 3 3] W fun e w' =>
   ∃ nb,e=.returned (.slice (some ⟨nb,0,none⟩) 3 3)∧(w'.cell? ⟨w.heap.size,0,none⟩=some (.int .i64 id)∧w'.cell? ⟨w.heap.size,1,none⟩=some (.int .i64 h1)∧w'.cell? ⟨w.heap.size,2,none⟩=some (.int .i64 h2)∧w'.cell? ⟨w.heap.size,3,none⟩=some (.int .i64 h3)∧w'.cell? ⟨w.heap.size,4,none⟩=some (.int .i64 h4)∧w'.cell? ⟨w.heap.size,5,none⟩=some (.int .i64 h5)∧w'.cell? ⟨w.heap.size,6,none⟩=some (.string (B q))∧w'.cell? ⟨w.heap.size,7,none⟩=some (.string (B n))∧w'.cell? ⟨w.heap.size,8,none⟩=some (.int .i64 k)∧w'.cell? ⟨w.heap.size,9,none⟩=some (.int .i64 1)∧w'.cell? ⟨w.heap.size,10,none⟩=some (.bool true)∧w'.cell? ⟨w.heap.size,11,none⟩=some (.int .i64 sz)∧w'.cell? ⟨w.heap.size,12,none⟩=some (.int .i64 ver)∧w'.cell? ⟨w.heap.size+1,2,none⟩=some (.slice aa r0.length ca)∧w'.cell? ⟨w.heap.size+1,3,none⟩=some (.slice ab r1.length cb)∧w'.cell? ⟨w.heap.size+1,4,none⟩=some (.slice none 0 0))∧Hid (w4.heap.size≤nb∧NumsAt w' nb [(r0.length:Int),r1.length,0] 3∧RG w.heap.size w1.heap.size ba oa bb ob id h1 h2 h3 h4 h5 q n k true sz ver rc (.slice aa r0.length ca) (.slice ab r1.length cb) [(id:Int),b,0,0,0,0] r0 r1 w'∧Below w.heap.size w w'∧base≤w'.heap.size∧Msg w' mb base S2.1 S2.2)):=by
  intro W lb hb hlb hle
  have hmlt4:=hm4.lt
  have hR:=hR4.keep (base:=base) (fun i hi=>hb.block i (by omega)) hb.size (by omega) (by omega) (by omega) (by omega)
  obtain ⟨hLa,hLb⟩:=aU HLI
  have hbsz:=hb.size
  refine (fill_g mb base lb (lim - (L.length:Int)) df _ _ _ r0 r1 [] ba oa bb ob 0 0 (List.replicate 12 0++q,plcs 12 n) S1 S2 S2 W (aU HST).1 (aU HST).2 rfl (hm4.below hb) (aU HPK) hR.g (by omega) (by omega) (by omega) hlb (by omega)
   hLa hR.ra (by omega) (by omega) hna hLb hR.rb (by omega) (by omega) hnb (.inl ⟨rfl,rfl⟩) ⟨hR.g.1,fun j hj=>by simp at hj⟩ (by omega) (by omega) (by simp) (aU HOK).1 (aU HOK).2 (fun r hr=>by cases hr) (by omega) hpl hfz2).mono ?_
  rintro e w' ⟨rfl,hnum,m5,t5⟩
  have hR5:=hR.keep (base:=base) (fun i hi=>t5.block i (by omega) (by omega) (.inl hi)) t5.size (by omega) (by omega) (by omega) (by omega)
  have hBw:Below w.heap.size w W:=hB4.trans (hb.mono (by omega))
  have hts:=t5.size
  obtain ⟨q0,q1,q2,q3,q4,q5,q6,q7,q8,q9,q10,q11,q12⟩:=hR5.qu.cells
  obtain ⟨_,_,g2,g3,g4⟩:=aL.cells hR5.an
  refine ⟨W.heap.size+3,rfl,⟨q0,q1,q2,q3,q4,q5,q6,q7,q8,q9,q10,q11,q12,g2,g3,g4⟩,by omega,hnum,hR5,hBw.trans (show Below w.heap.size W w' from ⟨t5.os,t5.tape,t5.output,t5.size,fun i hi=>t5.block i (by omega) (by omega) (.inl (by omega))⟩),by omega,m5⟩
 have HR4:=aH (And.intro hR4 hB4)
 have hS:w4.drew.cell? ⟨w.heap.size,0,none⟩=some (.int .i64 id)∧w4.drew.cell? ⟨w.heap.size,1,none⟩=some (.int .i64 h1)∧w4.drew.cell? ⟨w.heap.size,2,none⟩=some (.int .i64 h2)∧w4.drew.cell? ⟨w.heap.size,3,none⟩=some (.int .i64 h3)∧w4.drew.cell? ⟨w.heap.size,4,none⟩=some (.int .i64 h4)∧w4.drew.cell? ⟨w.heap.size,5,none⟩=some (.int .i64 h5)∧w4.drew.cell? ⟨w.heap.size,6,none⟩=some (.string (B q))∧w4.drew.cell? ⟨w.heap.size,7,none⟩=some (.string (B n))∧w4.drew.cell? ⟨w.heap.size,8,none⟩=some (.int .i64 k)∧w4.drew.cell? ⟨w.heap.size,9,none⟩=some (.int .i64 1)∧w4.drew.cell? ⟨w.heap.size,10,none⟩=some (.bool true)∧w4.drew.cell? ⟨w.heap.size,11,none⟩=some (.int .i64 sz)∧w4.drew.cell? ⟨w.heap.size,12,none⟩=some (.int .i64 ver)∧w4.drew.cell? ⟨w.heap.size+1,2,none⟩=some (.slice aa r0.length ca)∧w4.drew.cell? ⟨w.heap.size+1,3,none⟩=some (.slice ab r1.length cb)∧w4.drew.cell? ⟨w.heap.size+1,4,none⟩=some (.slice none 0 0):=⟨q0,q1,q2,q3,q4,q5,q6,q7,q8,q9,q10,q11,q12,g2,g3,g4⟩
 clear hm3 hR3 hB3 HR3 HM3 hR4 hB4 hm4 HLA hb4
 have HAR:=aH (And.intro hna (And.intro hnb (And.intro hid (And.intro hbt (And.intro hl (And.intro hpl (And.intro h12 (And.intro hfz2 hl2))))))))
 clear hna hnb hid hbt hl hpl h12 hfz2 hl2 hn hq
 go_wp2_with fail
 go_region_held (fun w'=>w'.cell? ⟨w.heap.size,0,none⟩=some (.int .i64 id)∧w'.cell? ⟨w.heap.size,1,none⟩=some (.int .i64 h1)∧w'.cell? ⟨w.heap.size,2,none⟩=some (.int .i64 h2)∧w'.cell? ⟨w.heap.size,3,none⟩=some (.int .i64 h3)∧w'.cell? ⟨w.heap.size,4,none⟩=some (.int .i64 h4)∧w'.cell? ⟨w.heap.size,5,none⟩=some (.int .i64 h5)∧w'.cell? ⟨w.heap.size,6,none⟩=some (.string (B q))∧w'.cell? ⟨w.heap.size,7,none⟩=some (.string (B n))∧w'.cell? ⟨w.heap.size,8,none⟩=some (.int .i64 k)∧w'.cell? ⟨w.heap.size,9,none⟩=some (.int .i64 1)∧w'.cell? ⟨w.heap.size,10,none⟩=some (.bool true)∧w'.cell? ⟨w.heap.size,11,none⟩=some (.int .i64 sz)∧w'.cell? ⟨w.heap.size,12,none⟩=some (.int .i64 ver)∧w'.cell? ⟨w.heap.size+1,2,none⟩=some (.slice aa r0.length ca)∧w'.cell? ⟨w.heap.size+1,3,none⟩=some (.slice ab r1.length cb)∧w'.cell? ⟨w.heap.size+1,4,none⟩=some (.slice none 0 0)) (first | assumption | go_keep)
  (first
   | (go_at_call 138; go_loud (refine (aU HLI4 _).mono ?_; rintro e w5 ⟨rfl,hb5⟩; have hS5:=keep16 hb5 (by assumption)))
   | (go_at_call 137; refine (aU HF4 _ _ (((Below.refl _ _).drew.trans hb5).alloc hb5.size _) (World.alloc_heap_new _ _) hb5.size).mono ?_; rintro e w6 ⟨nb,rfl,hS6,HB6⟩)
   | (go_at_call 137; refine (aU HF4 _ _ (((Below.refl _ _).alloc (Nat.le_refl _) _).drew.trans (hb5.mono (by simp))) ((hb5.block _ (by simp)).trans (World.alloc_heap_new w4 _)) (Nat.le_refl _)).mono ?_; rintro e w6 ⟨nb,rfl,hS6,HB6⟩))
 all_goals
  rename_i hH
  obtain ⟨hna,hnb,hid,hbt,hl,hpl,h12,hfz2,hl2⟩:=aU HAR
  clear hH hS6 hb5 hS5 HF4 HLI4 HR4 hS q0 q1 q2 q3 q4 q5 q6 q7 q8 q9 q10 q11 q12 g0 g1 g2 g3 g4
  obtain ⟨hnb4,hnum,hR6,hB6,hXs6,hm6⟩:=aU HB6
  have z0:=hnum.cell 0 (by simp)
  have z1:=hnum.cell 1 (by simp)
  have z2:=hnum.cell 2 (by simp)
  simp only [List.getElem_cons_zero,List.getElem_cons_succ] at z0 z1 z2
  obtain ⟨g0,g1,g2,g3,g4⟩:=aL.cells hR6.an
  have HC6:=aH (And.intro hnum (And.intro hR6 (And.intro hB6 hm6)))
  clear hnum hR6 hB6 hm6 HB6
  go_wp2_with fail
  go_quiet (fail)
  have hD:Below w6.heap.size w6 (w6.drewN nq):=Rg.below_drewN (Below.refl _ _) nq
  obtain ⟨hnum,hR6,hB6,hm6⟩:=aU HC6
  have hR7:=hR6.keep (base:=base) (fun i hi=>hD.block i (by omega)) hD.size (by omega) (by omega) (by omega) (by omega)
  have hn7:NumsAt (w6.drewN nq) nb [(r0.length:Int),r1.length,0] 3:=(hD.block nb hnum.lt).trans hnum
  have hm7:=hm6.below hD
  have hB7:Below w.heap.size w (w6.drewN nq):=hB6.trans (hD.mono hB6.size)
  have hXs7:base≤(w6.drewN nq).heap.size:=Nat.le_trans hXs6 hD.size
  clear hnum hR6 hB6 hm6 HC6 z0 z1 z2 g0 g1 g2 g3 g4 hD
  generalize w6.drewN nq=w7 at *
  have z0:=hn7.cell 0 (by simp)
  have z1:=hn7.cell 1 (by simp)
  have z2:=hn7.cell 2 (by simp)
  simp only [List.getElem_cons_zero,List.getElem_cons_succ] at z0 z1 z2
  have y2:=hR7.hd.cell 2 (by simp)
  have y3:=hR7.hd.cell 3 (by simp)
  have y4:=hR7.hd.cell 4 (by simp)
  have y5:=hR7.hd.cell 5 (by simp)
  simp only [List.getElem_cons_zero,List.getElem_cons_succ] at y2 y3 y4 y5
  have yf:=hR7.hd.frozen
  have hnbh:nb≠w1.heap.size:=by omega
  have HC7:=aH (And.intro hR7 (And.intro hm7 hB7))
  clear hR7 hm7 hB7 hn7
  go_wp2_with fail
  go_region
  have H8:Hid (QAt ((((w7.setCell ⟨w1.heap.size,2,none⟩ (.int .i64 1)).setCell ⟨w1.heap.size,3,none⟩ (.int .i64 r0.length)).setCell ⟨w1.heap.size,4,none⟩ (.int .i64 r1.length)).setCell ⟨w1.heap.size,5,none⟩ (.int .i64 0)).drew w.heap.size id h1 h2 h3 h4 h5 q n k 1 true sz ver∧NumsAt ((((w7.setCell ⟨w1.heap.size,2,none⟩ (.int .i64 1)).setCell ⟨w1.heap.size,3,none⟩ (.int .i64 r0.length)).setCell ⟨w1.heap.size,4,none⟩ (.int .i64 r1.length)).setCell ⟨w1.heap.size,5,none⟩ (.int .i64 0)).drew w1.heap.size [(id:Int),b,1,r0.length,r1.length,0] 133∧Msg ((((w7.setCell ⟨w1.heap.size,2,none⟩ (.int .i64 1)).setCell ⟨w1.heap.size,3,none⟩ (.int .i64 r0.length)).setCell ⟨w1.heap.size,4,none⟩ (.int .i64 r1.length)).setCell ⟨w1.heap.size,5,none⟩ (.int .i64 0)).drew mb base S2.1 S2.2∧Below w.heap.size w ((((w7.setCell ⟨w1.heap.size,2,none⟩ (.int .i64 1)).setCell ⟨w1.heap.size,3,none⟩ (.int .i64 r0.length)).setCell ⟨w1.heap.size,4,none⟩ (.int .i64 r1.length)).setCell ⟨w1.heap.size,5,none⟩ (.int .i64 0)).drew∧base≤(((((w7.setCell ⟨w1.heap.size,2,none⟩ (.int .i64 1)).setCell ⟨w1.heap.size,3,none⟩ (.int .i64 r0.length)).setCell ⟨w1.heap.size,4,none⟩ (.int .i64 r1.length)).setCell ⟨w1.heap.size,5,none⟩ (.int .i64 0)).drew).heap.size):=by
   obtain ⟨hR7,hm7,hB7⟩:=aU HC7
   have hh:=(((hR7.hd.set 2 1).set 3 r0.length).set 4 r1.length).set 5 0
   have hne : ∀ i,i≠w1.heap.size→(((((w7.setCell ⟨w1.heap.size,2,none⟩ (.int .i64 1)).setCell ⟨w1.heap.size,3,none⟩ (.int .i64 r0.length)).setCell ⟨w1.heap.size,4,none⟩ (.int .i64 r1.length)).setCell ⟨w1.heap.size,5,none⟩ (.int .i64 0)).drew).heap[i]? = w7.heap[i]?:=fun i hi =>
    (Below.heap_setCell _ _ _ _ hi).trans ((Below.heap_setCell _ _ _ _ hi).trans ((Below.heap_setCell _ _ _ _ hi).trans (Below.heap_setCell _ _ _ _ hi)))
   have hsz:(((((w7.setCell ⟨w1.heap.size,2,none⟩ (.int .i64 1)).setCell ⟨w1.heap.size,3,none⟩ (.int .i64 r0.length)).setCell ⟨w1.heap.size,4,none⟩ (.int .i64 r1.length)).setCell ⟨w1.heap.size,5,none⟩ (.int .i64 0)).drew).heap.size=w7.heap.size:=by simp [World.setCell,World.drew]
   have hnm:(∀ cur,w7.heap[w1.heap.size]?≠some (.cells cur 5 (0,0)))∧∀ cur,w7.heap[w1.heap.size]?≠some (.cells cur 343 (0,0)):=by
    have:=hR7.hd
    unfold NumsAt at this
    exact ⟨fun c hc=>by rw [this] at hc; simp at hc,fun c hc=>by rw [this] at hc; simp at hc⟩
   refine ⟨hR7.qu.kept (hne _ (by omega)),hh,(msgN_but (msg_self hm7) hnm (by omega) hne).msg,?_,by rw [hsz]; exact hXs7⟩
   ·refine hB7.trans (show Below w.heap.size w7 ((((w7.setCell ⟨w1.heap.size,2,none⟩ (.int .i64 1)).setCell ⟨w1.heap.size,3,none⟩ (.int .i64 r0.length)).setCell ⟨w1.heap.size,4,none⟩ (.int .i64 r1.length)).setCell ⟨w1.heap.size,5,none⟩ (.int .i64 0)).drew from ⟨rfl,rfl,rfl,by rw [hsz]; exact Nat.le_refl _,fun i hi=>hne i (by omega)⟩)
  clear z0 z1 z2 y2 y3 y4 y5 yf HC7
  generalize ((((w7.setCell ⟨w1.heap.size,2,none⟩ (.int .i64 1)).setCell ⟨w1.heap.size,3,none⟩ (.int .i64 r0.length)).setCell ⟨w1.heap.size,4,none⟩ (.int .i64 r1.length)).setCell ⟨w1.heap.size,5,none⟩ (.int .i64 0)).drew=w8 at *
  obtain ⟨hq8,hh8,hm8,hB8,hX8⟩:=aU H8
  obtain ⟨_,_,_,_,_,_,_,_,_,_,q10,_,_⟩:=hq8.cells
  have y5:=hh8.cell 5 (by simp)
  simp only [List.getElem_cons_zero,List.getElem_cons_succ] at y5
  have yf:=hh8.frozen
  have hneY : ∀ i,i≠w1.heap.size→(w8.setCell ⟨w1.heap.size,5,none⟩ (.int .i64 1)).heap[i]? = w8.heap[i]?:=fun i hi=>Below.heap_setCell _ _ _ _ hi
  have hszY:(w8.setCell ⟨w1.heap.size,5,none⟩ (.int .i64 1)).heap.size=w8.heap.size:=by simp [World.setCell]
  have H9:Hid (NumsAt (w8.setCell ⟨w1.heap.size,5,none⟩ (.int .i64 1)) w1.heap.size [(id:Int),b,1,r0.length,r1.length,1] 133∧Msg (w8.setCell ⟨w1.heap.size,5,none⟩ (.int .i64 1)) mb base S2.1 S2.2∧Below w.heap.size w (w8.setCell ⟨w1.heap.size,5,none⟩ (.int .i64 1))∧base≤(w8.setCell ⟨w1.heap.size,5,none⟩ (.int .i64 1)).heap.size):=by
   have hnm:(∀ cur,w8.heap[w1.heap.size]?≠some (.cells cur 5 (0,0)))∧∀ cur,w8.heap[w1.heap.size]?≠some (.cells cur 343 (0,0)):=by
    have:=hh8
    unfold NumsAt at this
    exact ⟨fun c hc=>by rw [this] at hc; simp at hc,fun c hc=>by rw [this] at hc; simp at hc⟩
   refine ⟨hdr_set hh8 1,(msgN_but (msg_self hm8) hnm (by omega) hneY).msg,?_,by rw [hszY]; exact hX8⟩
   exact hB8.trans (show Below w.heap.size w8 (w8.setCell ⟨w1.heap.size,5,none⟩ (.int .i64 1)) from ⟨rfl,rfl,rfl,by rw [hszY]; exact Nat.le_refl _,fun i hi=>hneY i (by omega)⟩)
  obtain ⟨hh9,hm9,hB9,hX9⟩:=aU H9
  have hm9lt:=hm9.lt
  have hnew:=World.alloc_heap_new (w8.setCell ⟨w1.heap.size,5,none⟩ (.int .i64 1)) (.cells #[.iface 224 (.string (B L))] 297)
  rw [hszY] at hnew
  have HPUT:Hid (Calls Tryz.prog 139 #[.pointer (some ⟨mb,0,none⟩),.slice (some ⟨w8.heap.size,0,none⟩) 1 1] ((w8.setCell ⟨w1.heap.size,5,none⟩ (.int .i64 1)).alloc (.cells #[.iface 224 (.string (B L))] 297)) fun e w'=>e=.returned (.tuple #[])∧Msg w' mb base (S2.1++outs [fRaw L]) S2.2∧TG mb base ((w8.setCell ⟨w1.heap.size,5,none⟩ (.int .i64 1)).alloc (.cells #[.iface 224 (.string (B L))] 297)) w') :=
   put_m mb base w8.heap.size 1 [fRaw L] S2.1 S2.2 ((w8.setCell ⟨w1.heap.size,5,none⟩ (.int .i64 1)).alloc (.cells #[.iface 224 (.string (B L))] 297)) (hm9.below ((Below.refl _ _).alloc (Nat.le_refl _) _)) (by simp; omega)
   (fun f hf=>by simp at hf; subst hf; exact raw_ok _) (by rw [World.size_alloc,hszY]; omega) (by rw [hszY] at hm9lt; omega) (.inr fun cur h=>by rw [hnew] at h; simp at h)
   (fun j hj=>by
    match j,hj with
    | 0,_=>unfold World.cell?; rw [hnew]; rfl
    | j+1,hj=>simp at hj) (by simp) (by simp) (by
     simp only [outs,fRaw,List.flatMap_cons,List.flatMap_nil,List.append_nil]
     omega)
  clear hq8 hh8 hm8 hB8 hnew hh9 hm9 hB9
  go_wp2_with fail
  refine (aU HPUT).mono ?_
  rintro e w9 ⟨rfl,hm10,ht9⟩
  obtain ⟨hh8,hm8,hB8,hX8'⟩:=aU H9
  have hT9:TG mb base (w8.setCell ⟨w1.heap.size,5,none⟩ (.int .i64 1)) w9:=(TG.of_below ((Below.refl _ _).alloc (Nat.le_refl _) _)).trans ht9
  have hh9:NumsAt w9 w1.heap.size [(id:Int),b,1,r0.length,r1.length,1] 133:=(hT9.block _ (by omega) (by omega) (.inl (by omega))).trans hh8
  have hB9:Below w.heap.size w w9:=hB8.trans (show Below w.heap.size (w8.setCell ⟨w1.heap.size,5,none⟩ (.int .i64 1)) w9 from ⟨hT9.os,hT9.tape,hT9.output,hT9.size,fun i hi=>hT9.block i (by omega) (by omega) (.inl (by omega))⟩)
  have hX9':base≤w9.heap.size:=Nat.le_trans hX8' hT9.size
  rw [show outs [fRaw L]=L by simp [outs,fRaw]] at hm10
  obtain ⟨vb9,vp9,hm9,ho9,_⟩:=hm10
  have x0:=hh9.cell 0 (by simp)
  have x1:=hh9.cell 1 (by simp)
  have x2:=hh9.cell 2 (by simp)
  have x3:=hh9.cell 3 (by simp)
  have x4:=hh9.cell 4 (by simp)
  have x5:=hh9.cell 5 (by simp)
  simp only [List.getElem_cons_zero,List.getElem_cons_succ] at x0 x1 x2 x3 x4 x5
  have HU:Hid (Calls Tryz.prog 131 #[.pointer (some ⟨mb,0,none⟩),.agg #[.int .i64 id,.int .i64 b,.int .i64 1,.int .i64 r0.length,.int .i64 r1.length,.int .i64 1]] w9 fun e w'=>e=.returned (.string (B (outs (hdrFs id b 1 r0.length r1.length 1)++(S2.1++L).drop 12)))∧TW mb base w9 w') :=
   under_any mb base id b 1 r0.length r1.length 1 vb9 vp9 _ w9 hm9 ho9 hX9' (by simp only [List.length_append]; omega) (by simp only [List.length_append]; omega) hid hbt (by omega) (by omega) (by omega) (by omega)
  have HB9:=aH hB9
  clear hh8 hm8 hB8 hm9 ho9 ht9 hT9 hh9 hB9 HPUT H8 H9 q10 y5 yf hneY
  go_wp2_with fail
  refine (aU HU).mono ?_
  rintro e w10 ⟨rfl,ht10⟩
  have hB9:=aU HB9
  have HB10:Hid (Below w.heap.size w w10):=hB9.trans (show Below w.heap.size w9 w10 from ⟨ht10.os,ht10.tape,ht10.output,ht10.size,fun i hi=>ht10.block i (by omega) (by omega) (.inl (by omega))⟩)
  clear ht10 hB9 HU x0 x1 x2 x3 x4 x5
  go_wp2_with fail
  go_ret
  exact ⟨rfl,aU HB10⟩
end Mh
end Go.Proofs.YtkkpahmoljiepaaGreatDoor
