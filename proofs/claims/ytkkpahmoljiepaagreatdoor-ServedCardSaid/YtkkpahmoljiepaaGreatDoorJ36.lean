/- Served: what its rounds keep. -/
import Derived.Test.YtkkpahmoljiepaaGreatDoorJ35
import Derived.LoopN
import Derived.Deep.RegionHeld3
set_option linter.unusedSimpArgs false
set_option linter.unusedVariables false
namespace Go.Proofs.YtkkpahmoljiepaaGreatDoor
open Go.RowKit
open Pu (Str aH aU)
namespace Nq
open Ka Wa Wb Wc Wd We Wf Wg Wh Wi Wj Wk Wl Wm Ha Hb Hc Hh Re Qa Qb Qc Qd Qe Qf Qg Qh Qi Qj Qk Ql Qm Qn Qo Qp Qr Qq Qs Qu Qv Qw Qx Na Nb Nc Nd Nee Nf Nh Ni Nj No Np
open Ta (zz)
section
variable {w w':World} {xb zb rb sb mb bb base:Nat} {mac ip:Str} {bs bs':Str} {wild:Bool} {cnt st rav rus:Nat} {rout:List Bool} {sav sus:Nat} {sout:List Bool} {n s d:Nat} {br:Bool}
theorem Mac.row (h:Mac w xb zb rb sb mb bb base mac ip bs wild cnt st rav rus rout sav sus sout n s d br) (hm:Mem w' mb bb base bs' wild cnt st) (hk:It.Keeps bb w w'):Mac w' xb zb rb sb mb bb base mac ip bs' wild cnt st rav rus rout sav sus sout n s d br:=by
 obtain ⟨a1,a2,a3,a4,a5,a6,a7,a8,a9⟩:=h.apart
 exact ⟨hm,(hk.block rb (aB.lt h.rr) a7).trans h.rr,(hk.block sb (aB.lt h.sr) a9).trans h.sr,(hk.block xb (aB.lt h.mac) a4).trans h.mac,Nat.le_trans h.hb hk.size⟩
def OwnT (w:World) (b0:Nat) (v:Value) (ls:List Str):Prop:=w.ownsRow b0 9 1 v ls.length (ls.map fun l=>.string (B l))
theorem Mac.texts {b0:Nat} {v:Value} {ls:List Str} (h:Mac w xb zb rb sb mb bb base mac ip bs wild cnt st rav rus rout sav sus sout n s d br) (ho:OwnT w b0 v ls) (hs:w.heap.size≤w'.heap.size) (hk : ∀ i,i<w.heap.size→some i≠v.ownBlock→w'.heap[i]? = w.heap[i]?):Mac w' xb zb rb sb mb bb base mac ip bs wild cnt st rav rus rout sav sus sout n s d br:=by
 refine ⟨?_,(hk rb (aB.lt h.rr) (own_ne h.rr ho (by decide))).trans h.rr,(hk sb (aB.lt h.sr) (own_ne h.sr ho (by decide))).trans h.sr,(hk xb (aB.lt h.mac) (own_ne h.mac ho (by decide))).trans h.mac,Nat.le_trans h.hb hs⟩
 obtain ⟨vl,vm,ns,⟨early,d0,d1,hm⟩,hr,hl,hle,ms,hms,hml⟩:=h.mem
 exact ⟨vl,vm,ns,⟨early,d0,d1,aF.of hm (hk mb (aF.lt hm) (own_ne hm ho (by decide)))⟩,RowB.of hr (hk bb hr.2.lt (own_ne hr.2 ho (by decide))),own_keep hl fun g hg=>hk g (own_lt hl hg) (own_apart2 hl ho (by decide) hg),hle,ms,own_keep hms fun g hg=>hk g (own_lt hms hg) (own_apart2 hms ho (by decide) hg),hml⟩
theorem OwnT.gf {p:Nat→Prop} {b0:Nat} {v:Value} {ls:List Str} (ho:OwnT w b0 v ls) (hF:GF p base w w') (hp : ∀ g,b0≤g→p g):OwnT w' b0 v ls:=hF.own ho (fun g hg=>hp g (own_at ho hg).1) (by decide) (by decide)
theorem OwnT.below {b0:Nat} {v:Value} {ls:List Str} (ho:OwnT w b0 v ls) (hb:Below w.heap.size w w'):OwnT w' b0 v ls:=own_keep ho fun g hg=>hb.block g (own_lt ho hg)
theorem OwnT.keeps {b0 k:Nat} {v:Value} {ls:List Str} (ho:OwnT w b0 v ls) (hb:It.Keeps k w w') (hk:k<b0):OwnT w' b0 v ls:=own_keep ho fun g hg=>hb.block g (own_lt ho hg) (by have:=(own_at ho hg).1; omega)
theorem OwnT.cell {b0:Nat} {v:Value} {ls:List Str} (ho:OwnT w b0 v ls) (hne:ls≠[]) : ∃ g cap,v=.slice (some ⟨g,0,none⟩) ls.length cap∧∀ q (h:q<ls.length),w.cell? ⟨g,q,none⟩=some (.string (B ls[q])):=by
 obtain ⟨hl,⟨_,h0⟩ | ⟨g,cap,cur,rfl,hb,hcur,hn,hm,hs,ht⟩⟩:=ho
 ·exact absurd (List.eq_nil_of_length_eq_zero h0) hne
 ·refine ⟨g,cap,rfl,fun q hq=>?_⟩
  have e2:cur.toList[q]? = (ls.map fun l=>Value.string (B l))[q]?:=by
   rw [← ht,List.getElem?_take,if_pos (by omega)]
  simp only [World.cell?,hcur]
  rw [← Array.getElem?_toList,e2]
  simp [hq]
end
structure Stands (W:World) (zb g cap zb1 g1 cap1 cb:Nat):Prop where
 z:aN W zb zz g 0 cap Va.recs
 z1:aN W zb1 zz g1 0 cap1 Va.recs
 gl:G W
 c:aB W cb [.string (B mine),.string (B ipMe)] 62
theorem table_kept {W W':World} {zb g cap:Nat} (h:aN W zb zz g 0 cap Va.recs) (hs:W.heap.size≤W'.heap.size) (h1:W'.heap[zb]? = W.heap[zb]?) (h2:W'.heap[g]? = W.heap[g]?):aN W' zb zz g 0 cap Va.recs :=
 ⟨Nat.lt_of_lt_of_le h.1 hs,(World.cell?_of_block h1).trans h.2.1,(World.cell?_of_block h1).trans h.2.2.1,h.2.2.2.1,Ia.bE.kept h.2.2.2.2 hs h2⟩
structure Apart (xb rb sb mb bb base zb g zb1 g1 cb:Nat):Prop where
 hz:zb<base∧Off xb rb sb mb bb zb
 hg:g<base∧Off xb rb sb mb bb g
 hz1:zb1<base∧Off xb rb sb mb bb zb1
 hg1:g1<base∧Off xb rb sb mb bb g1
 hc:cb<base∧Off xb rb sb mb bb cb
 h0:0<base∧Off xb rb sb mb bb 0
theorem Stands.gf {W W':World} {xb rb sb mb bb base zb g cap zb1 g1 cap1 cb:Nat} (h:Stands W zb g cap zb1 g1 cap1 cb) (ha:Apart xb rb sb mb bb base zb g zb1 g1 cb) (hb:base≤W.heap.size) (hF:GF (Off xb rb sb mb bb) base W W'):Stands W' zb g cap zb1 g1 cap1 cb:=by
 have k : ∀ {i},i<base∧Off xb rb sb mb bb i→W'.heap[i]? = W.heap[i]?:=fun hi=>hF.low hb hi.1 hi.2
 refine ⟨table_kept h.z hF.size (k ha.hz) (k ha.hg),table_kept h.z1 hF.size (k ha.hz1) (k ha.hg1),?_,(k ha.hc).trans h.c⟩
 obtain ⟨g0,m,hm⟩:=h.gl
 exact ⟨Nat.lt_of_lt_of_le g0 hF.size,m,(World.cell?_of_block (k ha.h0)).trans hm⟩
structure SI (W1:World) (xb zb rb sb mb bb base:Nat) (back:Bool) (n sent i:Nat) (W:World):Prop where
 ex : ∃ bs cnt st sus mp,Mac W xb zb rb sb mb bb base mine ipMe bs false cnt st (n+8) n (tr 8) sent sus (tr mp) n sent (n - sent) false∧cnt≤200*i∧st≤300+300*i∧Bs bs n sent∧Bk bs back sent sus mp
 hsn:sent≤n
 hni:n≤i
 kept:GF (Off xb rb sb mb bb) base W1 W
theorem dsc1_len (bs:Str) (ba bu fl k:Nat):(dsc1 bs ba bu fl k).length=bs.length:=by unfold dsc1; rw [aT,aT,aT,aT]
theorem dscN_len (bs:Str) (ba bu fl k:Nat):(dscN bs ba bu fl k).length=bs.length:=by
 induction k with
 | zero=>rfl
 | succ k ih=>rw [dscN,dsc1_len,ih]
theorem dsc1_get (bs:Str) (ba bu fl k i:Nat) (h:i<ba+16*k∨ba+16*k+16≤i):(dsc1 bs ba bu fl k)[i]? = bs[i]?:=by
 unfold dsc1; rw [wrN_get _ _ _ _ _ (by omega),wrN_get _ _ _ _ _ (by omega),wrN_get _ _ _ _ _ (by omega),wrN_get _ _ _ _ _ (by omega)]
theorem dscN_get (bs:Str) (ba bu fl k i:Nat) (h:i<ba∨ba+16*k≤i):(dscN bs ba bu fl k)[i]? = bs[i]?:=by
 induction k with
 | zero=>rfl
 | succ k ih=>rw [dscN,dsc1_get _ _ _ _ _ _ (by omega),ih (by omega)]
theorem dscN_rd (bs:Str) (ba bu fl k p l:Nat) (h:p+l≤ba∨ba+16*k≤p):rdN (dscN bs ba bu fl k) p l=rdN bs p l:=rdN_congr l fun i h1 h2=>dscN_get _ _ _ _ _ _ (by omega)
theorem dscN_at (bs:Str) (ba bu fl:Nat) (k:Nat) (hl:ba+16*k≤bs.length) (hb:bu+1536*k<18446744073709551616) : ∀ j,j<k→rdN (dscN bs ba bu fl k) (ba+16*j) 8=bu+1536*j:=by
 induction k with
 | zero=>intro j hj; omega
 | succ k ih =>
  intro j hj
  rw [dscN]
  by_cases hjk:j=k
  ·subst hjk
   unfold dsc1
   rw [aR _ _ _ _ _ _ (by omega),aR _ _ _ _ _ _ (by omega),aR _ _ _ _ _ _ (by omega),rdN_wrN _ _ _ _ (by rw [dscN_len]; omega)]
   omega
  ·rw [rdN_congr (b:=dscN bs ba bu fl k) 8 (fun i h1 h2=>dsc1_get _ _ _ _ _ _ (by omega)),ih (by omega) (by omega) j (by omega)]
def offB (bs:Str):Nat→Str
 | 0=>bs
 | k+1=>wrN (offB bs k) (132+2*k) k 2
theorem offB_len (bs:Str) (k:Nat):(offB bs k).length=bs.length:=by
 induction k with
 | zero=>rfl
 | succ k ih=>rw [offB,aT,ih]
theorem offB_rd (bs:Str) (k p l:Nat) (h:p+l≤132∨132+2*k≤p):rdN (offB bs k) p l=rdN bs p l:=by
 induction k with
 | zero=>rfl
 | succ k ih=>rw [offB,aR _ _ _ _ _ _ (by omega),ih (by omega)]
theorem offB_at (bs:Str) (k:Nat) (hk:k≤60000) (hl:132+2*k≤bs.length) : ∀ j,j<k→rdN (offB bs k) (132+2*j) 2=j:=by
 induction k with
 | zero=>intro j hj; omega
 | succ k ih =>
  intro j hj
  rw [offB]
  by_cases hjk:j=k
  ·subst hjk; rw [rdN_wrN _ _ _ _ (by rw [offB_len]; omega)]; omega
  ·rw [aR _ _ _ _ _ _ (by omega),ih (by omega) (by omega) j (by omega)]
theorem lay_eq (bs:Str):layB bs=wrN (offB (wrN (dscN (dscN bs 0 1024 2 8) 512 13312 0 8) 642 0 2) 8) 130 8 2:=by
 unfold layB layS
 rw [show (512+130:Nat)=642 from rfl]
 generalize wrN (dscN (dscN bs 0 1024 2 8) 512 13312 0 8) 642 0 2=X
 simp [offS,offB]
theorem lay_bs (bs:Str) (hl:bs.length=25600):Bs (wrN (wrN (layB bs) 258 0 2) 770 0 2) 0 0∧∀ back,Bk (wrN (wrN (layB bs) 258 0 2) 770 0 2) back 0 0 0:=by
 rw [lay_eq]
 have l1:(dscN (dscN bs 0 1024 2 8) 512 13312 0 8).length=25600:=by rw [dscN_len,dscN_len,hl]
 have h770:rdN (wrN (wrN (wrN (offB (wrN (dscN (dscN bs 0 1024 2 8) 512 13312 0 8) 642 0 2) 8) 130 8 2) 258 0 2) 770 0 2) 770 2=0:=by
  rw [rdN_wrN _ _ _ _ (by rw [aT,aT,offB_len,aT,l1]; omega)]
 refine ⟨⟨by rw [aT,aT,aT,offB_len,aT,l1],?_,fun j hj=>?_,fun j hj=>?_,fun j hj=>?_,?_,?_⟩,fun back=>⟨by omega,?_⟩⟩
 ·rw [aR _ _ _ _ _ _ (by omega),aR _ _ _ _ _ _ (by omega),rdN_wrN _ _ _ _ (by rw [offB_len,aT,l1]; omega)]
 ·rw [aR _ _ _ _ _ _ (by omega),aR _ _ _ _ _ _ (by omega),aR _ _ _ _ _ _ (by omega),offB_at _ 8 (by omega) (by rw [aT,l1]; omega) j hj]
 ·rw [aR _ _ _ _ _ _ (by omega),aR _ _ _ _ _ _ (by omega),aR _ _ _ _ _ _ (by omega),offB_rd _ _ _ _ (by omega),aR _ _ _ _ _ _ (by omega),dscN_rd _ _ _ _ _ _ _ (by omega)]
  have:=dscN_at bs 0 1024 2 8 (by omega) (by omega) j hj
  rwa [Nat.zero_add] at this
 ·rw [aR _ _ _ _ _ _ (by omega),aR _ _ _ _ _ _ (by omega),aR _ _ _ _ _ _ (by omega),offB_rd _ _ _ _ (by omega),aR _ _ _ _ _ _ (by omega),dscN_at _ 512 13312 0 8 (by rw [dscN_len]; omega) (by omega) j hj]
 ·rw [aR _ _ _ _ _ _ (by omega),aR _ _ _ _ _ _ (by omega),aR _ _ _ _ _ _ (by omega),offB_rd _ _ _ _ (by omega),rdN_wrN _ _ _ _ (by rw [l1]; omega)]
 ·rw [aR _ _ _ _ _ _ (by omega),rdN_wrN _ _ _ _ (by rw [aT,offB_len,aT,l1]; omega)]
 ·split
  ·exact ⟨rfl,h770,fun k hk=>by omega⟩
  ·exact ⟨rfl,rfl,h770⟩
structure Pre (w W:World) (zb1 g1 cap1 cb mb bb:Nat) (bs:Str):Prop where
 z1:aN W zb1 zz g1 0 cap1 Va.recs
 gl:G W
 c:aB W cb [.string (B mine),.string (B ipMe)] 62
 nw:Qt.New W mb bb bs
 below:Below w.heap.size w W
theorem Pre.next {w W W':World} {zb1 g1 cap1 cb mb bb:Nat} {bs:Str} (h:Pre w W zb1 g1 cap1 cb mb bb bs) (hb:Below W.heap.size W W'):Pre w W' zb1 g1 cap1 cb mb bb bs :=
 ⟨h.z1.below hb,h.gl.below hb,(hb.block cb h.c.lt).trans h.c,Ng.new_below h.nw hb,h.below.trans (hb.mono h.below.size)⟩
theorem Pre.cells {w W:World} {zb1 g1 cap1 cb mb bb:Nat} {bs:Str} (h:Pre w W zb1 g1 cap1 cb mb bb bs):W.cell? ⟨cb,0,none⟩=some (.string ⟨#[2,109,121,109,97,99]⟩)∧W.cell? ⟨cb,1,none⟩=some (.string ⟨#[10,0,0,1]⟩) :=
 ⟨aB.cell h.c 0 (by simp),aB.cell h.c 1 (by simp)⟩
structure Post (w W:World) (zb1 g1 cap1 cb mb bb:Nat) (bs:Str) (xb zb rb sb g cap base:Nat):Prop where
 mac:Mac W xb zb rb sb mb bb base mine ipMe (layB bs) false 0 276 8 0 (tr 8) 0 0 (tr 0) 0 0 0 false
 st:Stands W zb g cap zb1 g1 cap1 cb
 ap:Apart xb rb sb mb bb base zb g zb1 g1 cb
 low:w.heap.size≤xb∧w.heap.size≤rb∧w.heap.size≤sb∧w.heap.size≤mb∧w.heap.size≤bb∧w.heap.size≤base
 below:Below w.heap.size w W
 hl:bs.length=25600
theorem Pre.post {w W W':World} {zb1 g1 cap1 cb mb bb:Nat} {bs:Str} {xb zb rb sb g cap base:Nat} (h:Pre w W zb1 g1 cap1 cb mb bb bs) (h0:0<w.heap.size) (hm:w.heap.size≤mb∧w.heap.size≤bb)
  (hM:Mac W' xb zb rb sb mb bb base mine ipMe (layB bs) false 0 276 8 0 (tr 8) 0 0 (tr 0) 0 0 0 false) (hT:aN W' zb zz g 0 cap Va.recs) (ho:zb<xb∧g<xb∧xb<base∧base≤rb∧base≤sb∧W.heap.size≤zb∧W.heap.size≤g)
  (hk : ∀ i,i<W.heap.size→i≠mb→i≠bb→W'.heap[i]? = W.heap[i]?) (o1:W'.os=W.os) (o2:W'.tape=W.tape) (o3:W'.output=W.output) (hzn:zb1≠mb∧zb1≠bb∧g1≠mb∧g1≠bb∧cb≠mb∧cb≠bb):Post w W' zb1 g1 cap1 cb mb bb bs xb zb rb sb g cap base:=by
 obtain ⟨p1,p2,p3,p4,p5,p6,p7⟩:=ho
 obtain ⟨q1,q2,q3,q4,q5,q6⟩:=hzn
 have lz:=h.z1.1
 have lg:=h.z1.2.2.2.2.1
 have lc:=h.c.lt
 have lm:=aF.lt h.nw.1
 have lb:=h.nw.2.2.lt
 have lw:=h.below.size
 have hs:W.heap.size≤W'.heap.size:=by have:=hM.hb; omega
 refine ⟨hM,⟨hT,table_kept h.z1 hs (hk _ lz q1 q2) (hk _ lg q3 q4),?_,(hk _ lc q5 q6).trans h.c⟩,⟨⟨by omega,by omega,by omega,by omega,by omega,by omega⟩,⟨by omega,by omega,by omega,by omega,by omega,by omega⟩,⟨by omega,by omega,by omega,by omega,q1,q2⟩,⟨by omega,by omega,by omega,by omega,q3,q4⟩,⟨by omega,by omega,by omega,by omega,q5,q6⟩,⟨by omega,by omega,by omega,by omega,by omega,by omega⟩⟩,⟨by omega,by omega,by omega,by omega,by omega,by omega⟩,⟨o1.trans h.below.os,o2.trans h.below.tape,o3.trans h.below.output,by omega,fun i hi=>(hk i (by omega) (by omega) (by omega)).trans (h.below.block i hi)⟩,h.nw.2.1⟩
 obtain ⟨g0,m,hm0⟩:=h.gl
 exact ⟨by omega,m,(World.cell?_of_block (hk 0 g0 (by omega) (by omega))).trans hm0⟩
structure Go1 (w W:World) (zb1 g1 cap1 cb mb bb:Nat) (xb zb rb sb g cap base:Nat):Prop where
 st:Stands W zb g cap zb1 g1 cap1 cb
 ap:Apart xb rb sb mb bb base zb g zb1 g1 cb
 low:w.heap.size≤xb∧w.heap.size≤rb∧w.heap.size≤sb∧w.heap.size≤mb∧w.heap.size≤bb∧w.heap.size≤base
 below:Below w.heap.size w W
 hb:base≤W.heap.size
theorem Go1.end {w W W':World} {zb1 g1 cap1 cb mb bb:Nat} {xb zb rb sb g cap base:Nat} (h:Go1 w W zb1 g1 cap1 cb mb bb xb zb rb sb g cap base) (hF:GF (Off xb rb sb mb bb) base W W'):Below w.heap.size w W':=by
 obtain ⟨l1,l2,l3,l4,l5,l6⟩:=h.low
 exact ⟨hF.os.trans h.below.os,hF.tape.trans h.below.tape,hF.output.trans h.below.output,Nat.le_trans h.below.size hF.size,fun i hi=>(hF.low h.hb (by omega) ⟨by omega,by omega,by omega,by omega,by omega⟩).trans (h.below.block i hi)⟩
theorem Post.go {w W W1 W2:World} {zb1 g1 cap1 cb mb bb:Nat} {bs:Str} {xb zb rb sb g cap base:Nat} (h:Post w W zb1 g1 cap1 cb mb bb bs xb zb rb sb g cap base) (hm:Mem W2 mb bb base (wrN (wrN (layB bs) 258 0 2) 770 0 2) false 0 276) (hk1:It.Keeps bb W W1) (hk2:It.Keeps bb W1 W2) (back:Bool) :
  Go1 w W2 zb1 g1 cap1 cb mb bb xb zb rb sb g cap base∧SI W2 xb zb rb sb mb bb base back 0 0 0 W2:=by
 have hk:=Keeps_trans hk1 hk2
 have hF:GF (Off xb rb sb mb bb) base W W2:=GF.of_keeps hk hk.size fun i hp=>hp.2.2.2.2
 obtain ⟨b1,b2⟩:=lay_bs bs h.hl
 have hbb:=h.low.2.2.2.2.1
 refine ⟨⟨h.st.gf h.ap h.mac.hb hF,h.ap,h.low,h.below.trans (hk.below (by omega) h.below.size),Nat.le_trans h.mac.hb hF.size⟩,⟨⟨_,0,276,0,0,Mac.row h.mac hm hk,by omega,by omega,b1,b2 back⟩,Nat.le_refl _,Nat.le_refl _,GF.refl _ _ _⟩⟩
structure In (W1 W:World) (xb zb rb sb mb bb base:Nat) (bs:Str) (cnt st n sent sus mp wb:Nat) (v:Value) (ls:List Str):Prop where
 mac:Mac W xb zb rb sb mb bb base mine ipMe bs false cnt st (n+8) n (tr 8) sent sus (tr mp) n sent (n - sent) false
 own:OwnT W wb v ls
 kept:GF (Off xb rb sb mb bb) base W1 W
 hw:wb≤W.heap.size
 far:W1.heap.size≤wb∧∀ g,wb≤g→Off xb rb sb mb bb g
section
variable {W1 W W':World} {xb zb rb sb mb bb base:Nat} {bs:Str} {cnt st n sent sus mp wb:Nat} {v:Value} {ls:List Str}
theorem In.below (h:In W1 W xb zb rb sb mb bb base bs cnt st n sent sus mp wb v ls) (hb:Below W.heap.size W W'):In W1 W' xb zb rb sb mb bb base bs cnt st n sent sus mp wb v ls :=
 ⟨h.mac.below hb,h.own.below hb,h.kept.trans (GF.of_below hb),Nat.le_trans h.hw hb.size,h.far⟩
theorem In.row {bs':Str} (h:In W1 W xb zb rb sb mb bb base bs cnt st n sent sus mp wb v ls) (hm:Mem W' mb bb base bs' false cnt st) (hk:It.Keeps bb W W'):In W1 W' xb zb rb sb mb bb base bs' cnt st n sent sus mp wb v ls :=
 ⟨Mac.row h.mac hm hk,h.own.keeps hk (by
  have:=(h.far.2 bb)
  rcases Nat.lt_or_ge bb wb with hl | hl
  ·exact hl
  ·exact absurd rfl (h.far.2 bb hl).2.2.2.2),h.kept.trans (GF.of_keeps hk hk.size fun i hp=>hp.2.2.2.2),Nat.le_trans h.hw hk.size,h.far⟩
theorem In.more {o:Obj} {v':Value} {a:Str} (h:In W1 W xb zb rb sb mb bb base bs cnt st n sent sus mp wb v ls) (ho:W'.ownsRow wb 9 1 v' (ls.length+1) ((ls.map fun l=>Value.string (B l))++[.string (B a)])) (hg:(W.alloc o).grownBy W' v.ownBlock):In W1 W' xb zb rb sb mb bb base bs cnt st n sent sus mp wb v' (ls++[a]):=by
 have hk : ∀ i,i<W.heap.size→some i≠v.ownBlock→W'.heap[i]? = W.heap[i]?:=fun i hi hne=>(hg.block i (by simp; omega) hne).trans (Below.heap_alloc _ _ _ hi)
 have hs:W.heap.size≤W'.heap.size:=Nat.le_trans (by simp) hg.size
 refine ⟨Mac.texts h.mac h.own hs hk,?_,⟨hg.os.trans h.kept.os,hg.tape.trans h.kept.tape,hg.output.trans h.kept.output,Nat.le_trans h.kept.size hs,fun i hi hp hq=>(hk i (Nat.lt_of_lt_of_le hi h.kept.size) (fun e=>?_)).trans (h.kept.block i hi hp hq)⟩,Nat.le_trans h.hw hs,h.far⟩
 ·unfold OwnT; rw [List.length_append,List.map_append]; exact ho
 ·have:=(own_at h.own e.symm).1
  have:=h.far.1
  omega
end
end Nq
namespace Nl
def loopsOf:Code→List Code
 | .loop c=>[c]
 | .seq a b=>loopsOf a++loopsOf b
 | .block _ c=>loopsOf c
 | .scope c=>loopsOf c
 | .cond _ a b=>loopsOf a++loopsOf b
 | _=>[]
noncomputable def body1:Code:=((Tryz.f13.body.map loopsOf).getD []).getD 0 .skip
noncomputable def body2:Code:=(loopsOf body1).getD 0 .skip
noncomputable def body4:Code:=(loopsOf body1).getD 1 .skip
noncomputable def body3:Code:=(loopsOf body2).getD 0 .skip
end Nl
namespace Nmm
open Ka Kc Vb Vd Wa Wb Wc Wd We Wf Wg Wh Wi Wj Wk Wl Wm Ha Hb Hc Hh Hk Re Qa Qb Qc Qd Qe Qf Qg Qh Qi Qj Qk Ql Qm Qn Qo Qp Qr Qq Qs Qu Qv Qw Qx Na Nb Nc Nd Nee Nf Nh Ni Nj No Np Nq
open Nl
set_option maxRecDepth 1000000
def Rel3 (W1:World) (xb zb rb sb mb bb base:Nat) (bs:Str) (cnt st n sent sus mp wb:Nat) (v:Value) (ls:List Str) (f:Str) (p:Nat) (x:Value) (w:World):Prop:=∃ q:Nat,x=.int .i64 q∧q≤f.length∧In W1 w xb zb rb sb mb bb base (wrS bs (p+12) f q) cnt st n sent sus mp wb v ls
def WI3 (W1:World) (xb zb rb sb mb bb base:Nat) (bs:Str) (cnt st n sent sus mp wb:Nat) (v:Value) (ls:List Str) (f:Str) (p:Nat) (c0 c1 c2 c3 c4 c5 c6 c7 c9 c10 c11 c12 c13 c14 c15 c16 c17 c18 c20 c23 c24 c25 c26 c27 c28 c29 c30 c31 c32 c33 c34 c35 c36 c37 c38 c39 c40 c41 c42 c43 c44 c45 c46 c47 c48 c49 c50 c51 c52 c53 c54 c55 c56 c57 c58 c59 c60 c61 c62 c63 c64 c65 c66 c67 c68 c69 c70 c71 c72 c73 c74 c75 c76 c77 c78 c79 c80 c81 c82 c83 c84 c85 c86 c87 c88 c89 c90 c91 c92 c93 c94 c95 c96 c97 c98 c99 cDW cDX cDY cDZ cEA cEB cEC cED cEE cEF cEG cEH cEI cEJ cEK cEL cEM cEN cEO cEP cEQ cER cES cET cEU cEV cEW cEX cEY cEZ cFA cFB cFC cFD cFE cFX cFY cFZ cGA cGB cGC cGD cGE cGF cGG cGH cGI cGJ cGK cGL cGM cGN cGO cGP cGQ cGR cGS cGT cGU cGV cGW cGX cGY cGZ cHA cHB cHC cHD cHE cHF cHG cHH cHI cHJ cHK cHL cHM cHN cHO cHP cHQ cHR cHS cHT cHU cHV cHW cHX cHY cHZ cIA cIB cIC cID cIE cIF cIG cIH cII cIJ cIK cIL cIM cIN cIO cIP cIQ cIR cIS cIT cIU cIV cIW cIX cIY cIZ cJA cJB cJC cJD cJE cJF cJG cJH cJI cJJ cJK cJL cJM cJN cJO cJP cJQ cJR cJS cJT cJU cJV cJW cJX cJY cJZ cKA cKB cKC cKD cKE cKF cKG cKH cKI cKJ cKK cKL cKM cKN cKO cKP cKQ cKR cKS cKT cKU cKV cKW cKX cKY cKZ cLA cLB cLC cLD cLE cLF cLG cLH cLI cLJ cLK cLL cLM cLN cLO cLP cLQ cLR cLS cLT cLU cLV cLW cLX cLY cLZ:Value) (a:Act) (w:World):Prop:=∃ u22 uFF uFG uFH uFI uFJ uFK uFL uFM uFN uFO uFP uFQ uFR uFS uFT uFU uFV uFW:Value,Rel3 W1 xb zb rb sb mb bb base bs cnt st n sent sus mp wb v ls f p u22 w∧a=⟨#[c0,c1,c2,c3,c4,c5,c6,c7,.pointer (some ⟨mb,0,none⟩),c9,c10,c11,c12,c13,c14,c15,c16,c17,c18,.string (B f),c20,.int .i64 p,u22,c23,c24,c25,c26,c27,c28,c29,c30,c31,c32,c33,c34,c35,c36,c37,c38,c39,c40,c41,c42,c43,c44,c45,c46,c47,c48,c49,c50,c51,c52,c53,c54,c55,c56,c57,c58,c59,c60,c61,c62,c63,c64,c65,c66,c67,c68,c69,c70,c71,c72,c73,c74,c75,c76,c77,c78,c79,c80,c81,c82,c83,c84,c85,c86,c87,c88,c89,c90,c91,c92,c93,c94,c95,c96,c97,c98,c99,cDW,cDX,cDY,cDZ,cEA,cEB,cEC,cED,cEE,cEF,cEG,cEH,cEI,cEJ,cEK,cEL,cEM,cEN,cEO,cEP,cEQ,cER,cES,cET,cEU,cEV,cEW,cEX,cEY,cEZ,cFA,cFB,cFC,cFD,cFE,uFF,uFG,uFH,uFI,uFJ,uFK,uFL,uFM,uFN,uFO,uFP,uFQ,uFR,uFS,uFT,uFU,uFV,uFW,cFX,cFY,cFZ,cGA,cGB,cGC,cGD,cGE,cGF,cGG,cGH,cGI,cGJ,cGK,cGL,cGM,cGN,cGO,cGP,cGQ,cGR,cGS,cGT,cGU,cGV,cGW,cGX,cGY,cGZ,cHA,cHB,cHC,cHD,cHE,cHF,cHG,cHH,cHI,cHJ,cHK,cHL,cHM,cHN,cHO,cHP,cHQ,cHR,cHS,cHT,cHU,cHV,cHW,cHX,cHY,cHZ,cIA,cIB,cIC,cID,cIE,cIF,cIG,cIH,cII,cIJ,cIK,cIL,cIM,cIN,cIO,cIP,cIQ,cIR,cIS,cIT,cIU,cIV,cIW,cIX,cIY,cIZ,cJA,cJB,cJC,cJD,cJE,cJF,cJG,cJH,cJI,cJJ,cJK,cJL,cJM,cJN,cJO,cJP,cJQ,cJR,cJS,cJT,cJU,cJV,cJW,cJX,cJY,cJZ,cKA,cKB,cKC,cKD,cKE,cKF,cKG,cKH,cKI,cKJ,cKK,cKL,cKM,cKN,cKO,cKP,cKQ,cKR,cKS,cKT,cKU,cKV,cKW,cKX,cKY,cKZ,cLA,cLB,cLC,cLD,cLE,cLF,cLG,cLH,cLI,cLJ,cLK,cLL,cLM,cLN,cLO,cLP,cLQ,cLR,cLS,cLT,cLU,cLV,cLW,cLX,cLY,cLZ],[]⟩
def mu3 (f:Str) (a:Act) (_:World):Nat:=f.length - (intOf (a.tmps.getD 22 undef)).toNat
theorem round3 (W1:World) (xb zb rb sb mb bb base:Nat) (bs:Str) (cnt st n sent sus mp wb:Nat) (v:Value) (ls:List Str) (f:Str) (p:Nat) {c0 c1 c2 c3 c4 c5 c6 c7 c9 c10 c11 c12 c13 c14 c15 c16 c17 c18 c20 c23 c24 c25 c26 c27 c28 c29 c30 c31 c32 c33 c34 c35 c36 c37 c38 c39 c40 c41 c42 c43 c44 c45 c46 c47 c48 c49 c50 c51 c52 c53 c54 c55 c56 c57 c58 c59 c60 c61 c62 c63 c64 c65 c66 c67 c68 c69 c70 c71 c72 c73 c74 c75 c76 c77 c78 c79 c80 c81 c82 c83 c84 c85 c86 c87 c88 c89 c90 c91 c92 c93 c94 c95 c96 c97 c98 c99 cDW cDX cDY cDZ cEA cEB cEC cED cEE cEF cEG cEH cEI cEJ cEK cEL cEM cEN cEO cEP cEQ cER cES cET cEU cEV cEW cEX cEY cEZ cFA cFB cFC cFD cFE cFX cFY cFZ cGA cGB cGC cGD cGE cGF cGG cGH cGI cGJ cGK cGL cGM cGN cGO cGP cGQ cGR cGS cGT cGU cGV cGW cGX cGY cGZ cHA cHB cHC cHD cHE cHF cHG cHH cHI cHJ cHK cHL cHM cHN cHO cHP cHQ cHR cHS cHT cHU cHV cHW cHX cHY cHZ cIA cIB cIC cID cIE cIF cIG cIH cII cIJ cIK cIL cIM cIN cIO cIP cIQ cIR cIS cIT cIU cIV cIW cIX cIY cIZ cJA cJB cJC cJD cJE cJF cJG cJH cJI cJJ cJK cJL cJM cJN cJO cJP cJQ cJR cJS cJT cJU cJV cJW cJX cJY cJZ cKA cKB cKC cKD cKE cKF cKG cKH cKI cKJ cKK cKL cKM cKN cKO cKP cKQ cKR cKS cKT cKU cKV cKW cKX cKY cKZ cLA cLB cLC cLD cLE cLF cLG cLH cLI cLJ cLK cLL cLM cLN cLO cLP cLQ cLR cLS cLT cLU cLV cLW cLX cLY cLZ u22 uFF uFG uFH uFI uFJ uFK uFL uFM uFN uFO uFP uFQ uFR uFS uFT uFU uFV uFW:Value} (Q0:Exit→Act→World→Prop) (w:World) (hp:p+12+f.length≤25600) (hrel:Rel3 W1 xb zb rb sb mb bb base bs cnt st n sent sus mp wb v ls f p u22 w)
  (hexit : ∀ (u22 uFF uFG uFH uFI uFJ uFK uFL uFM uFN uFO uFP uFQ uFR uFS uFT uFU uFV uFW:Value) (w':World),In W1 w' xb zb rb sb mb bb base (wrS bs (p+12) f f.length) cnt st n sent sus mp wb v ls→Q0 (.exit 4) ⟨#[c0,c1,c2,c3,c4,c5,c6,c7,.pointer (some ⟨mb,0,none⟩),c9,c10,c11,c12,c13,c14,c15,c16,c17,c18,.string (B f),c20,.int .i64 p,u22,c23,c24,c25,c26,c27,c28,c29,c30,c31,c32,c33,c34,c35,c36,c37,c38,c39,c40,c41,c42,c43,c44,c45,c46,c47,c48,c49,c50,c51,c52,c53,c54,c55,c56,c57,c58,c59,c60,c61,c62,c63,c64,c65,c66,c67,c68,c69,c70,c71,c72,c73,c74,c75,c76,c77,c78,c79,c80,c81,c82,c83,c84,c85,c86,c87,c88,c89,c90,c91,c92,c93,c94,c95,c96,c97,c98,c99,cDW,cDX,cDY,cDZ,cEA,cEB,cEC,cED,cEE,cEF,cEG,cEH,cEI,cEJ,cEK,cEL,cEM,cEN,cEO,cEP,cEQ,cER,cES,cET,cEU,cEV,cEW,cEX,cEY,cEZ,cFA,cFB,cFC,cFD,cFE,uFF,uFG,uFH,uFI,uFJ,uFK,uFL,uFM,uFN,uFO,uFP,uFQ,uFR,uFS,uFT,uFU,uFV,uFW,cFX,cFY,cFZ,cGA,cGB,cGC,cGD,cGE,cGF,cGG,cGH,cGI,cGJ,cGK,cGL,cGM,cGN,cGO,cGP,cGQ,cGR,cGS,cGT,cGU,cGV,cGW,cGX,cGY,cGZ,cHA,cHB,cHC,cHD,cHE,cHF,cHG,cHH,cHI,cHJ,cHK,cHL,cHM,cHN,cHO,cHP,cHQ,cHR,cHS,cHT,cHU,cHV,cHW,cHX,cHY,cHZ,cIA,cIB,cIC,cID,cIE,cIF,cIG,cIH,cII,cIJ,cIK,cIL,cIM,cIN,cIO,cIP,cIQ,cIR,cIS,cIT,cIU,cIV,cIW,cIX,cIY,cIZ,cJA,cJB,cJC,cJD,cJE,cJF,cJG,cJH,cJI,cJJ,cJK,cJL,cJM,cJN,cJO,cJP,cJQ,cJR,cJS,cJT,cJU,cJV,cJW,cJX,cJY,cJZ,cKA,cKB,cKC,cKD,cKE,cKF,cKG,cKH,cKI,cKJ,cKK,cKL,cKM,cKN,cKO,cKP,cKQ,cKR,cKS,cKT,cKU,cKV,cKW,cKX,cKY,cKZ,cLA,cLB,cLC,cLD,cLE,cLF,cLG,cLH,cLI,cLJ,cLK,cLL,cLM,cLN,cLO,cLP,cLQ,cLR,cLS,cLT,cLU,cLV,cLW,cLX,cLY,cLZ],[]⟩ w') :
  Code.wp Tryz.prog body3 (Exit.then (fun a' w''=>WI3 W1 xb zb rb sb mb bb base bs cnt st n sent sus mp wb v ls f p c0 c1 c2 c3 c4 c5 c6 c7 c9 c10 c11 c12 c13 c14 c15 c16 c17 c18 c20 c23 c24 c25 c26 c27 c28 c29 c30 c31 c32 c33 c34 c35 c36 c37 c38 c39 c40 c41 c42 c43 c44 c45 c46 c47 c48 c49 c50 c51 c52 c53 c54 c55 c56 c57 c58 c59 c60 c61 c62 c63 c64 c65 c66 c67 c68 c69 c70 c71 c72 c73 c74 c75 c76 c77 c78 c79 c80 c81 c82 c83 c84 c85 c86 c87 c88 c89 c90 c91 c92 c93 c94 c95 c96 c97 c98 c99 cDW cDX cDY cDZ cEA cEB cEC cED cEE cEF cEG cEH cEI cEJ cEK cEL cEM cEN cEO cEP cEQ cER cES cET cEU cEV cEW cEX cEY cEZ cFA cFB cFC cFD cFE cFX cFY cFZ cGA cGB cGC cGD cGE cGF cGG cGH cGI cGJ cGK cGL cGM cGN cGO cGP cGQ cGR cGS cGT cGU cGV cGW cGX cGY cGZ cHA cHB cHC cHD cHE cHF cHG cHH cHI cHJ cHK cHL cHM cHN cHO cHP cHQ cHR cHS cHT cHU cHV cHW cHX cHY cHZ cIA cIB cIC cID cIE cIF cIG cIH cII cIJ cIK cIL cIM cIN cIO cIP cIQ cIR cIS cIT cIU cIV cIW cIX cIY cIZ cJA cJB cJC cJD cJE cJF cJG cJH cJI cJJ cJK cJL cJM cJN cJO cJP cJQ cJR cJS cJT cJU cJV cJW cJX cJY cJZ cKA cKB cKC cKD cKE cKF cKG cKH cKI cKJ cKK cKL cKM cKN cKO cKP cKQ cKR cKS cKT cKU cKV cKW cKX cKY cKZ cLA cLB cLC cLD cLE cLF cLG cLH cLI cLJ cLK cLL cLM cLN cLO cLP cLQ cLR cLS cLT cLU cLV cLW cLX cLY cLZ a' w''∧mu3 f a' w''<mu3 f ⟨#[c0,c1,c2,c3,c4,c5,c6,c7,.pointer (some ⟨mb,0,none⟩),c9,c10,c11,c12,c13,c14,c15,c16,c17,c18,.string (B f),c20,.int .i64 p,u22,c23,c24,c25,c26,c27,c28,c29,c30,c31,c32,c33,c34,c35,c36,c37,c38,c39,c40,c41,c42,c43,c44,c45,c46,c47,c48,c49,c50,c51,c52,c53,c54,c55,c56,c57,c58,c59,c60,c61,c62,c63,c64,c65,c66,c67,c68,c69,c70,c71,c72,c73,c74,c75,c76,c77,c78,c79,c80,c81,c82,c83,c84,c85,c86,c87,c88,c89,c90,c91,c92,c93,c94,c95,c96,c97,c98,c99,cDW,cDX,cDY,cDZ,cEA,cEB,cEC,cED,cEE,cEF,cEG,cEH,cEI,cEJ,cEK,cEL,cEM,cEN,cEO,cEP,cEQ,cER,cES,cET,cEU,cEV,cEW,cEX,cEY,cEZ,cFA,cFB,cFC,cFD,cFE,uFF,uFG,uFH,uFI,uFJ,uFK,uFL,uFM,uFN,uFO,uFP,uFQ,uFR,uFS,uFT,uFU,uFV,uFW,cFX,cFY,cFZ,cGA,cGB,cGC,cGD,cGE,cGF,cGG,cGH,cGI,cGJ,cGK,cGL,cGM,cGN,cGO,cGP,cGQ,cGR,cGS,cGT,cGU,cGV,cGW,cGX,cGY,cGZ,cHA,cHB,cHC,cHD,cHE,cHF,cHG,cHH,cHI,cHJ,cHK,cHL,cHM,cHN,cHO,cHP,cHQ,cHR,cHS,cHT,cHU,cHV,cHW,cHX,cHY,cHZ,cIA,cIB,cIC,cID,cIE,cIF,cIG,cIH,cII,cIJ,cIK,cIL,cIM,cIN,cIO,cIP,cIQ,cIR,cIS,cIT,cIU,cIV,cIW,cIX,cIY,cIZ,cJA,cJB,cJC,cJD,cJE,cJF,cJG,cJH,cJI,cJJ,cJK,cJL,cJM,cJN,cJO,cJP,cJQ,cJR,cJS,cJT,cJU,cJV,cJW,cJX,cJY,cJZ,cKA,cKB,cKC,cKD,cKE,cKF,cKG,cKH,cKI,cKJ,cKK,cKL,cKM,cKN,cKO,cKP,cKQ,cKR,cKS,cKT,cKU,cKV,cKW,cKX,cKY,cKZ,cLA,cLB,cLC,cLD,cLE,cLF,cLG,cLH,cLI,cLJ,cLK,cLL,cLM,cLN,cLO,cLP,cLQ,cLR,cLS,cLT,cLU,cLV,cLW,cLX,cLY,cLZ],[]⟩ w) Q0) ⟨#[c0,c1,c2,c3,c4,c5,c6,c7,.pointer (some ⟨mb,0,none⟩),c9,c10,c11,c12,c13,c14,c15,c16,c17,c18,.string (B f),c20,.int .i64 p,u22,c23,c24,c25,c26,c27,c28,c29,c30,c31,c32,c33,c34,c35,c36,c37,c38,c39,c40,c41,c42,c43,c44,c45,c46,c47,c48,c49,c50,c51,c52,c53,c54,c55,c56,c57,c58,c59,c60,c61,c62,c63,c64,c65,c66,c67,c68,c69,c70,c71,c72,c73,c74,c75,c76,c77,c78,c79,c80,c81,c82,c83,c84,c85,c86,c87,c88,c89,c90,c91,c92,c93,c94,c95,c96,c97,c98,c99,cDW,cDX,cDY,cDZ,cEA,cEB,cEC,cED,cEE,cEF,cEG,cEH,cEI,cEJ,cEK,cEL,cEM,cEN,cEO,cEP,cEQ,cER,cES,cET,cEU,cEV,cEW,cEX,cEY,cEZ,cFA,cFB,cFC,cFD,cFE,uFF,uFG,uFH,uFI,uFJ,uFK,uFL,uFM,uFN,uFO,uFP,uFQ,uFR,uFS,uFT,uFU,uFV,uFW,cFX,cFY,cFZ,cGA,cGB,cGC,cGD,cGE,cGF,cGG,cGH,cGI,cGJ,cGK,cGL,cGM,cGN,cGO,cGP,cGQ,cGR,cGS,cGT,cGU,cGV,cGW,cGX,cGY,cGZ,cHA,cHB,cHC,cHD,cHE,cHF,cHG,cHH,cHI,cHJ,cHK,cHL,cHM,cHN,cHO,cHP,cHQ,cHR,cHS,cHT,cHU,cHV,cHW,cHX,cHY,cHZ,cIA,cIB,cIC,cID,cIE,cIF,cIG,cIH,cII,cIJ,cIK,cIL,cIM,cIN,cIO,cIP,cIQ,cIR,cIS,cIT,cIU,cIV,cIW,cIX,cIY,cIZ,cJA,cJB,cJC,cJD,cJE,cJF,cJG,cJH,cJI,cJJ,cJK,cJL,cJM,cJN,cJO,cJP,cJQ,cJR,cJS,cJT,cJU,cJV,cJW,cJX,cJY,cJZ,cKA,cKB,cKC,cKD,cKE,cKF,cKG,cKH,cKI,cKJ,cKK,cKL,cKM,cKN,cKO,cKP,cKQ,cKR,cKS,cKT,cKU,cKV,cKW,cKX,cKY,cKZ,cLA,cLB,cLC,cLD,cLE,cLF,cLG,cLH,cLI,cLJ,cLK,cLL,cLM,cLN,cLO,cLP,cLQ,cLR,cLS,cLT,cLU,cLV,cLW,cLX,cLY,cLZ],[]⟩ w:=by
 obtain ⟨q,rfl,hq,hIN⟩:=hrel
 conv=>arg 2; whnf
 have sz:(B f).size=f.length:=size_B f
 by_cases hlq:q<f.length
 ·obtain ⟨p12,hp12⟩ : ∃ p12,p12=p+12:=⟨_,rfl⟩
  obtain ⟨pq,hpq⟩ : ∃ pq,pq=p12+q:=⟨_,rfl⟩
  obtain ⟨cb,hcb⟩ : ∃ cb:UInt8,f[q]=cb:=⟨_,rfl⟩
  have g1 : ∀ h:q<(B f).size,(B f)[q]=cb:=fun h=>hcb
  have e1:IntKind.i64.wrap ((p:Int)+12)=(p12:Int):=by rw [IntKind.wrap_i64]; omega
  have e2:IntKind.i64.wrap ((p12:Int)+(q:Int))=(pq:Int):=by rw [IntKind.wrap_i64]; omega
  have hs:=mem_seen hIN.mac.mem
  have h0:=hs.1
  have hpl:pq<(wrS bs (p+12) f q).length:=by rw [hs.2.1]; omega
  obtain ⟨v0,hv0⟩ : ∃ v0,w.cell? ⟨bb,pq,none⟩=some v0:=⟨_,hs.2.2.cell pq (by simpa using hpl)⟩
  have hf:=hs.2.2.frozen
  have hR1:=RowB.set hs.2 pq cb
  rw [show (wrS bs (p+12) f q).set pq cb=wrS bs (p+12) f (q+1) by rw [wrS,hpq,hp12,List.getElem?_eq_getElem hlq,hcb]; rfl] at hR1
  have hR2:RowB (w.drew.setCell ⟨bb,pq,none⟩ (.int .u8 cb.toNat)) bb (wrS bs (p+12) f (q+1)):=hR1
  have hK2:It.Keeps bb w (w.drew.setCell ⟨bb,pq,none⟩ (.int .u8 cb.toNat)):=Keeps_set (It.Keeps.of_below (Below.refl _ _).drew) _ _
  have HI2:=aH (hIN.row (mem_row hIN.mac.mem hR2 hK2) hK2)
  have hn':pq<25600:=by omega
  have hn0:(0:Int)≤(pq:Int):=by omega
  have hn1:(pq:Int)<25600:=by omega
  have hn2 : ¬ (pq:Int)<0:=by omega
  have hn3 : ¬ (25600:Int)≤(pq:Int):=by omega
  have hS0:w.drew.cell? ⟨mb,0,none⟩=some (.slice (some ⟨bb,0,none⟩) 25600 25600):=h0
  have hS1:(w.drew.setCell ⟨bb,pq,none⟩ (.int .u8 cb.toNat)).cell? ⟨mb,0,none⟩=some (.slice (some ⟨bb,0,none⟩) 25600 25600):=(mem_seen (aU HI2).mac.mem).1
  have hqf:(q:Int)<(f.length:Int):=by omega
  clear hexit hs hpl hR1 hR2 hK2 hIN hp12 hpq hcb
  go_wp2_with fail
  go_region_held3 (fun w'=>w'.cell? ⟨mb,0,none⟩=some (.slice (some ⟨bb,0,none⟩) 25600 25600)) (first | assumption | exact hS0 | exact hS1 | go_keep) (fail)
  all_goals
   go_wp2_with fail
   refine ⟨?_,by simp [mu3,intOf]; omega⟩
   unfold WI3
   exact ⟨_,_,_,_,_,_,_,_,_,_,_,_,_,_,_,_,_,_,_,⟨q+1,by go_num,by omega,aU HI2⟩,rfl⟩
 ·have hql:q=f.length:=by omega
  subst hql
  have hqf : ¬ (f.length:Int)<(f.length:Int):=by omega
  have HI2:=aH hIN
  clear hIN
  go_wp2_with fail
  first | exact aU HI2 | exact hexit _ _ _ _ _ _ _ _ _ _ _ _ _ _ _ _ _ _ _ _ (aU HI2)
theorem loop3 (W1:World) (xb zb rb sb mb bb base:Nat) (bs:Str) (cnt st n sent sus mp wb:Nat) (v:Value) (ls:List Str) (f:Str) (p:Nat) {c0 c1 c2 c3 c4 c5 c6 c7 c9 c10 c11 c12 c13 c14 c15 c16 c17 c18 c20 c23 c24 c25 c26 c27 c28 c29 c30 c31 c32 c33 c34 c35 c36 c37 c38 c39 c40 c41 c42 c43 c44 c45 c46 c47 c48 c49 c50 c51 c52 c53 c54 c55 c56 c57 c58 c59 c60 c61 c62 c63 c64 c65 c66 c67 c68 c69 c70 c71 c72 c73 c74 c75 c76 c77 c78 c79 c80 c81 c82 c83 c84 c85 c86 c87 c88 c89 c90 c91 c92 c93 c94 c95 c96 c97 c98 c99 cDW cDX cDY cDZ cEA cEB cEC cED cEE cEF cEG cEH cEI cEJ cEK cEL cEM cEN cEO cEP cEQ cER cES cET cEU cEV cEW cEX cEY cEZ cFA cFB cFC cFD cFE cFX cFY cFZ cGA cGB cGC cGD cGE cGF cGG cGH cGI cGJ cGK cGL cGM cGN cGO cGP cGQ cGR cGS cGT cGU cGV cGW cGX cGY cGZ cHA cHB cHC cHD cHE cHF cHG cHH cHI cHJ cHK cHL cHM cHN cHO cHP cHQ cHR cHS cHT cHU cHV cHW cHX cHY cHZ cIA cIB cIC cID cIE cIF cIG cIH cII cIJ cIK cIL cIM cIN cIO cIP cIQ cIR cIS cIT cIU cIV cIW cIX cIY cIZ cJA cJB cJC cJD cJE cJF cJG cJH cJI cJJ cJK cJL cJM cJN cJO cJP cJQ cJR cJS cJT cJU cJV cJW cJX cJY cJZ cKA cKB cKC cKD cKE cKF cKG cKH cKI cKJ cKK cKL cKM cKN cKO cKP cKQ cKR cKS cKT cKU cKV cKW cKX cKY cKZ cLA cLB cLC cLD cLE cLF cLG cLH cLI cLJ cLK cLL cLM cLN cLO cLP cLQ cLR cLS cLT cLU cLV cLW cLX cLY cLZ uFF uFG uFH uFI uFJ uFK uFL uFM uFN uFO uFP uFQ uFR uFS uFT uFU uFV uFW:Value} (Q0:Exit→Act→World→Prop) (w:World) (hp:p+12+f.length≤25600) (hIN:In W1 w xb zb rb sb mb bb base bs cnt st n sent sus mp wb v ls)
  (hexit : ∀ (u22 uFF uFG uFH uFI uFJ uFK uFL uFM uFN uFO uFP uFQ uFR uFS uFT uFU uFV uFW:Value) (w':World),In W1 w' xb zb rb sb mb bb base (wrS bs (p+12) f f.length) cnt st n sent sus mp wb v ls→Q0 (.exit 4) ⟨#[c0,c1,c2,c3,c4,c5,c6,c7,.pointer (some ⟨mb,0,none⟩),c9,c10,c11,c12,c13,c14,c15,c16,c17,c18,.string (B f),c20,.int .i64 p,u22,c23,c24,c25,c26,c27,c28,c29,c30,c31,c32,c33,c34,c35,c36,c37,c38,c39,c40,c41,c42,c43,c44,c45,c46,c47,c48,c49,c50,c51,c52,c53,c54,c55,c56,c57,c58,c59,c60,c61,c62,c63,c64,c65,c66,c67,c68,c69,c70,c71,c72,c73,c74,c75,c76,c77,c78,c79,c80,c81,c82,c83,c84,c85,c86,c87,c88,c89,c90,c91,c92,c93,c94,c95,c96,c97,c98,c99,cDW,cDX,cDY,cDZ,cEA,cEB,cEC,cED,cEE,cEF,cEG,cEH,cEI,cEJ,cEK,cEL,cEM,cEN,cEO,cEP,cEQ,cER,cES,cET,cEU,cEV,cEW,cEX,cEY,cEZ,cFA,cFB,cFC,cFD,cFE,uFF,uFG,uFH,uFI,uFJ,uFK,uFL,uFM,uFN,uFO,uFP,uFQ,uFR,uFS,uFT,uFU,uFV,uFW,cFX,cFY,cFZ,cGA,cGB,cGC,cGD,cGE,cGF,cGG,cGH,cGI,cGJ,cGK,cGL,cGM,cGN,cGO,cGP,cGQ,cGR,cGS,cGT,cGU,cGV,cGW,cGX,cGY,cGZ,cHA,cHB,cHC,cHD,cHE,cHF,cHG,cHH,cHI,cHJ,cHK,cHL,cHM,cHN,cHO,cHP,cHQ,cHR,cHS,cHT,cHU,cHV,cHW,cHX,cHY,cHZ,cIA,cIB,cIC,cID,cIE,cIF,cIG,cIH,cII,cIJ,cIK,cIL,cIM,cIN,cIO,cIP,cIQ,cIR,cIS,cIT,cIU,cIV,cIW,cIX,cIY,cIZ,cJA,cJB,cJC,cJD,cJE,cJF,cJG,cJH,cJI,cJJ,cJK,cJL,cJM,cJN,cJO,cJP,cJQ,cJR,cJS,cJT,cJU,cJV,cJW,cJX,cJY,cJZ,cKA,cKB,cKC,cKD,cKE,cKF,cKG,cKH,cKI,cKJ,cKK,cKL,cKM,cKN,cKO,cKP,cKQ,cKR,cKS,cKT,cKU,cKV,cKW,cKX,cKY,cKZ,cLA,cLB,cLC,cLD,cLE,cLF,cLG,cLH,cLI,cLJ,cLK,cLL,cLM,cLN,cLO,cLP,cLQ,cLR,cLS,cLT,cLU,cLV,cLW,cLX,cLY,cLZ],[]⟩ w') :
  Code.wp Tryz.prog (Code.loop body3) Q0 ⟨#[c0,c1,c2,c3,c4,c5,c6,c7,.pointer (some ⟨mb,0,none⟩),c9,c10,c11,c12,c13,c14,c15,c16,c17,c18,.string (B f),c20,.int .i64 p,.int .i64 0,c23,c24,c25,c26,c27,c28,c29,c30,c31,c32,c33,c34,c35,c36,c37,c38,c39,c40,c41,c42,c43,c44,c45,c46,c47,c48,c49,c50,c51,c52,c53,c54,c55,c56,c57,c58,c59,c60,c61,c62,c63,c64,c65,c66,c67,c68,c69,c70,c71,c72,c73,c74,c75,c76,c77,c78,c79,c80,c81,c82,c83,c84,c85,c86,c87,c88,c89,c90,c91,c92,c93,c94,c95,c96,c97,c98,c99,cDW,cDX,cDY,cDZ,cEA,cEB,cEC,cED,cEE,cEF,cEG,cEH,cEI,cEJ,cEK,cEL,cEM,cEN,cEO,cEP,cEQ,cER,cES,cET,cEU,cEV,cEW,cEX,cEY,cEZ,cFA,cFB,cFC,cFD,cFE,uFF,uFG,uFH,uFI,uFJ,uFK,uFL,uFM,uFN,uFO,uFP,uFQ,uFR,uFS,uFT,uFU,uFV,uFW,cFX,cFY,cFZ,cGA,cGB,cGC,cGD,cGE,cGF,cGG,cGH,cGI,cGJ,cGK,cGL,cGM,cGN,cGO,cGP,cGQ,cGR,cGS,cGT,cGU,cGV,cGW,cGX,cGY,cGZ,cHA,cHB,cHC,cHD,cHE,cHF,cHG,cHH,cHI,cHJ,cHK,cHL,cHM,cHN,cHO,cHP,cHQ,cHR,cHS,cHT,cHU,cHV,cHW,cHX,cHY,cHZ,cIA,cIB,cIC,cID,cIE,cIF,cIG,cIH,cII,cIJ,cIK,cIL,cIM,cIN,cIO,cIP,cIQ,cIR,cIS,cIT,cIU,cIV,cIW,cIX,cIY,cIZ,cJA,cJB,cJC,cJD,cJE,cJF,cJG,cJH,cJI,cJJ,cJK,cJL,cJM,cJN,cJO,cJP,cJQ,cJR,cJS,cJT,cJU,cJV,cJW,cJX,cJY,cJZ,cKA,cKB,cKC,cKD,cKE,cKF,cKG,cKH,cKI,cKJ,cKK,cKL,cKM,cKN,cKO,cKP,cKQ,cKR,cKS,cKT,cKU,cKV,cKW,cKX,cKY,cKZ,cLA,cLB,cLC,cLD,cLE,cLF,cLG,cLH,cLI,cLJ,cLK,cLL,cLM,cLN,cLO,cLP,cLQ,cLR,cLS,cLT,cLU,cLV,cLW,cLX,cLY,cLZ],[]⟩ w:=by
 refine wp_loop (WI3 W1 xb zb rb sb mb bb base bs cnt st n sent sus mp wb v ls f p c0 c1 c2 c3 c4 c5 c6 c7 c9 c10 c11 c12 c13 c14 c15 c16 c17 c18 c20 c23 c24 c25 c26 c27 c28 c29 c30 c31 c32 c33 c34 c35 c36 c37 c38 c39 c40 c41 c42 c43 c44 c45 c46 c47 c48 c49 c50 c51 c52 c53 c54 c55 c56 c57 c58 c59 c60 c61 c62 c63 c64 c65 c66 c67 c68 c69 c70 c71 c72 c73 c74 c75 c76 c77 c78 c79 c80 c81 c82 c83 c84 c85 c86 c87 c88 c89 c90 c91 c92 c93 c94 c95 c96 c97 c98 c99 cDW cDX cDY cDZ cEA cEB cEC cED cEE cEF cEG cEH cEI cEJ cEK cEL cEM cEN cEO cEP cEQ cER cES cET cEU cEV cEW cEX cEY cEZ cFA cFB cFC cFD cFE cFX cFY cFZ cGA cGB cGC cGD cGE cGF cGG cGH cGI cGJ cGK cGL cGM cGN cGO cGP cGQ cGR cGS cGT cGU cGV cGW cGX cGY cGZ cHA cHB cHC cHD cHE cHF cHG cHH cHI cHJ cHK cHL cHM cHN cHO cHP cHQ cHR cHS cHT cHU cHV cHW cHX cHY cHZ cIA cIB cIC cID cIE cIF cIG cIH cII cIJ cIK cIL cIM cIN cIO cIP cIQ cIR cIS cIT cIU cIV cIW cIX cIY cIZ cJA cJB cJC cJD cJE cJF cJG cJH cJI cJJ cJK cJL cJM cJN cJO cJP cJQ cJR cJS cJT cJU cJV cJW cJX cJY cJZ cKA cKB cKC cKD cKE cKF cKG cKH cKI cKJ cKK cKL cKM cKN cKO cKP cKQ cKR cKS cKT cKU cKV cKW cKX cKY cKZ cLA cLB cLC cLD cLE cLF cLG cLH cLI cLJ cLK cLL cLM cLN cLO cLP cLQ cLR cLS cLT cLU cLV cLW cLX cLY cLZ) (mu3 f) ?_ ?_
 ·unfold WI3
  exact ⟨_,_,_,_,_,_,_,_,_,_,_,_,_,_,_,_,_,_,_,⟨0,rfl,Nat.zero_le _,hIN⟩,rfl⟩
 ·intro a w'' hI
  unfold WI3 at hI
  obtain ⟨u22,hI⟩:=hI
  obtain ⟨uFF,hI⟩:=hI
  obtain ⟨uFG,hI⟩:=hI
  obtain ⟨uFH,hI⟩:=hI
  obtain ⟨uFI,hI⟩:=hI
  obtain ⟨uFJ,hI⟩:=hI
  obtain ⟨uFK,hI⟩:=hI
  obtain ⟨uFL,hI⟩:=hI
  obtain ⟨uFM,hI⟩:=hI
  obtain ⟨uFN,hI⟩:=hI
  obtain ⟨uFO,hI⟩:=hI
  obtain ⟨uFP,hI⟩:=hI
  obtain ⟨uFQ,hI⟩:=hI
  obtain ⟨uFR,hI⟩:=hI
  obtain ⟨uFS,hI⟩:=hI
  obtain ⟨uFT,hI⟩:=hI
  obtain ⟨uFU,hI⟩:=hI
  obtain ⟨uFV,hI⟩:=hI
  obtain ⟨uFW,hI⟩:=hI
  obtain ⟨hr,rfl⟩:=hI
  exact round3 W1 xb zb rb sb mb bb base bs cnt st n sent sus mp wb v ls f p Q0 w'' hp hr hexit
end Nmm
end Go.Proofs.YtkkpahmoljiepaaGreatDoor
