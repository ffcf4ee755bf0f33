/- Contracts: wire's written: the bytes of fields alone. -/
import Derived.Test.YtkkpahmoljiepaaGreatDoorJ11
import Derived.Test.YtkkpahmoljiepaaGreatDoorJ07
set_option linter.unusedSimpArgs false
set_option linter.unusedVariables false
set_option maxRecDepth 1000000
set_option maxHeartbeats 12800000
namespace Go.Proofs.YtkkpahmoljiepaaGreatDoor
open Go.RowKit
open Pu (Str aH aU)
namespace Wm
open Ka Wa Wb Wc Wd We Wf Wg Wh Wi Wj Wk Wl Re
theorem own_string {w:World} {base:Nat} {v:Value} {l:Str} (h:OwnB w base v l):(convert 58 9 v).run Tryz.prog w=.ok (.string (B l)) w:=by
 obtain ⟨h1,⟨rfl,h2⟩ | ⟨g,cap,cur,rfl,hb,hcur,hn,hm,hs,ht⟩⟩:=h
 ·obtain rfl:l = []:=List.eq_nil_of_length_eq_zero h2
  kernel_rfl
 ·refine run_convert_bytes_back (P:=Tryz.prog) w 58 9 5 ⟨g,0,none⟩ cap l Tryz.underlying58 Tryz.underlying5 Tryz.underlying9 fun j hj=>?_
  have e:(⟨g,0,none⟩:Addr).add j=⟨g,j,none⟩:=by unfold Addr.add; by_cases h:j=0 <;> simp [h]
  rw [e]
  have e2:cur.toList[j]? = (l.map fun c=>Value.int .u8 (c.toNat:Int))[j]?:=by
   rw [← ht,List.getElem?_take,if_pos (by omega)]
  simp only [World.cell?,hcur]
  rw [← Array.getElem?_toList,e2]
  simp [hj]
theorem written_any (g cap:Nat) (fs:List Fd) (w:World) (hok : ∀ f∈fs,f.Ok) (hlt:g<w.heap.size) (hcells : ∀ j (h:j<fs.length),w.cell? ⟨g,j,none⟩=some (.iface fs[j].t fs[j].x))
  (hn:fs.length≤cap) (hc:fs.length≤1000000) (hl:(outs fs).length≤1000000) :
  Calls Tryz.prog 199 #[.slice (some ⟨g,0,none⟩) fs.length cap] w fun e w'=>e=.returned (.string (B (outs fs)))∧Below w.heap.size w w':=by
 have hnew:=World.alloc_heap_new w (.cells #[.slice none 0 0,.slice none 0 0] 283)
 have HP:=aH (put_any w.heap.size (w.heap.size+1) g cap fs (.slice none 0 0) (.slice none 0 0) [] (w.alloc (.cells #[.slice none 0 0,.slice none 0 0] 283)) hnew (World.ownsRow_nil _ _ _ _) (by simp) hok (by simp; omega) (by omega) (.inl (by omega))
  (fun j hj=>(World.cell?_of_block (w:=w) (Below.heap_alloc _ _ _ hlt)).trans (hcells j hj)) hn hc (by simpa using hl))
 clear hnew hok hcells
 go_enter Tryz.func199,Tryz.ntmps199
 go_wp2_with fail
 refine (aU HP).mono ?_
 rintro e w2 ⟨rfl,⟨vb,h1,h2⟩,h3⟩
 have hc0:=h1.cells.1
 have hcv:=own_string h2
 have HB:Hid (Below w.heap.size w w2):=((Below.refl _ _).alloc (Nat.le_refl _) _).trans ⟨h3.os,h3.tape,h3.output,h3.size,fun k hk=>h3.block k (by simp; omega) (by omega) (.inl (by omega))⟩
 rw [List.nil_append] at hcv
 obtain ⟨va,vn,vc,rfl⟩:=own_slice h2
 clear h1 h2 h3 HP
 go_wp2_with fail
 go_ret
 exact ⟨rfl,aU HB⟩
end Wm
namespace Ha
def ws:Bool→Str→Nat
 | _,[]=>0
 | true,a :: s=>a.toNat*256+ws false s
 | false,a :: s=>a.toNat+ws true s
def par (p:Bool) (n:Nat):Bool:=if n%2=0 then p else !p
theorem ws_append (p:Bool) (x y:Str):ws p (x++y)=ws p x+ws (par p x.length) y:=by
 induction x generalizing p with
 | nil=>simp [ws,par]
 | cons a x ih =>
  have e:par p (a :: x).length=par (!p) x.length:=by
   unfold par
   by_cases h:x.length%2=0
   ·rw [if_neg (by simp; omega),if_pos h]
   ·rw [if_pos (by simp; omega),if_neg h]; simp
  rw [e]
  cases p
  ·show a.toNat+ws true (x++y)=a.toNat+ws true x+_
   rw [ih true]; simp; omega
  ·show a.toNat*256+ws false (x++y)=a.toNat*256+ws false x+_
   rw [ih false]; simp; omega
theorem ws_even (p:Bool) (x y:Str) (h:x.length%2=0):ws p (x++y)=ws p x+ws p y:=by
 rw [ws_append,par,if_pos h]
def fold (n:Nat):Nat:=if n=0 then 0 else (n - 1)%65535+1
theorem fold_le (n:Nat):fold n≤65535:=by unfold fold; split <;> omega
theorem fold_step (n x:Nat) (hx:x≤65535):(fold n+x)%65536+(fold n+x)/65536=fold (n+x):=by
 unfold fold
 by_cases h:n=0
 ·subst h
  by_cases h2:x=0
  ·subst h2; rfl
  ·simp [h2]; omega
 ·rw [if_neg h,if_neg (by omega)]; omega
theorem fold_check (n x:Nat) (hn:0<n) (hx:x=65535 - fold n∨(x=65535∧fold n=65535)):fold (n+x)=65535:=by
 unfold fold at *
 rw [if_neg (by omega)] at *
 omega
theorem ws_take (s:Str) (k:Nat) (h:k<s.length):ws true (s.take (k+1))=ws true (s.take k)+(if k%2=0 then s[k].toNat*256 else s[k].toNat):=by
 rw [List.take_succ_eq_append_getElem h,ws_append,List.length_take,Nat.min_eq_left (by omega),par]
 split <;> simp [ws]
theorem ws_take2 (s:Str) (k:Nat) (h:k+1<s.length) (he:k%2=0):ws true (s.take (k+2))=ws true (s.take k)+(256*s[k].toNat+s[k+1].toNat):=by
 rw [ws_take s (k+1) h,ws_take s k (by omega),if_pos he,if_neg (by omega)]; omega
end Ha
namespace Vc
open Ka Wa Wb Wd
end Vc
attribute [local go_sem] Oper.semAt_some
def notP (k:Int) (r:Rec):Bool:=r.type != k
def cutOk (n:Str) (x:Nat×List Rec):Bool:=!Sp.starred (aI x) && !x.2.any (notP (if aI x == n then 2 else 1))
def rightCut (rs:List Rec) (n:Str):Bool:=(underRuns n rs).all (cutOk n)
namespace Ze
open Ka Kd Rf Rg Ia Iow Ie Zb Zc Za
theorem all_step {p:Nat×List Rec→Bool} {l:List (Nat×List Rec)} {i:Nat} {x:Nat×List Rec} (h:l[i]? = some x):(l.drop i).all p=(p x && (l.drop (i+1)).all p):=by
 obtain ⟨hi,rfl⟩:=List.getElem?_eq_some_iff.1 h
 rw [List.drop_eq_getElem_cons hi,List.all_cons]
theorem other_any (r:Rec) (k:Int) (bk:Nat) (W:World) (hc:W.cell? ⟨bk,0,none⟩=some (.int .i64 k)) (hb:bk<W.heap.size) :
  Calls Tryz.prog 183 #[.agg #[.string (B r.owner),.int .i64 r.ttl,.int .i64 r.type,.string (B r.data)],.pointer (some ⟨bk,0,none⟩)] W fun e w'=>e=.returned (.bool (notP k r))∧Below W.heap.size W w':=by
 go_enter Tryz.func183,Tryz.ntmps183
 go_wp2
 go_ret
 exact ⟨rfl,(Below.refl _ _).alloc (Nat.le_refl _) _⟩
theorem otherPred (k:Int) (bk:Nat) (w:World) (hc:w.cell? ⟨bk,0,none⟩=some (.int .i64 k)) (hb:bk<w.heap.size) :
  PredBelow Tryz.prog 183 #[.pointer (some ⟨bk,0,none⟩)] (fun x=>.agg (Rec.enc x).toArray) (notP k) w:=by
 intro W r hB
 refine (other_any r k bk W ((hB.cell (p:=⟨bk,0,none⟩) hb).trans hc) (Nat.lt_of_lt_of_le hb hB.size)).mono ?_
 rintro e w' ⟨rfl,hb'⟩
 exact ⟨rfl,hB.trans (hb'.mono hB.size)⟩
theorem containsOther (k:Int) (bk b off cap:Nat) (rs:List Rec) (w:World) (hc:w.cell? ⟨bk,0,none⟩=some (.int .i64 k)) (hb:bk<w.heap.size) (hr:bE w b off rs) (hl:rs.length≤3001) :
  Calls Tryz.prog 171 #[.slice (some ⟨b,off,none⟩) rs.length cap,.func (.func 183) #[] #[.pointer (some ⟨bk,0,none⟩)]] w fun e w' =>
   e=.returned (.bool (rs.any (notP k)))∧Below w.heap.size w w':=by
 have:=AnyQ.slices_ContainsFunc Tryz.lContainsFunc 4 Tryz.isAgg47 Tryz.sizeOf47 Rec.enc (fun _=>rfl) (notP k) 183 #[.pointer (some ⟨bk,0,none⟩)] (enters_of Tryz.func183 (by kernel_rfl) rfl) b off rs.length cap rs w (otherPred k bk w hc hb) (Nat.le_refl _) (by omega) hr.1 hr.2
 rw [List.take_length] at this
 exact this
theorem cut_step {n:Str} {rs:List Rec} {i:Nat} {x:Nat×List Rec} (kk:Int) (h:Hid (rightCut rs n=(cutOk n x && ((underRuns n rs).drop (i+1)).all (cutOk n)))) (hs:Sp.starred (aI x)=false) (ho:(if aI x == n then (2:Int) else 1)=kk) :
  (x.2.any (notP kk)=false→((underRuns n rs).drop (i+1)).all (cutOk n)=rightCut rs n)∧(x.2.any (notP kk)=true→rightCut rs n=false):=by
 have h':=aU h
 have hc:cutOk n x = !x.2.any (notP kk):=by
  unfold cutOk
  rw [hs,ho]; rfl
 rw [hc] at h'
 refine ⟨fun e=>?_,fun e=>?_⟩
 ·rw [h',e]; rfl
 ·rw [h',e]; rfl
theorem isRightCut_any (b off cap:Nat) (n:Str) (rs:List Rec) (w:World) (hr:bE w b off rs) (hcap:rs.length≤cap) (hlen:rs.length≤3001) (hn:n.length≤3000) (ho : ∀ r∈rs,r.owner.length≤3000) :
  Calls Tryz.prog 111 #[.string (B n),.slice (some ⟨b,off,none⟩) rs.length cap] w fun e w'=>e=.returned (.bool (rightCut rs n))∧Below w.heap.size w w':=by
 refine (callsIn_wide (n:=0)).1 ?_
 refine callsIn_of_wp_marks Tryz.func111 rfl trivial ?_
 simp only [Tryz.ntmps111,List.size_toArray,List.length_cons,List.length_nil,Nat.reduceAdd,Nat.reduceSub,Array.replicate_succ,Array.replicate_zero,List.push_toArray,List.append_toArray,List.nil_append,List.cons_append]
 have HR:=aH hr
 have HO:=aH ho
 have hb:=hr.1
 clear hr ho
 gi_wp2_with fail
 refine ⟨trivial,rfl,?_⟩
 refine (callsIn_wide.2 (under_o _ _ _ _ _)).mono ?_
 rintro e W2 ⟨rfl,e4,hb2,e2,e3⟩
 have e0:It.Box W2 w.heap.size (.string (B n)) 9:=((It.Box.new _ _ _).alloc _).below hb2 (by simp <;> omega)
 have e1:It.Box W2 (w.heap.size+1) (.bool false) 4:=by
  have:=(It.Box.new (w.alloc (.cells #[.string (B n)] 9)) (.bool false) 4).below hb2 (by simp <;> omega)
  rwa [World.size_alloc] at this
 have e5:Below w.heap.size w W2:=(((Below.refl _ _).alloc (Nat.le_refl _) _).alloc (by simp) _).trans (hb2.mono (by simp <;> omega))
 simp only [World.size_alloc] at e4 e2 e3
 gi_wp2_with fail
 have hr2:=aH ((aU HR).below e5)
 have hgrow : ∀ r,Below W2.heap.size W2 ((W2.alloc (.deferred (some []))).alloc (.loop r)):=fun r=>((Below.refl _ _).alloc (Nat.le_refl _) _).alloc (by simp) _
 have hgsz : ∀ r,((W2.alloc (.deferred (some []))).alloc (.loop r)).heap.size=W2.heap.size+2:=fun r=>by simp
 refine It.rangeB (xs:=underRuns n rs) (encs:=fun x:Nat×List Rec=>#[.string (B (aI x)),.slice (some ⟨b,off+x.1*4,none⟩) x.2.length x.2.length]) (St:=fun A B=>Below (W2.heap.size+2) A B) (Kp:=fun A B=>(B.heap[b]? = A.heap[b]?∧B.heap[w.heap.size+1+1+1]? = A.heap[w.heap.size+1+1+1]?)∧It.Above (W2.heap.size+2) A B) (Kx:=fun A B=>It.Above (W2.heap.size+2) A B)
  (gf:=235) (lb:=#[.pointer (some ⟨w.heap.size+1+1,0,none⟩),.pointer (some ⟨w.heap.size+1+1+1,0,none⟩)]) rfl (enters_of Tryz.func235 (by kernel_rfl) rfl) (fun _=>rfl) ?seq
  [b,w.heap.size+1+1+1] (by simp; omega) (fun _ _ _ h=>h) (fun A B h h'=>⟨⟨h _ (by simp),h _ (by simp)⟩,h'⟩) (fun _ _ h=>h)
  (fun i W=>((underRuns n rs).drop i).all (cutOk n)=rightCut rs n∧Below w.heap.size w W∧It.Box W w.heap.size (.string (B n)) 9∧It.Box W (w.heap.size+1) (.bool false) 4)
  (fun c W=>c=.ret∧rightCut rs n=false∧Below w.heap.size w W∧It.Box W (w.heap.size+1) (.bool false) 4)
  (fun i A B h hb=>⟨h.1,h.2.1.trans (hb.mono (by omega)),h.2.2.1.below hb (by omega),h.2.2.2.below hb (by omega)⟩)
  (fun c A B h hb=>⟨h.1,h.2.1,h.2.2.1.trans (hb.mono (by omega)),h.2.2.2.below hb (by omega)⟩)
  ⟨rfl,e5,e0,e1⟩
  ?round ?done ?stop
 case seq =>
  intro r
  have hg:=hgrow r
  have:=under_seq b off cap (w.heap.size+1+1) (w.heap.size+1+1+1) n rs ((W2.alloc (.deferred (some []))).alloc (.loop r)) ((aU hr2).below hg) hcap ((hg.cell (p:=⟨w.heap.size+1+1,0,none⟩) (by show w.heap.size+1+1<W2.heap.size; omega)).trans e2) ((hg.cell (p:=⟨w.heap.size+1+1+1,0,none⟩) (by show w.heap.size+1+1+1<W2.heap.size; omega)).trans e3) (by have:=hg.size; omega) (by have:=hg.size; omega) hlen hn (aU HO)
  rw [hgsz r] at this
  exact this
 case round =>
  intro l' i x V W hx hI hsz
  gi_wp2_with fail
  refine ⟨trivial,?_⟩
  obtain ⟨hf,hB,hn',hc⟩:=hI
  have cn:=hn'.cell
  have hmem:x∈runs aG rs:=(List.mem_filter.1 (List.mem_of_getElem? hx)).1
  have hP:=bE.piece ((aU HR).below hB) hmem
  have hrl:=runs_len hmem
  have hst:=all_step (p:=cutOk n) hx
  rw [hf] at hst
  have HS:=aH hst
  have HNB:=aH hn'
  have HCB:=aH hc
  have HP:=aH hP
  have hBB:((B (aI x)).toList == (B n).toList)=(aI x == n):=B_inj
  have hnlt:=hn'.lt
  have hclt:=hc.lt
  clear hf hst hn' hc hmem hP
  have hcs:=fun W'=>starred_any (B (aI x)) W'
  have HCS:Hid (∀ W',Calls Tryz.prog 124 #[.string (B (aI x))] W' fun e w'=>e=.returned (.bool (Sp.starred (aI x)))∧w'=W'):=hcs
  clear hcs
  -- what follows a tested owner,at a world that only has more
  have HFIN : ∀ (kk:Int) (W3 W4:World),Below W.heap.size W W3→Below W3.heap.size W3 W4→Sp.starred (aI x)=false→(if aI x == n then (2:Int) else 1)=kk →
    Hid ((x.2.any (notP kk)=false→It.Above W2.heap.size W W4∧(∀ k∈[b,w.heap.size+1+1+1],W4.heap[k]? = W.heap[k]?)∧(((underRuns n rs).drop (i+1)).all (cutOk n)=rightCut rs n∧Below w.heap.size w W4∧It.Box W4 w.heap.size (.string (B n)) 9∧It.Box W4 (w.heap.size+1) (.bool false) 4)) ∧
     (x.2.any (notP kk)=true→It.Above W2.heap.size W (W4.setCell ⟨w.heap.size+1,0,none⟩ (.bool false))∧rightCut rs n=false∧Below w.heap.size w (W4.setCell ⟨w.heap.size+1,0,none⟩ (.bool false))∧It.Box (W4.setCell ⟨w.heap.size+1,0,none⟩ (.bool false)) (w.heap.size+1) (.bool false) 4)):=by
   intro kk W3 W4 h3 h4 hsd ho
   have hs:=cut_step kk HS hsd ho
   have h34:=h3.trans (h4.mono h3.size)
   have s34:=h34.size
   refine ⟨fun e=>⟨It.Above.of_grown h34,fun k hk=>h34.block k (by simp at hk; omega),hs.1 e,hB.trans (h34.mono hB.size),(aU HNB).below h34 hnlt,(aU HCB).below h34 hclt⟩,fun e=>⟨(It.Above.of_grown h34).trans (It.Above.setCell W4 _ _ (by omega)),hs.2 e,(hB.trans (h34.mono hB.size)).setCell (by show w.heap.size≤w.heap.size+1; omega) _,((aU HCB).below h34 hclt).set _⟩⟩
  cases hsd:Sp.starred (aI x)
  ·cases ho:aI x == n
   ·rw [ho] at hBB
    gi_wp2_with fail
    refine ⟨trivial,rfl,?_⟩
    refine (CallsIn.inRound l' (callsIn_wide.2 (aU HCS _))).mono ?_
    rintro e W3 ⟨rfl,hW3⟩
    have h3:Below W.heap.size W W3:=by rw [hW3]; exact (Below.refl _ _).alloc (Nat.le_refl _) _
    have c3:W3.cell? ⟨W.heap.size,0,none⟩=some (.int .i64 1):=by rw [hW3]; go_simp
    have l3:W.heap.size<W3.heap.size:=by rw [hW3]; simp
    clear hW3
    have HC4:=aH (containsOther 1 W.heap.size b (off+x.1*4) x.2.length x.2 W3 c3 l3 ((aU HP).below h3) (by omega))
    gi_wp2_with fail
    refine ⟨trivial,rfl,?_⟩
    refine (CallsIn.inRound l' (callsIn_wide.2 (aU HC4))).mono ?_
    rintro e W4 ⟨rfl,hb4⟩
    have HE:=HFIN 1 W3 W4 h3 hb4 hsd (by rw [ho]; rfl)
    have b4:=(((aU HCB).below h3 hclt).below hb4 (Nat.lt_of_lt_of_le hclt h3.size))
    have cb4:=b4.cell
    have cf4:=b4.frozen
    clear HFIN b4
    cases hm:x.2.any (notP 1)
    ·gi_wp2_with fail
     exact (aU HE).1 hm
    ·gi_wp2_with fail
     obtain ⟨r1,r2⟩:=(aU HE).2 hm
     exact ⟨r1,rfl,r2⟩
   ·rw [ho] at hBB
    gi_wp2_with fail
    refine ⟨trivial,rfl,?_⟩
    refine (CallsIn.inRound l' (callsIn_wide.2 (aU HCS _))).mono ?_
    rintro e W3 ⟨rfl,hW3⟩
    have h3:Below W.heap.size W W3:=by rw [hW3]; exact (Below.refl _ _).alloc (Nat.le_refl _) _
    have c3:W3.cell? ⟨W.heap.size,0,none⟩=some (.int .i64 2):=by rw [hW3]; go_simp
    have l3:W.heap.size<W3.heap.size:=by rw [hW3]; simp
    clear hW3
    have HC4:=aH (containsOther 2 W.heap.size b (off+x.1*4) x.2.length x.2 W3 c3 l3 ((aU HP).below h3) (by omega))
    gi_wp2_with fail
    refine ⟨trivial,rfl,?_⟩
    refine (CallsIn.inRound l' (callsIn_wide.2 (aU HC4))).mono ?_
    rintro e W4 ⟨rfl,hb4⟩
    have HE:=HFIN 2 W3 W4 h3 hb4 hsd (by rw [ho]; rfl)
    have b4:=(((aU HCB).below h3 hclt).below hb4 (Nat.lt_of_lt_of_le hclt h3.size))
    have cb4:=b4.cell
    have cf4:=b4.frozen
    clear HFIN b4
    cases hm:x.2.any (notP 2)
    ·gi_wp2_with fail
     exact (aU HE).1 hm
    ·gi_wp2_with fail
     obtain ⟨r1,r2⟩:=(aU HE).2 hm
     exact ⟨r1,rfl,r2⟩
  ·have HF:Hid (rightCut rs n=false):=by
    rw [Hid,aU HS,cutOk,hsd]; rfl
   clear HFIN
   cases ho:aI x == n
   all_goals
    rw [ho] at hBB
    gi_wp2_with fail
    refine ⟨trivial,rfl,?_⟩
    refine (CallsIn.inRound l' (callsIn_wide.2 (aU HCS _))).mono ?_
    rintro e W3 ⟨rfl,hW3⟩
    have h3:Below W.heap.size W W3:=by
     rw [hW3]
     first
     | exact (Below.refl _ _).alloc (Nat.le_refl _) _
     | exact ((Below.refl _ _).alloc (Nat.le_refl _) _).setCell (p:=⟨W.heap.size,0,none⟩) (Nat.le_refl W.heap.size) _
    clear hW3
    have b4:=(aU HCB).below h3 hclt
    have cb4:=b4.cell
    have cf4:=b4.frozen
    have B4:=aH b4
    clear b4
    have s3:=h3.size
    gi_wp2_with fail
    refine ⟨trivial,?_⟩
    gi_wp2_with fail
    exact ⟨(It.Above.of_grown h3).trans (It.Above.setCell W3 _ _ (by omega)),rfl,aU HF,(hB.trans (h3.mono hB.size)).setCell (by show w.heap.size≤w.heap.size+1; omega) _,(aU B4).set _⟩
 case done =>
  intro W hI hdef hsz
  obtain ⟨hf,hB,hn',hc⟩:=hI
  have cb:=hc.cell
  have cf:=hc.frozen
  have HF:Hid (rightCut rs n=true):=by
   rw [Hid,← hf,List.drop_of_length_le (Nat.le_refl _)]; rfl
  clear hf
  gi_wp2_with fail
  have hd':=(Below.heap_setCell W ⟨w.heap.size+1,0,none⟩ (.bool true) W2.heap.size (by show W2.heap.size≠w.heap.size+1; omega)).trans hdef
  refine ⟨by simp,.inl ⟨_,_,rfl,run_takeDeferred hd',?_⟩⟩
  have cr:=((hc.set (.bool true)).put (d:=W2.heap.size) (o:=.deferred none) (by omega)).cell
  refine ⟨.bool true,by simp [results,Tryz.results111,go_sem,cr],by rw [aU HF],?_⟩
  exact (hB.setCell (by show w.heap.size≤w.heap.size+1; omega) _).trans (belowK_b (w:=W2) (by omega) _ _ _ _ (Nat.le_refl _) hd' rfl rfl)
 case stop =>
  intro c W hI hdef hsz
  obtain ⟨rfl,hof,hB,hc⟩:=hI
  have HF:=aH hof
  clear hof
  have cb:=hc.cell
  gi_wp2_with fail
  refine ⟨by simp,.inl ⟨_,_,rfl,run_takeDeferred hdef,?_⟩⟩
  have cr:=(hc.put (d:=W2.heap.size) (o:=.deferred none) (by omega)).cell
  have hB':=hB.trans (belowK_b (w:=W2) (show w.heap.size≤W2.heap.size by omega) W _ _ (.deferred none) (Nat.le_refl _) hdef rfl rfl)
  exact ⟨.bool false,by simp [results,Tryz.results111,go_sem,cr],by rw [aU HF],hB'⟩
end Ze
end Go.Proofs.YtkkpahmoljiepaaGreatDoor
