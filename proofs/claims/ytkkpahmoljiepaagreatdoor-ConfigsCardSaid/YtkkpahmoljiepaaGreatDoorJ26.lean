/- What stands in the memory behind a machine's work: the numbers and texts that its card reads. -/
import Derived.Test.YtkkpahmoljiepaaGreatDoorJ24
import Derived.Test.YtkkpahmoljiepaaGreatDoorJ25
import Derived.BigQuiet
import Derived.Deep.RegionHeld
import Derived.Test.YtkkpahmoljiepaaGreatDoorJ06
set_option linter.unusedSimpArgs false
set_option linter.unusedVariables false
set_option maxRecDepth 1000000
set_option maxHeartbeats 12800000
namespace Go.Proofs.YtkkpahmoljiepaaGreatDoor
open Go.RowKit
open Pu (Str aH aU)
namespace Ni
open Qg Qh Qr Qw Nc
--BEGIN
section
variable (bs:Str) (rav sav o:Nat) (id:Nat→Nat) (ans:Nat→Str)
theorem nxB_rd (av i p l:Nat) (h1:p+l≤132+2*(av%8)∨134+2*(av%8)≤p) (h2:p+l≤130∨132≤p):rdN (nxB bs 0 av i) p l=rdN bs p l:=by
 unfold nxB; rw [aR _ _ _ _ _ _ (by omega),aR _ _ _ _ _ _ (by omega)]
theorem snB_get' (av j i:Nat) (s:Str) (h0:i<13312+1536*j∨13312+1536*j+12+s.length≤i) (h1:i<520+16*j∨524+16*j≤i) (h2:i<644+2*(av%8)∨646+2*(av%8)≤i) (h3:i<642∨644≤i):(snB bs 512 13312 av j s)[i]? = bs[i]?:=by
 unfold snB; rw [wrN_get _ _ _ _ _ (by omega),wrN_get _ _ _ _ _ (by omega),wrN_get _ _ _ _ _ (by omega),wrS_get _ _ _ _ _ (by omega),wrN_get _ _ _ _ _ (by omega)]
theorem snB_rd (av j p l:Nat) (s:Str) (h0:p+l≤13312) (h1:p+l≤520+16*j∨524+16*j≤p) (h2:p+l≤644+2*(av%8)∨646+2*(av%8)≤p) (h3:p+l≤642∨644≤p):rdN (snB bs 512 13312 av j s) p l=rdN bs p l :=
 rdN_congr l fun i a b=>snB_get' bs av j i s (by omega) (by omega) (by omega) (by omega)
theorem bsK_642 (hl:bs.length=25600) (h:rdN bs 642 2=sav) (k:Nat) (hk:sav+k<65536) (ha : ∀ j,j<k→(ans j).length≤1524):rdN (bsK bs rav sav o id ans k) 642 2=sav+sk o k:=by
 induction k with
 | zero=>simpa [bsK,sk] using h
 | succ k ih =>
  have ih:=ih (by omega) (fun j hj=>ha j (by omega))
  rw [bsK]; split
  ·rename_i hf
   unfold snB
   rw [rdN_wrN _ _ _ _ (by rw [aT,aT,wrS_len,aT,nxB_len,bsK_len,hl]; omega)]
   unfold sk; omega
  ·rw [nxB_rd _ _ _ _ _ (by omega) (by omega),ih]; unfold sk; omega
theorem bsK_desc (j:Nat) (hj:j<8) (k:Nat) (ha : ∀ j,j<k→(ans j).length≤1524):rdN (bsK bs rav sav o id ans k) (512+16*j) 8=rdN bs (512+16*j) 8:=by
 induction k with
 | zero=>rfl
 | succ k ih =>
  have ih:=ih (fun j hj=>ha j (by omega))
  rw [bsK]; split
  ·rw [snB_rd _ _ _ _ _ _ (by omega) (by omega) (by omega) (by omega),nxB_rd _ _ _ _ _ (by omega) (by omega),ih]
  ·rw [nxB_rd _ _ _ _ _ (by omega) (by omega),ih]
theorem bsK_sent (hl:bs.length=25600) (k:Nat) (hk:k≤8) (ha : ∀ j,j<k→(ans j).length≤1524) : ∀ q,q<sk o k→rdN (bsK bs rav sav o id ans k) (644+2*((sav+q)%8)) 2=o+q∧rdN (bsK bs rav sav o id ans k) (512+16*(o+q)+8) 4=12+(ans q).length∧LiesB (bsK bs rav sav o id ans k) (13312+1536*(o+q)+12) (ans q):=by
 induction k with
 | zero=>intro q hq; unfold sk at hq; omega
 | succ k ih =>
  have ih:=ih (by omega) (fun j hj=>ha j (by omega))
  intro q hq
  have hak:=ha k (by omega)
  rw [bsK]; split
  ·rename_i hf
   by_cases hqk:q=k
   ·subst hqk
    have hln:(nxB (bsK bs rav sav o id ans q) 0 (rav+q) (id q)).length=25600:=by rw [nxB_len,bsK_len,hl]
    refine ⟨?_,?_,?_⟩
    ·unfold snB
     rw [aR _ _ _ _ _ _ (by omega),show 512+(132+2*((sav+q)%8))=644+2*((sav+q)%8) by omega,rdN_wrN _ _ _ _ (by rw [aT,wrS_len,aT,hln]; omega)]
     omega
    ·unfold snB
     rw [aR _ _ _ _ _ _ (by omega),aR _ _ _ _ _ _ (by omega),show 512+(16*(o+q)+8)=512+16*(o+q)+8 by omega,rdN_wrN _ _ _ _ (by rw [wrS_len,aT,hln]; omega)]
     omega
    ·unfold snB
     refine lies_congr (lies_wrS (wrN (nxB (bsK bs rav sav o id ans q) 0 (rav+q) (id q)) (13312+1536*(o+q)) 0 12) (13312+1536*(o+q)+12) (ans q) (by rw [aT,hln]; omega)) fun i h1 h2=>?_
     rw [wrN_get _ _ _ _ _ (by omega),wrN_get _ _ _ _ _ (by omega),wrN_get _ _ _ _ _ (by omega)]
   ·have hqs:q<sk o k:=by unfold sk at hq ⊢; omega
    have hqk2:q<k:=by unfold sk at hq; omega
    obtain ⟨i1,i2,i3⟩:=ih q hqs
    have haq:=ha q (by omega)
    refine ⟨?_,?_,?_⟩
    ·rw [snB_rd _ _ _ _ _ _ (by omega) (by omega) (by omega) (by omega),nxB_rd _ _ _ _ _ (by omega) (by omega),i1]
    ·rw [snB_rd _ _ _ _ _ _ (by omega) (by omega) (by omega) (by omega),nxB_rd _ _ _ _ _ (by omega) (by omega),i2]
    ·refine lies_congr i3 fun i h1 h2=>?_
     rw [snB_get' _ _ _ _ _ (by omega) (by omega) (by omega) (by omega),nxB_get _ _ _ _ (by omega)]
  ·have hqs:q<sk o k:=by unfold sk at hq ⊢; omega
   obtain ⟨i1,i2,i3⟩:=ih q hqs
   have hoq:o+q<8:=by unfold sk at hqs; omega
   refine ⟨?_,?_,?_⟩
   ·rw [nxB_rd _ _ _ _ _ (by omega) (by omega),i1]
   ·rw [nxB_rd _ _ _ _ _ (by omega) (by omega),i2]
   ·refine lies_congr i3 fun i h1 h2=>?_
    rw [nxB_get _ _ _ _ (by omega)]
end
--END
end Ni
namespace Nj
open Qg Qh Qr Qw Nc Ni
--BEGIN
def cdB (bs:Str) (n:Nat) (f:Str):Str:=wrN (wrN (wrN (wrS bs (1024+1536*(n%8)+12) f f.length) (260+8*(n%8)) (n%8) 4) (264+8*(n%8)) (12+f.length) 4) 258 (n+1) 2
def cdK (bs:Str) (n:Nat) (fr:Nat→Str):Nat→Str
 | 0=>bs
 | j+1=>cdB (cdK bs n fr j) (n+j) (fr j)
section
variable (bs:Str) (n:Nat) (fr:Nat→Str)
theorem cdB_len (f:Str):(cdB bs n f).length=bs.length:=by unfold cdB; rw [aT,aT,aT,wrS_len]
theorem cdK_len (j:Nat):(cdK bs n fr j).length=bs.length:=by
 induction j with
 | zero=>rfl
 | succ j ih=>rw [cdK,cdB_len,ih]
theorem cdB_get (f:Str) (i:Nat) (h0:i<1024+1536*(n%8)+12∨1024+1536*(n%8)+12+f.length≤i) (h1:i<260+8*(n%8)∨268+8*(n%8)≤i) (h2:i<258∨260≤i):(cdB bs n f)[i]? = bs[i]?:=by
 unfold cdB; rw [wrN_get _ _ _ _ _ (by omega),wrN_get _ _ _ _ _ (by omega),wrN_get _ _ _ _ _ (by omega),wrS_get _ _ _ _ _ (by omega)]
theorem cdK_get (j i:Nat) (hf : ∀ q,q<j→(fr q).length≤1524) (h:i<258∨(324≤i∧i<1024)∨13312≤i):(cdK bs n fr j)[i]? = bs[i]?:=by
 induction j with
 | zero=>rfl
 | succ j ih =>
  have hj:=hf j (by omega)
  rw [cdK,cdB_get _ _ _ _ (by omega) (by omega) (by omega),ih (fun q hq=>hf q (by omega))]
theorem cdK_rd (j p l:Nat) (hf : ∀ q,q<j→(fr q).length≤1524) (h:p+l≤258∨(324≤p∧p+l≤1024)∨13312≤p):rdN (cdK bs n fr j) p l=rdN bs p l :=
 rdN_congr l fun i h1 h2=>cdK_get bs n fr j i hf (by omega)
theorem cdK_258 (hl:bs.length=25600) (h:rdN bs 258 2=n) (j:Nat) (hn:n+j<65536):rdN (cdK bs n fr j) 258 2=n+j:=by
 cases j with
 | zero=>exact h
 | succ j =>
  rw [cdK,cdB,rdN_wrN _ _ _ _ (by rw [aT,aT,wrS_len,cdK_len,hl]; omega)]; omega
theorem cdK_in (hl:bs.length=25600) (j:Nat) (hj:j≤8) (hf : ∀ q,q<j→(fr q).length≤1524) : ∀ q,q<j→rdN (cdK bs n fr j) (260+8*((n+q)%8)) 4=(n+q)%8∧rdN (cdK bs n fr j) (260+8*((n+q)%8)+4) 4=12+(fr q).length∧LiesB (cdK bs n fr j) (1024+1536*((n+q)%8)+12) (fr q):=by
 induction j with
 | zero=>intro q hq; omega
 | succ j ih =>
  have ih:=ih (by omega) (fun q hq=>hf q (by omega))
  intro q hq
  have hfj:=hf j (by omega)
  have hfq:=hf q hq
  have hln:(cdK bs n fr j).length=25600:=by rw [cdK_len,hl]
  by_cases hqj:q=j
  ·subst hqj
   refine ⟨?_,?_,?_⟩
   ·rw [cdK,cdB,aR _ _ _ _ _ _ (by omega),aR _ _ _ _ _ _ (by omega),rdN_wrN _ _ _ _ (by rw [wrS_len,hln]; omega)]; omega
   ·rw [cdK,cdB,aR _ _ _ _ _ _ (by omega),show 260+8*((n+q)%8)+4=264+8*((n+q)%8) by omega,rdN_wrN _ _ _ _ (by rw [aT,wrS_len,hln]; omega)]; omega
   ·rw [cdK,cdB]
    refine lies_congr (lies_wrS (cdK bs n fr q) (1024+1536*((n+q)%8)+12) (fr q) (by rw [hln]; omega)) fun i h1 h2=>?_
    rw [wrN_get _ _ _ _ _ (by omega),wrN_get _ _ _ _ _ (by omega),wrN_get _ _ _ _ _ (by omega)]
  ·obtain ⟨i1,i2,i3⟩:=ih q (by omega)
   refine ⟨?_,?_,?_⟩
   ·rw [cdK,rdN_congr (b:=cdK bs n fr j) 4 (fun i h1 h2=>cdB_get _ _ _ _ (by omega) (by omega) (by omega)),i1]
   ·rw [cdK,rdN_congr (b:=cdK bs n fr j) 4 (fun i h1 h2=>cdB_get _ _ _ _ (by omega) (by omega) (by omega)),i2]
   ·rw [cdK]; exact lies_congr i3 fun i h1 h2=>cdB_get _ _ _ _ (by omega) (by omega) (by omega)
end
end Nj
def CardAt (w:World) (cb mb a b c d:Nat):Prop:=aB w cb [.pointer (some ⟨mb,0,none⟩),.int .i64 a,.int .i64 b,.int .i64 c,.int .i64 d] 90
namespace Bm
open Ka Wa Wb Wc Wd We Wf Wg Wh Wi Wj Wk Wl Wm Ha Hb Hc Re Lg Qa Qb Qc Qd Qe Qf Qg Qh Qr Qs Nj Bl
section
variable {w:World} {cb mb a b c d:Nat} (h:CardAt w cb mb a b c d)
include h
theorem c0:w.cell? ⟨cb,0,none⟩=some (.pointer (some ⟨mb,0,none⟩)):=aB.cell h 0 (by simp)
theorem c1:w.cell? ⟨cb,1,none⟩=some (.int .i64 a):=aB.cell h 1 (by simp)
theorem c2:w.cell? ⟨cb,2,none⟩=some (.int .i64 b):=aB.cell h 2 (by simp)
theorem c3:w.cell? ⟨cb,3,none⟩=some (.int .i64 c):=aB.cell h 3 (by simp)
theorem c4:w.cell? ⟨cb,4,none⟩=some (.int .i64 d):=aB.cell h 4 (by simp)
theorem s1 (n:Nat):CardAt (w.setCell ⟨cb,1,none⟩ (.int .i64 n)) cb mb n b c d:=aB.set h 1 (.int .i64 n)
theorem s2 (n:Nat):CardAt (w.setCell ⟨cb,2,none⟩ (.int .i64 n)) cb mb a n c d:=aB.set h 2 (.int .i64 n)
theorem s3 (n:Nat):CardAt (w.setCell ⟨cb,3,none⟩ (.int .i64 n)) cb mb a b n d:=aB.set h 3 (.int .i64 n)
theorem s4 (n:Nat):CardAt (w.setCell ⟨cb,4,none⟩ (.int .i64 n)) cb mb a b c n:=aB.set h 4 (.int .i64 n)
theorem keep {w':World} (hb:w'.heap[cb]? = w.heap[cb]?):CardAt w' cb mb a b c d:=hb.trans h
end
structure MC (w:World) (cb mb bb base:Nat) (bs:Str) (wild:Bool) (cnt st a b c d:Nat):Prop where
 m:Mem w mb bb base bs wild cnt st
 c:CardAt w cb mb a b c d
 n1:cb≠mb
 n2:cb≠bb
section
variable {w w':World} {cb mb bb base:Nat} {bs bs':Str} {wild:Bool} {cnt st a b c d a' b' c' d':Nat} (h:MC w cb mb bb base bs wild cnt st a b c d)
include h
theorem MC.row (hm:Mem w' mb bb base bs' wild cnt st) (hk:It.Keeps bb w w'):MC w' cb mb bb base bs' wild cnt st a b c d:=⟨hm,keep h.c (hk.block cb (aB.lt h.c) h.n2),h.n1,h.n2⟩
theorem MC.set (o:Nat) (v:Value) (hc:CardAt (w.setCell ⟨cb,o,none⟩ v) cb mb a' b' c' d'):MC (w.setCell ⟨cb,o,none⟩ v) cb mb bb base bs wild cnt st a' b' c' d' :=
 ⟨Qk.mem_keep h.m cb _ _ h.c (by decide) (by decide) h.n1 h.n2 (fun i _ hne=>Below.heap_setCell _ _ _ _ hne),hc,h.n1,h.n2⟩
theorem MC.drew:MC w.drew cb mb bb base bs wild cnt st a b c d:=⟨h.m,h.c,h.n1,h.n2⟩
end
theorem fr_row {w w':World} {cb bb:Nat} (hk:It.Keeps bb w w'):Fr (fun i=>i≠cb∧i≠bb) w w':=⟨hk.os,hk.tape,hk.output,hk.size,fun i hi hp=>hk.block i hi hp.2⟩
theorem deliver_one (cb mb bb base:Nat) (f bs:Str) (wild:Bool) (cnt st:Nat) (w:World) (h:MC w cb mb bb base bs wild cnt st 0 0 0 0) (hl:bs.length=25600) (h130:rdN bs 130 2=8) (h132:rdN bs 132 2=0) (h0:rdN bs 0 8=1024) (hf:f.length≤1524) :
  Calls Tryz.prog 49 #[.pointer (some ⟨cb,0,none⟩),.string (B f),.int .i64 0] w fun e w'=>e=.returned (.bool true)∧MC w' cb mb bb base (cdB bs 0 f) wild cnt st 1 1 0 0∧Fr (fun i=>i≠cb∧i≠bb) w w':=by
 have HCD:Hid (cdB bs 0 f=wrN (wrN (wrN (wrS bs 1036 f f.length) 260 0 4) 264 (12+f.length) 4) 258 1 2):=rfl
 have H:=aH h
 have d0:=c0 h.c
 have d1:w.cell? ⟨cb,1,none⟩=some (.int .i64 0):=c1 h.c
 have G130:Hid (Calls Tryz.prog 93 #[.pointer (some ⟨mb,0,none⟩),.int .i64 130,.int .i64 2] w fun e w'=>e=.returned (.int .i64 8)∧w'=w):=by
  have:=get_any mb bb 130 2 bs w (mem_seen h.m) (by omega) (by omega) (by rw [h130]; omega)
  rw [h130] at this; exact this
 have G132:Hid (∀ n,Calls Tryz.prog 93 #[.pointer (some ⟨mb,0,none⟩),.int .i64 132,.int .i64 2] (w.drewN n) fun e w'=>e=.returned (.int .i64 0)∧w'=w.drewN n):=fun n=>by
  have:=get_any mb bb 132 2 bs (w.drewN n) (mem_seen (w:=w.drewN n) h.m) (by omega) (by omega) (by rw [h132]; omega)
  rw [h132] at this; exact this
 have HMN:Hid (∀ n,MC (w.drewN n) cb mb bb base bs wild cnt st 0 0 0 0∧Fr (fun i=>i≠cb∧i≠bb) w (w.drewN n)):=fun n=>⟨⟨h.m,h.c,h.n1,h.n2⟩,⟨rfl,rfl,rfl,Nat.le_refl _,fun _ _ _=>rfl⟩⟩
 obtain ⟨n,hn⟩ : ∃ n,n=f.length:=⟨_,rfl⟩
 have hs:(B f).size=n:=by rw [hn]; exact size_B f
 have HN:=aH hn
 have hnI:(n:Int)≤1524:=by omega
 have j12 : ¬ (1536:Int)<(n:Int)+12:=by omega
 obtain ⟨q,hq⟩ : ∃ q,q=1024:=⟨_,rfl⟩
 have GA:Hid (∀ W a b c d,MC W cb mb bb base bs wild cnt st a b c d→Calls Tryz.prog 93 #[.pointer (some ⟨mb,0,none⟩),.int .i64 0,.int .i64 8] W fun e w'=>e=.returned (.int .i64 q)∧w'=W):=fun W a b c d hW=>by
  have:=get_any mb bb 0 8 bs W (mem_seen hW.m) (by omega) (by omega) (by rw [h0]; omega)
  rw [h0] at this; rw [hq]; exact this
 have jq0 : ¬ (q:Int)<0:=by omega
 have jq1 : ¬ (24064:Int)<(q:Int):=by omega
 have HQ:=aH hq
 have HL:=aH hl
 clear h h130 h132 hl h0 hf hn hq
 go_enter Tryz.func49,Tryz.ntmps49
 go_wp2_with fail
 refine (aU G130).mono ?_
 rintro e w ⟨rfl,rfl⟩
 go_wp2_with fail
 go_quiet (first | (go_at_call 93; exact Calls.quiet_of_same (aU G132 _)))
 have h1:=(aU HMN nq).1
 have HF1:=aH (aU HMN nq).2
 generalize w.drewN nq=w1 at *
 have h2:=MC.set h1 1 (.int .i64 1) (s1 h1.c 1)
 have GA2:=aH (aU GA _ _ _ _ _ h2)
 have H2:=aH h2
 have e0:=c0 h1.c
 have e1:w1.cell? ⟨cb,1,none⟩=some (.int .i64 0):=c1 h1.c
 have e2:=c0 h2.c
 have hz1:=aB.frozen h1.c
 have HF2:Hid (Fr (fun i=>i≠cb∧i≠bb) w (w1.setCell ⟨cb,1,none⟩ (.int .i64 1))):=(aU HF1).trans (Fr.of_set _ fun i h=>h.1)
 clear HMN G130 G132 GA h1 h2 d0 d1 HF1
 go_wp2_with fail
 refine (aU GA2).mono ?_
 rintro e w2 ⟨rfl,rfl⟩
 generalize w1.setCell ⟨cb,1,none⟩ (.int .i64 1)=w2 at *
 clear GA2 e0 e1 hz1
 go_wp2_with fail
 go_loopw [10] (fun i wr=>∃ k:Nat,i=.int .i64 k∧k≤n∧MC wr cb mb bb base (wrS bs 1036 f k) wild cnt st 1 0 0 0∧Fr (fun i=>i≠cb∧i≠bb) w wr) (fun i _=>n - (intOf i).toNat)
 case atStart=>exact ⟨0,rfl,Nat.zero_le _,aU H2,aU HF2⟩
 case round =>
  obtain ⟨k,rfl,hk,hm,hF⟩:=hrel
  by_cases hlk:k<n
  ·have hfk:k<f.length:=by have:=aU HN; omega
   obtain ⟨c,hc⟩ : ∃ c:UInt8,f[k]=c:=⟨_,rfl⟩
   have g1 : ∀ h:k<(B f).size,(B f)[k]=c:=fun h=>hc
   obtain ⟨q12,hq12⟩ : ∃ x,x=q+12:=⟨_,rfl⟩
   obtain ⟨pk,hpk⟩ : ∃ x,x=q12+k:=⟨_,rfl⟩
   have hq:=aU HQ
   have x1:IntKind.i64.wrap ((q:Int)+12)=(q12:Int):=by rw [IntKind.wrap_i64]; omega
   have x2:IntKind.i64.wrap ((q12:Int)+(k:Int))=(pk:Int):=by rw [IntKind.wrap_i64]; omega
   have hs':=mem_seen hm.m
   have b0:=hs'.1
   have a0:=c0 hm.c
   have hpl:pk<(wrS bs 1036 f k).length:=by rw [hs'.2.1]; omega
   obtain ⟨v0,hv0⟩ : ∃ v0,wr.cell? ⟨bb,pk,none⟩=some v0:=⟨_,hs'.2.2.cell pk (by simpa using hpl)⟩
   have hfz:=hs'.2.2.frozen
   have HWN:Hid ((wrS bs 1036 f k).set pk c=wrS bs 1036 f (k+1)):=by
    rw [Hid,wrS,hpk,hq12,hq,List.getElem?_eq_getElem hfk,hc]; rfl
   have hR2:RowB (wr.drew.setCell ⟨bb,pk,none⟩ (.int .u8 c.toNat)) bb (wrS bs 1036 f (k+1)):=by rw [← aU HWN]; exact RowB.set hs'.2 pk c
   have hK2:It.Keeps bb wr (wr.drew.setCell ⟨bb,pk,none⟩ (.int .u8 c.toNat)):=Keeps_set (It.Keeps.of_below (Below.refl _ _).drew) _ _
   have HM2:=aH (MC.row hm (mem_row hm.m hR2 hK2) hK2)
   have HF3:Hid (Fr (fun i=>i≠cb∧i≠bb) w (wr.drew.setCell ⟨bb,pk,none⟩ (.int .u8 c.toNat))):=hF.trans (fr_row hK2)
   have hn':pk<25600:=by omega
   have hklI:(k:Int)<(n:Int):=by omega
   have HLK:=aH hlk
   clear hm hF hs' hpk hq12 hc hpl hR2 hK2 HWN hq hfk jq0 jq1 j12 hk
   go_wp2_with fail
   go_region
   all_goals
    go_wp2_with fail
    exact ⟨⟨k+1,by go_num,by have:=aU HLK; omega,aU HM2,aU HF3⟩,by have:=aU HLK; simp [intOf]; omega⟩
  ·have hkl:k=n:=by omega
   subst hkl
   rw [aU HN] at hm
   obtain ⟨n12,hn12⟩ : ∃ x,x=12+k:=⟨_,rfl⟩
   have en12:(12:Int)+(k:Int)=(n12:Int):=by omega
   have hn12b:(n12:Int)≤1600:=by omega
   obtain ⟨X,hX⟩ : ∃ X,X=wrS bs 1036 f f.length:=⟨_,rfl⟩
   rw [← hX] at hm
   have HE:Hid (cdB bs 0 f=wrN (wrN (wrN X 260 0 4) 264 n12 4) 258 1 2):=by rw [Hid,aU HCD,hX,hn12,aU HN]
   have P1:Hid (Calls Tryz.prog 46 #[.pointer (some ⟨mb,0,none⟩),.int .i64 260,.int .i64 4,.int .i64 0] wr _):=put_any mb bb base 260 4 0 wild cnt st X wr hm.m (by omega) (by omega) (by omega)
   have a0:=c0 hm.c
   have a2:wr.cell? ⟨cb,2,none⟩=some (.int .i64 0):=c2 hm.c
   have HM3:=aH hm
   have HF3:=aH hF
   have hklI : ¬ (k:Int)<(k:Int):=by omega
   clear hm hF hX hn12 hk hlk jq0 jq1 j12 H2 HF2 e2
   go_wp2_with fail
   refine (aU P1).mono ?_
   rintro e w3 ⟨rfl,hm3,hk3,_⟩
   have hM3:=MC.row (aU HM3) hm3 hk3
   have P2:Hid (Calls Tryz.prog 46 #[.pointer (some ⟨mb,0,none⟩),.int .i64 264,.int .i64 4,.int .i64 n12] w3 _):=put_any mb bb base 264 4 n12 wild cnt st _ w3 hm3 (by omega) (by omega) (by omega)
   have b0:=c0 hM3.c
   have HM4:=aH hM3
   have HF4:=aH ((aU HF3).trans (fr_row hk3))
   clear hM3 hm3 hk3 HM3 HF3 P1 a0 a2
   go_wp2_with fail
   refine (aU P2).mono ?_
   rintro e w4 ⟨rfl,hm4,hk4,_⟩
   have hM4:=MC.row (aU HM4) hm4 hk4
   have HF5:=aH ((aU HF4).trans (fr_row hk4))
   have f0:=c0 hM4.c
   have f2:w4.cell? ⟨cb,2,none⟩=some (.int .i64 0):=c2 hM4.c
   have hz4:=aB.frozen hM4.c
   have hM5:=MC.set hM4 2 (.int .i64 1) (s2 hM4.c 1)
   have HF6:Hid (Fr (fun i=>i≠cb∧i≠bb) w (w4.setCell ⟨cb,2,none⟩ (.int .i64 1))):=(aU HF5).trans (Fr.of_set _ fun i h=>h.1)
   have P3:Hid (Calls Tryz.prog 46 #[.pointer (some ⟨mb,0,none⟩),.int .i64 258,.int .i64 2,.int .i64 1] (w4.setCell ⟨cb,2,none⟩ (.int .i64 1)).drew _):=put_any mb bb base 258 2 1 wild cnt st _ _ (MC.drew hM5).m (by omega) (by omega) (by omega)
   have g0:(w4.setCell ⟨cb,2,none⟩ (.int .i64 1)).drew.cell? ⟨cb,0,none⟩=some (.pointer (some ⟨mb,0,none⟩))∧(w4.setCell ⟨cb,2,none⟩ (.int .i64 1)).drew.cell? ⟨cb,2,none⟩=some (.int .i64 1):=⟨c0 hM5.c,c2 hM5.c⟩
   have HM6:=aH (MC.drew hM5)
   clear hm4 hk4 hM4 HM4 HF4 P2 b0 hM5 HF5
   go_wp2_with fail
   go_region_held (fun w'=>w'.cell? ⟨cb,0,none⟩=some (.pointer (some ⟨mb,0,none⟩))∧w'.cell? ⟨cb,2,none⟩=some (.int .i64 1)) (first | assumption | go_keep)
    (first | (go_at_call 46; go_loud (refine (aU P3).mono ?_; rintro e w5 ⟨rfl,hm5,hk5,_⟩; have hM7:=MC.row (aU HM6) hm5 hk5; have hc7:w5.cell? ⟨cb,0,none⟩=some (.pointer (some ⟨mb,0,none⟩))∧w5.cell? ⟨cb,2,none⟩=some (.int .i64 1):=⟨c0 hM7.c,c2 hM7.c⟩)))
   all_goals
    rw [← aU HE] at hM7
    have HM7:=aH hM7
    have HF7:=aH (((aU HF6).trans (Fr.of_below (Below.refl _ _).drew)).trans (fr_row hk5))
    clear hM7 hm5 hk5 hc7
    go_wp2_with fail
    go_ret
    exact ⟨rfl,aU HM7,aU HF7⟩
end Bm
namespace Bn
open Ka Wa Wb Wc Wd We Wf Wg Wh Wi Wj Wk Wl Wm Ha Hb Hc Re Lg Qa Qb Qc Qd Qe Qf Qg Qh Qr Qs Nj Bl Bm
theorem conv_at {w:World} {bb p cp:Nat} {bs s:Str} (h:RowB w bb bs) (hs:LiesB bs p s) (hp:p+s.length≤bs.length) (hpos:0<p):(convert 58 9 (.slice (some ⟨bb,p,none⟩) s.length cp)).run Tryz.prog w=.ok (.string (B s)) w:=by
 refine run_convert_bytes_back (P:=Tryz.prog) w 58 9 5 ⟨bb,p,none⟩ cp s Tryz.underlying58 Tryz.underlying5 Tryz.underlying9 fun j hj=>?_
 have e:(⟨bb,p,none⟩:Addr).add j=⟨bb,p+j,none⟩:=by unfold Addr.add; by_cases h:j=0 <;> simp [h]
 rw [e]
 have hl:p+j<bs.length:=by omega
 have:=h.2.cell (p+j) (by simpa using hl)
 rw [this,List.getElem_map]
 have h2:=hs j hj
 rw [List.getElem?_eq_getElem hl,List.getElem?_eq_getElem hj,Option.some.injEq] at h2
 rw [h2]
theorem own1 {w:World} {b0:Nat} {v:Value} {s:ByteArray} (ho:w.ownsRow b0 9 1 v 1 [.string s]) : ∃ g cap,v=.slice (some ⟨g,0,none⟩) 1 cap∧b0≤g∧w.cell? ⟨g,0,none⟩=some (.string s):=by
 obtain ⟨hl,⟨_,h0⟩ | ⟨g,cap,cur,rfl,hb,hcur,hn,hm,hs,ht⟩⟩:=ho
 ·simp at h0
 ·refine ⟨g,cap,rfl,hb,?_⟩
  have e2:cur.toList[0]? = [Value.string s][0]?:=by
   rw [← ht,List.getElem?_take,if_pos (by omega)]
  simp only [World.cell?,hcur]
  rw [← Array.getElem?_toList,e2]
  rfl
section
variable {w w':World} {cb mb bb base:Nat} {bs:Str} {wild:Bool} {cnt st a b c d:Nat} (h:MC w cb mb bb base bs wild cnt st a b c d)
include h
theorem MC.below (hb:Below w.heap.size w w'):MC w' cb mb bb base bs wild cnt st a b c d:=⟨Qm.mem_below h.m hb,keep h.c (hb.block cb (aB.lt h.c)),h.n1,h.n2⟩
theorem getC (p size v:Nat) (hv:rdN bs p size=v) (hvb:v<4611686018427387904) (hsz:size≤8) (hp:p+size≤25600):Calls Tryz.prog 93 #[.pointer (some ⟨mb,0,none⟩),.int .i64 p,.int .i64 size] w fun e w'=>e=.returned (.int .i64 v)∧w'=w:=by
 have:=get_any mb bb p size bs w (mem_seen h.m) hsz hp (by rw [hv]; exact hvb)
 rw [hv] at this; exact this
end
theorem back_one (cb mb bb base a b:Nat) (s X:Str) (wild:Bool) (cnt st:Nat) (w:World) (h:MC w cb mb bb base X wild cnt st a b 0 0) (hl:X.length=25600) (h642:rdN X 642 2=1) (h644:rdN X 644 2=0) (h512:rdN X 512 8=13312) (h520:rdN X 520 4=54) (hs:s.length=42) (hlie:LiesB X 13324 s) :
  Calls Tryz.prog 48 #[.pointer (some ⟨cb,0,none⟩),.int .i64 8] w fun e w'=>∃ g cap,e=.returned (.slice (some ⟨g,0,none⟩) 1 cap)∧w'.cell? ⟨g,0,none⟩=some (.string (B s))∧Fr (fun i=>i≠cb∧i≠bb) w w':=by
 obtain ⟨i0,hi0,hz0,hz1,hz2⟩:=info_parts infoS
 have H:=aH h
 have d0:=c0 h.c
 have d3:w.cell? ⟨cb,3,none⟩=some (.int .i64 0):=c3 h.c
 have G642:Hid (Calls Tryz.prog 93 #[.pointer (some ⟨mb,0,none⟩),.int .i64 642,.int .i64 2] w fun e w'=>e=.returned (.int .i64 1)∧w'=w):=getC h 642 2 1 h642 (by omega) (by omega) (by omega)
 have HMN:Hid (∀ n,MC (w.drewN n) cb mb bb base X wild cnt st a b 0 0∧Fr (fun i=>i≠cb∧i≠bb) w (w.drewN n)):=fun n=>⟨⟨h.m,h.c,h.n1,h.n2⟩,⟨rfl,rfl,rfl,Nat.le_refl _,fun _ _ _=>rfl⟩⟩
 have G644:Hid (∀ n,Calls Tryz.prog 93 #[.pointer (some ⟨mb,0,none⟩),.int .i64 644,.int .i64 2] (w.drewN n) fun e w'=>e=.returned (.int .i64 0)∧w'=w.drewN n):=fun n=>getC (aU HMN n).1 644 2 0 h644 (by omega) (by omega) (by omega)
 have HX:=aH (show X.length=25600∧rdN X 642 2=1∧rdN X 512 8=13312∧rdN X 520 4=54∧s.length=42∧LiesB X 13324 s from ⟨hl,h642,h512,h520,hs,hlie⟩)
 clear h hl h642 h644 h512 h520 hs hlie
 go_enter Tryz.func48,Tryz.ntmps48
 go_wp2_with fail
 refine wp_loop_rounds 2 ?_
 rw [rounds_succ]
 go_wp2_with fail
 refine (aU G642).mono ?_
 rintro e w ⟨rfl,rfl⟩
 go_wp2_with fail
 go_quiet (first | (go_at_call 93; exact Calls.quiet_of_same (aU G644 _)))
 have h1:=(aU HMN nq).1
 have HF1:=aH (aU HMN nq).2
 generalize w.drewN nq=w1 at *
 have h2:=MC.set h1 3 (.int .i64 1) (s3 h1.c 1)
 have e0:=c0 h1.c
 have e3:w1.cell? ⟨cb,3,none⟩=some (.int .i64 0):=c3 h1.c
 have hz1:=aB.frozen h1.c
 have e2:=c0 h2.c
 have GA:Hid (Calls Tryz.prog 93 #[.pointer (some ⟨mb,0,none⟩),.int .i64 512,.int .i64 8] (w1.setCell ⟨cb,3,none⟩ (.int .i64 1)) _):=getC h2 512 8 13312 (aU HX).2.2.1 (by omega) (by omega) (by omega)
 have GS:Hid (Calls Tryz.prog 93 #[.pointer (some ⟨mb,0,none⟩),.int .i64 520,.int .i64 4] (w1.setCell ⟨cb,3,none⟩ (.int .i64 1)) _):=getC h2 520 4 54 (aU HX).2.2.2.1 (by omega) (by omega) (by omega)
 have H2:=aH h2
 have HF2:Hid (Fr (fun i=>i≠cb∧i≠bb) w (w1.setCell ⟨cb,3,none⟩ (.int .i64 1))):=(aU HF1).trans (Fr.of_set _ fun i h=>h.1)
 clear HMN G642 G644 h1 h2 d0 d3 HF1
 go_wp2_with fail
 refine (aU GA).mono ?_
 rintro e w2 ⟨rfl,rfl⟩
 generalize w1.setCell ⟨cb,3,none⟩ (.int .i64 1)=w2 at *
 clear GA e0 e3 hz1
 go_wp2_with fail
 refine (aU GS).mono ?_
 rintro e w2 ⟨rfl,rfl⟩
 have hsn:=mem_seen (aU H2).m
 have m0:=hsn.1
 have kc:(convert 58 9 (.slice (some ⟨bb,13324,none⟩) 42 12276)).run Tryz.prog w2=.ok (.string (B s)) w2:=by
  have:=conv_at (cp:=12276) hsn.2 (aU HX).2.2.2.2.2 (by rw [(aU HX).2.2.2.2.1,(aU HX).1]; omega) (by omega)
  rwa [(aU HX).2.2.2.2.1] at this
 clear GS hsn
 go_wp2_with (at_builtin; go_loud (refine wpList_append_own_at _ rfl (.tmp 88) (.tmp 103) 49 rfl w2.heap.size 9 i0 (.string ⟨#[]⟩) 1 16 underS hi0 hz0 hz1 hz2 rfl (by decide) _ 0 [] rfl ⟨rfl,.inl ⟨rfl,rfl⟩⟩ ⟨w2.heap.size,0,none⟩ 1 1 [.string (B s)] rfl rfl ?c1 ?c2 ?c3 ?c4 ?c5 ?_))
 case c1 =>
  intro j u hj
  match j,hj with
  | 0,hj=>simp at hj; subst hj; simp [Addr.add]
  | n+1,hj=>simp at hj
 case c2=>intro u hu; simp at hu; subst hu; rfl
 case c3=>unfold maxLen; omega
 case c4=>simp
 case c5=>simp
 intro v' w3 hown' hgrow _ hat
 obtain ⟨g,cap,rfl,hgb,hgc⟩:=own1 hown'
 have hB3:Below w2.heap.size w2 w3:=⟨hgrow.os,hgrow.tape,hgrow.output,Nat.le_trans (by simp) hgrow.size,fun i hi=>(hgrow.block i (by simp; omega) (by simp [Value.ownBlock])).trans (Below.heap_alloc _ _ _ hi)⟩
 have hM3:=Bn.MC.below (aU H2) hB3
 have hgn:g≠cb∧g≠bb:=⟨by have:=aB.lt (aU H2).c; omega,by have:=(Qm.mem_lt (aU H2).m).2; omega⟩
 have HF3:Hid (Fr (fun i=>i≠cb∧i≠bb) w w3):=(aU HF2).trans (Fr.of_below hB3)
 have HKG:Hid (∀ W W':World,W.cell? ⟨g,0,none⟩=some (.string (B s))→Fr (fun i=>i≠cb∧i≠bb) W W'→W'.cell? ⟨g,0,none⟩=some (.string (B s))):=fun W W' h1 h2=>(World.cell?_of_block (h2.block g (World.block_lt_of_cell? W ⟨g,0,none⟩ h1) hgn)).trans h1
 have P1:Hid (Calls Tryz.prog 46 #[.pointer (some ⟨mb,0,none⟩),.int .i64 772,.int .i64 4,.int .i64 0] w3 _):=put_any mb bb base 772 4 0 wild cnt st X w3 hM3.m (by omega) (by omega) (by omega)
 have a0:=c0 hM3.c
 have a4:w3.cell? ⟨cb,4,none⟩=some (.int .i64 0):=c4 hM3.c
 have HM3:=aH hM3
 have HG3:=aH hgc
 clear hown' hgrow hat hB3 hM3 hgc hgb H2 HF2 m0 kc e2 hi0 hz0 hz1 hz2
 go_wp2_with fail
 refine (aU P1).mono ?_
 rintro e w4 ⟨rfl,hm4,hk4,_⟩
 have hM4:=MC.row (aU HM3) hm4 hk4
 have HF4:=aH ((aU HF3).trans (fr_row hk4))
 have HG4:=aH (aU HKG _ _ (aU HG3) (fr_row hk4))
 have P2:Hid (Calls Tryz.prog 46 #[.pointer (some ⟨mb,0,none⟩),.int .i64 776,.int .i64 4,.int .i64 0] w4 _):=put_any mb bb base 776 4 0 wild cnt st _ w4 hM4.m (by omega) (by omega) (by omega)
 have b0:=c0 hM4.c
 have HM4:=aH hM4
 clear hm4 hk4 hM4 HM3 HF3 HG3 P1 a0 a4
 go_wp2_with fail
 refine (aU P2).mono ?_
 rintro e w5 ⟨rfl,hm5,hk5,_⟩
 have hM5:=MC.row (aU HM4) hm5 hk5
 have HF5:=aH ((aU HF4).trans (fr_row hk5))
 have HG5:=aH (aU HKG _ _ (aU HG4) (fr_row hk5))
 have f0:=c0 hM5.c
 have f4:w5.cell? ⟨cb,4,none⟩=some (.int .i64 0):=c4 hM5.c
 have hz5:=aB.frozen hM5.c
 have hM6:=MC.set hM5 4 (.int .i64 1) (s4 hM5.c 1)
 have hF6:Fr (fun i=>i≠cb∧i≠bb) w5 (w5.setCell ⟨cb,4,none⟩ (.int .i64 1)).drew:=(Fr.of_set (p:=fun i=>i≠cb∧i≠bb) _ fun i h=>h.1).trans (Fr.of_below (Below.refl _ _).drew)
 have HF6:=aH ((aU HF5).trans hF6)
 have HG6:=aH (aU HKG _ _ (aU HG5) hF6)
 have P3:Hid (Calls Tryz.prog 46 #[.pointer (some ⟨mb,0,none⟩),.int .i64 770,.int .i64 2,.int .i64 1] (w5.setCell ⟨cb,4,none⟩ (.int .i64 1)).drew _):=put_any mb bb base 770 2 1 wild cnt st _ _ (MC.drew hM6).m (by omega) (by omega) (by omega)
 have g0:(w5.setCell ⟨cb,4,none⟩ (.int .i64 1)).drew.cell? ⟨cb,0,none⟩=some (.pointer (some ⟨mb,0,none⟩))∧(w5.setCell ⟨cb,4,none⟩ (.int .i64 1)).drew.cell? ⟨cb,4,none⟩=some (.int .i64 1):=⟨c0 hM6.c,c4 hM6.c⟩
 have HM6:=aH (MC.drew hM6)
 have H642:Hid (rdN (wrN (wrN (wrN X 772 0 4) 776 0 4) 770 1 2) 642 2=1):=by rw [Hid,aR _ _ _ _ _ _ (by omega),aR _ _ _ _ _ _ (by omega),aR _ _ _ _ _ _ (by omega),(aU HX).2.1]
 clear hm5 hk5 hM5 HM4 HF4 P2 b0 hM6 HF5 HG4 HG5 hF6 HX
 go_wp2_with fail
 go_region_held (fun w'=>w'.cell? ⟨cb,0,none⟩=some (.pointer (some ⟨mb,0,none⟩))∧w'.cell? ⟨cb,4,none⟩=some (.int .i64 1)) (first | assumption | go_keep)
  (first | (go_at_call 46; go_loud (refine (aU P3).mono ?_; rintro e w7 ⟨rfl,hm7,hk7,_⟩; have hM7:=MC.row (aU HM6) hm7 hk7; have hc7:w7.cell? ⟨cb,0,none⟩=some (.pointer (some ⟨mb,0,none⟩))∧w7.cell? ⟨cb,4,none⟩=some (.int .i64 1):=⟨c0 hM7.c,c4 hM7.c⟩)))
 all_goals
  have HF7:=aH ((aU HF6).trans (fr_row hk7))
  have HG7:=aH (aU HKG _ _ (aU HG6) (fr_row hk7))
  have G642:Hid (Calls Tryz.prog 93 #[.pointer (some ⟨mb,0,none⟩),.int .i64 642,.int .i64 2] w7 fun e w'=>e=.returned (.int .i64 1)∧w'=w7):=getC hM7 642 2 1 (aU H642) (by omega) (by omega) (by omega)
  have l0:=c0 hM7.c
  have l3:w7.cell? ⟨cb,3,none⟩=some (.int .i64 1):=c3 hM7.c
  clear hM7 hm7 hk7 hc7
  go_wp2_with fail
  rw [rounds_succ]
  go_wp2_with fail
  refine (aU G642).mono ?_
  rintro e w7 ⟨rfl,rfl⟩
  go_wp2_with fail
  go_ret
  exact ⟨g,cap,rfl,aU HG7,aU HF7⟩
end Bn
namespace Bi
open Ka Wa Wb Wc Wd We Wf Wg Wh Wi Wj Wk Wl Wm Ha Hb Hc He Hg
theorem station_any (b:Nat) (s:Str) (br:Bool) (w:World) (h:RdAt w b s br) (hl:s.length≤1000000000) {m s1 i s2:Str} {b1 b2:Bool} (e1:takP s br 6=(m,s1,b1)) (e2:takP s1 b1 4=(i,s2,b2)) :
  Calls Tryz.prog 255 #[.pointer (some ⟨b,0,none⟩)] w fun e w'=>e=.returned (.agg #[.string (B m),.string (B i)])∧RdAt w' b s2 b2∧It.Keeps b w w':=by
 have l1:=takP_len s br 6
 rw [e1] at l1
 simp only at l1
 have hbl:=h.lt
 have hne:w.heap.size≠b:=by omega
 have hr0:RdAt (w.alloc (.cells #[.string ⟨#[]⟩,.string ⟨#[]⟩] 62)) b s br:=(Below.heap_alloc _ _ _ hbl).trans h
 have HZ0:Hid (aB (w.alloc (.cells #[.string ⟨#[]⟩,.string ⟨#[]⟩] 62)) w.heap.size [.string ⟨#[]⟩,.string ⟨#[]⟩] 62):=aB.new w _ _
 have HC0:=aH (Wb.take_any b 6 s br _ hr0 (by omega) hl)
 rw [e1] at HC0
 have HE2:=aH e2
 have HK0:Hid (It.Keeps b w (w.alloc (.cells #[.string ⟨#[]⟩,.string ⟨#[]⟩] 62))):=⟨rfl,rfl,rfl,by simp,fun i hi _=>Below.heap_alloc _ _ _ hi⟩
 clear h hr0 e1 e2
 go_enter Tryz.func255,Tryz.ntmps255
 go_wp2_with fail
 refine (aU HC0).mono ?_
 rintro e w1 ⟨rfl,hr1,hk1,hs1⟩
 have HC1:=aH (Wb.take_any b 4 s1 b1 w1 hr1 (by omega) (by omega))
 rw [aU HE2] at HC1
 have HZ1:=aH ((aU HZ0).kept hk1 hne)
 have HK1:=aH (Keeps_trans (aU HK0) hk1)
 clear hr1 hk1 hs1 HC0 HZ0 HK0 HE2
 go_wp2_with fail
 refine (aU HC1).mono ?_
 rintro e w2 ⟨rfl,hr2,hk2,hs2⟩
 have hz2:=(aU HZ1).kept hk2 hne
 have hK2:=Keeps_trans (aU HK1) hk2
 have hz3:=(hz2.set 0 (.string (B m))).set 1 (.string (B i))
 simp only [List.set_cons_zero,List.set_cons_succ] at hz3
 have c0:=hz2.cell 0 (by simp)
 have c1:=hz2.cell 1 (by simp)
 have hf:=hz2.frozen
 have z0:=hz3.cell 0 (by simp)
 have z1:=hz3.cell 1 (by simp)
 simp only [List.getElem_cons_zero,List.getElem_cons_succ] at c0 c1 z0 z1
 have HR3:Hid (RdAt ((w2.setCell ⟨w.heap.size,0,none⟩ (.string (B m))).setCell ⟨w.heap.size,1,none⟩ (.string (B i))) b s2 b2):=((Below.heap_setCell _ _ _ _ (fun e=>hne e.symm)).trans (Below.heap_setCell _ _ _ _ (fun e=>hne e.symm))).trans hr2
 have HK3:Hid (It.Keeps b w ((w2.setCell ⟨w.heap.size,0,none⟩ (.string (B m))).setCell ⟨w.heap.size,1,none⟩ (.string (B i)))):=⟨hK2.os,hK2.tape,hK2.output,by simpa [World.setCell] using hK2.size,fun j hj hjb=>((Below.heap_setCell _ _ _ _ (by show j≠w.heap.size; omega)).trans (Below.heap_setCell _ _ _ _ (by show j≠w.heap.size; omega))).trans (hK2.block j hj hjb)⟩
 clear hr2 hk2 hs2 HC1 HZ1 HK1 hz2 hK2 hz3
 go_wp2
 refine bodyPost_ret (v:=.agg #[.string (B m),.string (B i)]) (by simp [results,Tryz.results255,go_sem,z0,z1]) rfl ⟨rfl,aU HR3,aU HK3⟩
def arpB (op:Nat) (m1 i1 m2 i2:Str):Str:=[0,1,8,0,6,4]++[hi op,lo op]++m1++i1++m2++i2
theorem arpBytes_any (op:Nat) (m1 i1 m2 i2:Str) (w:World) (ho:op<65536) (h1:m1.length≤1000) (h2:i1.length≤1000) (h3:m2.length≤1000) (h4:i2.length≤1000) :
  Calls Tryz.prog 208 #[.agg #[.int .i64 op,.string (B m1),.string (B i1),.string (B m2),.string (B i2)]] w fun e w'=>e=.returned (.string (B (arpB op m1 i1 m2 i2)))∧Below w.heap.size w w':=by
 have kw:IntKind.u16.wrap (op:Int)=(op:Int):=by rw [IntKind.wrap_u16]; omega
 have HS:Hid (∀ (gb:Nat) (W:World),gb=W.heap.size→Calls Tryz.prog 199 #[.slice (some ⟨gb,0,none⟩) 6 6] (W.alloc (.cells #[.iface 224 (.string ⟨#[0,1,8,0,6,4]⟩),.iface 284 (.int .u16 op),.iface 224 (.string (B m1)),.iface 224 (.string (B i1)),.iface 224 (.string (B m2)),.iface 224 (.string (B i2))] 297)) fun e w'=>e=.returned (.string (B (arpB op m1 i1 m2 i2)))∧Below gb W w'):=fun gb W hgb=>by
  subst hgb
  have:=written_new [fRaw [0,1,8,0,6,4],fShort op,fRaw m1,fRaw i1,fRaw m2,fRaw i2] W (okc (raw_ok _) (okc (short_ok op ho) (okc (raw_ok m1) (okc (raw_ok i1) (okc (raw_ok m2) (ok1 (raw_ok i2))))))) (by simp) (by simp [outs,fRaw,fShort]; omega)
  rw [show outs [fRaw [0,1,8,0,6,4],fShort op,fRaw m1,fRaw i1,fRaw m2,fRaw i2]=arpB op m1 i1 m2 i2 by simp [outs,fRaw,fShort,arpB]] at this
  exact this
 go_enter Tryz.func208,Tryz.ntmps208
 go_wp2_with fail
 refine (aU HS _ _ (by simp <;> omega)).mono ?_
 rintro e w1 ⟨rfl,hb1⟩
 have HB:=aH (((Below.refl w.heap.size w).alloc (Nat.le_refl _) _).trans (hb1.mono (by simp)))
 clear hb1
 go_wp2_with fail
 go_ret
 exact ⟨rfl,aU HB⟩
end Bi
end Go.Proofs.YtkkpahmoljiepaaGreatDoor
