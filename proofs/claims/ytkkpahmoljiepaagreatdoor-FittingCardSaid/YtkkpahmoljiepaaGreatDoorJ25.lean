/- Fitting: made, query, Reply with an OPT, at its zones. -/
import Derived.Test.YtkkpahmoljiepaaGreatDoorJ24
import Derived.Deep.CutRange
import Derived.Deep.RegionWith
import Derived.Test.YtkkpahmoljiepaaGreatDoorJ17
import Derived.Test.YtkkpahmoljiepaaGreatDoorJ23
import Derived.Deep.RegionHeld
import Derived.Test.YtkkpahmoljiepaaGreatDoorJ01
import Derived.WalkKit
import Derived.ProofKit
import Derived.OpenShut
import Derived.HandedShaped
import Derived.Lay
import Derived.Stop.Joined
import Derived.MakeChecks
import Derived.Shelf.Vars
set_option linter.unusedSimpArgs false
set_option linter.unusedVariables false
set_option maxRecDepth 1000000
set_option maxHeartbeats 12800000
namespace Go.Proofs.YtkkpahmoljiepaaGreatDoor
open Go.RowKit
open Pu (Str aH aU)
namespace Bc
open Ka Kd Rf Rg Ia Iow Ie Zb Zc Za La Lb Lc Lg Lj Wa Wb Wc Wd We Wf Wg Wh Wi Wj Wk Wl Wm Wn Wo Wp Wq Ws Wt Wu Wv Wx Wy Wz Xb Vb Vd Ma Mb Mc Md Me Mf Mg Mh Mi Mj Mk Ml Mm Mu Re Ba Bb
open Ta (zz headS)
open Ca (soaC)
section
variable {m n:Nat}
theorem made_f (hm:m≤40) (hn:n+1≤40) (w:World) (hg:G w) :
  Calls Tryz.prog 22 #[.string (B (lnsF m (n+1)))] w fun e' w'=>∃ zb g cap,e'=.returned (.pointer (some ⟨zb,0,none⟩))∧aN w' zb zz g 0 cap (recsF m (n+1))∧Below w.heap.size w w':=by
 have hss:(B (lnsF m (n+1))).size≤2080:=by rw [size_B]; have:=lns_len hm (n+1) hn; omega
 obtain ⟨s,hs⟩ : ∃ s,B (lnsF m (n+1))=s:=⟨_,rfl⟩
 have hd:s.data.toList=lnsF m (n+1):=by rw [← hs,data_B]
 rw [hs] at hss ⊢
 obtain ⟨hB,hhB⟩ : ∃ hB:ByteArray,hB=⟨headS.toArray⟩:=⟨_,rfl⟩
 have hhs:hB.size=49:=by rw [hhB]; rfl
 have e1:(hB++s).data.toList=headS++lnsF m (n+1):=by rw [hhB,← hd]; simp
 have e2:(hB++s++⟨#[10]⟩).data.toList=headS++lnsF m (n+1)++[10]:=by
  rw [show (hB++s++⟨#[10]⟩:ByteArray).data.toList=(hB++s).data.toList++[10] by simp,e1]
 obtain ⟨r1,r2⟩:=read_f (n:=n+1) hm hn
 obtain ⟨p1,p2⟩:=parse_f hm hn
 have HP1:=aH (Pb.parse_all (hB++s) w hg (by simp; omega) (by
  rw [e1,r1]
  rintro o rs ⟨⟩
  exact fit0_f hm hn))
 have HP2:=aH (fun W (hb:Below w.heap.size w W)=>Pb.parse_all (hB++s++⟨#[10]⟩) W (hg.below hb) (by have h1:(⟨#[10]⟩:ByteArray).size=1:=rfl; simp; omega) (by
  rw [e2,r2]
  rintro o rs ⟨⟩))
 rw [e1,p1] at HP1
 rw [e2,p2] at HP2
 clear e1 e2 hd hg hs r1 r2 p1 p2
 have hhd:(⟨#[111,114,105,103,105,110,32,122,122,10,122,122,32,53,48,32,83,79,65,32,97,46,122,122,32,98,46,122,122,32,57,32,52,48,10,122,122,32,53,48,32,78,83,32,97,46,122,122,10]⟩:ByteArray)=hB:=by rw [hhB]; rfl
 clear hhB
 go_enter Tryz.func22,Tryz.ntmps22
 go_wp2_with fail
 refine (aU HP1).mono ?_
 rintro e w1 ⟨⟨zb,g,cap,rfl,hzb,hgb,ht1⟩,hb1⟩
 have HT1:=aH ht1
 clear ht1
 go_wp2_with fail
 refine (aU HP2 w1 hb1).mono ?_
 rintro e w2 ⟨he,hb2⟩
 obtain rfl:e=.returned (.tuple #[.pointer none,.int .i64 1]):=he
 go_wp2_with fail
 go_ret
 exact ⟨zb,g,cap,rfl,(aU HT1).below hb2,hb1.trans (hb2.mono hb1.size)⟩
def asksO (i:Nat) (q:Str) (t:Nat):Str:=[hi i,lo i,1,0,0,1,0,0,0,0,0,1]++q++[0,0,41,hi t,lo t,0,0,0,0,0,0]
theorem query_opt (i t:Nat) (q:Str) (w:World) (hi':i<65536) (ht:t<65536) (hq:q.length≤1000) :
  Calls Tryz.prog 31 #[.int .i64 i,.string (B q),.int .i64 t] w fun e w'=>e=.returned (.string (B (asksO i q t)))∧Below w.heap.size w w':=by
 have sq:(B q).size=q.length:=size_B q
 have h0:(0:Int)≤(t:Int):=by omega
 have h0' : ¬ (t:Int)<0:=by omega
 have HT:=aH (fun W=>two_any i W hi')
 have HS:=aH (fun W=>two_any t W ht)
 have H1:Hid (∀ W,Calls Tryz.prog 33 #[.int .i64 1] W fun e w'=>e=.returned (.string ⟨#[0,1]⟩)∧Below W.heap.size W w'):=fun W=>two_any 1 W (by omega)
 go_enter Tryz.func31,Tryz.ntmps31
 go_wp2_with fail
 refine (aU HS _).mono ?_
 rintro e w2 ⟨rfl,hb2⟩
 have su:(B [hi t,lo t]).size=2:=rfl
 go_wp2_with fail
 refine (aU HT _).mono ?_
 rintro e w3 ⟨rfl,hb3⟩
 have hB3:=hb2.trans (hb3.mono hb2.size)
 have st:(B [hi i,lo i]).size=2:=rfl
 clear hb2 hb3
 go_wp2_with fail
 refine (aU H1 _).mono ?_
 rintro e w4 ⟨rfl,hb4⟩
 have hB4:=aH (hB3.trans (hb4.mono hB3.size))
 clear hB3 hb4
 go_wp2_with fail
 go_ret
 refine ⟨?_,aU hB4⟩
 exact congrArg (fun x=>Ending.returned (.string x)) (ba_ext (by simp [B,asksO]))
theorem hdr_asksO (t:Nat):hdrP (asksO 5 qF t)=([5,256,1,0,0,1],true):=by
 have:=hilo 5 (by omega)
 simp [hdrP,cntP,shortP,octP,asksO,this]
theorem query_F (t:Nat) (ht:t<65536) (W:World):Calls Tryz.prog 72 #[.agg #[.int .i64 (5:Nat),.int .i64 256,.int .i64 1,.int .i64 0,.int .i64 0,.int .i64 1],.string (B (asksO 5 qF t))] W fun e w'=>e=.returned (.tuple #[qVal (5:Nat) 256 1 0 0 1 qF nmF 16 1 true t 0,.bool true])∧Below W.heap.size W w':=by
 have hz:shortP [hi t,lo t,0,0,0,0,0,0] false=(t,[0,0,0,0,0,0],false):=by
  have:=hilo t ht
  simp [shortP,octP,this]
 have:=readQuery_opt (5:Nat) 256 (asksO 5 qF t) W (by simp [asksO,qF]) (by simp [asksO,qF]) (ls:=[[109],[122,122]]) (s1:=[0,16,0,1,0,0,41,hi t,lo t,0,0,0,0,0,0]) (s2:=[0,1,0,0,41,hi t,lo t,0,0,0,0,0,0]) (s3:=[0,0,41,hi t,lo t,0,0,0,0,0,0]) (br1:=false) (br2:=false) (br3:=false) (k':=16) (c':=1) rfl rfl rfl (x4:=0) (z:=t) (ve:=0) (nn:=0) (t1:=[0,41,hi t,lo t,0,0,0,0,0,0]) (t2:=[hi t,lo t,0,0,0,0,0,0]) (t3:=[0,0,0,0,0,0]) (t4:=[0,0,0,0,0]) (t5:=[0,0,0,0]) (t6:=[0,0]) (t7:=[]) (t8:=[]) (b1:=false) (b2:=false) (b3:=false) (b4:=false) (b5:=false) (b6:=false) (b7:=false) (b8:=false) rfl rfl hz rfl rfl rfl rfl rfl (by omega)
 rw [show nameP [[109],[122,122]]=nmF by kernel_rfl] at this
 exact this
def most (t:Nat):Nat:=max 512 (min t 1232)
theorem most_int (t:Nat):min (max (t:Int) 512) 1232=(most t:Int):=by unfold most; omega
theorem reply_o (hm:m≤40) (hn:n+1≤40) (zb g cap t:Nat) (ht:t<65536) (w:World) (hz:aN w zb zz g 0 cap (recsF m (n+1))) (hg:G w) :
  Calls Tryz.prog 27 #[.pointer (some ⟨zb,0,none⟩),.string (B (asksO 5 qF t))] w fun e w'=>(∃ R,e=.returned (.string (B R))∧RepOk R m (n+1) (most t) 11)∧Below w.heap.size w w':=by
 obtain ⟨s1,s2,s3⟩:=step_f m n
 have hs:=sum_le hm (n+1) hn
 have er:=recs_f m (List.replicate 12 0++qF) (n+1)
 have h22:(List.replicate 12 0++qF:Str).length=22:=rfl
 have hL:(optS 0).length=11:=rfl
 have hmo:most t≤1232∧512≤most t:=by unfold most; omega
 rw [h22] at er
 have hl0:=len0
 have hlim : ∀ W,Calls Tryz.prog 138 #[qVal (5:Nat) 256 1 0 0 1 qF nmF 16 1 true t 0] W fun e w'=>e=.returned (.int .i64 (most t:Int))∧Below W.heap.size W w':=fun W=>by
  have:=limit_opt (5:Nat) 256 1 0 0 1 qF nmF 16 1 t 0 W
  rw [most_int] at this
  exact this
 have main : ∀ R,RepOk R m (n+1) (most t) 11→(∀ W va vb,G W→RV W va (txF m (n+1))→RV W vb []→Calls Tryz.prog 73 #[qVal (5:Nat) 256 1 0 0 1 qF nmF 16 1 true t 0,.agg #[.int .i64 0,.bool true,va,vb,.slice none 0 0]] W fun e w'=>e=.returned (.string (B R))∧Below W.heap.size W w') →
   Calls Tryz.prog 27 #[.pointer (some ⟨zb,0,none⟩),.string (B (asksO 5 qF t))] w fun e w'=>(∃ R,e=.returned (.string (B R))∧RepOk R m (n+1) (most t) 11)∧Below w.heap.size w w':=fun R hR hrep=>by
  refine (Mt.reply_glue zb 5 1 t 0 16 true (asksO 5 qF t) qF nmF (txF m (n+1)) [] R w hg (by simp [asksO,qF]) ?_ (fun W=>query_F t ht W) ?_ hrep).mono ?_
  ·have:=readHeader_any (asksO 5 qF t) w (by simp [asksO,qF])
   rw [hdr_asksO t] at this
   exact this
  ·intro W hb
   have:=qanswer_opt zb g 0 cap 16 zz nmF qF (5:Nat) 256 1 0 0 1 t (recsF m (n+1)) W (hz.below hb) (hg.below hb) (plain_f hm hn) (by decide) (by decide) (by decide)
   rw [s1,s2,s3,cut_f] at this
   exact this
  ·rintro e w' ⟨rfl,hb⟩
   exact ⟨⟨R,rfl,hR⟩,hb⟩
 by_cases hfit:22+11+sumF m (n+1)≤most t
 ·refine main _ (rep_yes m (n+1) (most t) (optS 0) 1 (by rw [hL]; exact hfit)) ?_
  intro W va vb hG ha hb
  obtain ⟨ba,oa,La,Ra⟩:=rv_lies ha hG
  obtain ⟨bb,ob,Lb,Rb⟩:=rv_lies hb hG
  have:=reply_opt 5 34048 ba oa bb ob 256 1 0 0 1 16 0 qF nmF va vb (txF m (n+1)) [] dfF t 0 (most t) (optS 0) _ _ W hG La Ra (by rw [tx_len]; omega) Lb Rb (by simp) (by omega) (by omega) bitsF (by decide) (by decide)
   (fun r hr=>by
    obtain ⟨i,hi,rfl⟩:=tx_mem hr
    exact rr_f hm (by omega)) (fun r hr=>by cases hr) rfl rfl (fun W hG=>last_opt0 _ _ _ _ _ _ _ _ _ _ _ _ W hG) hlim (by rw [hL]; omega) (by omega) (by
    show ((((aC dfF (txF m (n+1)) (List.replicate 12 0++qF) P0).1.length+(optS 0).length:Nat)):Int)≤(most t:Int)
    rw [er.2,hL]; omega) (by
    show (aC dfF (txF m (n+1)) (List.replicate 12 0++qF) P0).2.length≤700
    rw [er.1]; omega)
  refine this.mono ?_
  rintro e w' ⟨rfl,h⟩
  refine ⟨?_,h⟩
  rw [tx_len]; rfl
 ·refine main _ (rep_no m (n+1) (most t) (optS 0) 1 (by rw [hL]; omega)) ?_
  intro W va vb hG ha hb
  obtain ⟨ba,oa,La,Ra⟩:=rv_lies ha hG
  obtain ⟨a,c,rfl⟩:=lies_slice La
  obtain ⟨bb,ob,Lb,Rb⟩:=rv_lies hb hG
  obtain ⟨a2,c2,rfl⟩:=lies_slice Lb
  rw [tx_len] at La ⊢
  exact reply_oa1 5 34048 34560 (n+1) 0 0 0 0 0 c c2 0 a a2 none 256 1 0 0 1 16 1 0 qF nmF t 0 (most t) (optS 0) (List.replicate 12 0++qF,plcs 12 nmF) W hG (by omega) (by omega) (by omega) 1 rfl (by omega) (by omega) bitsF (by decide) (by decide) (by omega) bitsT (by omega) (fill_f hm hn ba oa c c2 (most t) a a2 (optS 0) W hG La Ra (by rw [hL]; omega)) (fun W hG=>last_opt0 _ _ _ _ _ _ _ _ _ _ _ _ W hG) hlim (by rw [hL]; omega) (by omega) (by omega) (by decide) (by decide)
end
end Bc
namespace Cc
open Ka Kc Ta Ca Cb Vb Lc Lj Ln Lo
end Cc
namespace Cd
open Ka Kc Ta Ca Cb Cc Vb Lc Lj Ln Lo
theorem pick_nat (c:Int) (m:Nat) (hm:0<m) : ∃ k:Nat,Pu.pick c m=k∧k<m:=by
 have h:0≤Pu.pick c m∧Pu.pick c m<m:=by
  unfold Pu.pick
  split
  ·exact ⟨Int.emod_nonneg _ (by omega),Int.emod_lt_of_pos _ (by omega)⟩
  ·exact ⟨Int.emod_nonneg _ (by omega),Int.emod_lt_of_pos _ (by omega)⟩
 exact ⟨(Pu.pick c m).toNat,by omega,by omega⟩
end Cd
namespace Ha
end Ha
namespace Hb
open Ka Kc Wa Wb Wc Wd We Wf Wg Wh Wi Wj Wk Wl Wm Ha Re
theorem at_any (s:Str) (i:Nat) (w:World) (h:i+1<s.length) (hl:s.length≤1000000) :
  Calls Tryz.prog 34 #[.string (B s),.int .i64 i] w fun e w'=>e=.returned (.int .i64 ((256*s[i].toNat+s[i+1].toNat:Nat):Int))∧Below w.heap.size w w':=by
 have hs:(B s).size=s.length:=size_B s
 obtain ⟨j,hj⟩ : ∃ j,j=i+1:=⟨_,rfl⟩
 have kj:(i:Int)+1=(j:Int):=by omega
 have hi':i<s.length:=by omega
 have hj':j<s.length:=by omega
 have g1 : ∀ h:i<(B s).size,(B s)[i]=s[i]:=fun h=>rfl
 have g2 : ∀ h:j<(B s).size,(B s)[j]=s[j]:=fun h=>rfl
 have c1:=UInt8.toNat_lt s[i]
 have c2:=UInt8.toNat_lt s[j]
 have HG:Hid ((256:Int)*(s[i].toNat:Int)+(s[j].toNat:Int)=((256*s[i].toNat+s[i+1].toNat:Nat):Int)):=by subst hj; rw [Hid]; omega
 generalize ((256*s[i].toNat+s[i+1].toNat:Nat):Int)=R at *
 clear h hj
 go_enter Tryz.func34,Tryz.ntmps34
 go_wp2_with fail
 go_region
 all_goals
  go_wp2
  go_ret
  refine ⟨?_,(Below.refl _ _).drew⟩
  rw [← aU HG]; rfl
end Hb
section
variable {w w':World} {b d:Nat} {cs:List Value} {t:TypeId}
end
namespace Hc
open Ka Kc Wa Wb Wc Wd We Wf Wg Wh Wi Wj Wk Wl Wm Ha Hb Re
end Hc
namespace He
open Ka Kc Wa Wb Wc Wd We Wf Wg Wh Wi Wj Wk Wl Wm Ha Hb Hc Re
end He
namespace Hh
open Ka Kc Wa Wb Wc Wl Wm Ha He
open Xb (hilo)
end Hh
namespace Hk
open Ka Kc Kd Wa Wb Wd We Wi Wl Wm Vb Ha Hb He Hh
theorem B_part (s:Str) (i j:Nat):(B s).extract i j=B ((s.drop i).take (j - i)):=by
 apply ByteArray.ext
 simp [B,ByteArray.data_extract,List.extract_eq_take_drop]
end Hk
namespace Bd
open Ka Kc Ta Ca Cb Vb Vd Wa Wl Wv Lc Lj Ba Bb Bc
theorem wdB {m i:Nat} : (B (dg2 i)++⟨#[46,46,46,46,46,46,46,46,46,46,46,46,46,46,46,46,46,46,46,46,46,46,46,46,46,46,46,46,46,46,46,46,46,46,46,46,46,46,46,46,46,46,46,46,46,46,46,46,46,46,46,46,46,46,46]⟩:ByteArray).extract 0 (max m (dg2 i).length)=B (wdF m i):=by
 have e:(B (dg2 i)++⟨#[46,46,46,46,46,46,46,46,46,46,46,46,46,46,46,46,46,46,46,46,46,46,46,46,46,46,46,46,46,46,46,46,46,46,46,46,46,46,46,46,46,46,46,46,46,46,46,46,46,46,46,46,46,46,46]⟩:ByteArray)=B (dg2 i++List.replicate 55 46):=ba_ext (by simp [B,List.replicate])
 rw [e,Hk.B_part,List.drop_zero,Nat.sub_zero]; rfl
theorem at8 {R:Str} {a0 a1 a2 a3 a4 a5 a6 a7:UInt8} (h:R.take 8 = [a0,a1,a2,a3,a4,a5,a6,a7]) (h8:8≤R.length) (hl:R.length≤1000000) (W:World) :
  (Calls Tryz.prog 34 #[.string (B R),.int .i64 0] W fun e w'=>e=.returned (.int .i64 ((256*a0.toNat+a1.toNat:Nat):Int))∧Below W.heap.size W w') ∧
  (Calls Tryz.prog 34 #[.string (B R),.int .i64 2] W fun e w'=>e=.returned (.int .i64 ((256*a2.toNat+a3.toNat:Nat):Int))∧Below W.heap.size W w') ∧
  (Calls Tryz.prog 34 #[.string (B R),.int .i64 6] W fun e w'=>e=.returned (.int .i64 ((256*a6.toNat+a7.toNat:Nat):Int))∧Below W.heap.size W w'):=by
 have g : ∀ j (hj:j<8),R[j]'(by omega) = [a0,a1,a2,a3,a4,a5,a6,a7][j]:=fun j hj=>by
  have e:(R.take 8)[j]'(by rw [List.length_take]; omega)=R[j]'(by omega):=List.getElem_take
  rw [← e]
  simp only [h]
 have k0:=Hb.at_any R 0 W (by omega) hl
 have k2:=Hb.at_any R 2 W (by omega) hl
 have k6:=Hb.at_any R 6 W (by omega) hl
 rw [g 0 (by omega),g 1 (by omega)] at k0
 rw [g 2 (by omega),g 3 (by omega)] at k2
 rw [g 6 (by omega),g 7 (by omega)] at k6
 exact ⟨k0,k2,k6⟩
theorem fitting_any (count size told:Int) (w:World) (hg:G w) (h1 : -9223372036854775808≤count) (h2:count≤9223372036854775807) (h3 : -9223372036854775808≤size) (h4:size≤9223372036854775807) (h5 : -9223372036854775808≤told) (h6:told≤9223372036854775807) :
  Calls Tryz.prog 8 #[.int .i64 count,.int .i64 size,.int .i64 told] w fun e w'=>e=.returned (.bool true)∧Below w.heap.size w w':=by
 have HG:=aH hg
 clear hg
 obtain ⟨n,hn,hnl⟩:=Cd.pick_nat count 40 (by decide)
 obtain ⟨m0,hm,hml⟩:=Cd.pick_nat size 40 (by decide)
 obtain ⟨t0,ht,htl⟩:=Cd.pick_nat told 2000 (by decide)
 have HN:=aH (fun W=>pick_any count 40 W h1 h2 (by decide) (by decide))
 have HM:=aH (fun W=>pick_any size 40 W h3 h4 (by decide) (by decide))
 have HT:=aH (fun W=>pick_any told 2000 W h5 h6 (by decide) (by decide))
 have hn':Pu.pick count 40=n:=hn
 have hm':Pu.pick size 40=m0:=hm
 have ht':Pu.pick told 2000=t0:=ht
 rw [hn'] at HN
 rw [hm'] at HM
 rw [ht'] at HT
 have HD:Hid (∀ (k:Nat) W,k<100→Calls Tryz.prog 21 #[.int .i64 k] W fun e w'=>e=.returned (.string (B (dg2 k)))∧Below W.heap.size W w'):=fun k W hk=>by
  have:=digits_any k W (by omega)
  rw [dig_two k hk] at this
  exact this
 clear hn hm ht hn' hm' ht' h1 h2 h3 h4 h5 h6
 obtain ⟨N,hN⟩ : ∃ N,N=n+1:=⟨_,rfl⟩
 obtain ⟨m,hm⟩ : ∃ m,m=m0+1:=⟨_,rfl⟩
 have hNI:(1:Int)+(n:Int)=(N:Int):=by omega
 have hmI:(1:Int)+(m0:Int)=(m:Int):=by omega
 have hN40:N≤40:=by omega
 have hm40:m≤40:=by omega
 have HNn:Hid (N=n+1):=hN
 clear hN hm
 go_enter Tryz.func8,Tryz.ntmps8
 go_wp2_with fail
 refine (aU HN w).mono ?_
 rintro e1 w ⟨rfl,rfl⟩
 go_wp2_with fail
 refine (aU HM w).mono ?_
 rintro e1 w ⟨rfl,rfl⟩
 clear HN HM
 go_wp2_with fail
 clear hNI hmI
 go_loopg [7,9,10] N (fun g1 vn vs vi wr=>∃ (i:Nat),vn=.int .i64 N∧vs=.string (B (lnsF m i))∧vi=.int .i64 i∧i+g1=N∧Hid (Below w.heap.size w wr))
 case atStart=>exact ⟨0,rfl,rfl,rfl,by omega,Below.refl _ _⟩
 case round =>
  obtain ⟨i,rfl,rfl,rfl,hig,hbr⟩:=hrel
  by_cases hin:i<N
  ·have hinI:(i:Int)<(N:Int):=by omega
   have HBT:=aU hbr
   have hsS:(B (lnsF m i)).size≤2080:=by rw [size_B]; have:=lns_len hm40 i (by omega); omega
   have hsD:(B (dg2 i)).size=(dg2 i).length:=size_B _
   have hd2:=Ba.dg2_len i
   have HDI:=aH (fun W=>aU HD i W (by omega))
   obtain ⟨K,hK⟩ : ∃ K,K=max m (dg2 i).length:=⟨_,rfl⟩
   have hK1:K≤40∧1≤K:=by omega
   have HX:=aH (wdB (m:=m) (i:=i))
   rw [← hK] at HX
   have hmx:max (m:Int) ((dg2 i).length:Int)=(K:Int):=by omega
   have HFIN:Hid (B (lnsF m i)++⟨#[109,46,122,122,32,55,32,84,88,84,32]⟩++B (wdF m i)++⟨#[10]⟩=B (lnsF m (i+1))):=ba_ext (by simp [B,lnsF,liF])
   have hwl:(B (wdF m i)).size≤40:=by rw [size_B,(line_ok hm40 (by omega)).2.2.2]; omega
   have HS2:Hid ((B (lnsF m (i+1))).size≤2080):=by rw [Hid,size_B]; have:=lns_len hm40 (i+1) (by omega); omega
   rw [← aU HFIN] at HS2
   generalize (dg2 i).length=dl at *
   generalize B (lnsF m i)=S at *
   generalize B (dg2 i)=D1 at *
   generalize B (wdF m i)=W1 at *
   clear hK hbr
   go_wp2_with fail
   refine (aU HDI _).mono ?_
   rintro e1 w2 ⟨rfl,hb2⟩
   go_wp2_with fail
   refine (aU HDI _).mono ?_
   rintro e1 w3 ⟨rfl,hb3⟩
   have HB3:=aH ((HBT.trans (hb2.mono HBT.size)).trans (hb3.mono (Nat.le_trans HBT.size hb2.size)))
   clear hb2 hb3 HBT
   have h28:(S.size:Int)+11+((min K (dl+55):Nat):Int)+1≤2800:=by omega
   go_wp2_with fail
   go_roundg (N - (i+1))
   case measure=>omega
   case rel=>exact ⟨i+1,rfl,congrArg Value.string (by rw [aU HX]; exact aU HFIN),by first | rfl | go_num,by omega,HB3⟩
  ·have hinI : ¬ (i:Int)<(N:Int):=by omega
   have hiN:i=N:=by omega
   subst hiN
   have HBT:=aU hbr
   have HGW:Hid (G wr):=(aU HG).below HBT
   have HMADE:Hid (∀ W,G W→Calls Tryz.prog 22 #[.string (B (lnsF m i))] W fun e' w'=>∃ zb g cap,e'=.returned (.pointer (some ⟨zb,0,none⟩))∧aN w' zb zz g 0 cap (recsF m i)∧Below W.heap.size W w'):=fun W hW=>by
    have hi1:=aU HNn
    rw [hi1]
    exact made_f hm40 (by omega) W hW
   obtain ⟨msg,mo,op,hcase,hQ,hR⟩ : ∃ (msg:Str) (mo op:Nat),((t0=0∧mo=512∧op=0)∨(0<t0∧mo=most (t0 - 1)∧op=11))∧(∀ W,Calls Tryz.prog 31 #[.int .i64 5,.string (B qF),.int .i64 ((t0:Int) - 1)] W fun e w'=>e=.returned (.string (B msg))∧Below W.heap.size W w') ∧
     (∀ zb g cap W,aN W zb zz g 0 cap (recsF m i)→G W→Calls Tryz.prog 27 #[.pointer (some ⟨zb,0,none⟩),.string (B msg)] W fun e w'=>(∃ R,e=.returned (.string (B R))∧RepOk R m i mo op)∧Below W.heap.size W w'):=by
    have hi1:=aU HNn
    rw [hi1]
    rcases Nat.eq_zero_or_pos t0 with h0 | h0
    ·refine ⟨asks 5 qF,512,0,.inl ⟨h0,rfl,rfl⟩,fun W=>?_,fun zb g cap W hz hg=>reply_n hm40 (by omega) zb g cap W hz hg⟩
     rw [h0]
     exact query_plain 5 qF W (by omega) (by decide)
    ·refine ⟨asksO 5 qF (t0 - 1),most (t0 - 1),11,.inr ⟨h0,rfl,rfl⟩,fun W=>?_,fun zb g cap W hz hg=>reply_o hm40 (by omega) zb g cap (t0 - 1) (by omega) W hz hg⟩
     rw [show (t0:Int) - 1=((t0 - 1:Nat):Int) by omega]
     exact query_opt 5 (t0 - 1) qF W (by omega) (by omega) (by decide)
   have hmo:mo≤1232∧512≤mo:=by
    rcases hcase with h | h
    ·omega
    ·rw [h.2.1]; unfold most; omega
   have hop:op≤11:=by omega
   have HQ:=aH hQ
   have HR:=aH hR
   have HCASE:=aH hcase
   have HSUM:Hid (∀ k,k≤40→sumF m k≤53*k):=fun k hk=>sum_le hm40 k hk
   clear hQ hR hcase hbr
   have hsS:(B (lnsF m i)).size≤2080:=by rw [size_B]; have:=lns_len hm40 i (by omega); omega
   generalize B (lnsF m i)=S at *
   go_wp2_with fail
   refine (aU HMADE _ (aU HGW)).mono ?_
   rintro e1 w3 ⟨zb,g,cap,rfl,ht3,hb3⟩
   have hB3:=HBT.trans (hb3.mono HBT.size)
   have HT3:=aH ht3
   clear ht3 HMADE HGW hsS
   have hx:(w3.alloc (.cells #[.string ⟨#[109]⟩,.string ⟨#[122,122]⟩] 9)).cell? ⟨w3.heap.size,0,none⟩=some (.string (B [109])):=by
    have:=World.alloc_heap_new w3 (.cells #[.string ⟨#[109]⟩,.string ⟨#[122,122]⟩] 9)
    unfold World.cell?; rw [this]; rfl
   have hy:(w3.alloc (.cells #[.string ⟨#[109]⟩,.string ⟨#[122,122]⟩] 9)).cell? ⟨w3.heap.size,1,none⟩=some (.string (B [122,122])):=by
    have:=World.alloc_heap_new w3 (.cells #[.string ⟨#[109]⟩,.string ⟨#[122,122]⟩] 9)
    unfold World.cell?; rw [this]; rfl
   have hqst:Calls Tryz.prog 29 #[.slice (some ⟨w3.heap.size,0,none⟩) 2 2,.int .i64 16] (w3.alloc (.cells #[.string ⟨#[109]⟩,.string ⟨#[122,122]⟩] 9)) fun e w'=>e=.returned (.string (B qF))∧Below (w3.alloc (.cells #[.string ⟨#[109]⟩,.string ⟨#[122,122]⟩] 9)).heap.size (w3.alloc (.cells #[.string ⟨#[109]⟩,.string ⟨#[122,122]⟩] 9)) w':=question_two w3.heap.size 16 [109] [122,122] _ hx hy (by decide) (by decide) (by omega)
   have HQST:=aH hqst
   have HBA:Hid (Below w.heap.size w (w3.alloc (.cells #[.string ⟨#[109]⟩,.string ⟨#[122,122]⟩] 9))∧Below w3.heap.size w3 (w3.alloc (.cells #[.string ⟨#[109]⟩,.string ⟨#[122,122]⟩] 9))):=⟨hB3.alloc hB3.size _,(Below.refl _ _).alloc (Nat.le_refl _) _⟩
   clear hx hy hqst hB3 hb3 HBT
   go_wp2_with fail
   refine (aU HQST).mono ?_
   rintro e1 w4 ⟨rfl,hb4⟩
   have HB4:Hid (Below w.heap.size w w4):=(aU HBA).1.trans (hb4.mono (aU HBA).1.size)
   have HT4:Hid (aN w4 zb zz g 0 cap (recsF m i)):=(aU HT3).below ((aU HBA).2.trans (hb4.mono (aU HBA).2.size))
   clear hb4 HBA HT3 HQST
   go_wp2_with fail
   refine (aU HT _).mono ?_
   rintro e1 w4 ⟨rfl,rfl⟩
   go_upto_if 80 with fail
   go_cut [16,17] from 70 (fun v16 v17 wx=>v16=.int .i64 mo∧v17=.int .i64 op∧wx=w4)
   case first =>
    rcases aU HCASE with ⟨a1,a2,a3⟩ | ⟨a1,a2,a3⟩
    ·have a4 : ¬ (0:Int)≤(t0:Int) - 1:=by omega
     have A2:=aH a2
     have A3:=aH a3
     clear a1 a2 a3
     go_wp2_with fail
     go_meet
     case rel=>exact ⟨by rw [aU A2]; rfl,by rw [aU A3]; rfl,rfl⟩
    ·have a4:(0:Int)≤(t0:Int) - 1:=by omega
     have A2:Hid (max (512:Int) (min ((t0:Int) - 1) 1232)=(mo:Int)):=by rw [Hid,a2]; unfold most; omega
     have A3:=aH a3
     clear a1 a2 a3
     go_wp2_with fail
     go_meet
     case rel=>exact ⟨congrArg (Value.int .i64) (aU A2),by rw [aU A3]; rfl,rfl⟩
   case rest =>
    obtain ⟨rfl,rfl,rfl⟩:=hcut
    have hq10:(B qF).size=10:=rfl
    generalize B qF=Q at *
    go_wp2_with fail
    refine (aU HQ _).mono ?_
    rintro e1 w5 ⟨rfl,hb5⟩
    have hB5:=(aU HB4).trans (hb5.mono (aU HB4).size)
    have HRP:=aH (aU HR zb g cap w5 ((aU HT4).below hb5) ((aU HG).below hB5))
    clear HQ HR HT4
    go_wp2_with fail
    refine (aU HRP).mono ?_
    rintro e1 w6 ⟨⟨R,rfl,hrep⟩,hb6⟩
    have HB6:Hid (Below w.heap.size w w6):=hB5.trans (hb6.mono hB5.size)
    have HREP:=aH hrep
    clear hrep hb6 hB5 HRP hb5 HB4
    have hall:(12:Int)+10+(op:Int)=((22+op:Nat):Int):=by omega
    go_wp2_with fail
    go_loopg [19,20] i (fun g1 va vi wr=>∃ (k:Nat),va=.int .i64 ((22+op+sumF m k:Nat):Int)∧vi=.int .i64 k∧k+g1=i∧Hid (Below w.heap.size w wr))
    case atStart=>exact ⟨0,by simp [sumF],rfl,by omega,aU HB6⟩
    case round =>
     obtain ⟨k,rfl,rfl,hkg,hbr⟩:=hrel
     by_cases hki:k<i
     ·have hkiI:(k:Int)<(i:Int):=by omega
      have hsD:(B (dg2 k)).size=(dg2 k).length:=size_B _
      have hd2:=Ba.dg2_len k
      have HDI:=aH (fun W=>aU HD k W (by omega))
      have h4:=(line_ok (i:=k) hm40 (by omega)).2.2.2
      have hsum:=aU HSUM k (by omega)
      obtain ⟨K,hK⟩ : ∃ K,K=max m (dg2 k).length:=⟨_,rfl⟩
      have hmx:max (m:Int) ((dg2 k).length:Int)=(K:Int):=by omega
      have hK1:K≤40∧1≤K:=by omega
      obtain ⟨A,hA⟩ : ∃ A,A=22+op+sumF m k:=⟨_,rfl⟩
      have hA1:A≤3000:=by omega
      have HA2:Hid (((A:Int)+12+1+(K:Int))=((22+op+sumF m (k+1):Nat):Int)):=by
       rw [Hid,sumF,h4,← hK,hA]; omega
      rw [← hA]
      have HBT:=aU hbr
      clear hA hK h4 hsum hbr
      generalize (dg2 k).length=dl at *
      generalize B (dg2 k)=D1 at *
      go_wp2_with fail
      refine (aU HDI _).mono ?_
      rintro e1 w2 ⟨rfl,hb2⟩
      have HB2:=aH (HBT.trans (hb2.mono HBT.size))
      clear hb2 HBT
      go_wp2_with fail
      go_roundg (i - (k+1))
      case measure=>omega
      case rel=>exact ⟨k+1,congrArg (Value.int .i64) (by first | exact aU HA2 | (have:=aU HA2; omega)),by first | rfl | go_num,by omega,HB2⟩
     ·have hkiI : ¬ (k:Int)<(i:Int):=by omega
      have hki2:k=i:=by omega
      subst hki2
      have hsum:=aU HSUM k (by omega)
      have HBT:=hbr
      rcases aU HREP with ⟨e1,e2,e3⟩ | ⟨e1,e2,e3⟩
      ·have hRs:(B R).size=22+op+sumF m k:=by rw [size_B]; exact e2
       have ha:=fun W=>at8 e3 (by omega) (by omega) W
       have HA0:Hid (∀ W,Calls Tryz.prog 34 #[.string (B R),.int .i64 0] W fun e w'=>e=.returned (.int .i64 5)∧Below W.heap.size W w'):=fun W=>(ha W).1
       have HA2:Hid (∀ W,Calls Tryz.prog 34 #[.string (B R),.int .i64 2] W fun e w'=>e=.returned (.int .i64 34048)∧Below W.heap.size W w'):=fun W=>(ha W).2.1
       have HA6:Hid (∀ W,Calls Tryz.prog 34 #[.string (B R),.int .i64 6] W fun e w'=>e=.returned (.int .i64 k)∧Below W.heap.size W w'):=fun W=>by
        have:=(ha W).2.2
        have hh:=Xb.hilo k (by omega)
        rw [show 256*(hi k).toNat+(lo k).toNat=k by omega] at this
        exact this
       obtain ⟨A,hA⟩ : ∃ A,A=22+op+sumF m k:=⟨_,rfl⟩
       rw [← hA] at hRs e1 ⊢
       have hA1:A≤3000:=by omega
       have hno : ¬ (mo:Int)<(A:Int):=by omega
       have hno2:(A:Int)≤(mo:Int):=by omega
       clear e2 e3 ha hA hsum HREP hbr
       generalize B R=Rb at *
       go_wp2_with fail
       refine (aU HA0 _).mono ?_
       rintro e1 w7 ⟨rfl,hb7⟩
       have hB7:=(aU HBT).trans (hb7.mono (aU HBT).size)
       go_wp2_with fail
       refine (aU HA2 _).mono ?_
       rintro e1 w8 ⟨rfl,hb8⟩
       have hB8:=hB7.trans (hb8.mono hB7.size)
       clear hb7 hb8 hB7
       go_wp2_with fail
       refine (aU HA6 _).mono ?_
       rintro e1 w9 ⟨rfl,hb9⟩
       have HB9:=aH (hB8.trans (hb9.mono hB8.size))
       clear hb9 hB8
       go_wp2_with fail
       go_ret
       exact ⟨rfl,aU HB9⟩
      ·have hRs:(B R).size=22+op:=by rw [size_B]; exact e2
       have ha:=fun W=>at8 e3 (by omega) (by omega) W
       have HA0:Hid (∀ W,Calls Tryz.prog 34 #[.string (B R),.int .i64 0] W fun e w'=>e=.returned (.int .i64 5)∧Below W.heap.size W w'):=fun W=>(ha W).1
       have HA2:Hid (∀ W,Calls Tryz.prog 34 #[.string (B R),.int .i64 2] W fun e w'=>e=.returned (.int .i64 34560)∧Below W.heap.size W w'):=fun W=>(ha W).2.1
       have HA6:Hid (∀ W,Calls Tryz.prog 34 #[.string (B R),.int .i64 6] W fun e w'=>e=.returned (.int .i64 0)∧Below W.heap.size W w'):=fun W=>(ha W).2.2
       obtain ⟨A,hA⟩ : ∃ A,A=22+op+sumF m k:=⟨_,rfl⟩
       rw [← hA] at e1 ⊢
       have hA1:A≤3000:=by omega
       have hno : ¬ (mo:Int)<((22+op:Nat):Int):=by omega
       have hno2 : ¬ (A:Int)≤(mo:Int):=by omega
       clear e2 e3 ha hA hsum HREP hbr
       generalize B R=Rb at *
       go_wp2_with fail
       refine (aU HA0 _).mono ?_
       rintro e1 w7 ⟨rfl,hb7⟩
       have hB7:=(aU HBT).trans (hb7.mono (aU HBT).size)
       go_wp2_with fail
       refine (aU HA2 _).mono ?_
       rintro e1 w8 ⟨rfl,hb8⟩
       have hB8:=hB7.trans (hb8.mono hB7.size)
       clear hb7 hb8 hB7
       go_wp2_with fail
       refine (aU HA6 _).mono ?_
       rintro e1 w9 ⟨rfl,hb9⟩
       have HB9:=aH (hB8.trans (hb9.mono hB8.size))
       clear hb9 hB8
       go_wp2_with fail
       go_ret
       exact ⟨rfl,aU HB9⟩
end Bd
end Go.Proofs.YtkkpahmoljiepaaGreatDoor

namespace Go.Proofs.YtkkpahmoljiepaaGreatDoor
open Go.ChangeShapes Go.WideShapes Go.ChangeAt Go.RowKit
namespace Uw
variable {H:Type} {enc:TypeId×Value→H}
theorem wrap {a:Assume} {C:Checked} {os:Os} {f:FuncId} {fn:Func} {s:ChangeSpec} {conds:List PathCond} {apart fresh handsOn again:Bool} {X:World→Array Value→Prop}
  (hX : ∀ (w w':World) (args:Array Value),w.heap=w'.heap→X w args→X w' args)
  (own:ownKnob C.prog.godebug=none) (started:os.Started) (noInit:C.prog.inits.idxOf? f=none) (hfn:C.prog.funcs[f]? = some fn)
  (witness : ∃ (w:World) (tape:Tape) (i:Input),w.os=os∧(w.forCall tape i).Shaped C.prog∧i.vars = []∧Input.okWide C.prog (w.forCall tape i) .any w.heap.size f i ∧
   ((s.pre enc C.prog fn conds apart (w.forCall tape i).memory i.args∧X (w.forCall tape i).memory i.args)∧sizedMet enc C.prog fn (OpenSpec.ofChange s) apart (w.forCall tape i).memory i.args)∧a.holds C.prog (lone (Frame.enter C.prog f i.args .normal) [] (w.forCall tape i)))
  (contract : ∀ (W:World) (base:Nat) (args:Array Value) (ds gs:List (DataW H)) (before:List MemPlace),
   (∀ (j:Nat) t v,fn.params[j]? = some t→args[j]? = some v→Value.okWide C.prog W .any base t v) →
   DataW.Whole enc C.prog fn.params.toList s.vars apart W args.toList ds gs before →
   W.ShapedOpen C.prog→X W args →
   Calls C.prog f args W fun e W'=>∃ v,e=.returned v∧s.post enc C.prog fn apart fresh handsOn again W args v W') :
  ReturnsInHanded a C os f .any (fun w args=>(s.pre enc C.prog fn conds apart w args∧X w args)∧sizedMet enc C.prog fn (OpenSpec.ofChange s) apart w args) (s.post enc C.prog fn apart fresh handsOn again):=by
 refine returnsInHanded_of_calls own started noInit witness ?_
 intro w tape i _ hsh _ hok hpre hholds
 obtain ⟨_,_,_,fn',hfn',_,_,_,_,hval⟩:=hok
 have e:fn'=fn:=Option.some.inj (hfn'.symm.trans hfn)
 subst e
 obtain ⟨⟨⟨ds,gs,before,hw,hc⟩,hx⟩,hz⟩:=hpre
 have hw':=DataW.Whole.of_heap (w':=w.forCall tape i) (by rfl) hw
 refine (contract (w.forCall tape i) w.heap.size i.args ds gs before hval hw' hsh (hX _ _ _ (by rfl) hx)).mono fun e W' ⟨v,he,hp⟩=>?_
 subst he
 exact ChangeSpec.post_blind hp
theorem own:ownKnob Tryz.prog.godebug=none:=by kernel_rfl
theorem g_of_shaped {W:World} (h:W.ShapedOpen Tryz.prog):G W:=by
 have hc : ∃ m,W.cell? ⟨0,0,none⟩=some (.int .i64 m) :=
  cell_of_shapedOpen_int (zero:=#[.int .i64 0]) (t:=3) h (of_decide_eq_true (by kernel_rfl)) (by kernel_rfl) rfl (by kernel_rfl) (by kernel_rfl) Tryz.underlying3
 refine ⟨?_,hc⟩
 obtain ⟨m,hm⟩:=hc
 rcases Nat.eq_zero_or_pos W.heap.size with h0 | h0
 ·simp [World.cell?,Array.getElem?_eq_none (show W.heap.size≤0 by omega)] at hm
 ·exact h0
end Uw
end Go.Proofs.YtkkpahmoljiepaaGreatDoor
