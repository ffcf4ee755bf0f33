/- Contract: (*Table).additional. -/
import Derived.Test.YtkkpahmoljiepaaGreatDoorJ22
import Derived.Test.YtkkpahmoljiepaaGreatDoorJ13
set_option linter.unusedSimpArgs false
set_option linter.unusedVariables false
set_option maxRecDepth 1000000
set_option maxHeartbeats 12800000
namespace Go.Proofs.YtkkpahmoljiepaaGreatDoor
open Go.RowKit
open Pu (Str aH aU)
namespace Lr
open Ka Kd Rf Rg Ia Iow Ie Zb Zc Za La Lb Re Lc Le Lf Lg Lh Li Lq
theorem piece_rv {w:World} {b off cap:Nat} {zb:Nat} {o:Str} {rs l:List Rec} {v:Value} (hz:aN w zb o b off cap rs) (h:Piece b off rs v l):RV w v l:=h.rv hz.2.2.2.2
theorem new4 (W:World) (r:Rec) (t:TypeId):bE (W.alloc (.cells #[.string (B r.owner),.int .i64 r.ttl,.int .i64 r.type,.string (B r.data)] t)) W.heap.size 0 [r]:=by
 have h:=World.alloc_heap_new W (.cells #[.string (B r.owner),.int .i64 r.ttl,.int .i64 r.type,.string (B r.data)] t)
 refine ⟨(Array.getElem?_eq_some_iff.1 h).1,fun j hj i v hi=>?_⟩
 have:j=0:=by simp at hj; omega
 subst this
 unfold World.cell?
 rw [h]
 simpa [Rec.enc] using hi
theorem additional_any (zb b off cap:Nat) (o:Str) (rc:Int) (au:Bool) (va vb vc:Value) (Z ans auth:List Rec) (w:World) (hz:aN w zb o b off cap Z) (hzl:Z.length≤60) (ha:RV w va ans) (hb:RV w vb auth) (hla:ans.length≤500) (hlb:auth.length≤500)
  (hdl : ∀ r∈ans++auth,r.data.length≤3000) :
  Calls Tryz.prog 128 #[.pointer (some ⟨zb,0,none⟩),.agg #[.int .i64 rc,.bool au,va,vb,vc]] w fun e w'=>(∃ v,e=.returned v∧OwnR w' w.heap.size v (pGo Z ans (ans++auth)).2)∧Below w.heap.size w w':=by
 obtain ⟨aa,ca,rfl⟩:=rv_slice ha
 obtain ⟨ab,cb,rfl⟩:=rv_slice hb
 have HA:=aH ha
 have HB:=aH hb
 have HDL:=aH hdl
 have HZ:=aH hz
 clear ha hb hdl hz
 go_enter Tryz.func128,Tryz.ntmps128
 go_wp2_with fail
 have hbx:Below w.heap.size w ((w.alloc (.cells #[.int .i64 rc,.bool au,.slice aa ans.length ca,.slice ab auth.length cb,vc] 43)).alloc (.cells #[.slice aa ans.length ca,.slice ab auth.length cb] 41)):=((Below.refl _ _).alloc (Nat.le_refl _) _).alloc (by simp) _
 have hfx:((w.alloc (.cells #[.int .i64 rc,.bool au,.slice aa ans.length ca,.slice ab auth.length cb,vc] 43)).alloc (.cells #[.slice aa ans.length ca,.slice ab auth.length cb] 41)).cell? ⟨w.heap.size,2,none⟩=some (.slice aa ans.length ca):=by go_simp
 refine (concat_any (w.heap.size+1) _ _ ans auth _ (by simp) (by go_simp) (by go_simp) ((aU HA).below hbx) ((aU HB).below hbx) (by omega) (by omega)).mono ?_
 rintro e w1 ⟨v1,rfl,ho1,hb1⟩
 have hB1:Below w.heap.size w w1:=hbx.trans (hb1.mono (by simp <;> omega))
 have hf1:w1.cell? ⟨w.heap.size,2,none⟩=some (.slice aa ans.length ca):=(hb1.cell (p:=⟨w.heap.size,2,none⟩) (by simp; omega)).trans hfx
 obtain ⟨a1,c1,rfl⟩:=ho1.slice
 have HO1:=aH ho1.rv
 have hll:(ans++auth).length≤1000:=by rw [List.length_append]; omega
 have HA1:=aH ((aU HA).below hB1)
 have HZ1:=aH ((aU HZ).below hB1)
 have HB1:=aH hB1
 have HF1:=aH hf1
 have hs1:=hB1.size
 have hwl:w.heap.size<w1.heap.size:=World.block_lt_of_cell? _ _ hf1
 clear ho1 hbx hb1 hfx HA HB hB1 hf1 HZ
 obtain ⟨L,hL⟩ : ∃ L,ans++auth=L:=⟨_,rfl⟩
 rw [hL] at HO1 hll HDL ⊢
 have HLL:=aH hL
 clear hL
 go_wp2_with fail
 go_loopw [5,6,19] (fun vl vt i wr=>∃ k:Nat,i=.int .i64 k∧k≤L.length∧(∃ a n c,vl=.slice a n c)∧(∃ a n c,vt=.slice a n c)∧PI w1 wr vt vl (pGo Z ans (L.take k)).1 (pGo Z ans (L.take k)).2) (fun _ _ i _=>L.length - (intOf i).toNat)
 case atStart=>exact ⟨0,rfl,Nat.zero_le _,⟨_,_,_,rfl⟩,⟨_,_,_,rfl⟩,⟨World.ownsRow_nil _ _ _ _,World.ownsRow_nil _ _ _ _,(fun k hk=>by cases hk),Below.refl _ _⟩⟩
 case round =>
  obtain ⟨k,rfl,hk,⟨la,ln,lc,rfl⟩,⟨ta,tn,tc,rfl⟩,hP⟩:=hrel
  obtain ⟨G,hG⟩ : ∃ G,pGo Z ans (L.take k)=G:=⟨_,rfl⟩
  have hpl:=pgo_len Z ans hzl (L.take k)
  have htl:(L.take k).length≤1000:=by rw [List.length_take]; omega
  rw [hG] at hP hpl
  obtain ⟨TG,AD⟩:=G
  simp only at hP hpl
  have hTGl:TG.length≤1000:=by omega
  have hADl:AD.length≤60000:=by omega
  have HG:=aH hG
  have HP:=aH hP
  have hbs:=hP.bl.size
  clear hG hpl
  by_cases hlt:k<L.length
  ·have HT:Hid (L.take (k+1)=L.take k++[L[k]]):=List.take_succ_eq_append_getElem hlt
   have hrv:=(aU HO1).below hP.bl
   rcases hrv with ⟨e1,e2⟩ | ⟨b',off',cap',e1,hc',hr'⟩
   ·rw [e2] at hlt; simp at hlt
   ·cases e1
    obtain ⟨q0,q1,q2,q3⟩:=hr'.four k hlt
    have hdl:=aU HDL L[k] (List.getElem_mem hlt)
    have HLW:=aH (fun W=>lastWord_any L[k].data W hdl)
    clear hr' hP
    generalize L[k]=r at *
    go_wp2_with fail
    refine (aU HLW _).mono ?_
    rintro e w4 ⟨rfl,hw4⟩
    have hb4:Below wr.heap.size wr w4:=by rw [hw4]; exact (Below.refl _ _).alloc (Nat.le_refl _) _
    have d2:w4.cell? ⟨wr.heap.size,2,none⟩=some (.int .i64 r.type):=by rw [hw4]; go_simp
    have hP4:=(aU HP).below hb4
    have HP4:=aH hP4
    obtain ⟨x,hx⟩ : ∃ x,lastW r.data=x:=⟨_,rfl⟩
    rw [hx]
    have HX:=aH hx
    have HHS:=aH (has_str _ TG x _ w4 hP4.tg (by omega))
    obtain ⟨_,_,et⟩:=hP4.tg.slice
    obtain ⟨-,et2,-⟩:=Value.slice.inj et
    obtain ⟨_,_,el⟩:=hP4.ad.slice
    obtain ⟨-,el2,-⟩:=Value.slice.inj el
    subst et2 el2
    have hb44:=hb4.size
    generalize wr.heap.size=q at *
    clear hw4 HLW q0 q1 q2 q3 hb4 hP4 et el hx
    by_cases hnd:nmd r=false
    ·have hy2:(r.type != 2)=true:=by unfold nmd at hnd; simp at hnd; simpa using hnd.1
     have hy15:(r.type != 15)=true:=by unfold nmd at hnd; simp at hnd; simpa using hnd.2
     have HE:Hid (pGo Z ans (L.take (k+1))=(TG,AD)):=by rw [Hid,aU HT,pgo_step,aU HG,pstep_no hnd]
     clear hnd
     go_wp2_with fail
     exact ⟨⟨k+1,by go_num,by omega,⟨_,_,_,rfl⟩,⟨_,_,_,rfl⟩,by rw [aU HE]; exact aU HP4⟩,by simp [intOf]; omega⟩
    ·have hnd':nmd r=true:=by simpa using hnd
     have hty:(r.type != 2)=false∨((r.type != 2)=true∧(r.type != 15)=false):=by
      by_cases h2:r.type=2
      ·left; simp [h2]
      ·right
       unfold nmd at hnd'
       simp [h2] at hnd'
       exact ⟨by simpa using h2,by simp [hnd']⟩
     have HND:=aH hnd'
     clear hnd hnd'
     obtain ⟨hc,hhc⟩ : ∃ hc,TG.contains x=hc:=⟨_,rfl⟩
     rw [hhc] at HHS
     have HHC:=aH hhc
     clear hhc
     rcases hty with hy2 | ⟨hy2,hy15⟩
     all_goals
      go_wp2_with fail
      refine (aU HHS).mono ?_
      rintro e w5 ⟨rfl,rfl⟩
      cases hc with
      | true =>
       have HE:Hid (pGo Z ans (L.take (k+1))=(TG,AD)):=by rw [Hid,aU HT,pgo_step,aU HG,pstep_in (by rw [aU HX]; exact aU HHC)]
       go_wp2_with fail
       exact ⟨⟨k+1,by go_num,by omega,⟨_,_,_,rfl⟩,⟨_,_,_,rfl⟩,by rw [aU HE]; exact aU HP4⟩,by simp [intOf]; omega⟩
      | false =>
       obtain ⟨S,hS⟩ : ∃ S,setP (ofP Z x) 1=S:=⟨_,rfl⟩
       have HE:Hid (pGo Z ans (L.take (k+1))=(TG++[x],AD++S.filter (fun a=>!ans.any (a == ·)))):=by
        rw [Hid,aU HT,pgo_step,aU HG,pstep_new (aU HND) (by rw [aU HX]; exact aU HHC),aU HX,hS]
       obtain ⟨v6,w6,hrun,hP6,a6,c6,hv6⟩:=(aU HP4).tg1 x (by omega)
       subst hv6
       have HRUN:=aH hrun
       have HP6:=aH hP6
       have HST:=aH (set_t zb b off cap o x 1 Z w6 ((aU HZ1).below hP6.bl) (by omega))
       rw [hS] at HST
       clear hrun hP6
       go_wp2_with (at_builtin; go_loud (refine wpL_append (by rfl) (.tmp 39) (.tmp 41) 49 (by rfl) _ _ _ _ (by rfl) (by rfl) (aU HRUN) ?_))
       refine (aU HST).mono ?_
       rintro e w7 ⟨⟨v7,rfl,hv7⟩,hb7⟩
       have hP7:=(aU HP6).below hb7
       have HP7:=aH hP7
       have hS7:=piece_rv ((aU HZ1).below hP7.bl) hv7
       obtain ⟨s7,cs7,rfl⟩:=rv_slice hS7
       have HPC:=aH hv7
       have hSl:S.length≤60:=by rw [← hS]; exact Nat.le_trans (Nat.le_trans (setP_len _ _) (ofP_len _ _)) hzl
       clear hv7 hb7 hP7 hS HST HRUN HP6 hS7
       go_wp2_with fail
       go_loopw [5,47] (fun vl i wr=>∃ j:Nat,i=.int .i64 j∧j≤S.length∧(∃ a n c,vl=.slice a n c)∧PI w1 wr (.slice a6 (TG.length+1) c6) vl (TG++[x]) (AD++(S.take j).filter (fun a=>!ans.any (a == ·)))) (fun _ i _=>S.length - (intOf i).toNat)
       case atStart=>exact ⟨0,rfl,Nat.zero_le _,⟨_,_,_,rfl⟩,(by rw [List.take_zero,List.filter_nil,List.append_nil]; exact aU HP7)⟩
       case round =>
        obtain ⟨j,rfl,hj,⟨ma,mn,mc,rfl⟩,hPj⟩:=hrel
        have hSj:=piece_rv ((aU HZ1).below hPj.bl) (aU HPC)
        have HPj:=aH hPj
        have hbj:=hPj.bl.size
        have fj:wr.cell? ⟨w.heap.size,2,none⟩=some (.slice aa ans.length ca):=(hPj.bl.cell (p:=⟨w.heap.size,2,none⟩) hwl).trans (aU HF1)
        have hfl:((S.take j).filter (fun a=>!ans.any (a == ·))).length≤60:=by
         have:=List.length_filter_le (fun a:Rec=>!ans.any (a == ·)) (S.take j)
         rw [List.length_take] at this
         omega
        by_cases hjl:j<S.length
        ·have HTJ:Hid (S.take (j+1)=S.take j++[S[j]]):=List.take_succ_eq_append_getElem hjl
         rcases hSj with ⟨e1,e2⟩ | ⟨bs,os,cs,e1,hcs,hrs⟩
         ·rw [e2] at hjl; simp at hjl
         ·cases e1
          obtain ⟨q0,q1,q2,q3⟩:=hrs.four j hjl
          have hbsl:bs<wr.heap.size:=hrs.1
          have HCO:=aH (fun W (hW:Below wr.heap.size wr W)=>contains_rv S[j] _ ans W (((aU HA1).below hPj.bl).below hW) (by omega))
          generalize S[j]=a at *
          have hne : ¬ bs=wr.heap.size:=by omega
          have hwne : ¬ w.heap.size=wr.heap.size:=by omega
          have al : ∀ (o:Obj) (a:Addr) (v:Value),wr.cell? a=some v→(wr.alloc o).cell? a=some v:=fun o a v h=>(World.cell?_of_block (Below.heap_alloc wr o a.block (World.block_lt_of_cell? _ _ h))).trans h
          have fa:=fun o=>al o _ _ fj
          have hba : ∀ o,Below wr.heap.size wr (wr.alloc o):=fun o=>(Below.refl _ _).alloc (Nat.le_refl _) _
          have HBA:=aH hba
          obtain ⟨hin,hhin⟩ : ∃ hin,ans.any (a == ·)=hin:=⟨_,rfl⟩
          have HIN:=aH hhin
          rw [hhin] at HCO
          obtain ⟨_,_,em⟩:=hPj.ad.slice
          obtain ⟨-,em2,-⟩:=Value.slice.inj em
          rw [List.length_append] at em2
          subst em2
          clear hrs hPj al hba hhin em
          go_wp2_with fail
          refine (aU HCO _ (aU HBA _)).mono ?_
          rintro e w8 ⟨rfl,hb8⟩
          have hB8:=(aU HBA (.cells #[.string (B a.owner),.int .i64 a.ttl,.int .i64 a.type,.string (B a.data)] 47)).trans (hb8.mono (by simp))
          have hP8:=(aU HPj).below hB8
          have HP8:=aH hP8
          have hq8:w8.heap[wr.heap.size]? = some (.cells #[.string (B a.owner),.int .i64 a.ttl,.int .i64 a.type,.string (B a.data)] 47):=(hb8.block wr.heap.size (by simp)).trans (World.alloc_heap_new wr _)
          have p0:w8.cell? ⟨wr.heap.size,0,none⟩=some (.string (B a.owner)):=by unfold World.cell?; rw [hq8]; rfl
          have p1:w8.cell? ⟨wr.heap.size,1,none⟩=some (.int .i64 a.ttl):=by unfold World.cell?; rw [hq8]; rfl
          have p2:w8.cell? ⟨wr.heap.size,2,none⟩=some (.int .i64 a.type):=by unfold World.cell?; rw [hq8]; rfl
          have p3:w8.cell? ⟨wr.heap.size,3,none⟩=some (.string (B a.data)):=by unfold World.cell?; rw [hq8]; rfl
          clear hb8 hP8 hq8 q0 q1 q2 q3 fj fa HCO
          cases hin with
          | true =>
           have HFT:Hid ((S.take (j+1)).filter (fun a=>!ans.any (a == ·))=(S.take j).filter (fun a=>!ans.any (a == ·))):=by
            rw [Hid,aU HTJ,List.filter_append,List.filter_cons_of_neg (by rw [aU HIN]; simp)]; simp
           go_wp2_with fail
           exact ⟨⟨j+1,by go_num,by omega,⟨_,_,_,rfl⟩,by rw [aU HFT]; exact aU HP8⟩,by simp [intOf]; omega⟩
          | false =>
           have HFT:Hid ((S.take (j+1)).filter (fun a=>!ans.any (a == ·))=(S.take j).filter (fun a=>!ans.any (a == ·))++[a]):=by
            rw [Hid,aU HTJ,List.filter_append,List.filter_cons_of_pos (by rw [aU HIN]; rfl)]; rfl
           have hb9:Below w8.heap.size w8 (w8.alloc (.cells #[.string (B a.owner),.int .i64 a.ttl,.int .i64 a.type,.string (B a.data)] 47)):=(Below.refl _ _).alloc (Nat.le_refl _) _
           obtain ⟨v9,w9,hrun,hP9,⟨a9,c9,hv9⟩,hbl9⟩:=((aU HP8).below hb9).ad1 a (new4 w8 a _) (by rw [List.length_append]; omega)
           rw [List.length_append] at hv9
           subst hv9
           have HRUN:=aH hrun
           have HP9:=aH hP9
           clear hrun hP9 hbl9 hb9
           go_wp2_with (at_builtin; go_loud (refine wpL_append (by rfl) (.tmp 56) (.tmp 58) 41 (by rfl) _ _ _ _ (by rfl) (by rfl) (aU HRUN) ?_))
           go_wp2_with fail
           exact ⟨⟨j+1,by go_num,by omega,⟨_,_,_,rfl⟩,by rw [aU HFT,← List.append_assoc]; exact aU HP9⟩,by simp [intOf]; omega⟩
        ·have hje:j=S.length:=by omega
         have hnl : ¬ (j:Int)<(S.length:Int):=by omega
         have HE2:Hid (pGo Z ans (L.take (k+1))=(TG++[x],AD++(S.take j).filter (fun a=>!ans.any (a == ·)))):=by
          rw [Hid,aU HE,hje,List.take_length]
         clear hPj hSj
         go_wp2_with fail
         exact ⟨⟨k+1,by go_num,by omega,⟨_,_,_,rfl⟩,⟨_,_,_,rfl⟩,by rw [aU HE2]; exact aU HPj⟩,by simp [intOf]; omega⟩
  ·have hie:k=L.length:=by omega
   have hnl : ¬ (k:Int)<(L.length:Int):=by omega
   have HE:Hid (pGo Z ans L=(TG,AD)):=by
    have:=aU HG
    rw [hie,List.take_length] at this
    exact this
   clear hP
   go_wp2_with fail
   go_ret
   exact ⟨⟨_,rfl,by rw [aU HLL,aU HE]; exact (aU HP).ad.base hs1⟩,(aU HB1).trans ((aU HP).bl.mono hs1)⟩
end Lr
def Fol (RES:Option (Int×List Rec×List Rec)) (zb b off cap:Nat) (k:Int) (o n:Str) (rs:List Rec):Prop :=
 ∀ (sb cb c:Nat) (au:Bool) (W:World),aM W sb zb k 0 au (.slice none 0 0) (.slice none 0 0) (.slice none 0 0) cb→aN W zb o b off cap rs→G W→zb<sb→b<sb→0<sb→CancelAt W cb c false→cb≠c→cb<sb→c<sb→∀ base,base≤c →
  Calls Tryz.prog 127 #[.pointer (some ⟨sb,0,none⟩),.string (B n)] W fun e w' =>
   (RES=none∧e=.returned (.bool false)∧Below base W w')∨(∃ rc ans auth va' vb',RES=some (rc,ans,auth)∧e=.returned (.bool true)∧aM w' sb zb k rc au va' vb' (.slice none 0 0) cb∧OwnR w' (sb+1) va' ans∧OwnR w' (sb+1) vb' auth∧Apart va' vb'∧Below sb W w')
def AnsV (RES:Option (Int×List Rec×List Rec)) (o n:Str) (rs:List Rec) (w':World) (base:Nat) (v:Value):Prop :=
 (RES=none∧v=.agg #[.int .i64 2,.bool true,.slice none 0 0,.slice none 0 0,.slice none 0 0]) ∨
 ∃ rc ans auth va vb vd,RES=some (rc,ans,auth)∧v=.agg #[.int .i64 rc,.bool (decide ((cutP o rs n).length=0)),va,vb,vd]∧OwnR w' base va ans∧OwnR w' base vb auth∧OwnR w' base vd (pGo rs ans (ans++auth)).2∧Apart va vb∧Apart va vd∧Apart vb vd
namespace Lt
open Ka Kd Rf Rg Ia Iow Ie Zb Zc Za La Lb Re Lc Le Lf Lg Lh Li Ld Lj Lm Ln Lo Lp Ls Lq Lr
theorem answer_g (RES:Option (Int×List Rec×List Rec)) (zb b off cap:Nat) (k:Int) (o n:Str) (rs:List Rec) (w:World) (hz:aN w zb o b off cap rs) (hg:G w) (hnl:n.length≤2900) (hu:Sp.under n o=true) (hfit:Fit o rs) (hzl:rs.length≤60) (hfol:Fol RES zb b off cap k o n rs)
  (hres : ∀ rc ans auth,RES=some (rc,ans,auth)→ans.length≤500∧auth.length≤500∧∀ r∈ans++auth,r.data.length≤3000) :
  Calls Tryz.prog 69 #[.pointer (some ⟨zb,0,none⟩),.string (B n),.int .i64 k] w fun e w'=>(∃ v,e=.returned v∧AnsV RES o n rs w' w.heap.size v)∧Below w.heap.size w w':=by
 have hzb:=hz.1
 have hblt:=hz.2.2.2.2.1
 have hz0:=hz.2.1
 have hg0:=hg.1
 have HZ:=aH hz
 have HG:=aH hg
 have HP:=aH hfol
 have hol:=hfit.2.1
 have hlen:=hfit.1
 have hbx:Below w.heap.size w (w.alloc (.cells #[.int .i64 0,.bool false,.slice none 0 0,.slice none 0 0,.slice none 0 0] 43)):=(Below.refl _ _).alloc (Nat.le_refl _) _
 have HU:Hid (∀ W,Calls Tryz.prog 110 #[.string (B n),.string (B o)] W fun e w'=>e=.returned (.bool true)∧w'=W):=fun W=>by
  have:=under_any (B n) (B o) W (by rw [size_B]; omega) (by rw [size_B]; omega)
  rw [data_B,data_B,hu] at this
  exact this
 have HNM:=aH hres
 clear hz hg hfol hu hres
 go_enter Tryz.func69,Tryz.ntmps69
 go_wp2_with fail
 refine (aU HU _).mono ?_
 rintro e w1 ⟨rfl,hw1⟩
 have hb1:Below w.heap.size w w1:=by rw [hw1]; exact hbx
 have r1:w1.heap[w.heap.size]? = some (.cells #[.int .i64 0,.bool false,.slice none 0 0,.slice none 0 0,.slice none 0 0] 43):=by rw [hw1]; exact heap_alloc_new w _
 clear hw1 hbx HU
 go_wp2_with fail
 refine (newCancel_any w1).mono ?_
 rintro e w2 ⟨cb,c,rfl,hc2,hcb,hcc,hne,hb2⟩
 have HC2:=aH hc2
 have hr1l:=(Array.getElem?_eq_some_iff.1 r1).1
 have hcl:=hc2.lt
 have hcbl:=hc2.1
 have hb12:=hb1.trans (hb2.mono hb1.size)
 have r2:=(hb2.block w.heap.size (Array.getElem?_eq_some_iff.1 r1).1).trans r1
 clear hc2 r1
 go_wp2_with fail
 have hb3:Below w2.heap.size w2 (w2.alloc (.cells #[.pointer (some ⟨zb,0,none⟩),.int .i64 k,.int .i64 0,.bool false,.slice none 0 0,.slice none 0 0,.slice none 0 0,.pointer (some ⟨cb,0,none⟩)] 210)):=(Below.refl _ _).alloc (Nat.le_refl _) _
 have S3:aM (w2.alloc (.cells #[.pointer (some ⟨zb,0,none⟩),.int .i64 k,.int .i64 0,.bool false,.slice none 0 0,.slice none 0 0,.slice none 0 0,.pointer (some ⟨cb,0,none⟩)] 210)) w2.heap.size zb k 0 false (.slice none 0 0) (.slice none 0 0) (.slice none 0 0) cb:=heap_alloc_new w2 _
 have hs2:=hb2.size
 have hs1:=hb1.size
 refine (cutOver_any zb b off cap o n rs _ (((aU HZ).below hb12).below hb3) (((aU HG).below hb12).below hb3) hlen (by omega) hol).mono ?_
 rintro e w4 ⟨⟨v4,rfl,hv4⟩,hb4⟩
 obtain ⟨a4,c4,rfl⟩:=hv4.slice
 have S4:=S3.kept (hb4.block w2.heap.size (by simp))
 have hb24:Below w2.heap.size w2 w4:=hb3.trans (hb4.mono (by simp <;> omega))
 have hs4:w2.heap.size<w4.heap.size:=S4.lt
 clear S3 hv4 hb3 hb4
 obtain ⟨x0,x1,x2,x3,x4,x5,x6,x7⟩:=S4.cells
 have xf:=S4.frozen 3
 have H4:=aH S4
 clear S4 x0 x1 x2 x4 x5 x6 x7
 obtain ⟨au,hcI,hau⟩ : ∃ au:Bool,(((cutP o rs n).length:Int) == 0)=au∧decide ((cutP o rs n).length=0)=au:=⟨_,rfl,by
  by_cases h:(cutP o rs n).length=0
  ·rw [h]; rfl
  ·rw [decide_eq_false h,eq_comm,beq_eq_false_iff_ne]; omega⟩
 have HAU:=aH hau
 clear hau
 have S5:=(aU H4).set3 au
 have hb45:Below w2.heap.size w2 (w4.setCell ⟨w2.heap.size,3,none⟩ (.bool au)):=hb24.setCell (p:=⟨w2.heap.size,3,none⟩) (Nat.le_refl _) _
 have hs5:(w4.setCell ⟨w2.heap.size,3,none⟩ (.bool au)).heap.size=w4.heap.size:=by simp [World.setCell]
 have HF:=aH (aU HP w2.heap.size cb c au _ S5 ((aU HZ).below (hb12.trans (hb45.mono hb12.size))) ((aU HG).below (hb12.trans (hb45.mono hb12.size))) (by omega) (by omega) (by omega) ((aU HC2).below hb45 hcbl hcl) hne hcbl hcl (w.heap.size+1) (by omega))
 clear S5 H4
 go_wp2_with fail
 refine (aU HF).mono ?_
 rintro e w6 (⟨hch,rfl,hb6⟩ | ⟨rc,AL,AU,va,vb,hch,rfl,hs6,hov,hrv,hap,hb6⟩)
 ·have hB6:Below w.heap.size w w6:=(hb12.trans (hb45.mono hb12.size)).trans (hb6.mono (by omega))
  have r6:aL w6 w.heap.size (.int .i64 0) (.bool false) (.slice none 0 0) (.slice none 0 0) (.slice none 0 0):=((hb6.block w.heap.size (by omega)).trans (hb45.block w.heap.size (by omega))).trans r2
  obtain ⟨k0,k1,k2,k3,k4⟩:=aL.cells r6
  have kf0:=aL.frozen r6 0
  have kf1:=aL.frozen r6 1
  have kf2:=aL.frozen r6 2
  have kf3:=aL.frozen r6 3
  have kf4:=aL.frozen r6 4
  have A9:=((((aL.set0 r6 (.int .i64 2)).set1 (.bool true)).set2 (.slice none 0 0)).set3 (.slice none 0 0)).set4 (.slice none 0 0)
  obtain ⟨n0,n1,n2,n3,n4⟩:=A9.cells
  clear HF r6
  go_wp2_with fail
  refine bodyPost_ret (v:=.agg #[.int .i64 2,.bool true,.slice none 0 0,.slice none 0 0,.slice none 0 0]) ?_ rfl ?_
  ·simp [results,Tryz.results69,go_sem,n0,n1,n2,n3,n4]
  ·exact ⟨⟨_,rfl,.inl ⟨hch,rfl⟩⟩,((((hB6.setCell (p:=⟨w.heap.size,0,none⟩) (Nat.le_refl _) _).setCell (p:=⟨w.heap.size,1,none⟩) (Nat.le_refl _) _).setCell (p:=⟨w.heap.size,2,none⟩) (Nat.le_refl _) _).setCell (p:=⟨w.heap.size,3,none⟩) (Nat.le_refl _) _).setCell (p:=⟨w.heap.size,4,none⟩) (Nat.le_refl _) _⟩
 ·obtain ⟨nal,nbl,nm⟩:=aU HNM rc AL AU hch
  have HNM1:=aH nm
  have HNM2:=aH nal
  have HNM3:=aH nbl
  have HCH:=aH hch
  have HAP:=aH hap
  clear nm nal nbl hch hap
  have hB6:Below w2.heap.size w2 w6:=hb45.trans hb6
  have r6:=(hB6.block w.heap.size (by omega)).trans r2
  obtain ⟨y0,y1,y2,y3,y4,y5,y6,y7⟩:=hs6.cells
  obtain ⟨aa,ca,rfl⟩:=hov.slice
  obtain ⟨ab,cb',rfl⟩:=hrv.slice
  have HAD:=aH (additional_any zb b off cap o rc au _ _ (.slice none 0 0) rs _ _ w6 ((aU HZ).below (hb12.trans (hB6.mono hb12.size))) hzl hov.rv hrv.rv (aU HNM2) (aU HNM3) (aU HNM1))
  have HLO:=aH (And.intro hov.own_lt hrv.own_lt)
  have HS6:=aH hs6
  have HOV:=aH hov
  have HRV:=aH hrv
  have hs6l:=hs6.lt
  clear HF hs6 hov hrv
  go_wp2_with fail
  refine (aU HAD).mono ?_
  rintro e w7 ⟨⟨vd,rfl,hvd⟩,hb7⟩
  obtain ⟨ad,cd,rfl⟩:=hvd.slice
  have HVD:=aH hvd
  have hvdl:=hvd.own_lt
  clear hvd
  obtain ⟨PG,hPG⟩ : ∃ PG,(pGo rs AL (AL++AU)).2=PG:=⟨_,rfl⟩
  rw [hPG] at HVD hvdl ⊢
  have HPG:=aH hPG
  have HVDL:=aH hvdl
  clear hPG hvdl
  have hs7:=(aU HS6).kept (hb7.block w2.heap.size hs6l)
  obtain ⟨z0,z1,z2,z3,z4,z5,z6,z7⟩:=hs7.cells
  have zf:=hs7.frozen 6
  have hs8:=hs7.set6 (.slice ad PG.length cd)
  obtain ⟨p0,p1,p2,p3,p4,p5,p6,p7⟩:=hs8.cells
  have r7:=(hb7.block w.heap.size (by have:=hb6.size; rw [hs5] at this; omega)).trans r6
  have hRV7:=aH (And.intro ((aU HOV).below hb7) ((aU HRV).below hb7))
  obtain ⟨k0,k1,k2,k3,k4⟩:=aL.cells r7
  have kf0:=aL.frozen r7 0
  have kf1:=aL.frozen r7 1
  have kf2:=aL.frozen r7 2
  have kf3:=aL.frozen r7 3
  have kf4:=aL.frozen r7 4
  clear hs7 hs8 y0 y1 y2 y3 y4 y5 y6 y7 x3 xf r2 r6
  go_wp2_with fail
  have A9:=((((aL.set0 (show aL (w7.setCell ⟨w2.heap.size,6,none⟩ (.slice ad PG.length cd)) w.heap.size _ _ _ _ _ from (Below.heap_setCell _ _ _ _ (by show w.heap.size≠w2.heap.size; omega)).trans r7) (.int .i64 rc)).set1 (.bool au)).set2 (.slice aa AL.length ca)).set3 (.slice ab AU.length cb')).set4 (.slice ad PG.length cd)
  obtain ⟨n0,n1,n2,n3,n4⟩:=A9.cells
  have hB7:Below w2.heap.size w2 w7:=hB6.trans (hb7.mono (by omega))
  have hrvs:=aU hRV7
  refine bodyPost_ret (v:=.agg #[.int .i64 rc,.bool au,.slice aa AL.length ca,.slice ab AU.length cb',.slice ad PG.length cd]) ?_ rfl ?_
  ·simp [results,Tryz.results69,go_sem,n0,n1,n2,n3,n4]
  ·have hset : ∀ {v:Value} {l:List Rec},OwnR w7 (w2.heap.size+1) v l→OwnR ((((((w7.setCell ⟨w2.heap.size,6,none⟩ (.slice ad PG.length cd)).setCell ⟨w.heap.size,0,none⟩ (.int .i64 rc)).setCell ⟨w.heap.size,1,none⟩ (.bool au)).setCell ⟨w.heap.size,2,none⟩ (.slice aa AL.length ca)).setCell ⟨w.heap.size,3,none⟩ (.slice ab AU.length cb')).setCell ⟨w.heap.size,4,none⟩ (.slice ad PG.length cd)) w.heap.size v l:=fun h=>((((((h.set_low (k:=w2.heap.size) (i:=6) (by omega) _).set_low (k:=w.heap.size) (i:=0) (by omega) _).set_low (k:=w.heap.size) (i:=1) (by omega) _).set_low (k:=w.heap.size) (i:=2) (by omega) _).set_low (k:=w.heap.size) (i:=3) (by omega) _).set_low (k:=w.heap.size) (i:=4) (by omega) _).base (by omega)
   refine ⟨⟨_,rfl,.inr ⟨rc,AL,AU,_,_,_,aU HCH,by rw [aU HAU],hset hrvs.1,hset hrvs.2,?_,aU HAP,fun g h1 h2=>?_,fun g h1 h2=>?_⟩⟩,?_⟩
   ·rw [aU HPG]
    exact hset ((aU HVD).base (by have:=hB6.size; omega))
   ·have k1:=((aU HLO).1 g h1).2
    have k2:=(aU HVDL g h2).1
    omega
   ·have k1:=((aU HLO).2 g h1).2
    have k2:=(aU HVDL g h2).1
    omega
   ·have h7:=hb12.trans (hB7.mono hb12.size)
    exact (((((h7.setCell (p:=⟨w2.heap.size,6,none⟩) (by show w.heap.size≤w2.heap.size; omega) _).setCell (p:=⟨w.heap.size,0,none⟩) (Nat.le_refl _) _).setCell (p:=⟨w.heap.size,1,none⟩) (Nat.le_refl _) _).setCell (p:=⟨w.heap.size,2,none⟩) (Nat.le_refl _) _).setCell (p:=⟨w.heap.size,3,none⟩) (Nat.le_refl _) _).setCell (p:=⟨w.heap.size,4,none⟩) (Nat.le_refl _) _
end Lt
end Go.Proofs.YtkkpahmoljiepaaGreatDoor
