/- The document's answer (beaconref): (*Zone).more. -/
import Derived.Test.YtkkpahmoljiepaaGreatDoorJ22
import Derived.Deep.CutRange
set_option linter.unusedSimpArgs false
set_option linter.unusedVariables false
set_option maxRecDepth 1000000
set_option maxHeartbeats 12800000
namespace Go.Proofs.YtkkpahmoljiepaaGreatDoor
open Go.RowKit
open Pu (Str aH aU)
namespace Oh
open Ka Ed Ek Em En Ep Ia Sc Sf Si Lg Eu Ex Oa Ob Oc Od Of Og La Lb Es Ev Er Eh Za Ie Ec Ee Eb Re Lc Ke Li
theorem mgo_step (rs ans l:List Rec) (r:Rec):mGo rs ans (l++[r])=mStep rs ans (mGo rs ans l) r:=by
 unfold mGo
 rw [List.foldl_append]; rfl
theorem mgo_len (rs ans:List Rec) : ∀ (l:List Rec),(mGo rs ans l).1.length≤l.length∧(mGo rs ans l).2.length≤l.length*rs.length:=by
 intro l
 obtain ⟨n,hn⟩ : ∃ n,l.length=n:=⟨_,rfl⟩
 induction n generalizing l with
 | zero=>obtain rfl:l = []:=List.eq_nil_of_length_eq_zero hn; exact ⟨Nat.le_refl _,Nat.zero_le _⟩
 | succ n ih =>
  rcases List.eq_nil_or_concat l with rfl | ⟨l',r,rfl⟩
  ·simp at hn
  ·rw [List.concat_eq_append] at *
   have hl:l'.length=n:=by simp at hn; exact hn
   obtain ⟨h1,h2⟩:=ih l' hl
   rw [mgo_step]
   have ho:=List.length_filter_le (fun r':Rec=>r'.owner == lastW r.data && r'.type == 1) rs
   have hm:(l'++[r]).length*rs.length=l'.length*rs.length+rs.length:=by rw [List.length_append,Nat.add_mul]; simp
   rw [hm]
   unfold mStep own
   split
   ·split
    ·exact ⟨by simp; omega,by omega⟩
    ·refine ⟨by simp; omega,?_⟩
     split
     ·show (mGo rs ans l').2.length≤_; omega
     ·show ((mGo rs ans l').2++_).length≤_
      rw [List.length_append]; omega
   ·exact ⟨by simp; omega,by omega⟩
theorem mgo_mem (rs ans:List Rec) : ∀ (l:List Rec),∀ s∈(mGo rs ans l).1,∃ r∈l,nmd r=true∧s=lastW r.data:=by
 intro l
 obtain ⟨n,hn⟩ : ∃ n,l.length=n:=⟨_,rfl⟩
 induction n generalizing l with
 | zero=>obtain rfl:l = []:=List.eq_nil_of_length_eq_zero hn; intro s hs; cases hs
 | succ n ih =>
  rcases List.eq_nil_or_concat l with rfl | ⟨l',r,rfl⟩
  ·simp at hn
  ·rw [List.concat_eq_append] at *
   have hl:l'.length=n:=by simp at hn; exact hn
   intro s hs
   rw [mgo_step] at hs
   have old:s∈(mGo rs ans l').1→∃ r'∈l'++[r],nmd r'=true∧s=lastW r'.data:=fun h=>by
    obtain ⟨r',h1,h2,h3⟩:=ih l' hl s h
    exact ⟨r',List.mem_append_left _ h1,h2,h3⟩
   unfold mStep at hs
   split at hs
   ·rename_i hnm
    split at hs
    ·exact old hs
    ·rcases List.mem_append.1 hs with hs | hs
     ·exact old hs
     ·exact ⟨r,by simp,hnm,by simpa using hs⟩
   ·exact old hs
theorem step_no {rs ans:List Rec} {s:List Str×List Rec} {r:Rec} (h:nmd r=false):mStep rs ans s r=s:=by unfold mStep; rw [h]; rfl
theorem step_in {rs ans:List Rec} {s:List Str×List Rec} {r:Rec} {x:Str} (hx:lastW r.data=x) (h:nmd r=true) (hc:s.1.contains x=true):mStep rs ans s r=s:=by unfold mStep; rw [h,hx,hc]; rfl
theorem step_new {rs ans:List Rec} {s:List Str×List Rec} {r:Rec} {x:Str} (hx:lastW r.data=x) (h:nmd r=true) (hc:s.1.contains x=false):mStep rs ans s r=(s.1++[x],if ans.any (fun a=>a.owner == x && a.type == 1) then s.2 else s.2++own rs x 1):=by unfold mStep; rw [h,hx,hc]; rfl
theorem take_any {α:Type} (q:α→Bool) (l:List α) (k:Nat) (h:k<l.length):(l.take (k+1)).any q=((l.take k).any q || q l[k]):=by
 rw [List.take_succ_eq_append_getElem h,List.any_append]; simp
theorem take_has (l:List Str) (x:Str) (k:Nat) (h:k<l.length):(l.take (k+1)).contains x=((l.take k).contains x || decide (Sp.spl 46 l[k]=Sp.spl 46 x)):=by
 rw [List.take_succ_eq_append_getElem h,List.contains_append]
 congr 1
 rw [Bool.eq_iff_iff,decide_eq_true_iff]
 simp only [List.contains_cons,List.contains_nil,Bool.or_false,beq_iff_eq]
 exact ⟨fun e=>by rw [e],fun e=>(spl_inj e).symm⟩
theorem own_any (a:Rec) (x:Str):(a.owner == x && a.type == 1)=(decide (Sp.spl 46 a.owner=Sp.spl 46 x) && a.type == 1):=by
 congr 1
 rw [Bool.eq_iff_iff,decide_eq_true_iff,beq_iff_eq]
 exact ⟨fun e=>by rw [e],fun e=>spl_inj e⟩
def RX (w1 wx:World) (r:Rec):Prop:=∃ (vo:Value) (wg wof wcc:Nat),wx.heap[w1.heap.size]? = some (.cells #[vo,.int .i64 r.ttl,.int .i64 r.type,.string (B r.data),.slice (some ⟨wg,wof,none⟩) (Sp.spl 32 r.data).length wcc] 119)∧Below w1.heap.size w1 wx∧NmV w1 (.slice (some ⟨wg,wof,none⟩) (Sp.spl 32 r.data).length wcc) (Sp.spl 32 r.data)
theorem get_app (a b:List Rec) (i:Nat) (h:i<(a++b).length):(i<a.length∧∃ h':i<a.length,(a++b)[i]=a[i])∨(¬ i<a.length∧∃ h':i - a.length<b.length,(a++b)[i]=b[i - a.length]):=by
 by_cases hi:i<a.length
 ·exact .inl ⟨hi,hi,List.getElem_append_left hi⟩
 ·rw [List.length_append] at h
  exact .inr ⟨hi,by omega,List.getElem_append_right (by omega)⟩
theorem more_any (zb ab:Nat) (o:Str) (rs ans auth:List Rec) (rc:Int) (aa:Bool) (va vu:Value) (X:Nat→Prop) (w0 w:World) (hXa:X ab) (hXz : ∀ k,k<w0.heap.size→¬ X k) (hXn : ∀ k,w.heap.size≤k→¬ X k) (hXl : ∀ k,X k→k≤ab) (hz:RZone w0 zb o rs) (hok:ZOk o rs) (hb0:Below w0.heap.size w0 w) (hab:w0.heap.size≤ab)
  (hs:AsAt w ab rc aa va vu (.slice none 0 0)) (ha:OwnQ X w (ab+1) va ans) (hu:OwnQ X w (ab+1) vu auth) (hla:ans.length≤500) (hlu:auth.length≤500)
  (hnm : ∀ r∈ans++auth,nmd r=true→∃ ws x,Sp.spl 32 r.data=ws++[x]∧lastW r.data=x∧Sp.plain x=true∧r.data.length≤3000) (hol : ∀ r∈ans,r.owner.length≤900) :
  Calls Tryz.prog 187 #[.pointer (some ⟨zb,0,none⟩),.pointer (some ⟨ab,0,none⟩)] w fun e w'=>e=.returned (.tuple #[])∧∃ vd vs,MI X w w' ab rc aa va vu vd vs (mGo rs ans (ans++auth)).1 (mGo rs ans (ans++auth)).2:=by
 have HZ:=aH hz
 have HOK:=aH hok
 have HB0:=aH hb0
 have HA:=aH ha
 have HU:=aH hu
 have HNM:=aH hnm
 have HOL:=aH hol
 have habl:=hs.lt
 have M0:MI X w w ab rc aa va vu (.slice none 0 0) (.slice none 0 0) [] []:=⟨hs,Fr.refl _ _,⟨[],World.ownsRow_nil w _ _ 1,fun j hj=>by simp at hj⟩,OwnQ.nil _ _ _,(fun k hk=>by cases hk),habl,hXa,hXl⟩
 have HM0:=aH M0
 obtain ⟨aa',ac,rfl⟩:=ha.slice
 obtain ⟨ua,uc,rfl⟩:=hu.slice
 have HXZ:=aH hXz
 have HXN:=aH hXn
 clear hz hok hb0 hs ha hu hnm hol M0 hXa hXz hXn hXl
 go_enter Tryz.func187,Tryz.ntmps187
 go_wp2_with fail
 go_loopw [4,5] (fun vs iv wr=>∃ i vd,i≤(ans++auth).length∧iv=.int .i64 (i:Nat)∧(∃ a n c,vs=.slice a n c)∧MI X w wr ab rc aa (.slice aa' ans.length ac) (.slice ua auth.length uc) vd vs (mGo rs ans ((ans++auth).take i)).1 (mGo rs ans ((ans++auth).take i)).2) (fun _ iv _=>(ans++auth).length - (intOf iv).toNat)
 case atStart=>exact ⟨0,.slice none 0 0,Nat.zero_le _,rfl,⟨_,_,_,rfl⟩,aU HM0⟩
 case round =>
  obtain ⟨i,vd,hi,rfl,⟨sa,sn,sc,rfl⟩,hM⟩:=hrel
  obtain ⟨G,hG⟩ : ∃ G,mGo rs ans ((ans++auth).take i)=G:=⟨_,rfl⟩
  have hsl:=(mgo_len rs ans ((ans++auth).take i))
  have HMEM:Hid (∀ s∈(mGo rs ans ((ans++auth).take i)).1,s.length≤900):=fun s hs=>by
   obtain ⟨r,h1,h2,h3⟩:=mgo_mem rs ans _ s hs
   obtain ⟨_,x,_,h4,h5,_⟩:=aU HNM r (List.mem_of_mem_take h1) h2
   rw [h3,h4]
   have:=(plain_nel h5).2
   omega
  have hrl:=zlen (aU HOK)
  have hsl2:((ans++auth).take i).length≤1000:=by rw [List.length_take,List.length_append]; omega
  rw [hG] at hM hsl HMEM
  obtain ⟨SE,AD⟩:=G
  have hsl3:SE.length≤2000:=by have:=hsl.1; simp only at this; omega
  have hsl4:AD.length≤60000:=by
   have h1:=hsl.2
   have h2:=Nat.mul_le_mul hsl2 hrl
   simp only at h1
   omega
  have HG:=aH hG
  clear hG hsl
  simp only at hM HMEM
  have HM:=aH hM
  obtain ⟨s0,s1,s2,s3,s4⟩:=hM.an.cells
  have sf:=hM.an.frozen
  obtain ⟨da,dc,rfl⟩:=hM.ad.slice
  have hsz:=hM.fr.size
  have hlen:(ans++auth).length=ans.length+auth.length:=List.length_append
  by_cases hlt:i<(ans++auth).length
  ·have hltI:(i:Int)<(ans.length:Int)+(auth.length:Int):=by omega
   have HT:Hid ((ans++auth).take (i+1)=(ans++auth).take i++[(ans++auth)[i]]):=List.take_succ_eq_append_getElem hlt
   have HR:=aH (aU HNM _ (List.getElem_mem hlt))
   have HAW:=aH (hM.own (aU HA))
   have HUW:=aH (hM.own (aU HU))
   go_upto_region 2 with fail
   go_region
   have hM1:=hM.below (w1:=wr.drew) ((Below.refl _ _).drew)
   have HM1:=aH hM1
   have HAW:=aH (hM1.own (aU HA))
   have HUW:=aH (hM1.own (aU HU))
   have hsz1:=hM1.fr.size
   obtain ⟨t0,t1,t2,t3,t4⟩:=hM1.an.cells
   have tf:=hM1.an.frozen
   clear s0 s1 s2 s3 s4 sf hM hM1 HM hsz
   generalize wr.drew=w1 at *
   obtain ⟨r,hrE⟩ : ∃ r,r=(ans++auth)[i]:=⟨_,rfl⟩
   have HRE:=aH hrE
   rw [← hrE] at HT HR
   have hab1 : ¬ ab=w1.heap.size:=by have:=(aU HM1).lt; omega
   have al : ∀ (o:Obj) (a:Addr) (v:Value),w1.cell? a=some v→(w1.alloc o).cell? a=some v:=fun o a v h=>(World.cell?_of_block (Below.heap_alloc w1 o a.block (World.block_lt_of_cell? _ _ h))).trans h
   have ta2:=fun o=>al o _ _ t2
   have ta3:=fun o=>al o _ _ t3
   clear hrE hltI
   go_upto_if 35 with fail
   go_cut [6] from 13 to 141 (fun v6 wx=>v6=.pointer (some ⟨w1.heap.size,0,none⟩)∧RX w1 wx r)
   case first =>
    rcases get_app ans auth i hlt with ⟨hia,hia',hget⟩ | ⟨hia,hia',hget⟩
    ·have hiaI:(i:Int)<(ans.length:Int):=by omega
     rcases (aU HAW).recx with ⟨_,h⟩ | ⟨g,cap,hv,hg,hcap,hrx⟩
     ·rw [h] at hia; simp at hia
     obtain ⟨vo,vw,c0,c1,c2,c3,c4,n0,n1⟩:=hrx i hia'
     rw [← hget,← aU HRE] at c1 c2 c3 n0 n1
     obtain ⟨h1,h2,h3⟩:=Value.slice.inj hv
     rw [h1,h3] at t2
     clear ta2
     have ta2:=fun o=>al o _ _ t2
     obtain ⟨og,oof,occ,rfl,_,_⟩:=n0
     have hgl:g<w1.heap.size:=World.block_lt_of_cell? _ _ c0
     have N1:=aH n1.nm
     obtain ⟨wg,wof,wcc,rfl,_,_⟩:=n1
     have hg1 : ¬ g=w1.heap.size:=by omega
     have ca0:=fun o=>al o _ _ c0
     have ca1:=fun o=>al o _ _ c1
     have ca2:=fun o=>al o _ _ c2
     have ca3:=fun o=>al o _ _ c3
     have ca4:=fun o=>al o _ _ c4
     have hba : ∀ o,Below w1.heap.size w1 (w1.alloc o):=fun o=>(Below.refl _ _).alloc (Nat.le_refl _) _
     clear h1 h2 h3 hrx hv hget al hia hia' HAW HUW HM1
     go_wp2_with fail
     go_meet
     case rel=>exact ⟨rfl,_,wg,wof,wcc,World.alloc_heap_new w1 _,hba _,aU N1⟩
    ·have hiaI : ¬ (i:Int)<(ans.length:Int):=by omega
     rcases (aU HUW).recx with ⟨_,h⟩ | ⟨g,cap,hv,hg,hcap,hrx⟩
     ·rw [h] at hia'; simp at hia'
     obtain ⟨vo,vw,c0,c1,c2,c3,c4,n0,n1⟩:=hrx (i - ans.length) hia'
     rw [← hget,← aU HRE] at c1 c2 c3 n0 n1
     obtain ⟨h1,h2,h3⟩:=Value.slice.inj hv
     rw [h1,h3] at t3
     clear ta3
     have ta3:=fun o=>al o _ _ t3
     obtain ⟨og,oof,occ,rfl,_,_⟩:=n0
     have hgl:g<w1.heap.size:=World.block_lt_of_cell? _ _ c0
     have N1:=aH n1.nm
     obtain ⟨wg,wof,wcc,rfl,_,_⟩:=n1
     have hg1 : ¬ g=w1.heap.size:=by omega
     have ca0:=fun o=>al o _ _ c0
     have ca1:=fun o=>al o _ _ c1
     have ca2:=fun o=>al o _ _ c2
     have ca3:=fun o=>al o _ _ c3
     have ca4:=fun o=>al o _ _ c4
     have hba : ∀ o,Below w1.heap.size w1 (w1.alloc o):=fun o=>(Below.refl _ _).alloc (Nat.le_refl _) _
     clear h1 h2 h3 hrx hv hget al HAW HUW HM1
     go_upto_region 7 with fail
     go_region
     all_goals
      go_wp2_with fail
      go_meet
      case rel=>exact ⟨rfl,_,wg,wof,wcc,World.alloc_heap_new w1 _,(hba _).drew,aU N1⟩
   case rest =>
    obtain ⟨rfl,vo,wg,wof,wcc,hq2,hbx,N1⟩:=hcut
    have hM2:=(aU HM1).below hbx
    have N2:=N1.below hbx
    have hwgl:wg<w1.heap.size:=by obtain ⟨_,_,_,e,_,h⟩:=N1; cases e; exact h.1
    have HM2:=aH hM2
    have HN2:=aH N2
    have e2:wc.cell? ⟨w1.heap.size,2,none⟩=some (.int .i64 r.type):=by unfold World.cell?; rw [hq2]; rfl
    have e4:wc.cell? ⟨w1.heap.size,4,none⟩=some (.slice (some ⟨wg,wof,none⟩) (Sp.spl 32 r.data).length wcc):=by unfold World.cell?; rw [hq2]; rfl
    have hsz2:=hM2.fr.size
    clear hM2 hq2 N2 N1 hbx ta2 ta3 t0 t1 t2 t3 t4 tf HM1 HAW HUW al hab1
    generalize w1.heap.size=q at *
    go_upto_region 8 with fail
    go_cut [63] from 13 to 141 (fun v wx=>v=.bool (!nmd r)∧wx=wc)
    case first =>
     by_cases h2:r.type=2
     ·have hy2:(r.type != 2)=false:=by simp [h2]
      have hnd:nmd r=true:=by unfold nmd; simp [h2]
      have HN:=aH hnd
      clear h2 hnd
      go_wp2_with fail
      go_meet
      case rel=>exact ⟨by rw [aU HN]; rfl,rfl⟩
     ·have hy2:(r.type != 2)=true:=by simpa using h2
      have hnd:nmd r=(r.type == 15):=by unfold nmd; rw [beq_eq_false_iff_ne.2 h2,Bool.false_or]
      have HN:=aH hnd
      clear h2 hnd
      go_wp2_with fail
      go_meet
      case rel=>exact ⟨by rw [aU HN]; rfl,rfl⟩
    case rest =>
     obtain ⟨rfl,rfl⟩:=hcut
     cases hnd:nmd r with
     | false =>
      have HE:Hid (mGo rs ans ((ans++auth).take (i+1))=(SE,AD)):=by
       rw [Hid,aU HT,mgo_step,aU HG,step_no hnd]
      go_wp2_with fail
      exact ⟨⟨i+1,_,by omega,by go_num,⟨_,_,_,rfl⟩,by rw [aU HE]; exact aU HM2⟩,by simp [intOf]; omega⟩
     | true =>
      obtain ⟨ws,x,hsp,hlw,hpl,hdl⟩:=aU HR hnd
      have hxl:=(plain_nel hpl).2
      have wlc:wc.cell? ⟨wg,wof+ws.length,none⟩=some (.string (B x)):=by
       obtain ⟨_,_,_,e,_,h⟩:=aU HN2
       cases e
       have:=h.2 ws.length (by rw [hsp]; simp)
       rw [this]
       congr 3
       simp [hsp]
      have hcc:ws.length+1≤wcc:=by
       obtain ⟨_,_,_,e,hc,_⟩:=aU HN2
       cases e
       rw [hsp] at hc
       simpa using hc
      have hwn:(Sp.spl 32 r.data).length=ws.length+1:=by rw [hsp]; simp
      have hwl:ws.length≤3000:=by have:=Sp.spl_len_le 32 r.data; omega
      rw [hwn] at e4
      have hmod:((ws.length+1:Nat):Int) - 1=(ws.length:Int):=by omega
      have HRN:=aH (fun W=>readName_any x false W (by omega))
      have hnm:nmR false x=some (Sp.spl 46 x):=by
       have:=nmF x
       rw [hpl] at this
       unfold nmR at this ⊢
       split at this
       ·rename_i h; rw [if_pos h]
       ·cases this
      have HND:=aH (And.intro hnd hlw)
      clear hnd hlw hsp hwn HR
      go_wp2_with fail
      refine (aU HRN _).mono ?_
      rintro e w3 ⟨⟨v3,rfl,hv3⟩,hb3⟩
      rw [hnm] at hv3
      obtain ⟨_,g3,c3,rfl,hc3,hg3,ht3⟩:=hv3
      have hM3:=(aU HM2).below hb3
      have hn3:NmX w3 (fun k=>X k∨some k=(Value.slice da AD.length dc).ownBlock∨some k=(Value.slice sa sn sc).ownBlock) (.slice (some ⟨g3,0,none⟩) (Sp.spl 46 x).length c3) (Sp.spl 46 x):=⟨g3,0,c3,rfl,hc3,ht3,fun hc=>by
       rcases hc with hc | hc | hc
       ·exact aU HXN g3 (by omega) hc
       ·have:=((aU HM2).ad.lt g3 hc.symm).2; omega
       ·have:=((aU HM2).sn.lt g3 hc.symm).2; omega⟩
      have HM3:=aH hM3
      have HN3:=aH hn3
      obtain ⟨_,_,hsn⟩:=hM3.sn.slice
      obtain ⟨-,hsn2,-⟩:=Value.slice.inj hsn
      subst hsn2
      have hvn:(Sp.spl 46 x).length≤1000:=spl_small (by omega)
      clear hM3 hn3 hb3 hsn e2 e4 wlc
      go_wp2_with fail
      go_loopw [8,9] (fun tw kv wr=>∃ (k:Nat) (cb:Bool),k≤SE.length∧kv=.int .i64 k∧tw=.bool cb∧(SE.take k).contains x=cb∧MI X w wr ab rc aa (.slice aa' ans.length ac) (.slice ua auth.length uc) (.slice da AD.length dc) (.slice sa SE.length sc) SE AD∧NmX wr (fun k=>X k∨some k=(Value.slice da AD.length dc).ownBlock∨some k=(Value.slice sa SE.length sc).ownBlock) (.slice (some ⟨g3,0,none⟩) (Sp.spl 46 x).length c3) (Sp.spl 46 x)) (fun _ kv _=>SE.length - (intOf kv).toNat)
      case atStart=>exact ⟨0,false,Nat.zero_le _,rfl,rfl,rfl,aU HM3,aU HN3⟩
      case round =>
       obtain ⟨k,cb,hk,rfl,rfl,hcb,hMl,hnl⟩:=hrel
       have HCB:=aH hcb
       clear hcb
       by_cases hkl:k<SE.length
       ·have hklI:(k:Int)<(SE.length:Int):=by omega
        obtain ⟨gs,cs,us,hvs,hcs,hcell,hnu⟩:=hMl.sn.at hkl
        obtain ⟨h1,-,h3⟩:=Value.slice.inj hvs
        subst h1 h3
        have hse:=(aU HMEM) SE[k] (List.getElem_mem hkl)
        have HSM:=aH (same_any us _ (Sp.spl 46 SE[k]) (Sp.spl 46 x) wr hnu.nm hnl.nm (spl_small hse) hvn)
        have HMl:=aH hMl
        have HNl:=aH hnl
        have HTH:=aH (take_has SE x k hkl)
        obtain ⟨ug,uo,uc',rfl,_,_⟩:=hnu
        clear hMl hnl hvs hse
        go_wp2_with fail
        refine (aU HSM).mono ?_
        rintro e w5 ⟨rfl,hb5⟩
        have HM5:=aH ((aU HMl).below hb5)
        have HN5:=aH ((aU HNl).fr (p:=fun _=>True) (Fr.of_below hb5) (fun _ _=>trivial))
        clear hb5 HSM hcell
        cases cb with
        | false =>
         go_wp2_with fail
         exact ⟨⟨k+1,_,by omega,by go_num,rfl,by rw [aU HTH,aU HCB,Bool.false_or],aU HM5,aU HN5⟩,by simp [intOf]; omega⟩
        | true =>
         go_wp2_with fail
         exact ⟨⟨k+1,_,by omega,by go_num,rfl,by rw [aU HTH,aU HCB,Bool.true_or],aU HM5,aU HN5⟩,by simp [intOf]; omega⟩
       ·have hklI : ¬ (k:Int)<(SE.length:Int):=by omega
        have hke:k=SE.length:=by omega
        have HCT:Hid (SE.contains x=cb):=by
         have:=aU HCB
         rw [hke,List.take_length] at this
         exact this
        have HMl:=aH hMl
        have HNl:=aH hnl
        cases cb with
        | true =>
         have HE:Hid (mGo rs ans ((ans++auth).take (i+1))=(SE,AD)):=by
          rw [Hid,aU HT,mgo_step,aU HG,step_in (aU HND).2 (aU HND).1 (aU HCT)]
         clear hMl hnl
         go_wp2_with fail
         exact ⟨⟨i+1,_,by omega,by go_num,⟨_,_,_,rfl⟩,by rw [aU HE]; exact aU HMl⟩,by simp [intOf]; omega⟩
        | false =>
         have HE:Hid (mGo rs ans ((ans++auth).take (i+1))=(SE++[x],if ans.any (fun a=>a.owner == x && a.type == 1) then AD else AD++own rs x 1)):=by
          rw [Hid,aU HT,mgo_step,aU HG,step_new (aU HND).2 (aU HND).1 (aU HCT)]
         obtain ⟨v6,w6,hrun,hM6,hn6,hs6⟩:=hMl.seen1 hnl (by omega)
         have HRUN:=aH hrun
         have HM6:=aH hM6
         have HN6:=aH hn6
         obtain ⟨a6,c6,rfl⟩:=hM6.sn.slice
         rw [List.length_append,List.length_singleton] at HRUN HM6 HN6
         clear hMl hnl hrun hM6 hn6 HMl HNl
         go_wp2_with (at_builtin; go_loud (refine wpL_append (by rfl) (.tmp 90) (.tmp 92) 328 (by rfl) _ _ _ _ (by rfl) (by rfl) (aU HRUN) ?_))
         go_loopw [8,11] (fun tw kv wr=>∃ (k:Nat) (cb:Bool),k≤ans.length∧kv=.int .i64 k∧tw=.bool cb∧(ans.take k).any (fun a=>a.owner == x && a.type == 1)=cb∧MI X w wr ab rc aa (.slice aa' ans.length ac) (.slice ua auth.length uc) (.slice da AD.length dc) (.slice a6 (SE.length+1) c6) (SE++[x]) AD∧NmX wr (fun k=>X k∨some k=(Value.slice da AD.length dc).ownBlock∨some k=(Value.slice a6 (SE.length+1) c6).ownBlock) (.slice (some ⟨g3,0,none⟩) (Sp.spl 46 x).length c3) (Sp.spl 46 x)) (fun _ kv _=>ans.length - (intOf kv).toNat)
         case atStart=>exact ⟨0,false,Nat.zero_le _,rfl,rfl,rfl,aU HM6,aU HN6⟩
         case round =>
          obtain ⟨k,cb,hk,rfl,rfl,hcb,hMl,hnl⟩:=hrel
          have HCB:=aH hcb
          clear hcb
          obtain ⟨s0,s1,s2,s3,s4⟩:=hMl.an.cells
          have sf:=hMl.an.frozen
          by_cases hkl:k<ans.length
          ·have hklI:(k:Int)<(ans.length:Int):=by omega
           rcases (hMl.own (aU HA)).recx with ⟨_,h⟩ | ⟨g,cap,hv,hg,hcap,hrx⟩
           ·rw [h] at hkl; simp at hkl
           obtain ⟨vo,vw,c0,c1,c2,c3',c4,n0,n1⟩:=hrx k hkl
           obtain ⟨h1,-,h3⟩:=Value.slice.inj hv
           have H13:=aH (And.intro h1 h3)
           rw [h1,h3] at s2
           clear h1 h3 hv
           have hol:=aU HOL ans[k] (List.getElem_mem hkl)
           have HSM:=aH (same_any vo _ (Sp.spl 46 ans[k].owner) (Sp.spl 46 x) wr n0.nm hnl.nm (spl_small hol) hvn)
           have HMl:=aH hMl
           have HNl:=aH hnl
           have HTH:=aH (take_any (fun a:Rec=>a.owner == x && a.type == 1) ans k hkl)
           have HOA:=aH (own_any ans[k] x)
           have HC:=aH c2
           obtain ⟨ug,uo,uc',rfl,_,_⟩:=n0
           have hgl:g<wr.heap.size:=World.block_lt_of_cell? _ _ c0
           generalize ans[k]=a at *
           clear hMl hnl hrx hol c1 c2 c3' c4 n1 s0 s1 s3 s4
           go_wp2_with fail
           refine (aU HSM).mono ?_
           rintro e w7 ⟨rfl,hb7⟩
           have HM7:=aH ((aU HMl).below hb7)
           have HN7:=aH ((aU HNl).fr (p:=fun _=>True) (Fr.of_below hb7) (fun _ _=>trivial))
           have d2:w7.cell? ⟨g,k*5+2,none⟩=some (.int .i64 a.type):=(hb7.cell (p:=⟨g,k*5+2,none⟩) hgl).trans (aU HC)
           obtain ⟨q0,q1,q2,q3,q4⟩:=(aU HM7).an.cells
           rw [(aU H13).1,(aU H13).2] at q2
           clear hb7 HSM c0 s2 sf q0 q1 q3 q4 HC
           obtain ⟨sb,hsb⟩ : ∃ sb,decide (Sp.spl 46 a.owner=Sp.spl 46 x)=sb:=⟨_,rfl⟩
           rw [hsb]
           have HSB:=aH hsb
           clear hsb
           cases cb with
           | true =>
            go_wp2_with fail
            exact ⟨⟨k+1,_,by omega,by go_num,rfl,by rw [aU HTH,aU HCB,Bool.true_or],aU HM7,aU HN7⟩,by simp [intOf]; omega⟩
           | false =>
            cases sb with
            | false =>
             go_wp2_with fail
             exact ⟨⟨k+1,_,by omega,by go_num,rfl,by rw [aU HTH,aU HCB,Bool.false_or,aU HOA,aU HSB,Bool.false_and],aU HM7,aU HN7⟩,by simp [intOf]; omega⟩
            | true =>
             go_wp2_with fail
             exact ⟨⟨k+1,_,by omega,by go_num,rfl,by rw [aU HTH,aU HCB,Bool.false_or,aU HOA,aU HSB,Bool.true_and],aU HM7,aU HN7⟩,by simp [intOf]; omega⟩
          ·have hklI : ¬ (k:Int)<(ans.length:Int):=by omega
           have hke:k=ans.length:=by omega
           have HCT2:Hid (ans.any (fun a=>a.owner == x && a.type == 1)=cb):=by
            have:=aU HCB
            rw [hke,List.take_length] at this
            exact this
           have HMl:=aH hMl
           have HNl:=aH hnl
           cases cb with
           | true =>
            have HE2:Hid (mGo rs ans ((ans++auth).take (i+1))=(SE++[x],AD)):=by
             rw [Hid,aU HE,aU HCT2]; rfl
            clear hMl hnl
            go_wp2_with fail
            exact ⟨⟨i+1,_,by omega,by go_num,⟨_,_,_,rfl⟩,by rw [aU HE2]; exact aU HMl⟩,by simp [intOf]; omega⟩
           | false =>
            have HE2:Hid (mGo rs ans ((ans++auth).take (i+1))=(SE++[x],AD++own rs x 1)):=by
             rw [Hid,aU HE,aU HCT2]; rfl
            have hMd:=hMl.below (w1:=wr.drew) ((Below.refl _ _).drew)
            have hnd':=hnl.fr (p:=fun _=>True) (B:=wr.drew) (Fr.of_below ((Below.refl _ _).drew)) (fun _ _=>trivial)
            clear hMl hnl HMl HNl
            go_upto_region 24 with fail
            clear s0 s1 s2 s3 s4 sf
            obtain ⟨s0,s1,s2,s3,s4⟩:=hMd.an.cells
            have sf:=hMd.an.frozen
            have HMD:=aH hMd
            have hown1:(ownT rs x 1).map (setOwner x)=own rs x 1:=by rw [own_id]; unfold ownT; rw [if_neg (by decide)]
            have hol1:=ownT_len (aU HOK) x 1
            have HSET:=aH (set_q (W:=wr.drew) (x:=fun k=>(X k∨some k=(Value.slice a6 (SE.length+1) c6).ownBlock)∨some k=(Value.slice da AD.length dc).ownBlock) (base:=0) (aU HZ) (aU HOK) (hMd.zone (aU HB0) hab) (fun k hk hc=>by
             rcases hc with (hc | hc) | hc
             ·exact aU HXZ k hk hc
             ·have:=(hMd.sn.lt k hc.symm).1; have:=(aU HB0).size; omega
             ·have:=(hMd.ad.lt k hc.symm).1; have:=(aU HB0).size; omega) (Nat.zero_le _) x x _ _ 1 hnd'.nm hvn (hnd'.imp (fun k _ hn hc=>hn (by rcases hc with (hc | hc) | hc; exact .inl hc; exact .inr (.inr hc); exact .inr (.inl hc)))))
            clear hMd hnd' 
            refine wp_region_held_drew (S:=fun _=>True) (by kernel_rfl) trivial (fun hS=>?_)
            refine wpAnyH_take (i:=0) (v:=?_) rfl (by kernel_rfl) (by kernel_rfl) (by kernel_rfl) (fun _ _ _ h=>h) (Or.inl ⟨by rfl,by intro w hw; go_simp; first | done | with_reducible rfl⟩) trivial ?_
            simp only [Act.put,List.setIfInBounds_toArray,List.set_cons_zero,List.set_cons_succ]
            refine wpAnyH_take (i:=1) (v:=?_) rfl (by kernel_rfl) (by kernel_rfl) (by kernel_rfl) (fun _ _ _ h=>h) (Or.inl ⟨by rfl,by intro w hw; go_simp; first | done | with_reducible rfl⟩) trivial ?_
            simp only [Act.put,List.setIfInBounds_toArray,List.set_cons_zero,List.set_cons_succ]
            refine wpAnyH_take (i:=2) (v:=?_) rfl (by kernel_rfl) (by kernel_rfl) (by kernel_rfl) (fun _ _ _ h=>h) (Or.inl ⟨by rfl,by intro w hw; go_simp; first | done | with_reducible rfl⟩) trivial ?_
            simp only [Act.put,List.setIfInBounds_toArray,List.set_cons_zero,List.set_cons_succ]
            refine wpAnyH_take (i:=3) (v:=?_) rfl (by kernel_rfl) (by kernel_rfl) (by kernel_rfl) (fun _ _ _ h=>h) (Or.inl ⟨by rfl,by intro w hw; go_simp; first | done | with_reducible rfl⟩) trivial ?_
            simp only [Act.put,List.setIfInBounds_toArray,List.set_cons_zero,List.set_cons_succ]
            refine wpAnyH_take (i:=5) (v:=?_) rfl (by kernel_rfl) (by kernel_rfl) (by kernel_rfl) (fun _ _ _ h=>h) (Or.inl ⟨by rfl,by intro w hw; go_simp; first | done | with_reducible rfl⟩) trivial ?_
            simp only [Act.put,List.setIfInBounds_toArray,List.set_cons_zero,List.set_cons_succ]
            refine wpAnyH_take (i:=6) (v:=?_) rfl (by kernel_rfl) (by kernel_rfl) (by kernel_rfl) (fun _ _ _ h=>h) (Or.inl ⟨by rfl,by intro w hw; go_simp; first | done | with_reducible rfl⟩) trivial ?_
            simp only [Act.put,List.setIfInBounds_toArray,List.set_cons_zero,List.set_cons_succ]
            refine wpAnyH_take (i:=7) (v:=?_) rfl (by kernel_rfl) (by kernel_rfl) (by kernel_rfl) (fun _ _ _ h=>h) (Or.inl ⟨by rfl,by intro w hw; go_simp; first | done | with_reducible rfl⟩) trivial ?_
            simp only [Act.put,List.setIfInBounds_toArray,List.set_cons_zero,List.set_cons_succ]
            refine wpAnyH_ready (rs:=[4,8]) (by kernel_rfl) (by simp) (AllReadyH.cons rfl (fun K hK=>?_) (AllReadyH.cons rfl (fun K hK=>?_) AllReadyH.nil))
            ·go_simp
             refine hK.out _ _ trivial (fun hS=>?_)
             clear hK K
             try simp only [Act.put,List.setIfInBounds_toArray,List.set_cons_zero,List.set_cons_succ]
             refine wpAnyH_ready (rs:=[8]) (by kernel_rfl) (by simp) (AllReadyH.cons rfl (fun K hK=>?_) AllReadyH.nil)
             go_simp
             go_wp2_with (go_at_call 237; go_loud (refine (aU HSET).mono ?_; rintro e w7 ⟨⟨vx,rfl,hx7⟩,hb7⟩; have HX7:=aH hx7; have HHB7:=aH hb7; clear hx7 hb7))
             have hM7:=(aU HMD).below (aU HHB7)
             obtain ⟨v8,w8,hrun,S8,hM8,a8,c8,hv8⟩:=hM7.add1 (aU HX7) (by rw [List.length_map]; omega)
             subst hv8
             have HRUN8:=aH hrun
             have HM8:=aH hM8
             obtain ⟨q0,q1,q2,q3,q4⟩:=hM7.an.cells
             have qf:=hM7.an.frozen
             obtain ⟨y0,y1,y2,y3,y4⟩:=S8.cells
             have yf:=S8.frozen
             clear hM7 hrun S8 hM8
             refine hK.out _ _ trivial (fun hS=>?_)
             clear hK K
             try simp only [Act.put,List.setIfInBounds_toArray,List.set_cons_zero,List.set_cons_succ]
             refine wpAnyH_ready (rs:=[9]) (by kernel_rfl) (by simp) (AllReadyH.cons rfl (fun K hK=>?_) AllReadyH.nil)
             rw [if_pos (by rfl)]
             refine wpO_append (.tmp 134) (.tmp 138) 115 (by rfl) _ _ _ _ (by rfl) (by rfl) (aU HRUN8) ?_
             refine hK.out _ _ trivial (fun hS=>?_)
             clear hK K
             try simp only [Act.put,List.setIfInBounds_toArray,List.set_cons_zero,List.set_cons_succ]
             refine wpAnyH_take (i:=10) (v:=?_) rfl (by kernel_rfl) (by kernel_rfl) (by kernel_rfl) (fun _ _ _ h=>h) (Or.inl ⟨by rfl,by intro w hw; go_simp; first | done | with_reducible rfl⟩) trivial ?_
             simp only [Act.put,List.setIfInBounds_toArray,List.set_cons_zero,List.set_cons_succ]
             refine wpAnyH_take (i:=11) (v:=?_) rfl (by kernel_rfl) (by kernel_rfl) (by kernel_rfl) (fun _ _ _ h=>h) (Or.inl ⟨by rfl,by intro w hw; go_simp; first | done | with_reducible rfl⟩) trivial ?_
             simp only [Act.put,List.setIfInBounds_toArray,List.set_cons_zero,List.set_cons_succ]
             refine wpAnyH_ready (rs:=[12]) (by kernel_rfl) (by simp) (AllReadyH.cons rfl (fun K hK=>?_) AllReadyH.nil)
             go_simp
             refine hK.out _ _ trivial (fun hS=>?_)
             clear hK K
             refine wpAnyH_done (by kernel_rfl) ?_ _
             go_wp2_with fail
             exact ⟨⟨i+1,_,by omega,by go_num,⟨_,_,_,rfl⟩,by rw [aU HE2]; rw [hown1] at HM8; exact aU HM8⟩,by simp [intOf]; omega⟩
            ·go_simp
             go_wp2_with (go_at_call 237; go_loud (refine (aU HSET).mono ?_; rintro e w7 ⟨⟨vx,rfl,hx7⟩,hb7⟩; have HX7:=aH hx7; have HHB7:=aH hb7; clear hx7 hb7))
             have hM7:=(aU HMD).below (aU HHB7)
             obtain ⟨v8,w8,hrun,S8,hM8,a8,c8,hv8⟩:=hM7.add1 (aU HX7) (by rw [List.length_map]; omega)
             subst hv8
             have HRUN8:=aH hrun
             have HM8:=aH hM8
             obtain ⟨q0,q1,q2,q3,q4⟩:=hM7.an.cells
             have qf:=hM7.an.frozen
             obtain ⟨y0,y1,y2,y3,y4⟩:=S8.cells
             have yf:=S8.frozen
             clear hM7 hrun S8 hM8
             refine hK.out _ _ trivial (fun hS=>?_)
             clear hK K
             try simp only [Act.put,List.setIfInBounds_toArray,List.set_cons_zero,List.set_cons_succ]
             refine wpAnyH_ready (rs:=[4]) (by kernel_rfl) (by simp) (AllReadyH.cons rfl (fun K hK=>?_) AllReadyH.nil)
             go_simp
             refine hK.out _ _ trivial (fun hS=>?_)
             clear hK K
             try simp only [Act.put,List.setIfInBounds_toArray,List.set_cons_zero,List.set_cons_succ]
             refine wpAnyH_ready (rs:=[9]) (by kernel_rfl) (by simp) (AllReadyH.cons rfl (fun K hK=>?_) AllReadyH.nil)
             rw [if_pos (by rfl)]
             refine wpO_append (.tmp 134) (.tmp 138) 115 (by rfl) _ _ _ _ (by rfl) (by rfl) (aU HRUN8) ?_
             refine hK.out _ _ trivial (fun hS=>?_)
             clear hK K
             try simp only [Act.put,List.setIfInBounds_toArray,List.set_cons_zero,List.set_cons_succ]
             refine wpAnyH_take (i:=10) (v:=?_) rfl (by kernel_rfl) (by kernel_rfl) (by kernel_rfl) (fun _ _ _ h=>h) (Or.inl ⟨by rfl,by intro w hw; go_simp; first | done | with_reducible rfl⟩) trivial ?_
             simp only [Act.put,List.setIfInBounds_toArray,List.set_cons_zero,List.set_cons_succ]
             refine wpAnyH_take (i:=11) (v:=?_) rfl (by kernel_rfl) (by kernel_rfl) (by kernel_rfl) (fun _ _ _ h=>h) (Or.inl ⟨by rfl,by intro w hw; go_simp; first | done | with_reducible rfl⟩) trivial ?_
             simp only [Act.put,List.setIfInBounds_toArray,List.set_cons_zero,List.set_cons_succ]
             refine wpAnyH_ready (rs:=[12]) (by kernel_rfl) (by simp) (AllReadyH.cons rfl (fun K hK=>?_) AllReadyH.nil)
             go_simp
             refine hK.out _ _ trivial (fun hS=>?_)
             clear hK K
             refine wpAnyH_done (by kernel_rfl) ?_ _
             go_wp2_with fail
             exact ⟨⟨i+1,_,by omega,by go_num,⟨_,_,_,rfl⟩,by rw [aU HE2]; rw [hown1] at HM8; exact aU HM8⟩,by simp [intOf]; omega⟩
  ·have hltI : ¬ (i:Int)<(ans.length:Int)+(auth.length:Int):=by omega
   have hie:i=(ans++auth).length:=by omega
   have HE:Hid (mGo rs ans (ans++auth)=(SE,AD)):=by
    have:=aU HG
    rw [hie,List.take_length] at this
    exact this
   go_upto_region 2 with fail
   go_region
   have HMD:=aH (hM.below (w1:=wr.drew) ((Below.refl _ _).drew))
   clear hM HM
   go_wp2_with fail
   refine bodyPost_end (v:=.tuple #[]) (by simp [results,Tryz.results187]) rfl ?_
   exact ⟨rfl,_,_,by rw [aU HE]; exact aU HMD⟩
end Oh
end Go.Proofs.YtkkpahmoljiepaaGreatDoor
