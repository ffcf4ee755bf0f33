/- The document's answer (beaconref): is a zone right? -/
import Derived.Test.YtkkpahmoljiepaaGreatDoorJ18
import Derived.BigQuiet
set_option linter.unusedSimpArgs false
set_option linter.unusedVariables false
set_option maxRecDepth 1000000
set_option maxHeartbeats 12800000
namespace Go.Proofs.YtkkpahmoljiepaaGreatDoor
open Go.RowKit
open Pu (Str aH aU)
namespace Ej
open Ka Kb Re Wa Wb Ea Eb Ec Ed Ee Ef Eh Ei
def RowOk (o:Str) (rs:List Rec) (i:Nat):Prop:=∀ h:i<rs.length,undP (Sp.spl 46 rs[i].owner) (Sp.spl 46 o)=true∧¬ (0<i∧rs[i].type=6)∧∀ k (hk:k<rs.length),k≠i→besR o rs[i] rs[k]=true
def RightR (o:Str) (rs:List Rec):Prop:=(∃ h:0<rs.length,rs[0].type=6∧Sp.spl 46 rs[0].owner=Sp.spl 46 o)∧hasR rs (Sp.spl 46 o) 2=true∧∀ i,RowOk o rs i
def RtR (o:Str) (rs:List Rec) (e:Ending):Prop:=∃ b,e=.returned (.bool b)∧(b=true ↔ RightR o rs)
theorem rt_no {o:Str} {rs:List Rec} (h : ¬ RightR o rs):RtR o rs (.returned (.bool false)):=⟨false,rfl,by simp [h]⟩
theorem rt_yes {o:Str} {rs:List Rec} (h:RightR o rs):RtR o rs (.returned (.bool true)):=⟨true,rfl,by simp [h]⟩
structure Rc5 (w:World) (b o:Nat) (vo vw:Value) (r:Rec):Prop where
 c0:w.cell? ⟨b,o,none⟩=some vo
 c1:w.cell? ⟨b,o+1,none⟩=some (.int .i64 r.ttl)
 c2:w.cell? ⟨b,o+2,none⟩=some (.int .i64 r.type)
 c3:w.cell? ⟨b,o+3,none⟩=some (.string (B r.data))
 c4:w.cell? ⟨b,o+4,none⟩=some vw
theorem keep11 {W W':World} {a0 a1 a2 a3 a4 a5 a6 a7 a8 a9 a10:Addr} {v0 v1 v2 v3 v4 v5 v6 v7 v8 v9 v10:Value} (hb:Below W.heap.size W W') (h:W.cell? a0=some v0∧W.cell? a1=some v1∧W.cell? a2=some v2∧W.cell? a3=some v3∧W.cell? a4=some v4∧W.cell? a5=some v5∧W.cell? a6=some v6∧W.cell? a7=some v7∧W.cell? a8=some v8∧W.cell? a9=some v9∧W.cell? a10=some v10) :
  W'.cell? a0=some v0∧W'.cell? a1=some v1∧W'.cell? a2=some v2∧W'.cell? a3=some v3∧W'.cell? a4=some v4∧W'.cell? a5=some v5∧W'.cell? a6=some v6∧W'.cell? a7=some v7∧W'.cell? a8=some v8∧W'.cell? a9=some v9∧W'.cell? a10=some v10:=by
 have kp : ∀ (a:Addr) (v:Value),W.cell? a=some v→W'.cell? a=some v:=fun a v h=>(hb.cell (World.block_lt_of_cell? W a h)).trans h
 obtain ⟨e0,e1,e2,e3,e4,e5,e6,e7,e8,e9,e10⟩:=h
 exact ⟨kp _ _ e0,kp _ _ e1,kp _ _ e2,kp _ _ e3,kp _ _ e4,kp _ _ e5,kp _ _ e6,kp _ _ e7,kp _ _ e8,kp _ _ e9,kp _ _ e10⟩
theorem right_any (zb:Nat) (o:Str) (rs:List Rec) (w:World) (hz:RZone w zb o rs) (hf:RFit o rs) (h0:0<rs.length) :
  Calls Tryz.prog 65 #[.pointer (some ⟨zb,0,none⟩)] w fun e w'=>RtR o rs e∧Below w.heap.size w w':=by
 have HZ:=aH hz
 obtain ⟨vo,b,off,cap,z0,z1,z2,z3⟩:=hz
 have hzl:zb<w.heap.size:=(Array.getElem?_eq_some_iff.1 z0).1
 have HF:=aH hf
 have hol:=hf.1
 have hrl:=hf.2.1
 have ZC:Hid (∀ V,Below w.heap.size w V→V.cell? ⟨zb,0,none⟩=some vo∧V.cell? ⟨zb,1,none⟩=some (.slice (some ⟨b,off,none⟩) rs.length cap)):=fun V hb=>by
  have:=(hb.block zb hzl).trans z0
  constructor <;> (unfold World.cell?; rw [this]; rfl)
 have RC:Hid (∀ V,Below w.heap.size w V→∀ k (hk:k<rs.length),∃ ro rv,Rc5 V b (off+k*5) ro rv rs[k]∧NmV V ro (Sp.spl 46 rs[k].owner)∧(∃ a n c,ro=.slice a n c)∧∃ a n c,rv=.slice a n c):=fun V hb k hk=>by
  obtain ⟨ro,rv,q0,q1,q2,q3,q4,q5,q6⟩:=(z3 k hk).below hb
  refine ⟨ro,rv,⟨q0,q1,q2,q3,q4⟩,q5,?_,?_⟩
  ·obtain ⟨g,o',c,h,_⟩:=q5; exact ⟨_,_,_,h⟩
  ·obtain ⟨g,o',c,h,_⟩:=q6; exact ⟨_,_,_,h⟩
 have HO:Hid (∀ V,Below w.heap.size w V→NmV V vo (Sp.spl 46 o)):=fun V hb=>z1.below hb
 have hl0:=hf.2.2 rs[0] (List.getElem_mem h0)
 have h0I:((rs.length:Int) == 0)=false:=by rw [beq_eq_false_iff_ne]; omega
 have h0J:(0:Int)<(rs.length:Int):=by omega
 obtain ⟨ro0,rv0,q,hq,_,_⟩:=aU RC w (Below.refl _ _) 0 h0
 rw [Nat.zero_mul,Nat.add_zero] at q
 have q0:=q.c0
 have q2:=q.c2
 obtain ⟨y0,y1⟩:=aU ZC w (Below.refl _ _)
 have HQ:=aH hq
 clear z0 z1 z3 hf q hq
 by_cases t6:rs[0].type=6
 ·have t6I:(rs[0].type != 6)=false:=by rw [bne_eq_false_iff_eq]; exact t6
  have HT6:=aH t6
  have HSAME:=aH (fun V (hb:Below w.heap.size w V)=>same_any ro0 vo (Sp.spl 46 rs[0].owner) (Sp.spl 46 o) V ((aU HQ).below hb) (aU HO V hb) (spl_small hl0) (spl_small hol))
  have HHAS:=aH (fun V (hb:Below w.heap.size w V)=>has_any zb o rs vo (Sp.spl 46 o) 2 V ((aU HZ).below hb) (aU HF) (aU HO V hb) (spl_small hol))
  obtain ⟨ty,hty⟩ : ∃ ty,ty=rs[0].type:=⟨_,rfl⟩
  rw [← hty] at q2 t6I
  clear t6 hty
  go_enter Tryz.func65,Tryz.ntmps65
  go_upto_region 3 with fail
  have hS:w.drew.cell? ⟨zb,0,none⟩=some vo∧w.drew.cell? ⟨zb,1,none⟩=some (.slice (some ⟨b,off,none⟩) rs.length cap)∧w.drew.cell? ⟨b,off,none⟩=some ro0:=⟨y0,y1,q0⟩
  go_region_held (fun w'=>w'.cell? ⟨zb,0,none⟩=some vo∧w'.cell? ⟨zb,1,none⟩=some (.slice (some ⟨b,off,none⟩) rs.length cap)∧w'.cell? ⟨b,off,none⟩=some ro0) (first | assumption | go_keep)
   (first | (go_at_call 117; go_loud (refine (aU HSAME _ (Below.refl _ _).drew).mono ?_; rintro e w2 ⟨rfl,hb2⟩; have hS2:w2.cell? ⟨zb,0,none⟩=some vo∧w2.cell? ⟨zb,1,none⟩=some (.slice (some ⟨b,off,none⟩) rs.length cap)∧w2.cell? ⟨b,off,none⟩=some ro0:=⟨(hb2.cell (p:=⟨zb,0,none⟩) hzl).trans y0,(hb2.cell (p:=⟨zb,1,none⟩) hzl).trans y1,(hb2.cell (p:=⟨b,off,none⟩) (World.block_lt_of_cell? _ _ q0)).trans q0⟩)))
  have hB2:Below w.heap.size w w2:=(Below.refl w.heap.size w).drew.trans hb2
  obtain ⟨y0,y1⟩:=aU ZC w2 hB2
  have HB2:=aH hB2
  have HH2:=aH (aU HHAS w2 hB2)
  clear hb2 hB2 hS2 hS
  have HHD:Hid (RightR o rs→decide (Sp.spl 46 rs[0].owner=Sp.spl 46 o)=true∧hasR rs (Sp.spl 46 o) 2=true):=fun h=>⟨decide_eq_true (by obtain ⟨_,h1⟩:=h.1; exact h1.2),h.2.1⟩
  have HBK:Hid (decide (Sp.spl 46 rs[0].owner=Sp.spl 46 o)=true→hasR rs (Sp.spl 46 o) 2=true→(∀ i,RowOk o rs i)→RightR o rs):=fun h1 h2 h3=>⟨⟨h0,aU HT6,of_decide_eq_true h1⟩,h2,h3⟩
  generalize decide (Sp.spl 46 rs[0].owner=Sp.spl 46 o)=same at *
  generalize hasR rs (Sp.spl 46 o) 2=has at *
  go_wp2_with fail
  refine (aU HH2).mono ?_
  rintro e w3 ⟨rfl,hb3⟩
  have HB3:=aH ((aU HB2).trans (hb3.mono (aU HB2).size))
  clear hb3 HH2 HHAS HSAME
  cases same
  ·go_wp2_with fail
   go_ret
   exact ⟨rt_no (fun h=>by have:=(aU HHD h).1; cases this),aU HB3⟩
  cases has
  ·go_wp2_with fail
   go_ret
   exact ⟨rt_no (fun h=>by have:=(aU HHD h).2; cases this),aU HB3⟩
  go_wp2_with fail
  go_loopg [5] rs.length (fun g1 vi wr=>∃ (i:Nat),vi=.int .i64 i∧i+g1=rs.length∧(∀ j,j<i→RowOk o rs j)∧Hid (Below w.heap.size w wr))
  case atStart=>exact ⟨0,rfl,by omega,fun j hj=>by omega,aU HB3⟩
  case round =>
   obtain ⟨i,rfl,hig,hok,hbr⟩:=hrel
   have HOK:=aH hok
   obtain ⟨y0,y1⟩:=aU ZC wr (aU hbr)
   clear hok HQ q0 q2 HB2 HB3
   by_cases hlt:i<rs.length
   ·have hltI:(i:Int)<(rs.length:Int):=by omega
    obtain ⟨ro,rv,q,hq,⟨oa,on,oc,rfl⟩,⟨wa,wn,wc,rfl⟩⟩:=aU RC wr (aU hbr) i hlt
    have hrl:=(aU HF).2.2 rs[i] (List.getElem_mem hlt)
    obtain ⟨r,hr⟩ : ∃ r,r=rs[i]:=⟨_,rfl⟩
    rw [← hr] at q hq hrl
    obtain ⟨c0,c1,c2,c3,c4⟩:=q
    obtain ⟨W,hW⟩ : ∃ W,W=wr.alloc (.cells #[(.slice oa on oc),.int .i64 r.ttl,.int .i64 r.type,.string (B r.data),(.slice wa wn wc)] 119):=⟨_,rfl⟩
    have hbW:Below wr.heap.size wr W:=by rw [hW]; exact (Below.refl _ _).alloc (Nat.le_refl _) _
    have hnew:W.heap[wr.heap.size]? = some (.cells #[(.slice oa on oc),.int .i64 r.ttl,.int .i64 r.type,.string (B r.data),(.slice wa wn wc)] 119):=by rw [hW]; exact World.alloc_heap_new wr _
    have hltW:wr.heap.size<W.heap.size:=(Array.getElem?_eq_some_iff.1 hnew).1
    have hBW:Below w.heap.size w W:=(aU hbr).trans (hbW.mono (aU hbr).size)
    have R5:Hid (∀ V,Below W.heap.size W V→Rc5 V wr.heap.size 0 (.slice oa on oc) (.slice wa wn wc) r):=fun V hb=>by
     have:=(hb.block wr.heap.size hltW).trans hnew
     constructor <;> (unfold World.cell?; rw [this]; rfl)
    have HBW:=aH hBW
    have HNR:Hid (∀ V,Below W.heap.size W V→NmV V (.slice oa on oc) (Sp.spl 46 r.owner)):=fun V hb=>(hq.below hbW).below hb
    have HUND:=aH (fun V (hb:Below W.heap.size W V)=>under_any (.slice oa on oc) vo (Sp.spl 46 r.owner) (Sp.spl 46 o) V (aU HNR V hb) (aU HO V (hBW.trans (hb.mono hBW.size))) (spl_small hrl) (spl_small hol) (spl_pos o))
    have HROW:Hid (RowOk o rs i→undP (Sp.spl 46 r.owner) (Sp.spl 46 o)=true∧¬ (0<i∧r.type=6)∧∀ k (hk:k<rs.length),k≠i→besR o r rs[k]=true):=fun h=>by rw [hr]; exact h hlt
    have HROB:Hid ((undP (Sp.spl 46 r.owner) (Sp.spl 46 o)=true∧¬ (0<i∧r.type=6)∧∀ k (hk:k<rs.length),k≠i→besR o r rs[k]=true)→RowOk o rs i):=fun h _=>by rw [← hr]; exact h
    have HNOT:Hid (¬ RowOk o rs i→RtR o rs (.returned (.bool false))):=fun h=>rt_no (fun hR=>h (hR.2.2 i))
    clear hnew hbW hq hr hBW
    go_upto_region 11 with fail
    rw [← hW]
    clear hW c0 c1 c2 c3 c4
    have r5:=aU R5 W (Below.refl _ _)
    have c0:=r5.c0
    obtain ⟨y0,y1⟩:=aU ZC W (aU HBW)
    have hS:W.drew.cell? ⟨wr.heap.size,0,none⟩=some (.slice oa on oc)∧W.drew.cell? ⟨zb,0,none⟩=some vo:=⟨c0,y0⟩
    have hzW:zb<W.heap.size:=World.block_lt_of_cell? _ _ y0
    go_region_held (fun w'=>w'.cell? ⟨wr.heap.size,0,none⟩=some (.slice oa on oc)∧w'.cell? ⟨zb,0,none⟩=some vo) (first | assumption | go_keep)
     (first | (go_at_call 119; go_loud (refine (aU HUND _ (Below.refl _ _).drew).mono ?_; rintro e w4 ⟨rfl,hb4⟩; have hS2:w4.cell? ⟨wr.heap.size,0,none⟩=some (.slice oa on oc)∧w4.cell? ⟨zb,0,none⟩=some vo:=⟨(hb4.cell (p:=⟨wr.heap.size,0,none⟩) hltW).trans c0,(hb4.cell (p:=⟨zb,0,none⟩) hzW).trans y0⟩)))
    have hB4:Below W.heap.size W w4:=(Below.refl W.heap.size W).drew.trans hb4
    have HB4:=aH hB4
    have HBF4:=aH ((aU HBW).trans (hB4.mono (aU HBW).size))
    have k2:=(aU R5 w4 hB4).c2
    rw [Nat.zero_add] at k2
    clear hb4 hS hS2 hB4 r5 c0 y0 y1 HUND
    generalize undP (Sp.spl 46 r.owner) (Sp.spl 46 o)=und at *
    generalize wr.heap.size=rb at *
    cases und
    ·go_wp2_with fail
     go_ret
     exact ⟨aU HNOT (fun h=>by have:=(aU HROW h).1; cases this),aU HBF4⟩
    by_cases hi0:0<i
    case' neg=>have hi0I : ¬ (0:Int)<(i:Int):=by omega
    case' pos=>have hi0I:(0:Int)<(i:Int):=by omega
    case pos =>
     by_cases ht:r.type=6
     ·have htI:(r.type == 6)=true:=by rw [beq_iff_eq]; exact ht
      have HT:=aH ht
      clear ht
      go_wp2_with fail
      go_ret
      exact ⟨aU HNOT (fun h=>(aU HROW h).2.1 ⟨hi0,aU HT⟩),aU HBF4⟩
     ·have htI:(r.type == 6)=false:=by rw [beq_eq_false_iff_ne]; exact ht
      have HNT:Hid (¬ (0<i∧r.type=6)):=fun h=>ht h.2
      clear ht
      go_wp2_with fail
      go_loopg [8] rs.length (fun g2 vk wk=>∃ (k:Nat),vk=.int .i64 k∧k+g2=rs.length∧(∀ j (hj:j<rs.length),j<k→j≠i→besR o r rs[j]=true)∧Hid (Below W.heap.size W wk))
      case atStart=>exact ⟨0,rfl,by omega,fun j _ hj=>by omega,aU HB4⟩
      case round =>
       obtain ⟨k,rfl,hkg,hbes,hbk⟩:=hrel
       have HBS:=aH hbes
       have hBk:Below w.heap.size w wr:=(aU HBW).trans ((aU hbk).mono (aU HBW).size)
       have HBK2:=aH hBk
       obtain ⟨y0,y1⟩:=aU ZC wr hBk
       clear hbes
       by_cases hlk:k<rs.length
       ·have hlkI:(k:Int)<(rs.length:Int):=by omega
        by_cases hki:k=i
        ·have hkiI:((k:Int) == (i:Int))=true:=by rw [beq_iff_eq]; omega
         have HKI:=aH hki
         clear hki hBk
         go_wp2_with fail
         go_quiet (fail)
         go_wp2_with fail
         go_roundg (rs.length - (k+1))
         case measure=>omega
         case rel=>exact ⟨k+1,by first | rfl | go_num,by omega,fun j hj hjk hji=>aU HBS j hj (by have:=aU HKI; omega) hji,Rg.below_drewN (aU hbk) nq⟩
        ·have hkiI:((k:Int) == (i:Int))=false:=by rw [beq_eq_false_iff_ne]; omega
         obtain ⟨xo,xv,q,hq,⟨xa,xn,xc,rfl⟩,⟨ya,yn,yc,rfl⟩⟩:=aU RC wr hBk k hlk
         have hxl:=(aU HF).2.2 rs[k] (List.getElem_mem hlk)
         obtain ⟨x,hx⟩ : ∃ x,x=rs[k]:=⟨_,rfl⟩
         rw [← hx] at q hq hxl
         obtain ⟨d0,d1,d2,d3,d4⟩:=q
         obtain ⟨e0,e1,e2,e3,e4⟩:=aU R5 wr (aU hbk)
         rw [Nat.zero_add] at e1 e2 e3 e4
         have hBE:=beside_any zb o rs r x (.slice oa on oc) (.slice wa wn wc) (.slice xa xn xc) (.slice ya yn yc) wr.drew ((aU HZ).below hBk.drew) hol ((aU HNR wr (aU hbk)).below (Below.refl _ _).drew) hrl (hq.below (Below.refl _ _).drew) hxl
         unfold rcV at hBE
         have HBE:=aH hBE
         have HXX:=aH hx
         have HKI:=aH hki
         have hS:wr.drew.cell? ⟨rb,0,none⟩=some (.slice oa on oc)∧wr.drew.cell? ⟨rb,1,none⟩=some (.int .i64 r.ttl)∧wr.drew.cell? ⟨rb,2,none⟩=some (.int .i64 r.type)∧wr.drew.cell? ⟨rb,3,none⟩=some (.string (B r.data))∧wr.drew.cell? ⟨rb,4,none⟩=some (.slice wa wn wc)∧wr.drew.cell? ⟨zb,1,none⟩=some (.slice (some ⟨b,off,none⟩) rs.length cap)∧wr.drew.cell? ⟨b,off+k*5,none⟩=some (.slice xa xn xc)∧wr.drew.cell? ⟨b,off+k*5+1,none⟩=some (.int .i64 x.ttl)∧wr.drew.cell? ⟨b,off+k*5+2,none⟩=some (.int .i64 x.type)∧wr.drew.cell? ⟨b,off+k*5+3,none⟩=some (.string (B x.data))∧wr.drew.cell? ⟨b,off+k*5+4,none⟩=some (.slice ya yn yc):=⟨e0,e1,e2,e3,e4,y1,d0,d1,d2,d3,d4⟩
         clear hki hBE hq hx hBk
         go_wp2_with fail
         go_region_held (fun w'=>w'.cell? ⟨rb,0,none⟩=some (.slice oa on oc)∧w'.cell? ⟨rb,1,none⟩=some (.int .i64 r.ttl)∧w'.cell? ⟨rb,2,none⟩=some (.int .i64 r.type)∧w'.cell? ⟨rb,3,none⟩=some (.string (B r.data))∧w'.cell? ⟨rb,4,none⟩=some (.slice wa wn wc)∧w'.cell? ⟨zb,1,none⟩=some (.slice (some ⟨b,off,none⟩) rs.length cap)∧w'.cell? ⟨b,off+k*5,none⟩=some (.slice xa xn xc)∧w'.cell? ⟨b,off+k*5+1,none⟩=some (.int .i64 x.ttl)∧w'.cell? ⟨b,off+k*5+2,none⟩=some (.int .i64 x.type)∧w'.cell? ⟨b,off+k*5+3,none⟩=some (.string (B x.data))∧w'.cell? ⟨b,off+k*5+4,none⟩=some (.slice ya yn yc)) (first | assumption | go_keep)
          (first | (go_at_call 120; go_loud (refine (aU HBE).mono ?_; rintro e w5 ⟨rfl,hb5⟩; have hS2:w5.cell? ⟨rb,0,none⟩=some (.slice oa on oc)∧w5.cell? ⟨rb,1,none⟩=some (.int .i64 r.ttl)∧w5.cell? ⟨rb,2,none⟩=some (.int .i64 r.type)∧w5.cell? ⟨rb,3,none⟩=some (.string (B r.data))∧w5.cell? ⟨rb,4,none⟩=some (.slice wa wn wc)∧w5.cell? ⟨zb,1,none⟩=some (.slice (some ⟨b,off,none⟩) rs.length cap)∧w5.cell? ⟨b,off+k*5,none⟩=some (.slice xa xn xc)∧w5.cell? ⟨b,off+k*5+1,none⟩=some (.int .i64 x.ttl)∧w5.cell? ⟨b,off+k*5+2,none⟩=some (.int .i64 x.type)∧w5.cell? ⟨b,off+k*5+3,none⟩=some (.string (B x.data))∧w5.cell? ⟨b,off+k*5+4,none⟩=some (.slice ya yn yc):=keep11 hb5 hS)))
         have hB5:Below wr.heap.size wr w5:=(Below.refl wr.heap.size wr).drew.trans hb5
         have HB5:=aH ((aU hbk).trans (hB5.mono (aU hbk).size))
         have HB6:=aH ((aU HBK2).trans (hB5.mono (aU HBK2).size))
         clear hb5 hS2 hS hB5
         cases hbe:besR o r x
         ·have HBE2:=aH hbe
          clear hbe
          go_wp2_with fail
          go_ret
          exact ⟨aU HNOT (fun h=>by
           have h1:=(aU HROW h).2.2 k hlk (aU HKI)
           rw [← aU HXX,aU HBE2] at h1
           cases h1),aU HB6⟩
         ·have HBE2:=aH hbe
          clear hbe
          go_wp2_with fail
          go_roundg (rs.length - (k+1))
          case measure=>omega
          case rel=>exact ⟨k+1,by first | rfl | go_num,by omega,fun j hj hjk hji=>by
           by_cases hjk2:j=k
           ·subst hjk2; rw [← aU HXX]; exact aU HBE2
           ·exact aU HBS j hj (by omega) hji,aU HB5⟩
       ·have hlkI : ¬ (k:Int)<(rs.length:Int):=by omega
        have HRW:Hid (RowOk o rs i):=aU HROB ⟨trivial,aU HNT,fun j hj hji=>aU HBS j hj (by omega) hji⟩
        clear hBk
        go_wp2_with fail
        go_roundg (rs.length - (i+1))
        case measure=>omega
        case rel=>exact ⟨i+1,by first | rfl | go_num,by omega,fun j hj=>by
         by_cases hji:j=i
         ·subst hji; exact aU HRW
         ·exact aU HOK j (by omega),aU HBK2⟩
    case neg =>
     have HNT:Hid (¬ (0<i∧r.type=6)):=fun h=>hi0 h.1
     go_wp2_with fail
     go_loopg [8] rs.length (fun g2 vk wk=>∃ (k:Nat),vk=.int .i64 k∧k+g2=rs.length∧(∀ j (hj:j<rs.length),j<k→j≠i→besR o r rs[j]=true)∧Hid (Below W.heap.size W wk))
     case atStart=>exact ⟨0,rfl,by omega,fun j _ hj=>by omega,aU HB4⟩
     case round =>
      obtain ⟨k,rfl,hkg,hbes,hbk⟩:=hrel
      have HBS:=aH hbes
      have hBk:Below w.heap.size w wr:=(aU HBW).trans ((aU hbk).mono (aU HBW).size)
      have HBK2:=aH hBk
      obtain ⟨y0,y1⟩:=aU ZC wr hBk
      clear hbes
      by_cases hlk:k<rs.length
      ·have hlkI:(k:Int)<(rs.length:Int):=by omega
       by_cases hki:k=i
       ·have hkiI:((k:Int) == (i:Int))=true:=by rw [beq_iff_eq]; omega
        have HKI:=aH hki
        clear hki hBk
        go_wp2_with fail
        go_quiet (fail)
        go_wp2_with fail
        go_roundg (rs.length - (k+1))
        case measure=>omega
        case rel=>exact ⟨k+1,by first | rfl | go_num,by omega,fun j hj hjk hji=>aU HBS j hj (by have:=aU HKI; omega) hji,Rg.below_drewN (aU hbk) nq⟩
       ·have hkiI:((k:Int) == (i:Int))=false:=by rw [beq_eq_false_iff_ne]; omega
        obtain ⟨xo,xv,q,hq,⟨xa,xn,xc,rfl⟩,⟨ya,yn,yc,rfl⟩⟩:=aU RC wr hBk k hlk
        have hxl:=(aU HF).2.2 rs[k] (List.getElem_mem hlk)
        obtain ⟨x,hx⟩ : ∃ x,x=rs[k]:=⟨_,rfl⟩
        rw [← hx] at q hq hxl
        obtain ⟨d0,d1,d2,d3,d4⟩:=q
        obtain ⟨e0,e1,e2,e3,e4⟩:=aU R5 wr (aU hbk)
        rw [Nat.zero_add] at e1 e2 e3 e4
        have hBE:=beside_any zb o rs r x (.slice oa on oc) (.slice wa wn wc) (.slice xa xn xc) (.slice ya yn yc) wr.drew ((aU HZ).below hBk.drew) hol ((aU HNR wr (aU hbk)).below (Below.refl _ _).drew) hrl (hq.below (Below.refl _ _).drew) hxl
        unfold rcV at hBE
        have HBE:=aH hBE
        have HXX:=aH hx
        have HKI:=aH hki
        have hS:wr.drew.cell? ⟨rb,0,none⟩=some (.slice oa on oc)∧wr.drew.cell? ⟨rb,1,none⟩=some (.int .i64 r.ttl)∧wr.drew.cell? ⟨rb,2,none⟩=some (.int .i64 r.type)∧wr.drew.cell? ⟨rb,3,none⟩=some (.string (B r.data))∧wr.drew.cell? ⟨rb,4,none⟩=some (.slice wa wn wc)∧wr.drew.cell? ⟨zb,1,none⟩=some (.slice (some ⟨b,off,none⟩) rs.length cap)∧wr.drew.cell? ⟨b,off+k*5,none⟩=some (.slice xa xn xc)∧wr.drew.cell? ⟨b,off+k*5+1,none⟩=some (.int .i64 x.ttl)∧wr.drew.cell? ⟨b,off+k*5+2,none⟩=some (.int .i64 x.type)∧wr.drew.cell? ⟨b,off+k*5+3,none⟩=some (.string (B x.data))∧wr.drew.cell? ⟨b,off+k*5+4,none⟩=some (.slice ya yn yc):=⟨e0,e1,e2,e3,e4,y1,d0,d1,d2,d3,d4⟩
        clear hki hBE hq hx hBk
        go_wp2_with fail
        go_region_held (fun w'=>w'.cell? ⟨rb,0,none⟩=some (.slice oa on oc)∧w'.cell? ⟨rb,1,none⟩=some (.int .i64 r.ttl)∧w'.cell? ⟨rb,2,none⟩=some (.int .i64 r.type)∧w'.cell? ⟨rb,3,none⟩=some (.string (B r.data))∧w'.cell? ⟨rb,4,none⟩=some (.slice wa wn wc)∧w'.cell? ⟨zb,1,none⟩=some (.slice (some ⟨b,off,none⟩) rs.length cap)∧w'.cell? ⟨b,off+k*5,none⟩=some (.slice xa xn xc)∧w'.cell? ⟨b,off+k*5+1,none⟩=some (.int .i64 x.ttl)∧w'.cell? ⟨b,off+k*5+2,none⟩=some (.int .i64 x.type)∧w'.cell? ⟨b,off+k*5+3,none⟩=some (.string (B x.data))∧w'.cell? ⟨b,off+k*5+4,none⟩=some (.slice ya yn yc)) (first | assumption | go_keep)
         (first | (go_at_call 120; go_loud (refine (aU HBE).mono ?_; rintro e w5 ⟨rfl,hb5⟩; have hS2:w5.cell? ⟨rb,0,none⟩=some (.slice oa on oc)∧w5.cell? ⟨rb,1,none⟩=some (.int .i64 r.ttl)∧w5.cell? ⟨rb,2,none⟩=some (.int .i64 r.type)∧w5.cell? ⟨rb,3,none⟩=some (.string (B r.data))∧w5.cell? ⟨rb,4,none⟩=some (.slice wa wn wc)∧w5.cell? ⟨zb,1,none⟩=some (.slice (some ⟨b,off,none⟩) rs.length cap)∧w5.cell? ⟨b,off+k*5,none⟩=some (.slice xa xn xc)∧w5.cell? ⟨b,off+k*5+1,none⟩=some (.int .i64 x.ttl)∧w5.cell? ⟨b,off+k*5+2,none⟩=some (.int .i64 x.type)∧w5.cell? ⟨b,off+k*5+3,none⟩=some (.string (B x.data))∧w5.cell? ⟨b,off+k*5+4,none⟩=some (.slice ya yn yc):=keep11 hb5 hS)))
        have hB5:Below wr.heap.size wr w5:=(Below.refl wr.heap.size wr).drew.trans hb5
        have HB5:=aH ((aU hbk).trans (hB5.mono (aU hbk).size))
        have HB6:=aH ((aU HBK2).trans (hB5.mono (aU HBK2).size))
        clear hb5 hS2 hS hB5
        cases hbe:besR o r x
        ·have HBE2:=aH hbe
         clear hbe
         go_wp2_with fail
         go_ret
         exact ⟨aU HNOT (fun h=>by
          have h1:=(aU HROW h).2.2 k hlk (aU HKI)
          rw [← aU HXX,aU HBE2] at h1
          cases h1),aU HB6⟩
        ·have HBE2:=aH hbe
         clear hbe
         go_wp2_with fail
         go_roundg (rs.length - (k+1))
         case measure=>omega
         case rel=>exact ⟨k+1,by first | rfl | go_num,by omega,fun j hj hjk hji=>by
          by_cases hjk2:j=k
          ·subst hjk2; rw [← aU HXX]; exact aU HBE2
          ·exact aU HBS j hj (by omega) hji,aU HB5⟩
      ·have hlkI : ¬ (k:Int)<(rs.length:Int):=by omega
       have HRW:Hid (RowOk o rs i):=aU HROB ⟨trivial,aU HNT,fun j hj hji=>aU HBS j hj (by omega) hji⟩
       clear hBk
       go_wp2_with fail
       go_roundg (rs.length - (i+1))
       case measure=>omega
       case rel=>exact ⟨i+1,by first | rfl | go_num,by omega,fun j hj=>by
        by_cases hji:j=i
        ·subst hji; exact aU HRW
        ·exact aU HOK j (by omega),aU HBK2⟩
   ·have hltI : ¬ (i:Int)<(rs.length:Int):=by omega
    have HALL:Hid (RightR o rs):=aU HBK trivial trivial (fun j hj=>aU HOK j (by omega) hj)
    go_wp2_with fail
    go_ret
    exact ⟨rt_yes (aU HALL),aU hbr⟩
 ·have t6I:(rs[0].type != 6)=true:=by rw [bne_iff_ne]; exact t6
  have HT6:=aH t6
  obtain ⟨ty,hty⟩ : ∃ ty,ty=rs[0].type:=⟨_,rfl⟩
  rw [← hty] at q2 t6I
  clear t6 hty
  go_enter Tryz.func65,Tryz.ntmps65
  go_wp2_with fail
  go_ret
  refine ⟨rt_no ?_,Below.refl _ _⟩
  rintro ⟨⟨_,h,_⟩,_⟩
  have:=aU HT6
  rw [h] at this
  revert this; decide
end Ej
namespace Eo
open Ka Ed Ek Em En Ia Sc Sf Si Ei Ej Eh
theorem star_fst {n:Str} (hv:Sp.valid n=true):Sp.starred n=true ↔ fst n = [42]:=by
 unfold fst
 have hne:=Sp.spl_ne 46 n
 cases hs:Sp.spl 46 n with
 | nil=>exact absurd hs hne
 | cons a t =>
  unfold Sp.valid at hv
  rw [Bool.and_eq_true,hs,Sp.okAll,Bool.and_eq_true] at hv
  have ha:=hv.2.1
  unfold Sp.okAt at ha
  rw [Bool.or_eq_true] at ha
  show Sp.starred n=true ↔ a = [42]
  unfold Sp.starred Lib.hasPrefix
  rcases ha with hl | hst
  ·have ha:a≠[]:=by rintro rfl; simp [Pu.label] at hl
   have hh:=Ee.spl_first hs ha
   cases a with
   | nil=>exact absurd rfl ha
   | cons x r =>
    unfold Pu.label at hl
    simp only [Bool.and_eq_true,List.all_cons] at hl
    have hx:Pu.sign x=true:=hl.2.1
    have hx42:x≠42:=by rintro rfl; revert hx; decide
    constructor
    ·intro hp
     cases n with
     | nil=>cases hp
     | cons y q =>
      simp at hh
      subst hh
      simp [List.isPrefixOf] at hp
      exact absurd hp.symm hx42
    ·intro e; exact absurd (List.cons.inj e).1 hx42
  ·have ea:a = [42]:=by simpa using hst
   have hh:=Ee.spl_first hs (by rw [ea]; simp)
   rw [ea] at hh
   refine ⟨fun _=>ea,fun _=>?_⟩
   cases n with
   | nil=>simp at hh
   | cons y q=>simp at hh; subst hh; simp [List.isPrefixOf]
theorem cut_iff (o:Str) (x:Rec):cutR o x=true ↔ x.type=2∧x.owner≠o:=by
 unfold cutR
 rw [Bool.and_eq_true,beq_iff_eq,Bool.not_eq_true',decide_eq_false_iff_not]
 exact and_congr Iff.rfl (not_congr ⟨fun h=>spl_inj h,fun h=>by rw [h]⟩)
def BesP (o:Str) (r x:Rec):Prop :=
 (x.type=2∧x.owner≠o→fst x.owner≠[42]) ∧
 (r.owner=x.owner→¬ (r.type=x.type∧(r.data=x.data∨r.ttl≠x.ttl))∧x.type≠5∧(x.type=2∧x.owner≠o→r.type=2)) ∧
 (r.owner≠x.owner→x.type=2∧x.owner≠o→Sp.under r.owner x.owner=true→r.type=1∧fst r.owner≠[42])
theorem bes_iff (o:Str) (r x:Rec):besR o r x=true ↔ BesP o r x:=by
 unfold besR BesP besB
 rw [und_text]
 have hsame:(Sp.spl 46 r.owner=Sp.spl 46 x.owner) ↔ r.owner=x.owner:=⟨fun h=>spl_inj h,fun h=>by rw [h]⟩
 have hc:=cut_iff o x
 rw [← hc]
 have hi:((r.ttl:Int)=(x.ttl:Int)) ↔ r.ttl=x.ttl:=Int.ofNat_inj
 by_cases h1:r.owner=x.owner
 ·rw [decide_eq_true (hsame.2 h1)]
  cases cutR o x <;> by_cases h2:fst x.owner = [42] <;> by_cases h3:r.type=x.type <;> by_cases h4:r.data=x.data <;> by_cases h5:r.ttl=x.ttl <;> by_cases h6:x.type=5 <;> by_cases h7:r.type=2 <;> (try simp [h1,h2,h3,h4,h5,h6,h7,hi]) <;> first | done | omega | (intros; omega) | simp_all
 ·rw [decide_eq_false (fun h=>h1 (hsame.1 h))]
  cases cutR o x <;> cases Sp.under r.owner x.owner <;> by_cases h2:fst x.owner = [42] <;> by_cases h3:r.type=1 <;> by_cases h4:fst r.owner = [42] <;> simp [h1,h2,h3,h4]
theorem setOk_iff (t0:Nat) : ∀ (l pre:List Rec),Rg.setOk t0 pre l=true ↔ (∀ r∈l,r.ttl=t0)∧l.Pairwise (·≠·)∧∀ r∈l,r ∉ pre
 | [],pre=>by simp [Rg.setOk]
 | r :: l,pre=>by
  rw [Rg.setOk,Bool.and_eq_true,Bool.and_eq_true,beq_iff_eq,setOk_iff t0 l (pre++[r]),List.pairwise_cons]
  have hn:(!pre.any (r == ·))=true ↔ r ∉ pre:=by
   rw [Bool.not_eq_true',← Bool.not_eq_true,List.any_eq_true]
   refine not_congr ⟨?_,fun h=>⟨r,h,by simp⟩⟩
   rintro ⟨x,hx,he⟩
   have:r=x:=by simpa using he
   rw [this]; exact hx
  rw [hn]
  constructor
  ·rintro ⟨⟨h1,h2⟩,h3,h4,h5⟩
   refine ⟨fun y hy=>?_,⟨fun y hy e=>?_,h4⟩,fun y hy=>?_⟩
   ·rcases List.mem_cons.1 hy with rfl | hy
    ·exact h1
    ·exact h3 y hy
   ·exact h5 y hy (by rw [← e]; simp)
   ·rcases List.mem_cons.1 hy with rfl | hy
    ·exact h2
    ·exact fun hc=>h5 y hy (List.mem_append_left _ hc)
  ·rintro ⟨h1,⟨h2,h3⟩,h4⟩
   refine ⟨⟨h1 r (by simp),h4 r (by simp)⟩,fun y hy=>h1 y (by simp [hy]),h3,fun y hy hc=>?_⟩
   rcases List.mem_append.1 hc with hc | hc
   ·exact h4 y (by simp [hy]) hc
   ·have:y=r:=by simpa using hc
    exact h2 y hy this.symm
end Eo
namespace Ep
open Ka Ed Ek Em En Ia Sc Sf Si Ei Ej Eh Eo
theorem pairs_iff (o:Str) (l:List Rec):(∀ i (hi:i<l.length) k (hk:k<l.length),k≠i→BesP o l[i] l[k]) ↔ l.Nodup∧∀ a∈l,∀ b∈l,a≠b→BesP o a b:=by
 constructor
 ·intro h
  refine ⟨?_,fun a ha b hb hne=>?_⟩
  ·rw [List.Nodup,List.pairwise_iff_getElem]
   intro i j hi hj hij e
   have hb:=h i hi j hj (by omega)
   rw [← e] at hb
   exact (hb.2.1 rfl).1 ⟨rfl,.inl rfl⟩
  ·obtain ⟨i,hi,rfl⟩:=List.mem_iff_getElem.1 ha
   obtain ⟨k,hk,rfl⟩:=List.mem_iff_getElem.1 hb
   exact h i hi k hk (by rintro rfl; exact hne rfl)
 ·rintro ⟨hn,h⟩ i hi k hk hne
  refine h _ (List.getElem_mem hi) _ (List.getElem_mem hk) fun e=>?_
  rw [List.Nodup,List.pairwise_iff_getElem] at hn
  rcases Nat.lt_or_ge i k with hl | hl
  ·exact hn i k hi hk hl e
  ·exact hn k i hk hi (by omega) e.symm
theorem ns_iff {F:List Rec} (hF:Srt ltR F):0<(setP F 2).length ↔ ∃ x∈F,x.type=2:=by
 unfold setP
 cases hf:(runs aD F).find? (fun x=>typeOf x == 2) with
 | some x =>
  have hm:=List.mem_of_find?_eq_some hf
  have ht:=List.find?_some hf
  obtain ⟨r,hr,hh,e⟩:=(runs_set hF).1 x hm
  have h2:r.type=2:=by
   unfold typeOf at ht
   cases hx:x.2 with
   | nil=>rw [hx] at hh; cases hh
   | cons y t =>
    rw [hx] at hh
    have:y=r:=by simpa using hh
    simp [hx] at ht
    rw [← this]; exact ht
  refine ⟨fun _=>⟨r,hr,h2⟩,fun _=>?_⟩
  show 0<x.2.length
  cases hx:x.2 with
  | nil=>rw [hx] at hh; cases hh
  | cons y t=>simp
 | none =>
  refine ⟨fun h=>by simp at h,?_⟩
  rintro ⟨r,hr,h2⟩
  obtain ⟨x,hx,e⟩:=(runs_set hF).2 r hr
  have hno:=List.find?_eq_none.1 hf x hx
  refine absurd ?_ hno
  have hm:r∈x.2:=by rw [e]; exact List.mem_filter.2 ⟨hr,(set_iff r r).2 rfl⟩
  unfold typeOf
  cases hy:x.2 with
  | nil=>rw [hy] at hm; cases hm
  | cons y t =>
   have hym:y∈F.filter (aD r):=by rw [← e,hy]; simp
   have:=(Prod.mk.inj ((set_iff r y).1 (List.mem_filter.1 hym).2)).2
   simp [← this,h2]
theorem two_long {F:List Rec} {a b:Rec} (ha:a∈F) (hb:b∈F) (hne:a≠b):1<F.length:=by
 match F,ha,hb with
 | [x],ha,hb =>
  have h1:a=x:=by simpa using ha
  have h2:b=x:=by simpa using hb
  exact absurd (h1.trans h2.symm) hne
 | _ :: _ :: _,_,_=>simp
theorem under_self (n:Str):Sp.under n n=true:=by unfold Sp.under; simp
section
variable {L:List Rec} (hL:Srt ltR L) (hval : ∀ r∈L,Sp.valid r.owner=true) (o:Str)
structure Pw (L:List Rec) (o:Str):Prop where
 sets : ∀ r∈L,Rg.rightSet (L.filter (aD r))=true
 und : ∀ r∈L,Sp.under r.owner o=true
 cn : ∀ r∈L,∀ c∈L,c.owner=r.owner→c.type=5→¬ 1<(L.filter (aG r)).length
 cut : ∀ r∈L,r.owner≠o→r.type=2→rightCut L r.owner=true
 ns : ∃ x∈L,x.owner=o∧x.type=2
include hL in
theorem pw_iff:rightP o L=true ↔ Pw L o:=by
 unfold rightP
 rw [Bool.and_eq_true,Bool.and_eq_true,sets_all hL,owners_all hL (fun n l=>rightOwner o L n l),of_filter hL,decide_eq_true_eq]
 rw [ns_iff (F:=L.filter (fun r=>r.owner == o)) (List.Pairwise.filter _ hL)]
 have hro : ∀ r∈L,rightOwner o L r.owner (L.filter (aG r))=true ↔ Sp.under r.owner o=true∧(∀ c∈L,c.owner=r.owner→c.type=5→¬ 1<(L.filter (aG r)).length)∧(r.owner=o∨(∀ x∈L,x.owner=r.owner→x.type≠2)∨rightCut L r.owner=true):=by
  intro r hr
  unfold rightOwner
  rw [Bool.and_eq_true,Bool.and_eq_true,and_assoc,Bool.or_eq_true,Bool.or_eq_true,beq_iff_eq,or_assoc]
  have hany : ∀ k:Int,(L.filter (aG r)).any (Rf.hasP k)=true ↔ ∃ x∈L,x.owner=r.owner∧x.type=k:=by
   intro k
   rw [List.any_eq_true]
   constructor
   ·rintro ⟨x,hx,h⟩
    obtain ⟨h1,h2⟩:=List.mem_filter.1 hx
    exact ⟨x,h1,((own_iff r x).1 h2).symm,by unfold Rf.hasP at h; simpa using h⟩
   ·rintro ⟨x,hx,h1,h2⟩
    exact ⟨x,List.mem_filter.2 ⟨hx,(own_iff r x).2 h1.symm⟩,by unfold Rf.hasP; simpa using h2⟩
  refine and_congr Iff.rfl (and_congr ?_ (or_congr Iff.rfl (or_congr ?_ Iff.rfl)))
  ·rw [Bool.not_eq_true',← Bool.not_eq_true,Bool.and_eq_true,hany,decide_eq_true_eq]
   constructor
   ·intro h c hc h1 h2 h3; exact h ⟨⟨c,hc,h1,h2⟩,h3⟩
   ·rintro h ⟨⟨c,hc,h1,h2⟩,h3⟩; exact h c hc h1 h2 h3
  ·rw [Bool.not_eq_true',← Bool.not_eq_true,hany]
   constructor
   ·intro h x hx h1 h2; exact h ⟨x,hx,h1,h2⟩
   ·rintro h ⟨x,hx,h1,h2⟩; exact h x hx h1 h2
 have hn:(∃ x∈L.filter (fun r=>r.owner == o),x.type=2) ↔ ∃ x∈L,x.owner=o∧x.type=2:=by
  constructor
  ·rintro ⟨x,hx,h2⟩
   obtain ⟨h1,h3⟩:=List.mem_filter.1 hx
   exact ⟨x,h1,by simpa using h3,h2⟩
  ·rintro ⟨x,hx,h1,h2⟩
   exact ⟨x,List.mem_filter.2 ⟨hx,by simpa using h1⟩,h2⟩
 rw [hn]
 constructor
 ·rintro ⟨h1,h2,h3⟩
  refine ⟨h1,fun r hr=>((hro r hr).1 (h2 r hr)).1,fun r hr=>((hro r hr).1 (h2 r hr)).2.1,fun r hr ho ht=>?_,h3⟩
  rcases ((hro r hr).1 (h2 r hr)).2.2 with h | h | h
  ·exact absurd h ho
  ·exact absurd ht (h r hr rfl)
  ·exact h
 ·rintro ⟨h1,h2,h3,h4,h5⟩
  refine ⟨h1,fun r hr=>(hro r hr).2 ⟨h2 r hr,h3 r hr,?_⟩,h5⟩
  by_cases ho:r.owner=o
  ·exact .inl ho
  ·by_cases hx : ∀ x∈L,x.owner=r.owner→x.type≠2
   ·exact .inr (.inl hx)
   ·refine .inr (.inr ?_)
    have : ∃ x∈L,x.owner=r.owner∧x.type=2:=Classical.byContradiction fun hc=>hx fun x hx h1 h2=>hc ⟨x,hx,h1,h2⟩
    obtain ⟨x,hx,e1,e2⟩:=this
    have:=h4 x hx (by rw [e1]; exact ho) e2
    rw [e1] at this
    exact this
include hL hval in
theorem besp_of (h:Pw L o):L.Nodup∧∀ a∈L,∀ b∈L,a≠b→BesP o a b:=by
 have hset : ∀ r∈L,∃ t0,(∀ x∈L,x.owner=r.owner→x.type=r.type→x.ttl=t0)∧(L.filter (aD r)).Pairwise (·≠·):=by
  intro r hr
  have h1:=h.sets r hr
  have hm:r∈L.filter (aD r):=List.mem_filter.2 ⟨hr,(set_iff r r).2 rfl⟩
  cases hf:L.filter (aD r) with
  | nil=>rw [hf] at hm; cases hm
  | cons y t =>
   rw [hf] at h1
   unfold Rg.rightSet at h1
   obtain ⟨a1,a2,_⟩:=(setOk_iff y.ttl (y :: t) []).1 h1
   refine ⟨y.ttl,fun x hx e1 e2=>a1 x ?_,a2⟩
   rw [← hf]
   exact List.mem_filter.2 ⟨hx,(set_iff r x).2 (Prod.ext e1.symm e2.symm)⟩
 have hstar : ∀ r∈L,Sp.starred r.owner=false→fst r.owner≠[42]:=by
  intro r hr hs e
  rw [(star_fst (hval r hr)).2 e] at hs
  cases hs
 refine ⟨?_,fun a ha b hb hne=>⟨?_,?_,?_⟩⟩
 ·rw [List.Nodup,List.pairwise_iff_getElem]
  intro i j hi hj hij e
  obtain ⟨_,_,hp⟩:=hset _ (List.getElem_mem hi)
  rw [List.pairwise_filter,List.pairwise_iff_getElem] at hp
  exact hp i j hi hj hij ((set_iff _ _).2 rfl) (by rw [← e]; exact (set_iff _ _).2 rfl) e
 ·rintro ⟨h2,ho⟩
  have hc:=(cut_all hL b.owner).1 (h.cut b hb ho h2) b hb (under_self _)
  exact hstar b hb hc.1
 ·intro he
  refine ⟨?_,?_,?_⟩
  ·rintro ⟨ht,hd⟩
   obtain ⟨t0,h1,_⟩:=hset a ha
   have e1:=h1 a ha rfl rfl
   have e2:=h1 b hb he.symm ht.symm
   rcases hd with hd | hd
   ·exact hne (Prod.ext he (Prod.ext (e1.trans e2.symm) (Prod.ext ht hd)))
   ·exact hd (e1.trans e2.symm)
  ·intro h5
   exact h.cn b hb b hb rfl h5 (two_long (List.mem_filter.2 ⟨ha,(own_iff b a).2 he.symm⟩) (List.mem_filter.2 ⟨hb,(own_iff b b).2 rfl⟩) hne)
  ·rintro ⟨h2,ho⟩
   have hc:=(cut_all hL b.owner).1 (h.cut b hb ho h2) b hb (under_self _)
   have:=hc.2 a ha he
   simpa using this
 ·intro he
  rintro ⟨h2,ho⟩ hu
  have hc:=(cut_all hL b.owner).1 (h.cut b hb ho h2) a ha hu
  refine ⟨?_,hstar a ha hc.1⟩
  have:=hc.2 a ha rfl
  simpa [he] using this
include hL hval in
theorem of_besp (hn:L.Nodup) (h : ∀ a∈L,∀ b∈L,a≠b→BesP o a b) (hu : ∀ r∈L,Sp.under r.owner o=true) (h6 : ∃ x∈L,x.type=6) (hns : ∃ x∈L,x.owner=o∧x.type=2):Pw L o:=by
 have hstar : ∀ r∈L,fst r.owner≠[42]→Sp.starred r.owner=false:=by
  intro r hr hs
  rw [← Bool.not_eq_true]
  exact fun hc=>hs ((star_fst (hval r hr)).1 hc)
 refine ⟨fun r hr=>?_,hu,fun r hr c hc he h5 hl=>?_,fun r hr ho h2=>?_,hns⟩
 ·have hfn:(L.filter (aD r)).Nodup:=List.Pairwise.filter _ hn
  have hmem : ∀ x∈L.filter (aD r),x∈L∧x.owner=r.owner∧x.type=r.type:=by
   intro x hx
   obtain ⟨h1,h2⟩:=List.mem_filter.1 hx
   obtain ⟨e1,e2⟩:=Prod.mk.inj ((set_iff r x).1 h2)
   exact ⟨h1,e1.symm,e2.symm⟩
  cases hf:L.filter (aD r) with
  | nil=>rfl
  | cons y t =>
   rw [hf] at hfn hmem
   unfold Rg.rightSet
   refine (setOk_iff y.ttl (y :: t) []).2 ⟨fun x hx=>?_,hfn,fun _ _ hc=>by cases hc⟩
   by_cases e:x=y
   ·rw [e]
   ·obtain ⟨m1,m2,m3⟩:=hmem x hx
    obtain ⟨k1,k2,k3⟩:=hmem y (by simp)
    have hb:=((h x m1 y k1 e).2.1 (m2.trans k2.symm)).1
    exact Classical.byContradiction fun hc=>hb ⟨m3.trans k3.symm,.inr hc⟩
 ·have hfn:(L.filter (aG r)).Nodup:=List.Pairwise.filter _ hn
  have hcm:c∈L.filter (aG r):=List.mem_filter.2 ⟨hc,(own_iff r c).2 he.symm⟩
  have hex : ∃ d∈L.filter (aG r),d≠c:=by
   match hF:L.filter (aG r) with
   | []=>rw [hF] at hl; simp at hl
   | [x]=>rw [hF] at hl; simp at hl
   | x :: y :: t =>
    rw [hF] at hfn
    by_cases e:x=c
    ·refine ⟨y,by simp,?_⟩
     rintro rfl
     have:=(List.pairwise_cons.1 hfn).1 y (by simp)
     exact this e
    ·exact ⟨x,by simp,e⟩
  obtain ⟨d,hd,hdc⟩:=hex
  obtain ⟨d1,d2⟩:=List.mem_filter.1 hd
  exact ((h d d1 c hc hdc).2.1 (((own_iff r d).1 d2).symm.trans he.symm)).2.1 h5
 ·refine (cut_all hL r.owner).2 fun s hs hus=>?_
  have hcut:r.type=2∧r.owner≠o:=⟨h2,ho⟩
  constructor
  ·refine hstar s hs ?_
   by_cases e:s.owner=r.owner
   ·obtain ⟨x,hx,hx6⟩:=h6
    rw [e]
    exact (h x hx r hr (by rintro rfl; rw [h2] at hx6; exact absurd hx6 (by decide))).1 hcut
   ·exact ((h s hs r hr (by rintro rfl; exact e rfl)).2.2 e hcut hus).2
  ·intro u hu' heu
   by_cases e:s.owner=r.owner
   ·rw [if_pos e]
    by_cases eu:u=r
    ·rw [eu]; exact h2
    ·exact ((h u hu' r hr eu).2.1 (heu.trans e)).2.2 hcut
   ·rw [if_neg e]
    have hne:u.owner≠r.owner:=by rw [heu]; exact e
    exact ((h u hu' r hr (by rintro rfl; exact hne rfl)).2.2 hne hcut (by rw [heu]; exact hus)).1
end
theorem right_eq (o:Str) (rs:List Rec) (hval : ∀ r∈rs,Sp.valid r.owner=true):(RightR o rs∧rs.length≤60) ↔ (Rf.startsR o rs && rightP o (sortL rs))=true:=by
 have hp:=sort_perm rs
 have hL:=sort_srt rs
 have hmem : ∀ {r:Rec},r∈sortL rs ↔ r∈rs:=hp.mem_iff
 have hvL : ∀ r∈sortL rs,Sp.valid r.owner=true:=fun r hr=>hval r (hmem.1 hr)
 rw [Bool.and_eq_true,pw_iff hL]
 have hhas:hasR rs (Sp.spl 46 o) 2=true ↔ ∃ x∈rs,x.owner=o∧x.type=2:=by
  unfold hasR
  rw [List.any_eq_true]
  constructor
  ·rintro ⟨x,hx,h⟩
   simp at h
   exact ⟨x,hx,spl_inj h.1,h.2⟩
  ·rintro ⟨x,hx,h1,h2⟩
   exact ⟨x,hx,by simp [h1,h2]⟩
 unfold RightR RowOk
 rw [hhas]
 constructor
 ·rintro ⟨⟨⟨h0,hs6,hso⟩,hns,hrow⟩,hlen⟩
  have hpairs:=(pairs_iff o rs).1 fun i hi k hk hne=>(bes_iff o _ _).1 ((hrow i hi).2.2 k hk hne)
  have hund : ∀ r∈rs,Sp.under r.owner o=true:=by
   intro r hr
   obtain ⟨i,hi,rfl⟩:=List.mem_iff_getElem.1 hr
   have:=(hrow i hi).1
   rw [und_text] at this
   exact this
  refine ⟨?_,of_besp hL hvL o (hp.nodup_iff.2 hpairs.1) (fun a ha b hb=>hpairs.2 a (hmem.1 ha) b (hmem.1 hb)) (fun r hr=>hund r (hmem.1 hr)) ⟨rs[0],hmem.2 (List.getElem_mem h0),hs6⟩ ?_⟩
  ·cases rs with
   | nil=>simp at h0
   | cons r t =>
    unfold Rf.startsR
    have e1:r.owner=o:=spl_inj hso
    have e2:r.type=6:=hs6
    have e3:t.any (Rf.hasP 6)=false:=by
     rw [← Bool.not_eq_true,List.any_eq_true]
     rintro ⟨x,hx,h⟩
     obtain ⟨i,hi,rfl⟩:=List.mem_iff_getElem.1 hx
     refine (hrow (i+1) (by simpa using hi)).2.1 ⟨by omega,?_⟩
     unfold Rf.hasP at h
     simpa using h
    simp only [e1,e2,e3,decide_eq_true hlen]
    simp
  ·obtain ⟨x,hx,h⟩:=hns
   exact ⟨x,hmem.2 hx,h⟩
 ·rintro ⟨hst,hpw⟩
  have hb:=besp_of hL hvL o hpw
  have hb1:rs.Nodup:=hp.nodup_iff.1 hb.1
  have hb2 : ∀ a∈rs,∀ b∈rs,a≠b→BesP o a b:=fun a ha b hb'=>hb.2 a (hmem.2 ha) b (hmem.2 hb')
  have hpairs:=(pairs_iff o rs).2 ⟨hb1,hb2⟩
  have hns : ∃ x∈rs,x.owner=o∧x.type=2:=by
   obtain ⟨x,hx,h⟩:=hpw.ns
   exact ⟨x,hmem.1 hx,h⟩
  have hund : ∀ r∈rs,Sp.under r.owner o=true:=fun r hr=>hpw.und r (hmem.2 hr)
  cases rs with
  | nil=>cases hst
  | cons r t =>
   unfold Rf.startsR at hst
   rw [Bool.and_eq_true,Bool.and_eq_true,Bool.and_eq_true,decide_eq_true_eq,beq_iff_eq,beq_iff_eq,Bool.not_eq_true',← Bool.not_eq_true,List.any_eq_true] at hst
   obtain ⟨hlen,⟨e1,e2⟩,e3⟩:=hst
   refine ⟨⟨⟨by simp,e2,by show Sp.spl 46 r.owner=_; rw [e1]⟩,hns,fun i hi=>⟨?_,?_,fun k hk hne=>(bes_iff o _ _).2 (hpairs i hi k hk hne)⟩⟩,hlen⟩
   ·rw [und_text]
    exact hund _ (List.getElem_mem hi)
   ·rintro ⟨hi0,h6⟩
    obtain ⟨j,rfl⟩ : ∃ j,i=j+1:=⟨i - 1,by omega⟩
    refine e3 ⟨t[j]'(by simpa using hi),List.getElem_mem _,?_⟩
    unfold Rf.hasP
    have:(t[j]'(by simpa using hi)).type=6:=h6
    simp [this]
end Ep
end Go.Proofs.YtkkpahmoljiepaaGreatDoor
