/- (*World).list: the lists are the document's, and are kept, full of a mark. -/
import Derived.Test.YtkkpahmoljiepaaGreatDoorJ29
import Derived.Deep.RegionHeldLaw
set_option linter.unusedSimpArgs false
set_option linter.unusedVariables false
set_option maxRecDepth 1000000
set_option maxHeartbeats 12800000
namespace Go.Proofs.YtkkpahmoljiepaaGreatDoor
open Go.RowKit
open Pu (Str aH aU)
def LOut (kb n:Nat) (vk vl:Value) (ks:List (Nat×Nat×Value)) (w w':World):Prop :=
 ∃ vk' es,KI w' kb (n+1) vk' (ks++es)∧es.length=4∧(∀ x∈es,x.2.2.ownBlock=vl.ownBlock∨∃ q,w.heap.size≤q∧x.2.2.ownBlock=some q)∧(vk'.ownBlock=vk.ownBlock∨∃ q,w.heap.size≤q∧vk'.ownBlock=some q)∧Fr (fun k=>k≠kb∧some k≠vk.ownBlock∧some k≠vl.ownBlock) w w'
namespace Dg
open Ka Ed Ek Em En Ep Ej Ia Sc Sf Si Lg Eu Ex Oa Ob Oc Od Og Ol Om La Lb Es Ev Er Eh Za Ie Ec Ee Eb Re Rf Lc Ke Lv Da Dc Dd De Df
theorem list_ok (kb n:Nat) (vk vl vm:Value) (ks:List (Nat×Nat×Value)) (rs:List Rec) (w:World) (h:KI w kb n vk ks) (hl:OwnR w (kb+1) vl rs) (hne : ∀ g,vl.ownBlock=some g→vk.ownBlock≠some g∧∀ x∈ks,x.2.2.ownBlock≠some g)
  (hm:(vm=.slice none 0 0∧rs = [])∨∃ b off cap,vm=.slice (some ⟨b,off,none⟩) rs.length cap∧rs.length≤cap∧RRecs w b off rs) (ho : ∀ r∈rs,r.owner.length≤900) (hrl:rs.length≤50000) (hn:n≤1000000000) (hkl:ks.length≤1000000000) :
  Calls Tryz.prog 67 #[.pointer (some ⟨kb,0,none⟩),vl,vm] w fun e w'=>e=.returned (.bool true)∧LOut kb n vk vl ks w w':=by
 have HP:Hid (Calls Tryz.prog 122 #[vm] w fun e w'=>(∃ v,e=.returned v∧OwnR w' w.heap.size v rs)∧Below w.heap.size w w'):=by
  rcases hm with ⟨rfl,rfl⟩ | ⟨b,off,cap,rfl,hc,hr⟩
  ·refine (Ew.plain_none w).mono ?_
   rintro e w' ⟨rfl,rfl⟩
   exact ⟨⟨_,rfl,World.ownsRow_nil _ _ _ 4⟩,Below.refl _ _⟩
  ·exact Ew.plain_any b off cap rs w hc hr (by omega) ho
 obtain ⟨la,lc,hvl⟩:=hl.slice
 subst hvl
 have HK:=aH h
 have HL:=aH hl
 have HNE:=aH hne
 have hkb:=h.lt
 clear h hl hne hm ho
 go_enter Tryz.func67,Tryz.ntmps67
 go_wp2_with fail
 refine (aU HP).mono ?_
 rintro e w1 ⟨⟨vm',rfl,hM⟩,hb1⟩
 obtain ⟨ma,mc,hvm⟩:=hM.slice
 subst hvm
 have HM:=aH hM
 have HB1:=aH hb1
 have hs1:=hb1.size
 clear HP hM hb1
 go_wp2_with fail
 go_loopw [8,9] (fun ok iv wr=>ok=.bool true∧∃ i:Nat,i≤rs.length∧iv=.int .i64 i∧Below w1.heap.size w1 wr) (fun _ iv _=>rs.length - (intOf iv).toNat)
 case atStart=>exact ⟨by simp,0,Nat.zero_le _,rfl,Below.refl _ _⟩
 case round =>
  obtain ⟨rfl,i,hi,rfl,hb⟩:=hrel
  have HB:=aH hb
  by_cases hlt:i<rs.length
  ·have hltI:(i:Int)<(rs.length:Int):=by omega
   have hr1:=(((aU HL).below (aU HB1)).below ((aU HB).mono (Nat.le_refl _))).rv
   have hr2:=((aU HM).below hb).rv
   rcases hr1 with ⟨_,h0⟩ | ⟨b1,o1,c1,e1,hc1,hrec1⟩
   ·rw [h0] at hlt; simp at hlt
   rcases hr2 with ⟨_,h0⟩ | ⟨b2,o2,c2,e2,hc2,hrec2⟩
   ·rw [h0] at hlt; simp at hlt
   obtain ⟨h11,-,h13⟩:=Value.slice.inj e1
   obtain ⟨h21,-,h23⟩:=Value.slice.inj e2
   obtain ⟨x0,x1,x2,x3⟩:=hrec1.four i hlt
   obtain ⟨y0,y1,y2,y3⟩:=hrec2.four i hlt
   have heq : ∀ W:World,(binOp .eql 47 (.agg #[.string (B rs[i].owner),.int .i64 rs[i].ttl,.int .i64 rs[i].type,.string (B rs[i].data)]) (.agg #[.string (B rs[i].owner),.int .i64 rs[i].ttl,.int .i64 rs[i].type,.string (B rs[i].data)])).run Tryz.prog W=.ok (.bool true) W:=fun W=>by
    have:=Db.eq_rec rs[i] rs[i] W
    rw [show (rs[i] == rs[i])=true by simp] at this
    exact this
   generalize rs[i]=r at *
   subst h11 h13 h21 h23
   clear e1 e2 hrec1 hrec2 hb
   go_upto_region 6 with fail
   go_region
   all_goals
    go_wp2_with fail
    exact ⟨⟨rfl,i+1,by omega,by go_num,(aU HB).drew⟩,by simp [intOf]; omega⟩
  ·have hltI : ¬ (i:Int)<(rs.length:Int):=by omega
   have hb9:=(aU HB1).trans (hb.mono hs1)
   have hbs:=hb.size
   have hK2:=(aU HK).below hb9
   obtain ⟨k0,k1,kf0,kf1⟩:=hK2.cells
   have HK2:=aH hK2
   have HL2:=aH ((aU HL).below hb9)
   have HB2:=aH hb9
   clear hb hb9 hK2 HM HB HB1 HK HL
   go_upto_region 9 with fail
   obtain ⟨N,hN⟩ : ∃ N,N=n+1:=⟨_,rfl⟩
   have hNI:(n:Int)+1=(N:Int):=by omega
   obtain ⟨O3,hO3⟩ : ∃ O:Obj,O=.cells #[.string ⟨#[]⟩,.int .i64 (-(N:Int)),.int .i64 0,.string ⟨#[]⟩] 47:=⟨_,rfl⟩
   obtain ⟨W3,hW3⟩ : ∃ W3,W3=(wr.setCell ⟨kb,0,none⟩ (.int .i64 (N:Int))).alloc O3:=⟨_,rfl⟩
   obtain ⟨xb,hxb⟩ : ∃ xb,xb=wr.heap.size:=⟨_,rfl⟩
   rw [hNI,← hO3,← hW3,← hxb]
   have hss:(wr.setCell ⟨kb,0,none⟩ (.int .i64 (N:Int))).heap.size=wr.heap.size:=by simp [World.setCell]
   have hba:Below (wr.setCell ⟨kb,0,none⟩ (.int .i64 (N:Int))).heap.size (wr.setCell ⟨kb,0,none⟩ (.int .i64 (N:Int))) W3:=by rw [hW3]; exact (Below.refl _ _).alloc (Nat.le_refl _) _
   have hk3:KI W3 kb N vk ks:=by
    have:=(aU HK2).next
    rw [← hN] at this
    exact this.below hba
   have hl3:W3.ownsRow (kb+1) 47 4 (.slice la rs.length lc) rs.length (encs rs):=((aU HL2).set_low (Nat.lt_succ_self kb) _).below hba
   have hx3:W3.heap[xb]? = some O3:=by rw [hW3,hxb,← hss]; exact World.alloc_heap_new _ _
   have hf3:Fr (fun k=>k≠kb) w W3:=((Fr.of_below (aU HB2)).trans (Fr.of_set _ (fun k hk=>hk))).trans (Fr.of_below hba)
   have hg3 : ∀ g,(Value.slice la rs.length lc).ownBlock=some g→kb+1≤g∧g<xb:=fun g hg=>by rw [hxb]; exact World.ownsRow.lt (aU HL2) g hg
   have hsz3:W3.heap.size=xb+1:=by rw [hW3,hxb,World.size_alloc,hss]
   have hxw:w.heap.size≤xb:=by rw [hxb]; omega
   have HK3:=aH hk3
   have HL3:=aH hl3
   have HX3:=aH hx3
   have HF3:=aH hf3
   have HG3:=aH hg3
   have HK0:=HK2
   have HN:=aH hN
   have HXB:=aH hxb
   clear hNI hN hss hba hk3 hl3 hx3 hf3 hg3 k0 k1 kf0 kf1 hxb hW3 HK2 HL2 HB2 hbs hlt hltI hi
   go_wp2_with fail
   go_loopw [11] (fun jv wi=>∃ j:Nat,j≤rs.length∧jv=.int .i64 j∧wi.ownsRow (kb+1) 47 4 (.slice la rs.length lc) rs.length (marks (-(N:Int)) j++encs (rs.drop j))∧Fr (fun k=>some k≠(Value.slice la rs.length lc).ownBlock) W3 wi) (fun jv _=>rs.length - (intOf jv).toNat)
   case atStart=>exact ⟨0,Nat.zero_le _,rfl,aU HL3,Fr.refl _ _⟩
   case round =>
    obtain ⟨j,hj,rfl,hown,hfj⟩:=hrel
    have HO:=aH hown
    have HFJ:=aH hfj
    by_cases hlt:j<rs.length
    ·have hltI:(j:Int)<(rs.length:Int):=by omega
     have hlen:=hown.1
     rcases hown.2 with ⟨_,h0⟩ | ⟨g,cap,cur,hv,hb,hcur,hc,hm,hsz,htk⟩
     ·omega
     obtain ⟨hv1,-,hv3⟩:=Value.slice.inj hv
     subst hv1 hv3
     have hat:=fun r hr=>World.ownsRow.cellAt hown r hr
     have hgx:=(aU HG3 g rfl).2
     have hgne : ¬ g=xb:=by omega
     have hxg : ¬ xb=g:=by omega
     have hx:=(hfj.block xb (by omega) (fun e=>by have:xb=g:=Option.some.inj e; omega)).trans (aU HX3)
     rw [hO3] at hx
     have x0:wr.cell? ⟨xb,0,none⟩=some (.string ⟨#[]⟩):=by unfold World.cell?; rw [hx]; rfl
     have x1:wr.cell? ⟨xb,1,none⟩=some (.int .i64 (-(N:Int))):=by unfold World.cell?; rw [hx]; rfl
     have x2:wr.cell? ⟨xb,2,none⟩=some (.int .i64 0):=by unfold World.cell?; rw [hx]; rfl
     have x3:wr.cell? ⟨xb,3,none⟩=some (.string ⟨#[]⟩):=by unfold World.cell?; rw [hx]; rfl
     have hin : ∀ r,r<rs.length*4→∃ u,wr.cell? ⟨g,r,none⟩=some u:=fun r hr=>by
      rw [hat r hr]
      exact ⟨_,List.getElem?_eq_getElem (by omega)⟩
     obtain ⟨u0,y0⟩:=hin (j*4) (by omega)
     obtain ⟨u1,y1⟩:=hin (j*4+1) (by omega)
     obtain ⟨u2,y2⟩:=hin (j*4+2) (by omega)
     obtain ⟨u3,y3⟩:=hin (j*4+3) (by omega)
     have hfz : ∀ r,wr.frozen? ⟨g,r,none⟩=false:=fun r=>by simp [World.frozen?,hcur]
     have HST:=aH (fill_step rfl hlt hown)
     clear hat hin hcur htk hx hown hfj hv
     go_wp2_with fail
     exact ⟨⟨j+1,by omega,by go_num,aU HST,((((aU HFJ).trans (Fr.of_set _ (fun k hk e=>hk (by rw [e]; rfl)))).trans (Fr.of_set _ (fun k hk e=>hk (by rw [e]; rfl)))).trans (Fr.of_set _ (fun k hk e=>hk (by rw [e]; rfl)))).trans (Fr.of_set _ (fun k hk e=>hk (by rw [e]; rfl)))⟩,by simp [intOf]; omega⟩
    ·have hltI : ¬ (j:Int)<(rs.length:Int):=by omega
     have hje:j=rs.length:=by omega
     subst hje
     go_upto_region 13 with fail
     have hm9:MkR wr (kb+1) (.slice la rs.length lc) (-(N:Int)) rs.length:=by
      have:=aU HO
      rw [List.drop_length,show encs ([]:List Rec) = [] from rfl,List.append_nil] at this
      exact this
     have hs9:=hfj.size
     obtain ⟨va,w10,r10,m10,f10,⟨aa,ac,ea⟩,b10,p10⟩:=mark_next hm9 1 (by omega) (by omega) (by omega)
     have hs10:=f10.size
     obtain ⟨vb,w11,r11,m11,f11,⟨ba,bc,eb⟩,b11,p11⟩:=mark_next (p10 _ _ (by omega) hm9) 2 (by omega) (by omega) (by omega)
     have hs11:=f11.size
     obtain ⟨vc,w12,r12,m12,f12,⟨ca,cc,ec⟩,b12,p12⟩:=mark_next (p11 _ _ (by omega) (p10 _ _ (by omega) hm9)) 3 (by omega) (by omega) (by omega)
     subst ea eb ec
     have hs12:=f12.size
     have hL12:=p12 _ _ (by omega) (p11 _ _ (by omega) (p10 _ _ (by omega) hm9))
     have hA12:=p12 _ _ (by omega) (p11 _ _ (by omega) m10)
     have hB12:=p12 _ _ (by omega) m11
     have hxne:some xb≠(Value.slice la rs.length lc).ownBlock:=fun e=>by have:=(aU HG3 xb e.symm).2; omega
     have hx9:=(hfj.block xb (by omega) hxne).trans (aU HX3)
     have hx10:=(f10.block xb (by omega) hxne).trans hx9
     have hx11:=(f11.block xb (by omega) hxne).trans hx10
     have hf12:=((hfj.trans f10).trans f11).trans f12
     have hK12:KI w12 kb N vk ks:=(aU HK3).fr hf12 (fun e=>by have:=(aU HG3 kb e.symm).1; omega) (fun g hg e=>(aU HNE g e.symm).1 hg) (fun x hx g hg e=>(aU HNE g e.symm).2 x hx hg)
     have hdr:Below w12.heap.size w12 w12.drew:=(Below.refl _ _).drew
     have hsd:w12.drew.heap.size=w12.heap.size:=rfl
     have hvk:=(World.ownsRow.lt (aU HK3).ko)
     have hF:=(((aU HF3).mono (q:=fun k=>k≠kb∧some k≠(Value.slice la rs.length lc).ownBlock) (fun _ _ h=>h.1)).trans (hf12.mono (fun _ _ h=>h.2))).trans (Fr.of_below hdr)
     have hvlt : ∀ g,vk.ownBlock=some g→g<xb:=fun g hg=>by
      have h1:=(hvk g hg).2
      have h2:g≠xb:=fun e=>by
       have hk0:=(aU HK0).ko
       have:=(World.ownsRow.lt hk0 g hg).2
       have:=aU HXB
       omega
      omega
     have hnew : ∀ (v:Value),(v.ownBlock=(Value.slice la rs.length lc).ownBlock∨∃ q,wr.heap.size≤q∧v.ownBlock=some q)→∀ g,v.ownBlock=some g→vk.ownBlock≠some g:=fun v hv g hg e=>by
      rcases hv with hv | ⟨q,hq,hv⟩
      ·exact (aU HNE g (by rw [← hv]; exact hg)).1 e
      ·have:=hvlt g e
       have:q=g:=Option.some.inj (hv.symm.trans hg)
       omega
     have q10:(Value.slice aa (rs.length+1) ac).ownBlock=(Value.slice la rs.length lc).ownBlock∨∃ q,wr.heap.size≤q∧(Value.slice aa (rs.length+1) ac).ownBlock=some q:=b10
     have q11:(Value.slice ba (rs.length+2) bc).ownBlock=(Value.slice la rs.length lc).ownBlock∨∃ q,wr.heap.size≤q∧(Value.slice ba (rs.length+2) bc).ownBlock=some q:=b11.imp id (fun ⟨q,h1,h2⟩=>⟨q,by omega,h2⟩)
     have q12:(Value.slice ca (rs.length+3) cc).ownBlock=(Value.slice la rs.length lc).ownBlock∨∃ q,wr.heap.size≤q∧(Value.slice ca (rs.length+3) cc).ownBlock=some q:=b12.imp id (fun ⟨q,h1,h2⟩=>⟨q,by omega,h2⟩)
     obtain ⟨es,hes⟩ : ∃ es:List (Nat×Nat×Value),es = [(N,rs.length,.slice la rs.length lc),(N,rs.length+1,.slice aa (rs.length+1) ac),(N,rs.length+2,.slice ba (rs.length+2) bc),(N,rs.length+3,.slice ca (rs.length+3) cc)]:=⟨_,rfl⟩
     obtain ⟨vk',w13,r13,hkb13,hK14,hF14,hvk',ka',kc',ek'⟩:=(hK12.below hdr).add es (by rw [hes]; rfl) (fun x hx=>by
      rw [hes] at hx
      simp only [List.mem_cons,List.not_mem_nil,or_false] at hx
      rcases hx with rfl | rfl | rfl | rfl
      ·exact ⟨own_below hL12 hdr,Nat.le_refl _,by show rs.length≤100000; omega,hnew _ (.inl rfl)⟩
      ·exact ⟨own_below hA12 hdr,Nat.le_refl _,by show rs.length+1≤100000; omega,hnew _ q10⟩
      ·exact ⟨own_below hB12 hdr,Nat.le_refl _,by show rs.length+2≤100000; omega,hnew _ q11⟩
      ·exact ⟨own_below m12 hdr,Nat.le_refl _,by show rs.length+3≤100000; omega,hnew _ q12⟩) hkl
     subst ek'
     have hesB : ∀ x∈es,x.2.2.ownBlock=(Value.slice la rs.length lc).ownBlock∨∃ q,w.heap.size≤q∧x.2.2.ownBlock=some q:=fun x hx=>by
      rw [hes] at hx
      simp only [List.mem_cons,List.not_mem_nil,or_false] at hx
      rcases hx with rfl | rfl | rfl | rfl
      ·exact .inl rfl
      ·exact q10.imp id (fun ⟨q,h1,h2⟩=>⟨q,by omega,h2⟩)
      ·exact q11.imp id (fun ⟨q,h1,h2⟩=>⟨q,by omega,h2⟩)
      ·exact q12.imp id (fun ⟨q,h1,h2⟩=>⟨q,by omega,h2⟩)
     have HEND:Hid (LOut kb n vk (.slice la rs.length lc) ks w (w13.setCell ⟨kb,1,none⟩ (.slice ka' (ks.length+4) kc'))):=by
      refine ⟨_,es,aU HN ▸ hK14,by rw [hes]; rfl,hesB,hvk'.imp id (fun ⟨q,h1,h2⟩=>⟨q,by omega,h2⟩),?_⟩
      exact (hF.mono (fun _ _ h=>⟨h.1,h.2.2⟩)).trans (hF14.mono (fun _ _ h=>⟨h.1,h.2.1⟩))
     have hk12:=hK12.cells
     obtain ⟨ka,kc,ek⟩:=hK12.slice
     have hk13c:w13.cell? ⟨kb,0,none⟩=some (.int .i64 N):=by unfold World.cell?; rw [hkb13]; exact hk12.1
     have hk13d:w13.cell? ⟨kb,1,none⟩=some vk:=by unfold World.cell?; rw [hkb13]; exact hk12.2.1
     have hk13f:w13.frozen? ⟨kb,1,none⟩=false:=by unfold World.frozen?; rw [hkb13]; exact hk12.2.2.2
     rw [hes] at r13
     subst ek
     have R10:=aH r10
     have R11:=aH r11
     have R12:=aH r12
     have R13:=aH r13
     rw [hO3] at hx9 hx10 hx11
     have x90:wr.cell? ⟨xb,0,none⟩=some (.string ⟨#[]⟩):=by unfold World.cell?; rw [hx9]; rfl
     have x91:wr.cell? ⟨xb,1,none⟩=some (.int .i64 (-(N:Int))):=by unfold World.cell?; rw [hx9]; rfl
     have x92:wr.cell? ⟨xb,2,none⟩=some (.int .i64 0):=by unfold World.cell?; rw [hx9]; rfl
     have x93:wr.cell? ⟨xb,3,none⟩=some (.string ⟨#[]⟩):=by unfold World.cell?; rw [hx9]; rfl
     have xa0:w10.cell? ⟨xb,0,none⟩=some (.string ⟨#[]⟩):=by unfold World.cell?; rw [hx10]; rfl
     have xa1:w10.cell? ⟨xb,1,none⟩=some (.int .i64 (-(N:Int))):=by unfold World.cell?; rw [hx10]; rfl
     have xa2:w10.cell? ⟨xb,2,none⟩=some (.int .i64 0):=by unfold World.cell?; rw [hx10]; rfl
     have xa3:w10.cell? ⟨xb,3,none⟩=some (.string ⟨#[]⟩):=by unfold World.cell?; rw [hx10]; rfl
     have xb0:w11.cell? ⟨xb,0,none⟩=some (.string ⟨#[]⟩):=by unfold World.cell?; rw [hx11]; rfl
     have xb1:w11.cell? ⟨xb,1,none⟩=some (.int .i64 (-(N:Int))):=by unfold World.cell?; rw [hx11]; rfl
     have xb2:w11.cell? ⟨xb,2,none⟩=some (.int .i64 0):=by unfold World.cell?; rw [hx11]; rfl
     have xb3:w11.cell? ⟨xb,3,none⟩=some (.string ⟨#[]⟩):=by unfold World.cell?; rw [hx11]; rfl
     have d0:w12.drew.cell? ⟨kb,0,none⟩=some (.int .i64 N):=hk12.1
     have d1:w12.drew.cell? ⟨kb,1,none⟩=some (.slice ka ks.length kc):=hk12.2.1
     have hk12l:=hK12.lt
     have e0 : ∀ o,(w12.drew.alloc o).cell? ⟨kb,0,none⟩=some (.int .i64 N):=fun o=>(World.cell?_of_block (Below.heap_alloc w12.drew o kb hk12l)).trans d0
     have e1 : ∀ o,(w12.drew.alloc o).cell? ⟨kb,1,none⟩=some (.slice ka ks.length kc):=fun o=>(World.cell?_of_block (Below.heap_alloc w12.drew o kb hk12l)).trans d1
     have hs14:(w13.setCell ⟨kb,1,none⟩ (.slice ka' (ks.length+4) kc')).cell? ⟨kb,0,none⟩=some (.int .i64 N):=(World.cell?_setCell_other w13 ⟨kb,1,none⟩ ⟨kb,0,none⟩ _ (by simp)).trans hk13c
     clear r10 r11 r12 r13 m10 m11 m12 f10 f11 f12 b10 b11 b12 q10 q11 q12 p10 p11 p12 hx9 hx10 hx11 hL12 hA12 hB12 hm9 hK12 hK14 hF14 hF hf12 hvk' hesB hes hnew hvlt hvk hdr hk12 hxne hown hfj hkb13
     go_upto_region 16 with (at_builtin; first | (refine wpList_append_run rfl (.tmp 63) (.tmp 65) 41 rfl _ _ _ _ rfl rfl (aU R10) ?_) | (refine wpList_append_run rfl (.tmp 67) (.tmp 70) 41 rfl _ _ _ _ rfl rfl (aU R11) ?_) | (refine wpList_append_run rfl (.tmp 72) (.tmp 76) 41 rfl _ _ _ _ rfl rfl (aU R12) ?_))
     refine wp_region_held_drew (S:=fun w':World=>w'.cell? ⟨kb,0,none⟩=some (.int .i64 N)) (by kernel_rfl) d0 (fun hS=>?_)
     have hkW : ¬ kb=w12.drew.heap.size:=by omega
     clear hsd
     generalize w12.drew=W12 at *
     refine wpAnyH_take (i:=0) (v:=?_) rfl (by kernel_rfl) (by kernel_rfl) (by kernel_rfl) (fun _ _ _ h=>h) (Or.inl ⟨by rfl,by intro w hw; (try dsimp only at hw); go_simp; first | done | with_reducible rfl⟩) hS ?_
     simp only [Act.put,List.setIfInBounds_toArray,List.set_cons_zero,List.set_cons_succ]
     refine wpAnyH_take (i:=1) (v:=?_) rfl (by kernel_rfl) (by kernel_rfl) (by kernel_rfl) (fun _ _ _ h=>h) (Or.inl ⟨by rfl,by intro w hw; (try dsimp only at hw); go_simp; first | done | with_reducible rfl⟩) hS ?_
     simp only [Act.put,List.setIfInBounds_toArray,List.set_cons_zero,List.set_cons_succ]
     refine wpAnyH_take (i:=2) (v:=?_) rfl (by kernel_rfl) (by kernel_rfl) (by kernel_rfl) (fun _ _ _ h=>h) (Or.inl ⟨by rfl,by intro w hw; (try dsimp only at hw); go_simp; first | done | with_reducible rfl⟩) hS ?_
     simp only [Act.put,List.setIfInBounds_toArray,List.set_cons_zero,List.set_cons_succ]
     refine wpAnyH_take (i:=3) (v:=?_) rfl (by kernel_rfl) (by kernel_rfl) (by kernel_rfl) (fun _ _ _ h=>h) (Or.inl ⟨by rfl,by intro w hw; (try dsimp only at hw); go_simp; first | done | with_reducible rfl⟩) hS ?_
     simp only [Act.put,List.setIfInBounds_toArray,List.set_cons_zero,List.set_cons_succ]
     refine wpAnyH_take (i:=5) (v:=?_) rfl (by kernel_rfl) (by kernel_rfl) (by kernel_rfl) (fun _ _ _ h=>h) (Or.inl ⟨by rfl,by intro w hw; (try dsimp only at hw); go_simp; first | done | with_reducible rfl⟩) hS ?_
     simp only [Act.put,List.setIfInBounds_toArray,List.set_cons_zero,List.set_cons_succ]
     refine wpAnyH_take (i:=6) (v:=?_) rfl (by kernel_rfl) (by kernel_rfl) (by kernel_rfl) (fun _ _ _ h=>h) (Or.inl ⟨by rfl,by intro w hw; (try dsimp only at hw); go_simp; first | done | with_reducible rfl⟩) hS ?_
     simp only [Act.put,List.setIfInBounds_toArray,List.set_cons_zero,List.set_cons_succ]
     refine wpAnyH_take (i:=7) (v:=?_) rfl (by kernel_rfl) (by kernel_rfl) (by kernel_rfl) (fun _ _ _ h=>h) (Or.inl ⟨by rfl,by intro w hw; (try dsimp only at hw); go_simp; first | done | with_reducible rfl⟩) hS ?_
     simp only [Act.put,List.setIfInBounds_toArray,List.set_cons_zero,List.set_cons_succ]
     refine wpAnyH_take (i:=8) (v:=?_) rfl (by kernel_rfl) (by kernel_rfl) (by kernel_rfl) (fun _ _ _ h=>h) (Or.inl ⟨by rfl,by intro w hw; (try dsimp only at hw); go_simp; first | done | with_reducible rfl⟩) hS ?_
     simp only [Act.put,List.setIfInBounds_toArray,List.set_cons_zero,List.set_cons_succ]
     refine wpAnyH_take (i:=9) (v:=?_) rfl (by kernel_rfl) (by kernel_rfl) (by kernel_rfl) (fun _ _ _ h=>h) (Or.inl ⟨by rfl,by intro w hw; (try dsimp only at hw); go_simp; first | done | with_reducible rfl⟩) hS ?_
     simp only [Act.put,List.setIfInBounds_toArray,List.set_cons_zero,List.set_cons_succ]
     refine wpAnyH_take (i:=10) (v:=?_) rfl (by kernel_rfl) (by kernel_rfl) (by kernel_rfl) (fun _ _ _ h=>h) (Or.inl ⟨by rfl,by intro w hw; (try dsimp only at hw); go_simp; first | done | with_reducible rfl⟩) hS ?_
     simp only [Act.put,List.setIfInBounds_toArray,List.set_cons_zero,List.set_cons_succ]
     refine wpAnyH_take (i:=11) (v:=?_) rfl (by kernel_rfl) (by kernel_rfl) (by kernel_rfl) (fun _ _ _ h=>h) (Or.inl ⟨by rfl,by intro w hw; (try dsimp only at hw); go_simp; first | done | with_reducible rfl⟩) hS ?_
     simp only [Act.put,List.setIfInBounds_toArray,List.set_cons_zero,List.set_cons_succ]
     refine wpAnyH_take (i:=12) (v:=?_) rfl (by kernel_rfl) (by kernel_rfl) (by kernel_rfl) (fun _ _ _ h=>h) (Or.inl ⟨by rfl,by intro w hw; (try dsimp only at hw); go_simp; first | done | with_reducible rfl⟩) hS ?_
     simp only [Act.put,List.setIfInBounds_toArray,List.set_cons_zero,List.set_cons_succ]
     refine wpAnyH_take (i:=13) (v:=?_) rfl (by kernel_rfl) (by kernel_rfl) (by kernel_rfl) (fun _ _ _ h=>h) (Or.inl ⟨by rfl,by intro w hw; (try dsimp only at hw); go_simp; first | done | with_reducible rfl⟩) hS ?_
     simp only [Act.put,List.setIfInBounds_toArray,List.set_cons_zero,List.set_cons_succ]
     refine wpAnyH_take (i:=14) (v:=?_) rfl (by kernel_rfl) (by kernel_rfl) (by kernel_rfl) (fun _ _ _ h=>h) (Or.inl ⟨by rfl,by intro w hw; (try dsimp only at hw); go_simp; first | done | with_reducible rfl⟩) hS ?_
     simp only [Act.put,List.setIfInBounds_toArray,List.set_cons_zero,List.set_cons_succ]
     refine wpAnyH_take (i:=15) (v:=?_) rfl (by kernel_rfl) (by kernel_rfl) (by kernel_rfl) (fun _ _ _ h=>h) (Or.inl ⟨by rfl,by intro w hw; (try dsimp only at hw); go_simp; first | done | with_reducible rfl⟩) hS ?_
     simp only [Act.put,List.setIfInBounds_toArray,List.set_cons_zero,List.set_cons_succ]
     refine wpAnyH_take (i:=16) (v:=?_) rfl (by kernel_rfl) (by kernel_rfl) (by kernel_rfl) (fun _ _ _ h=>h) (Or.inl ⟨by rfl,by intro w hw; (try dsimp only at hw); go_simp; first | done | with_reducible rfl⟩) hS ?_
     simp only [Act.put,List.setIfInBounds_toArray,List.set_cons_zero,List.set_cons_succ]
     refine wpAnyH_take (i:=17) (v:=?_) rfl (by kernel_rfl) (by kernel_rfl) (by kernel_rfl) (fun _ _ _ h=>h) (Or.inl ⟨by rfl,by intro w hw; (try dsimp only at hw); go_simp; first | done | with_reducible rfl⟩) hS ?_
     simp only [Act.put,List.setIfInBounds_toArray,List.set_cons_zero,List.set_cons_succ]
     refine wpAnyH_take (i:=18) (v:=?_) rfl (by kernel_rfl) (by kernel_rfl) (by kernel_rfl) (fun _ _ _ h=>h) (Or.inl ⟨by rfl,by intro w hw; (try dsimp only at hw); go_simp; first | done | with_reducible rfl⟩) hS ?_
     simp only [Act.put,List.setIfInBounds_toArray,List.set_cons_zero,List.set_cons_succ]
     refine wpAnyH_take (i:=19) (v:=?_) rfl (by kernel_rfl) (by kernel_rfl) (by kernel_rfl) (fun _ _ _ h=>h) (Or.inl ⟨by rfl,by intro w hw; (try dsimp only at hw); go_simp; first | done | with_reducible rfl⟩) hS ?_
     simp only [Act.put,List.setIfInBounds_toArray,List.set_cons_zero,List.set_cons_succ]
     refine wpAnyH_take (i:=20) (v:=?_) rfl (by kernel_rfl) (by kernel_rfl) (by kernel_rfl) (fun _ _ _ h=>h) (Or.inl ⟨by rfl,by intro w hw; (try dsimp only at hw); go_simp; first | done | with_reducible rfl⟩) hS ?_
     simp only [Act.put,List.setIfInBounds_toArray,List.set_cons_zero,List.set_cons_succ]
     refine wpAnyH_take (i:=21) (v:=?_) rfl (by kernel_rfl) (by kernel_rfl) (by kernel_rfl) (fun _ _ _ h=>h) (Or.inl ⟨by rfl,by intro w hw; (try dsimp only at hw); go_simp; first | done | with_reducible rfl⟩) hS ?_
     simp only [Act.put,List.setIfInBounds_toArray,List.set_cons_zero,List.set_cons_succ]
     refine wpAnyH_take (i:=22) (v:=?_) rfl (by kernel_rfl) (by kernel_rfl) (by kernel_rfl) (fun _ _ _ h=>h) (Or.inl ⟨by rfl,by intro w hw; (try dsimp only at hw); go_simp; first | done | with_reducible rfl⟩) hS ?_
     simp only [Act.put,List.setIfInBounds_toArray,List.set_cons_zero,List.set_cons_succ]
     refine wpAnyH_take (i:=23) (v:=?_) rfl (by kernel_rfl) (by kernel_rfl) (by kernel_rfl) (fun _ _ _ h=>h) (Or.inl ⟨by rfl,by intro w hw; (try dsimp only at hw); go_simp; first | done | with_reducible rfl⟩) hS ?_
     simp only [Act.put,List.setIfInBounds_toArray,List.set_cons_zero,List.set_cons_succ]
     refine wpAnyH_take (i:=24) (v:=?_) rfl (by kernel_rfl) (by kernel_rfl) (by kernel_rfl) (fun _ _ _ h=>h) (Or.inl ⟨by rfl,by intro w hw; (try dsimp only at hw); go_simp; first | done | with_reducible rfl⟩) hS ?_
     simp only [Act.put,List.setIfInBounds_toArray,List.set_cons_zero,List.set_cons_succ]
     refine wpAnyH_take (i:=25) (v:=?_) rfl (by kernel_rfl) (by kernel_rfl) (by kernel_rfl) (fun _ _ _ h=>h) (Or.inl ⟨by rfl,by intro w hw; (try dsimp only at hw); go_simp; first | done | with_reducible rfl⟩) hS ?_
     simp only [Act.put,List.setIfInBounds_toArray,List.set_cons_zero,List.set_cons_succ]
     refine wpAnyH_take (i:=26) (v:=?_) rfl (by kernel_rfl) (by kernel_rfl) (by kernel_rfl) (fun _ _ _ h=>h) (Or.inl ⟨by rfl,by intro w hw; (try dsimp only at hw); go_simp; first | done | with_reducible rfl⟩) hS ?_
     simp only [Act.put,List.setIfInBounds_toArray,List.set_cons_zero,List.set_cons_succ]
     refine wpAnyH_take (i:=27) (v:=?_) rfl (by kernel_rfl) (by kernel_rfl) (by kernel_rfl) (fun _ _ _ h=>h) (Or.inl ⟨by rfl,by intro w hw; (try dsimp only at hw); go_simp; first | done | with_reducible rfl⟩) hS ?_
     simp only [Act.put,List.setIfInBounds_toArray,List.set_cons_zero,List.set_cons_succ]
     refine wpAnyH_take (i:=28) (v:=?_) rfl (by kernel_rfl) (by kernel_rfl) (by kernel_rfl) (fun _ _ _ h=>h) (Or.inl ⟨by rfl,by intro w hw; (try dsimp only at hw); go_simp; first | done | with_reducible rfl⟩) hS ?_
     simp only [Act.put,List.setIfInBounds_toArray,List.set_cons_zero,List.set_cons_succ]
     refine wpAnyH_ready (rs:=[4,29]) (by kernel_rfl) (by simp) (AllReadyH.cons rfl (fun K hK=>?_) (AllReadyH.cons rfl (fun K hK=>?_) AllReadyH.nil))
     ·go_simp
      refine hK.out _ _ d0 (fun hS=>?_)
      clear hK K
      try simp only [Act.put,List.setIfInBounds_toArray,List.set_cons_zero,List.set_cons_succ]
      refine wpAnyH_ready (rs:=[29]) (by kernel_rfl) (by simp) (AllReadyH.cons rfl (fun K hK=>?_) AllReadyH.nil)
      go_simp
      refine hK.out _ _ (e0 _) (fun hS=>?_)
      clear hK K
      try simp only [Act.put,List.setIfInBounds_toArray,List.set_cons_zero,List.set_cons_succ]
      refine wpAnyH_ready (rs:=[30]) (by kernel_rfl) (by simp) (AllReadyH.cons rfl (fun K hK=>?_) AllReadyH.nil)
      rw [if_pos (by rfl)]
      refine wpO_append (.tmp 82) (.tmp 107) 31 (by rfl) _ _ _ _ (by rfl) (by rfl) (aU R13) ?_
      refine hK.out _ _ hk13c (fun hS=>?_)
      clear hK K
      try simp only [Act.put,List.setIfInBounds_toArray,List.set_cons_zero,List.set_cons_succ]
      refine wpAnyH_take (i:=31) (v:=?_) rfl (by kernel_rfl) (by kernel_rfl) (by kernel_rfl) (fun _ _ _ h=>h) (Or.inl ⟨by rfl,by intro w hw; (try dsimp only at hw); go_simp; first | done | with_reducible rfl⟩) hS ?_
      simp only [Act.put,List.setIfInBounds_toArray,List.set_cons_zero,List.set_cons_succ]
      refine wpAnyH_take (i:=32) (v:=?_) rfl (by kernel_rfl) (by kernel_rfl) (by kernel_rfl) (fun _ _ _ h=>h) (Or.inl ⟨by rfl,by intro w hw; (try dsimp only at hw); go_simp; first | done | with_reducible rfl⟩) hS ?_
      simp only [Act.put,List.setIfInBounds_toArray,List.set_cons_zero,List.set_cons_succ]
      refine wpAnyH_ready (rs:=[33]) (by kernel_rfl) (by simp) (AllReadyH.cons rfl (fun K hK=>?_) AllReadyH.nil)
      go_simp
      refine hK.out _ _ hs14 (fun hS=>?_)
      clear hK K
      refine wpAnyH_done (by kernel_rfl) ?_ _
      go_wp2_with fail
      go_ret
      exact ⟨rfl,aU HEND⟩
     ·go_simp
      refine hK.out _ _ (e0 _) (fun hS=>?_)
      clear hK K
      try simp only [Act.put,List.setIfInBounds_toArray,List.set_cons_zero,List.set_cons_succ]
      refine wpAnyH_ready (rs:=[4]) (by kernel_rfl) (by simp) (AllReadyH.cons rfl (fun K hK=>?_) AllReadyH.nil)
      go_simp
      refine hK.out _ _ (e0 _) (fun hS=>?_)
      clear hK K
      try simp only [Act.put,List.setIfInBounds_toArray,List.set_cons_zero,List.set_cons_succ]
      refine wpAnyH_ready (rs:=[30]) (by kernel_rfl) (by simp) (AllReadyH.cons rfl (fun K hK=>?_) AllReadyH.nil)
      rw [if_pos (by rfl)]
      refine wpO_append (.tmp 82) (.tmp 107) 31 (by rfl) _ _ _ _ (by rfl) (by rfl) (aU R13) ?_
      refine hK.out _ _ hk13c (fun hS=>?_)
      clear hK K
      try simp only [Act.put,List.setIfInBounds_toArray,List.set_cons_zero,List.set_cons_succ]
      refine wpAnyH_take (i:=31) (v:=?_) rfl (by kernel_rfl) (by kernel_rfl) (by kernel_rfl) (fun _ _ _ h=>h) (Or.inl ⟨by rfl,by intro w hw; (try dsimp only at hw); go_simp; first | done | with_reducible rfl⟩) hS ?_
      simp only [Act.put,List.setIfInBounds_toArray,List.set_cons_zero,List.set_cons_succ]
      refine wpAnyH_take (i:=32) (v:=?_) rfl (by kernel_rfl) (by kernel_rfl) (by kernel_rfl) (fun _ _ _ h=>h) (Or.inl ⟨by rfl,by intro w hw; (try dsimp only at hw); go_simp; first | done | with_reducible rfl⟩) hS ?_
      simp only [Act.put,List.setIfInBounds_toArray,List.set_cons_zero,List.set_cons_succ]
      refine wpAnyH_ready (rs:=[33]) (by kernel_rfl) (by simp) (AllReadyH.cons rfl (fun K hK=>?_) AllReadyH.nil)
      go_simp
      refine hK.out _ _ hs14 (fun hS=>?_)
      clear hK K
      refine wpAnyH_done (by kernel_rfl) ?_ _
      go_wp2_with fail
      go_ret
      exact ⟨rfl,aU HEND⟩
end Dg
def ansQ (o:Str) (rs:List Rec) (n:Str) (t:Int):Int×Bool×List Rec×List Rec:=if askB n t then askP o rs t n else (0,false,[],[])
def ansA (o:Str) (rs:List Rec) (n:Str) (t:Int):List Rec:=if askB n t then askA o rs t n else []
def ansE (n:Str) (t:Int):Int:=if askB n t then 0 else 2
def Fine (l:List Rec):Prop:=(∀ r∈l,r.owner.length≤900)∧l.length≤50000
structure LS (z s0 D kb n:Nat) (dn:Nat→Prop) (W:World) (vk:Value) (ks:List (Nat×Nat×Value)):Prop where
 ki:KI W kb n vk ks
 hk : ∀ g,vk.ownBlock=some g→g<s0∨D≤g
 hx : ∀ x∈ks,∀ g,x.2.2.ownBlock=some g→g<s0∨D≤g∨dn g
 sz:D≤W.heap.size
 lo:z≤kb∧kb<s0
namespace Dh
open Ka Ed Ek Em En Ep Ej Ia Sc Sf Si Lg Eu Ex Oa Ob Oc Od Og Oh Oi Oj Ol Om La Lb Es Ev Er Eh Za Ie Ec Ee Eb Re Rf Lc Ke Lv Da Dc Dd De Df Dg
theorem mgo_sub (rs ans:List Rec) : ∀ (l:List Rec),∀ s∈(mGo rs ans l).2,s∈rs:=by
 intro l
 obtain ⟨n,hn⟩ : ∃ n,l.length=n:=⟨_,rfl⟩
 induction n generalizing l with
 | zero=>obtain rfl:l = []:=List.eq_nil_of_length_eq_zero hn; intro s hs; cases hs
 | succ n ih =>
  rcases List.eq_nil_or_concat l with rfl | ⟨l',r,rfl⟩
  ·simp at hn
  ·rw [List.concat_eq_append] at *
   have hl:l'.length=n:=by simp at hn; exact hn
   intro s hs
   rw [mgo_step] at hs
   unfold mStep at hs
   split at hs
   ·split at hs
    ·exact ih l' hl s hs
    ·simp only at hs
     split at hs
     ·exact ih l' hl s hs
     ·rcases List.mem_append.1 hs with hs | hs
      ·exact ih l' hl s hs
      ·exact (List.mem_filter.1 hs).1
   ·exact ih l' hl s hs
theorem ans_fine {o:Str} {rs:List Rec} (hz:ZOk o rs) (n:Str) (t:Int):Fine (ansQ o rs n t).2.2.1∧Fine (ansQ o rs n t).2.2.2∧Fine (ansA o rs n t):=by
 have fnil:Fine []:=⟨(fun r hr=>(by cases hr)),Nat.zero_le _⟩
 unfold ansQ ansA
 cases hb:askB n t with
 | false=>exact ⟨fnil,fnil,fnil⟩
 | true =>
  rw [if_pos rfl,if_pos rfl]
  have hp:Sp.plain n=true:=by unfold askB at hb; simp only [Bool.and_eq_true] at hb; exact hb.1.1
  obtain ⟨hn,hl⟩:=plain_nel hp
  obtain ⟨g1,g2,g3,g4⟩:=go_ok hz t 9 true false [] n hn hl (fun r hr=>by cases hr) (by simp)
  have e:goP o (sortL rs) t 9 true false [] n=askP o rs t n:=rfl
  rw [e] at g1 g2 g3 g4
  refine ⟨⟨fun r hr=>by have:=(g1 r hr).own; omega,by omega⟩,⟨fun r hr=>by have:=(g2 r hr).own; omega,by omega⟩,fun r hr=>?_,?_⟩
  ·have:=mgo_sub rs _ _ r hr
   have:=(valid_nel (hz.recs r this).val).2
   omega
  ·have h1:=(mgo_len rs (askP o rs t n).2.2.1 ((askP o rs t n).2.2.1++(askP o rs t n).2.2.2)).2
   have h2:=zlen hz
   have h3:((askP o rs t n).2.2.1++(askP o rs t n).2.2.2).length≤128:=by rw [List.length_append]; omega
   have:=Nat.mul_le_mul h3 h2
   show ((mGo rs (askP o rs t n).2.2.1 ((askP o rs t n).2.2.1++(askP o rs t n).2.2.2)).2).length≤50000
   omega
theorem plook_eq {o:Str} {rs:List Rec} {n:Str} {t:Int} {w':World} {base:Nat} {e:Ending} (h:PLook o rs n t w' base e) :
  ∃ va vb vd,e=.returned (.tuple #[.agg #[.int .i64 (ansQ o rs n t).1,.bool (ansQ o rs n t).2.1,va,vb,vd],.int .i64 (ansE n t)])∧OwnR w' base va (ansQ o rs n t).2.2.1∧OwnR w' base vb (ansQ o rs n t).2.2.2∧OwnR w' base vd (ansA o rs n t)∧Apart va vb∧Apart va vd∧Apart vb vd:=by
 unfold PLook at h
 unfold ansQ ansA ansE
 cases hb:askB n t with
 | false =>
  rw [hb] at h
  exact ⟨_,_,_,h,World.ownsRow_nil _ _ _ 4,World.ownsRow_nil _ _ _ 4,World.ownsRow_nil _ _ _ 4,apart_nil _,apart_nil _,apart_nil _⟩
 | true =>
  rw [hb,if_pos rfl] at h
  obtain ⟨v,rfl,va,vb,vd,rfl,h1⟩:=h
  exact ⟨va,vb,vd,rfl,h1⟩
theorem look_eq {Y:Nat→Prop} {o:Str} {rs:List Rec} {n:Str} {t:Int} {w':World} {base:Nat} {e:Ending} (h:LookV Y o rs n t w' base e) :
  ∃ va vb vd,e=.returned (.tuple #[.agg #[.int .i64 (ansQ o rs n t).1,.bool (ansQ o rs n t).2.1,va,vb,vd],.int .i64 (ansE n t)])∧OwnQ Y w' base va (ansQ o rs n t).2.2.1∧OwnQ Y w' base vb (ansQ o rs n t).2.2.2∧OwnQ Y w' base vd (ansA o rs n t):=by
 unfold LookV at h
 unfold ansQ ansA ansE
 cases hb:askB n t with
 | false =>
  rw [hb] at h
  exact ⟨_,_,_,h,OwnQ.nil _ _ _,OwnQ.nil _ _ _,OwnQ.nil _ _ _⟩
 | true =>
  rw [hb,if_pos rfl] at h
  obtain ⟨v,rfl,va,vb,vd,rfl,h1⟩:=h
  exact ⟨va,vb,vd,rfl,h1⟩
theorem _root_.Go.Proofs.YtkkpahmoljiepaaGreatDoor.LS.list {z s0 D kb n:Nat} {dn:Nat→Prop} {W:World} {vk:Value} {ks:List (Nat×Nat×Value)} (h:LS z s0 D kb n dn W vk ks) {base:Nat} {x:Nat→Prop} {vl vm:Value} {rs:List Rec} (hl:OwnR W (kb+1) vl rs) (hg : ∀ g,vl.ownBlock=some g→s0≤g∧g<D∧¬ dn g)
  (hm:OwnQ x W base vm rs) (hf:Fine rs) (hn:n≤1000000000) (hkl:ks.length≤1000000000) :
  Calls Tryz.prog 67 #[.pointer (some ⟨kb,0,none⟩),vl,vm] W fun e W'=>e=.returned (.bool true)∧∃ vk' ks',LS z s0 D kb (n+1) (fun g=>dn g∨vl.ownBlock=some g) W' vk' ks'∧ks'.length=ks.length+4∧Fr (fun k=>k<z∨(s0≤k∧k<D∧some k≠vl.ownBlock)) W W':=by
 refine (list_ok kb n vk vl vm ks rs W h.ki hl (fun g hvg=>?_) ?_ hf.1 hf.2 hn hkl).mono ?_
 ·obtain ⟨h1,h2,h3⟩:=hg g hvg
  refine ⟨fun e=>?_,fun y hy e=>?_⟩
  ·have:=h.hk g e; omega
  ·rcases h.hx y hy g e with h4 | h4 | h4
   ·omega
   ·omega
   ·exact h3 h4
 ·rcases hm.recs with h1 | ⟨g,cap,h1,h2,h3,h4⟩
  ·exact .inl h1
  ·exact .inr ⟨g,0,cap,h1,h3,h4⟩
 ·rintro e W' ⟨rfl,vk',es,k1,k2,k3,k4,k5⟩
  refine ⟨rfl,vk',ks++es,⟨k1,fun g e=>?_,fun y hy g e=>?_,Nat.le_trans h.sz k5.size,h.lo⟩,by rw [List.length_append,k2],k5.mono (fun k hk hp=>?_)⟩
  ·rcases k4 with k4 | ⟨q,hq,k4⟩
   ·exact h.hk g (by rw [← k4]; exact e)
   ·have:q=g:=Option.some.inj (k4.symm.trans e)
    have:=h.sz
    exact .inr (by omega)
  ·rcases List.mem_append.1 hy with hy | hy
   ·rcases h.hx y hy g e with h4 | h4 | h4
    ·exact .inl h4
    ·exact .inr (.inl h4)
    ·exact .inr (.inr (.inl h4))
   ·rcases k3 y hy with k3 | ⟨q,hq,k3⟩
    ·exact .inr (.inr (.inr (by rw [← k3]; exact e)))
    ·have:q=g:=Option.some.inj (k3.symm.trans e)
     have:=h.sz
     exact .inr (.inl (by omega))
  ·have hz:=h.lo
   have hvk:=fun e=>(World.ownsRow.lt h.ki.ko k e).1
   have hvl:=fun e=>(World.ownsRow.lt hl k e).1
   rcases hp with hp | ⟨p1,p2,p3⟩
   ·exact ⟨by omega,fun e=>by have:=hvk e.symm; omega,fun e=>by have:=hvl e.symm; omega⟩
   ·exact ⟨by omega,fun e=>by have:=h.hk k e.symm; omega,p3⟩
end Dh
end Go.Proofs.YtkkpahmoljiepaaGreatDoor
