/- Contract: wire's fit in general, where the records do not fit: the message is as it was. -/
import Derived.Test.YtkkpahmoljiepaaGreatDoorJ20
import Derived.Test.YtkkpahmoljiepaaGreatDoorJMg
set_option linter.unusedSimpArgs false
set_option linter.unusedVariables false
set_option maxRecDepth 1000000
set_option maxHeartbeats 12800000
namespace Go.Proofs.YtkkpahmoljiepaaGreatDoor
open Go.RowKit
open Pu (Str aH aU)
theorem Stp.back {w w':World} {t:TypeId} {sz:Nat} {v v':Value} (h:Stp w w' t sz v v'):Stp w w' t sz v v:=⟨h.row,fun _ hg=>.inl ⟨hg,Nat.le_refl _⟩⟩
namespace Mr
open Ka Kd Rg Ia Iow Ie Zb Zc Za La Wa Wb Wc Wd We Wf Wg Wh Wi Wj Wk Wl Wm Wn Wo Wp Wq Ws Wt Ma Mb Mc Md Me Re
theorem fit_no (mb base b off cap:Nat) (size:Int) (df:Rec→List Fe) (rs:List Rec) (ps:Pl) (l:Str) (w:World) (hm:Msg w mb base l ps) (hpo:PlOk ps) (hg:G w) (hbs:base≤w.heap.size) (hb0:0<base) (hm0:0<mb)
  (hr:bE w b off rs) (hbb:b<base) (hbm:b≠mb) (hcap:rs.length≤cap) (hlen:rs.length≤3001) (hok : ∀ r∈rs,RrG r (df r)) (hl:(aC df rs l ps).1.length≤50000) (hp:(aC df rs l ps).2.length≤700) (hsz:size<((aC df rs l ps).1.length:Int)) :
  Calls Tryz.prog 203 #[.pointer (some ⟨mb,0,none⟩),.int .i64 size,.slice (some ⟨b,off,none⟩) rs.length cap] w fun e w' =>
   e=.returned (.bool false)∧Msg w' mb base l ps∧TG mb base w w':=by
 have HM0:=aH hm
 obtain ⟨vb,vp,hma,ho,hpp⟩:=hm
 obtain ⟨a1,n1,c1,rfl⟩:=own_slice ho
 obtain ⟨a2,n2,c2,rfl⟩:=own_slice hpp
 obtain ⟨m0,m1⟩:=hma.cells
 have hmlt:=hma.lt
 have hT1:TG mb base w (w.alloc (.cells #[.slice a1 n1 c1,.slice a2 n2 c2] 283)):=TG.of_below ((Below.refl _ _).alloc (Nat.le_refl _) _)
 have HM:=aH (show Msg (w.alloc (.cells #[.slice a1 n1 c1,.slice a2 n2 c2] 283)) mb base l ps from (aU HM0).below ((Below.refl _ _).alloc (Nat.le_refl _) _))
 have HT1:=aH hT1
 have HOLD:=aH (And.intro hma (And.intro ho hpp))
 have HBF:Hid (MsgAt (w.alloc (.cells #[.slice a1 n1 c1,.slice a2 n2 c2] 283)) w.heap.size (.slice a1 n1 c1) (.slice a2 n2 c2)):=World.alloc_heap_new w _
 have hbfm:w.heap.size≠mb:=by omega
 have HG:=aH hg
 have HR:=aH hr
 have HOK:=aH hok
 have HPO:=aH hpo
 have hblt:=hr.1
 clear hma ho hpp hg hr hok hT1 HM0 hpo
 go_enter Tryz.func203,Tryz.ntmps203
 go_wp2_with fail
 go_loopw [15] (fun i wr=>∃ (k:Nat),i=.int .i64 k∧k≤rs.length∧Msg wr mb base (aC df (rs.take k) l ps).1 (aC df (rs.take k) l ps).2∧TG mb base w wr∧MsgAt wr w.heap.size (.slice a1 n1 c1) (.slice a2 n2 c2)) (fun i _=>rs.length - (intOf i).toNat)
 case atStart=>exact ⟨0,rfl,Nat.zero_le _,aU HM,aU HT1,aU HBF⟩
 case round =>
  obtain ⟨k,rfl,hk,hmr,htr,hbf⟩:=hrel
  have HBR:=aH hbf
  have hbs0:=hbf.lt
  have HMR:=aH hmr
  have HTR:=aH htr
  have hsr:=htr.size
  by_cases hlt:k<rs.length
  ·have hkI:(k:Int)<(rs.length:Int):=by omega
   have hrr:=Ia.bE.kept (aU HR) htr.size (htr.block b hblt hbm (.inl hbb))
   obtain ⟨q0,q1,q2,q3⟩:=hrr.four k hlt
   have hrk:=aU HOK rs[k] (List.getElem_mem hlt)
   have HFT:=aH (recsStep_take df rs k hlt l ps)
   have HFL:=aH (recsStep_part df rs (aU HOK) l ps (k+1))
   have HPK:=aH ((recsStep_more df (rs.take k) (fun f hf=>aU HOK f (List.mem_of_mem_take hf)) l ps).2.2 (aU HPO))
   have hgr:=((aU HG).tg htr hb0 hm0)
   have hW0:Below wr.heap.size wr (wr.alloc (.cells #[.string (B rs[k].owner),.int .i64 rs[k].ttl,.int .i64 rs[k].type,.string (B rs[k].data)] 47)):=(Below.refl _ _).alloc (Nat.le_refl _) _
   have hnewr:RB (wr.alloc (.cells #[.string (B rs[k].owner),.int .i64 rs[k].ttl,.int .i64 rs[k].type,.string (B rs[k].data)] 47)) wr.heap.size rs[k]:=World.alloc_heap_new wr _
   obtain ⟨r,hrE⟩ : ∃ r,r=rs[k]:=⟨_,rfl⟩
   rw [← hrE] at q0 q1 q2 q3 hrk hW0 hnewr
   obtain ⟨l1,p1,hlp⟩ : ∃ l1 p1,aC df (rs.take k) l ps=(l1,p1):=⟨_,_,rfl⟩
   have HFT2:Hid (aC df (rs.take (k+1)) l ps=rrStep r (df r) l1 p1):=by
    have:=aU HFT
    rw [hlp,← hrE] at this; exact this
   have HMR1:Hid (Msg wr mb base l1 p1):=by rw [hlp] at hmr; exact hmr
   have HPK1:Hid (PlOk p1):=by have:=aU HPK; rw [hlp] at this; exact this
   clear hrr hmr htr hrE HFT hlp HMR HPK hbf
   have hbx:wr.heap.size≠mb:=by omega
   have HD:Hid (∀ W1,Below wr.heap.size wr W1→RB W1 wr.heap.size r→Calls Tryz.prog 254 #[.agg #[.string (B r.owner),.int .i64 r.ttl,.int .i64 r.type,.string (B r.data)]] W1.drew fun e w'=>∃ g cp,e=.returned (.slice (some ⟨g,0,none⟩) (df r).length cp) ∧
     (w'.cell? ⟨wr.heap.size,0,none⟩=some (.string (B r.owner))∧w'.cell? ⟨wr.heap.size,1,none⟩=some (.int .i64 r.ttl)∧w'.cell? ⟨wr.heap.size,2,none⟩=some (.int .i64 r.type)∧w'.cell? ⟨wr.heap.size,3,none⟩=some (.string (B r.data))) ∧
     Hid ((df r).length≤cp∧FesAt mb w' g (df r)∧RB w' wr.heap.size r∧Msg w' mb base l1 p1∧G w'∧(TG mb base w w'∧MsgAt w' w.heap.size (.slice a1 n1 c1) (.slice a2 n2 c2)))):=by
    intro W1 hb1 hr1
    have hb1d:Below wr.heap.size wr W1.drew:=hb1.drew
    refine (hrk.data W1.drew (hgr.below hb1d)).mono ?_
    rintro e w' ⟨⟨v,rfl,hv⟩,hb2⟩
    obtain ⟨g,cp,rfl,hcp,hfd⟩:=fesAt_of_own (mb:=mb) hv hrk.ne (by have:=hb1d.size; omega)
    have hr2:RB w' wr.heap.size r:=(hb2.block _ (Array.getElem?_eq_some_iff.1 hr1).1).trans hr1
    have hb3:Below wr.heap.size wr w':=hb1d.trans (hb2.mono hb1d.size)
    have ht3:TG mb base wr w':=TG.of_below hb3
    exact ⟨g,cp,rfl,hr2.cells,hcp,hfd,hr2,(aU HMR1).below hb3,hgr.below hb3,(aU HTR).trans ht3,(aU HBR).kept (hb3.block _ hbs0)⟩
   have HPP:Hid (∀ g cp W2,Hid ((df r).length≤cp∧FesAt mb W2 g (df r)∧RB W2 wr.heap.size r∧Msg W2 mb base l1 p1∧G W2∧(TG mb base w W2∧MsgAt W2 w.heap.size (.slice a1 n1 c1) (.slice a2 n2 c2))) →
     Calls Tryz.prog 139 #[.pointer (some ⟨mb,0,none⟩),.slice (some ⟨W2.heap.size,0,none⟩) 5 5] (W2.alloc (.cells #[.iface 291 (.string (B r.owner)),.iface 284 (.int .u16 r.type.toNat),.iface 284 (.int .u16 1),.iface 344 (.int .u32 r.ttl),.iface 293 (.slice (some ⟨g,0,none⟩) (df r).length cp)] 297)) fun e w' =>
      e=.returned (.tuple #[])∧(w'.cell? ⟨wr.heap.size,0,none⟩=some (.string (B r.owner))∧w'.cell? ⟨wr.heap.size,1,none⟩=some (.int .i64 r.ttl)∧w'.cell? ⟨wr.heap.size,2,none⟩=some (.int .i64 r.type)∧w'.cell? ⟨wr.heap.size,3,none⟩=some (.string (B r.data))) ∧
      Hid (Msg w' mb base (aC df (rs.take (k+1)) l ps).1 (aC df (rs.take (k+1)) l ps).2∧TG mb base w w'∧MsgAt w' w.heap.size (.slice a1 n1 c1) (.slice a2 n2 c2))):=by
    intro g cp W2 hB
    obtain ⟨hcp,hfd,hr2,hm2,hi2,ht2,hb2⟩:=aU hB
    have hL:=aU HFL
    rw [aU HFT2] at hL
    refine (put_rr_g mb base g cp r (df r) hrk hb0 hm0 l1 p1 W2 hi2 hfd hcp hm2 (aU HPK1) (Nat.le_trans hbs ht2.size) (by omega) (by omega)).mono ?_
    rintro e w' ⟨rfl,h2,h3⟩
    refine ⟨rfl,(RB_tg hr2 h3 hbx).cells,?_,ht2.trans h3,h3.box hb2 hbfm (by decide) (by decide)⟩
    rw [aU HFT2]
    exact h2
   have x1:IntKind.u16.wrap r.type=(r.type.toNat:Int):=by
    have h1:=hrk.typ.1
    have h2:=hrk.typ.2
    rw [IntKind.wrap_u16]; omega
   have x2:IntKind.u32.wrap (r.ttl:Int)=(r.ttl:Int):=by
    have h1:=hrk.ttl
    rw [IntKind.wrap_u32]; omega
   clear hrk HFL hgr HFT2
   obtain ⟨tn,htn⟩ : ∃ tn,tn=r.type.toNat:=⟨_,rfl⟩
   rw [← htn] at x1 HPP
   clear htn
   go_wp2_with fail
   have HD1:=aH (aU HD _ hW0 hnewr)
   have hS1:=hnewr.cells
   clear hW0 hnewr HD q0 q1 q2 q3
   generalize (wr.alloc (.cells #[.string (B r.owner),.int .i64 r.ttl,.int .i64 r.type,.string (B r.data)] 47))=W1 at *
   have hS:(W1.drew.cell? ⟨wr.heap.size,0,none⟩=some (.string (B r.owner))∧W1.drew.cell? ⟨wr.heap.size,1,none⟩=some (.int .i64 r.ttl)∧W1.drew.cell? ⟨wr.heap.size,2,none⟩=some (.int .i64 r.type)∧W1.drew.cell? ⟨wr.heap.size,3,none⟩=some (.string (B r.data))):=hS1
   clear hS1
   go_region_held (fun w'=>w'.cell? ⟨wr.heap.size,0,none⟩=some (.string (B r.owner))∧w'.cell? ⟨wr.heap.size,1,none⟩=some (.int .i64 r.ttl)∧w'.cell? ⟨wr.heap.size,2,none⟩=some (.int .i64 r.type)∧w'.cell? ⟨wr.heap.size,3,none⟩=some (.string (B r.data))) (first | assumption | go_keep)
    (first
     | (go_at_call 254; go_loud (refine (aU HD1).mono ?_; rintro e w2 ⟨g,cp,rfl,hS2,HB2⟩))
     | (go_at_call 139; go_loud (refine (aU HPP _ _ _ HB2).mono ?_; rintro e w3 ⟨rfl,hS3,HB3⟩)))
   rename_i hH
   clear hH hS hS2 hS3 HB2 HD1 HPP
   go_wp2_with fail
   obtain ⟨h1,h3,h4⟩:=aU HB3
   exact ⟨⟨k+1,by go_num,by omega,h1,h3,h4⟩,by simp [intOf]; omega⟩
  ·have hkl:k=rs.length:=by omega
   subst hkl
   rw [List.take_length] at hmr
   have HF:=aH htr
   obtain ⟨vb1,vp1,hm1,ho1,_⟩:=hmr
   obtain ⟨ab,cb,rfl⟩:=own_sl ho1
   obtain ⟨c0,c1'⟩:=hm1.cells
   obtain ⟨f0,f1⟩:=hbf.cells
   have hgt:size<(((aC df rs l ps).1).length:Int):=hsz
   have hfz:=hm1.frozen
   have hfz1 : ∀ u,(wr.setCell ⟨mb,0,none⟩ u).frozen? ⟨mb,1,none⟩=false:=fun u=>(hm1.set0 u).frozen 1
   have HM1:=aH hm1
   clear hm1 ho1 htr HMR hsz hbf
   generalize (aC df rs l ps).1.length=N at *
   go_wp2_with fail
   go_ret
   obtain ⟨hma,ho,hpp⟩:=aU HOLD
   have hk:=(aU HF).kp _ _ hma
   obtain ⟨vb',vp',hm',s1,s2⟩:=hk
   have n1':some mb≠(Value.slice a1 n1 c1).ownBlock:=msg_ne hma ho
   have n2':some mb≠(Value.slice a2 n2 c2).ownBlock:=msg_neP hma hpp
   have hmf:=((aU HM1).set0 (.slice a1 n1 c1)).set1 (.slice a2 n2 c2)
   have hB:=(stp_msg (aU HM1) (t:=5) (by decide) 0 (.slice a1 n1 c1) (.slice a1 n1 c1) 1).trans (stp_msg ((aU HM1).set0 (.slice a1 n1 c1)) (by decide) 1 (.slice a2 n2 c2) _ 1) (by simp [World.setCell])
   have hP:=(stp_msg (aU HM1) (t:=343) (by decide) 0 (.slice a1 n1 c1) (.slice a2 n2 c2) 2).trans (stp_msg ((aU HM1).set0 (.slice a1 n1 c1)) (by decide) 1 (.slice a2 n2 c2) _ 2) (by simp [World.setCell])
   have hT:=aU HF
   refine ⟨rfl,⟨_,_,hmf,aS (aS (s1.owns ho) n1' _ _) n1' _ _,aS (aS (s2.owns hpp) n2' _ _) n2' _ _⟩,hT.os,hT.tape,hT.output,by simpa [World.setCell] using hT.size,fun i hi hm hp=>((Below.heap_setCell _ _ _ _ hm).trans (Below.heap_setCell _ _ _ _ hm)).trans (hT.block i hi hm hp),Kp.of hma hmf (s1.back.trans hB hT.size) (s2.back.trans hP hT.size)⟩
end Mr
attribute [local go_sem] Oper.semAt_some undef
namespace Ms
open Ka Kd Rf Rg Ia Iow Ie Zb Zc Za La Lb Lg Wa Wb Wc Wd We Wf Wg Wh Wi Wj Wk Wl Wm Wn Wo Wp Wq Ws Wt Wu Wv Wz Ma Mb Mc Md Me Mf Mg Re
structure FX (mb base s:Nat) (w:World) (ds:List Nat) (cs:List Int) (d:Nat) (S:Str×Pl) (W:World):Prop where
 b2:It.Box W (s+2) (.slice (some ⟨s+3,0,none⟩) 3 3) 56
 b3:NumsAt W (s+3) cs 3
 msg:MsgN W mb base d S.1 S.2
 tg:TG mb base w W
 defs : ∀ x∈ds,W.heap[x]? = some (.deferred (some []))
theorem FX.keeps {mb base s:Nat} {w:World} {ds:List Nat} {cs:List Int} {d:Nat} {S:Str×Pl} {W B:World} (h:FX mb base s w ds cs d S W) (hk:It.Keeps d W B) (h1:s+4<d) (h2:mb<d) (h3:w.heap.size≤d) (h4 : ∀ x∈ds,x≠d):FX mb base s w ds cs d S B :=
 ⟨It.Box.kept h.b2 (hk.block _ (It.Box.lt h.b2) (by omega)),(hk.block _ (Array.getElem?_eq_some_iff.1 h.b3).1 (by omega)).trans h.b3,h.msg.keeps hk (by omega),h.tg.keeps hk h3,fun x hx=>(hk.block x (Array.getElem?_eq_some_iff.1 (h.defs x hx)).1 (h4 x hx)).trans (h.defs x hx)⟩
theorem tkS_mono (df:Rec→List Fe) (rs:List Rec) (hok : ∀ r∈rs,RrG r (df r)) (i k:Nat) (hik:i≤k) (l:Str) (ps:Pl):(aC df (tk rs i) l ps).1.length≤(aC df (tk rs k) l ps).1.length∧(aC df (tk rs i) l ps).2.length≤(aC df (tk rs k) l ps).2.length:=by
 have h:tk rs k=tk rs i++(((runs aD rs).take k).drop i).flatMap (·.2):=by
  unfold tk
  rw [← List.flatMap_append]
  congr 1
  have:=List.take_append_drop i ((runs aD rs).take k)
  rw [List.take_take,Nat.min_eq_left hik] at this
  exact this.symm
 rw [h,recsStep_app]
 have:=recsStep_more df ((((runs aD rs).take k).drop i).flatMap (·.2)) (fun r hr=>by
  obtain ⟨x,hx,hr⟩:=List.mem_flatMap.1 hr
  exact hok r (tk_mem (List.mem_of_mem_take (List.mem_of_mem_drop hx)) hr)) (aC df (tk rs i) l ps).1 (aC df (tk rs i) l ps).2
 exact ⟨this.1,this.2.1⟩
theorem fill_stop0 (mb base lb k:Nat) (size:Int) (df:Rec→List Fe) (v0 v1 v2:Value) (r0 r1 r2:List Rec) (b0 o0:Nat) (S0:Str×Pl) (w:World)
  (hm:Msg w mb base S0.1 S0.2) (hpo:PlOk S0.2) (hg:G w) (hbs:base≤w.heap.size) (hb0:0<base) (hm0:0<mb)
  (hlb:w.heap[lb]? = some (.cells #[v0,v1,v2] 41)) (hlm:lb≠mb)
  (hL0:Lies v0 b0 o0 r0) (hR0:bE w b0 o0 r0) (hbb0:b0<base) (hbm0:b0≠mb) (hn0:r0.length≤3001) (hk0 : ∀ r∈r0,RrG r (df r))
  (hv1 : ∃ a c,v1=.slice a r1.length c)
  (hv2 : ∃ a c,v2=.slice a r2.length c)
  (hkr:k<(runs aD r0).length) (hyes:0<k→((aC df (tk r0 k) S0.1 S0.2).1.length:Int)≤size) (hno:size<((aC df (tk r0 (k+1)) S0.1 S0.2).1.length:Int))
  (hl:(aC df (tk r0 (k+1)) S0.1 S0.2).1.length≤50000) (hp:(aC df (tk r0 (k+1)) S0.1 S0.2).2.length≤700) :
  Calls Tryz.prog 137 #[.pointer (some ⟨mb,0,none⟩),.int .i64 size,.slice (some ⟨lb,0,none⟩) 3 3] w fun e w' =>
   e=.returned (.slice (some ⟨w.heap.size+3,0,none⟩) 3 3)∧NumsAt w' (w.heap.size+3) [((tk r0 k).length:Int),0,0] 3∧Msg w' mb base (aC df (tk r0 k) S0.1 S0.2).1 (aC df (tk r0 k) S0.1 S0.2).2∧TG mb base w w':=by
 have hmo:=recsStep_more df (tk r0 (k+1)) (fun g hg=>by
  obtain ⟨x,hx,hr⟩:=List.mem_flatMap.1 hg
  exact hk0 g (tk_mem (List.mem_of_mem_take hx) hr)) S0.1 S0.2
 have HBK:Hid ((aC df (tk r0 (k+1)) S0.1 S0.2).1.length≤50000∧(aC df (tk r0 (k+1)) S0.1 S0.2).2.length≤700∧(0<k→((aC df (tk r0 k) S0.1 S0.2).1.length:Int)≤size)∧size<((aC df (tk r0 (k+1)) S0.1 S0.2).1.length:Int)):=⟨hl,hp,hyes,hno⟩
 have HP0:Hid (PlOk S0.2):=hpo
 have HK0:=aH hk0
 clear hmo  hk0 hl hp hyes hno
 refine (callsIn_wide (n:=0)).1 ?_
 refine callsIn_of_wp_marks Tryz.func137 rfl trivial ?_
 simp only [Tryz.ntmps137,List.size_toArray,List.length_cons,List.length_nil,Nat.reduceAdd,Nat.reduceSub,Array.replicate_succ,Array.replicate_zero,List.push_toArray,List.append_toArray,List.nil_append,List.cons_append]
 obtain ⟨a0,c0,rfl⟩ : ∃ a c,v0=.slice a r0.length c:=by rcases hL0 with ⟨rfl,rfl⟩ | ⟨c,rfl,_⟩ <;> exact ⟨_,_,rfl⟩
 obtain ⟨a1,c1,rfl⟩:=hv1
 obtain ⟨a2,c2,rfl⟩:=hv2
 have hmlt:=hm.lt
 have hlblt:lb<w.heap.size:=(Array.getElem?_eq_some_iff.1 hlb).1
 have hg0:=hg.1
 have HR0:=aH hR0
 have HL0:=aH hL0
 have hq0:=hR0.1
 have HF0:Hid (∀ V,Below w.heap.size w V→FB w.heap.size mb size [0,0,0] V→FJ mb base w.heap.size lb size #[.slice a0 r0.length c0,.slice a1 r1.length c1,.slice a2 r2.length c2] w [] [0,0,0] mb S0 V):=fun V hB hF=>by
  have hT:TG mb base w V:=TG.of_below hB
  exact ⟨hF,(hB.block lb hlblt).trans hlb,msg_self (hm.below hB),hpo,hg.below hB,hT,fun x hx=>by cases hx⟩
 clear hm hpo hg hlb hR0 hL0
 have mk:=made3
 gi_wp2_with fail
 have HI0:=aH (aU HF0 (((((w.alloc (.cells #[.pointer (some ⟨mb,0,none⟩)] 216)).alloc (.cells #[.int .i64 size] 3)).alloc (.cells #[.slice none 0 0] 56)).alloc (.cells #[.int .i64 0,.int .i64 0,.int .i64 0] 3)).alloc (.cells #[.slice (some ⟨w.heap.size+1+1+1,0,none⟩) 3 3] 56)) (((((Below.refl _ _).alloc (Nat.le_refl _) _).alloc (by simp) _).alloc (by simp <;> omega) _ |>.alloc (by simp <;> omega) _).alloc (by simp <;> omega) _) (by
  have n0:=World.alloc_heap_new w (.cells #[.pointer (some ⟨mb,0,none⟩)] 216)
  have n1:=World.alloc_heap_new (w.alloc (.cells #[.pointer (some ⟨mb,0,none⟩)] 216)) (.cells #[.int .i64 size] 3)
  have n2:=World.alloc_heap_new ((w.alloc (.cells #[.pointer (some ⟨mb,0,none⟩)] 216)).alloc (.cells #[.int .i64 size] 3)) (.cells #[.slice none 0 0] 56)
  have n3:=World.alloc_heap_new (((w.alloc (.cells #[.pointer (some ⟨mb,0,none⟩)] 216)).alloc (.cells #[.int .i64 size] 3)).alloc (.cells #[.slice none 0 0] 56)) (.cells #[.int .i64 0,.int .i64 0,.int .i64 0] 3)
  have n4:=World.alloc_heap_new ((((w.alloc (.cells #[.pointer (some ⟨mb,0,none⟩)] 216)).alloc (.cells #[.int .i64 size] 3)).alloc (.cells #[.slice none 0 0] 56)).alloc (.cells #[.int .i64 0,.int .i64 0,.int .i64 0] 3)) (.cells #[.slice (some ⟨w.heap.size+1+1+1,0,none⟩) 3 3] 56)
  simp only [World.size_alloc] at n1 n2 n3 n4
  refine ⟨?_,?_,?_,?_,n4⟩
  ·exact (Below.heap_alloc _ _ _ (by simp <;> omega)).trans ((Below.heap_alloc _ _ _ (by simp <;> omega)).trans ((Below.heap_alloc _ _ _ (by simp <;> omega)).trans ((Below.heap_alloc _ _ _ (by simp <;> omega)).trans n0)))
  ·exact (Below.heap_alloc _ _ _ (by simp <;> omega)).trans ((Below.heap_alloc _ _ _ (by simp <;> omega)).trans ((Below.heap_alloc _ _ _ (by simp <;> omega)).trans n1))
  ·exact (Below.heap_alloc _ _ _ (by simp <;> omega)).trans ((Below.heap_alloc _ _ _ (by simp <;> omega)).trans n2)
  ·exact (Below.heap_alloc _ _ _ (by simp <;> omega)).trans n3))
 have s0:w.heap.size+5≤(((((w.alloc (.cells #[.pointer (some ⟨mb,0,none⟩)] 216)).alloc (.cells #[.int .i64 size] 3)).alloc (.cells #[.slice none 0 0] 56)).alloc (.cells #[.int .i64 0,.int .i64 0,.int .i64 0] 3)).alloc (.cells #[.slice (some ⟨w.heap.size+1+1+1,0,none⟩) 3 3] 56)).heap.size:=by simp <;> omega
 clear HF0 mk
 generalize (((((w.alloc (.cells #[.pointer (some ⟨mb,0,none⟩)] 216)).alloc (.cells #[.int .i64 size] 3)).alloc (.cells #[.slice none 0 0] 56)).alloc (.cells #[.int .i64 0,.int .i64 0,.int .i64 0] 3)).alloc (.cells #[.slice (some ⟨w.heap.size+1+1+1,0,none⟩) 3 3] 56))=V0 at *
 refine wpIn_loop_rounds 4 ?_
 rw [roundsIn_succ]
 have cl0:V0.cell? ⟨lb,0,none⟩=some (.slice a0 r0.length c0):=by
  have:=(aU HI0).lists
  simp [World.cell?,this]
 gi_wp2_with fail
 refine ⟨trivial,rfl,?_⟩
 refine (callsIn_wide.2 (sets_b _ _ _ _)).mono ?_
 rintro e W0 ⟨rfl,ez,hbz,bx1,bx2⟩
 have bx0:It.Box W0 V0.heap.size (.int .i64 0) 3:=(It.Box.new _ _ _).below hbz (by simp)
 have hVW:Below V0.heap.size V0 W0:=((Below.refl _ _).alloc (Nat.le_refl _) _).trans (hbz.mono (by simp))
 simp only [World.size_alloc] at ez bx1 bx2
 have t0:V0.heap.size+3≤W0.heap.size:=by omega
 have HIW0:Hid (FJ mb base w.heap.size lb size #[.slice a0 r0.length c0,.slice a1 r1.length c1,.slice a2 r2.length c2] w [] [0,0,0] (W0.heap.size+1) S0 W0):=((aU HI0).below hVW).re _ ⟨fun cur hc=>by have:=(Array.getElem?_eq_some_iff.1 hc).1; omega,fun cur hc=>by have:=(Array.getElem?_eq_some_iff.1 hc).1; omega⟩
 have HX0:=aH (And.intro bx0 (And.intro bx1 bx2))
 clear ez hbz bx0 bx1 bx2 hVW cl0 HI0
 gi_wp2_with fail
 have hgrow : ∀ r,Below W0.heap.size W0 ((W0.alloc (.deferred (some []))).alloc (.loop r)):=fun r=>((Below.refl _ _).alloc (Nat.le_refl _) _).alloc (by simp) _
 have hRW : ∀ W,TG mb base w W→bE W b0 o0 r0:=fun W ht=>Ia.bE.kept (aU HR0) ht.size (ht.block b0 hq0 hbm0 (.inl hbb0))
 refine It.rangeE (xs:=runs aD r0) (encs:=fun x:Nat×List Rec=>#[.slice (some ⟨b0,o0+x.1*4,none⟩) x.2.length x.2.length]) (St:=fun A B=>Below A.heap.size A B) (Kp:=It.Keep3 (V0.heap.size+1) (V0.heap.size+1+1) b0) (Kx:=fun _ _=>True)
  (gf:=233) (lb:=#[.pointer (some ⟨V0.heap.size+1,0,none⟩),.pointer (some ⟨V0.heap.size+1+1,0,none⟩)]) rfl (enters_of Tryz.func233 (by kernel_rfl) rfl) (fun _=>rfl) ?seq0
  [V0.heap.size+1,V0.heap.size+1+1,b0] (by simp; omega) (fun A B h=>h) (fun A B h h'=>⟨h',h _ (by simp),h _ (by simp),h _ (by simp)⟩) (fun _ _=>trivial)
  (fun i W=>i≤k∧FJ mb base w.heap.size lb size #[.slice a0 r0.length c0,.slice a1 r1.length c1,.slice a2 r2.length c2] w [] [((tk r0 i).length:Int),0,0] (W0.heap.size+1) (aC df (tk r0 i) S0.1 S0.2) W∧It.Box W V0.heap.size (.int .i64 0) 3∧It.Box W (V0.heap.size+1) (.slice a0 r0.length c0) 41∧It.Box W (V0.heap.size+1+1) (.func (.func 177) #[] #[]) 261)
  (fun c W=>c=.ret∧FX mb base w.heap.size w [] [((tk r0 k).length:Int),0,0] (W0.heap.size+1) (aC df (tk r0 k) S0.1 S0.2) W)
  (fun i A B h hA hk=>⟨h.1,h.2.1.keeps hk (by omega) (by omega) (by omega) (by omega) (fun x hx=>by cases hx),It.Box.kept h.2.2.1 (hk.block _ (It.Box.lt h.2.2.1) (by omega)),It.Box.kept h.2.2.2.1 (hk.block _ (It.Box.lt h.2.2.2.1) (by omega)),It.Box.kept h.2.2.2.2 (hk.block _ (It.Box.lt h.2.2.2.2) (by omega))⟩)
  (fun c A B h hA hk=>⟨h.1,h.2.keeps hk (by omega) (by omega) (by omega) (fun x hx=>by cases hx)⟩)
  ⟨Nat.zero_le _,by rw [tk_zero,recsStep_nil]; simpa using aU HIW0,(aU HX0).1,(aU HX0).2.1,(aU HX0).2.2⟩
  ?round0 ?done0 ?stop0
 case seq0 =>
  intro r
  have hg:=hgrow r
  exact seqV _ b0 o0 _ _ r0 _ (aU HL0) ((hg.cell (p:=⟨V0.heap.size+1,0,none⟩) (by show V0.heap.size+1<W0.heap.size; omega)).trans (It.Box.cell (aU HX0).2.1)) ((hg.cell (p:=⟨V0.heap.size+1+1,0,none⟩) (by show V0.heap.size+1+1<W0.heap.size; omega)).trans (It.Box.cell (aU HX0).2.2)) ((hRW W0 (aU HIW0).tg).below hg) (by have:=hg.size; omega) (by have:=hg.size; omega) hn0
 case stop0 =>
  intro c W hI hdef hsz
  obtain ⟨rfl,hX⟩:=hI
  have hb2:=It.Box.lt hX.b2
  have hmlt':=hX.msg.msg.lt
  have hfin : ∀ x,x≠W0.heap.size→(W.putObj W0.heap.size (.deferred none)).heap[x]? = W.heap[x]?:=fun x h0=>(World.putObj_heap_other h0)
  have cr:(W.putObj W0.heap.size (.deferred none)).cell? ⟨w.heap.size+1+1,0,none⟩=some (.slice (some ⟨w.heap.size+3,0,none⟩) 3 3):=(World.cell?_of_block (hfin (w.heap.size+2) (by omega))).trans (It.Box.cell hX.b2)
  have HX:=aH hX
  clear hX hb2
  gi_wp2_with fail
  have hX:=aU HX
  refine ⟨by simp,.inl ⟨_,_,rfl,run_takeDeferred hdef,?_⟩⟩
  refine ⟨.slice (some ⟨w.heap.size+3,0,none⟩) 3 3,by simp [results,Tryz.results137,go_sem,cr],rfl,(hfin _ (by omega)).trans hX.b3,?_,hX.tg.same rfl rfl rfl (by simp [World.putObj_size]) fun i hi=>hfin i (by omega)⟩
  obtain ⟨vb',vp',hmW,hoW,hpW⟩:=hX.msg.msg
  refine ⟨vb',vp',hmW.kept (hfin mb (by omega)),own_kept hoW fun g hg=>?_,own_kept hpW fun g hg=>?_⟩
  ·obtain ⟨cur,hcur⟩:=own_kindB hoW hg
   exact hfin g (fun e=>by rw [e,hdef] at hcur; cases hcur)
  ·obtain ⟨cur,hcur⟩:=own_kindP hpW hg
   exact hfin g (fun e=>by rw [e,hdef] at hcur; cases hcur)
 case round0 =>
  intro l' i x Vr W hx hI hszW hd1 hd2
  obtain ⟨hik,hF,y0,y1,y2⟩:=hI
  have hmem:x∈runs aD r0:=List.mem_of_getElem? hx
  have hxl:=runs_len hmem
  have hRx:=bE.piece (hRW W hF.tg) hmem
  have htk:=tk_succ hx
  have hst:aC df x.2 (aC df (tk r0 i) S0.1 S0.2).1 (aC df (tk r0 i) S0.1 S0.2).2=(aC df (tk r0 (i+1)) S0.1 S0.2):=by rw [htk,recsStep_app]
  have hle:=tkS_mono df r0 (aU HK0) (i+1) (k+1) (by omega) S0.1 S0.2
  have hle2:i<k→_:=fun h=>tkS_mono df r0 (aU HK0) (i+1) k (by omega) S0.1 S0.2
  have hpS:=tkS_po df r0 (aU HK0) (i+1) S0.1 S0.2 (aU HP0)
  rw [← hst] at hle hle2
  have htl:(tk r0 i).length≤3001:=Nat.le_trans (tk_len r0 i) hn0
  by_cases hlt:i<k
  ·have HFIT:Hid (Calls Tryz.prog 203 #[.pointer (some ⟨mb,0,none⟩),.int .i64 size,.slice (some ⟨b0,o0+x.1*4,none⟩) x.2.length x.2.length] W fun e w' =>
     e=.returned (.bool true)∧Msg w' mb base (aC df (tk r0 (i+1)) S0.1 S0.2).1 (aC df (tk r0 (i+1)) S0.1 S0.2).2∧TG mb base W w'):=by
    have hb:=aU HBK
    have hle3:=hle2 hlt
    have:=fit_g mb base b0 (o0+x.1*4) x.2.length size df x.2 (aC df (tk r0 i) S0.1 S0.2).2 (aC df (tk r0 i) S0.1 S0.2).1 W hF.msg.msg hF.po hF.g (Nat.le_trans hbs hF.tg.size) hb0 hm0 hRx hbb0 hbm0 (Nat.le_refl _) (by omega)
     (fun r hr=>aU HK0 r (tk_mem hmem hr)) (by omega) (by omega) (by omega)
    rw [hst] at this
    exact this
   have c0':=It.Box.cell hF.fb.b0
   have c1':=It.Box.cell hF.fb.b1
   have HAFT:Hid (∀ W3,Msg W3 mb base (aC df (tk r0 (i+1)) S0.1 S0.2).1 (aC df (tk r0 (i+1)) S0.1 S0.2).2→TG mb base W W3 →
     W3.cell? ⟨w.heap.size+1+1+1+1,0,none⟩=some (.slice (some ⟨w.heap.size+1+1+1,0,none⟩) 3 3)∧W3.cell? ⟨V0.heap.size,0,none⟩=some (.int .i64 0)∧W3.cell? ⟨w.heap.size+1+1+1,0,none⟩=some (.int .i64 (tk r0 i).length)∧W3.frozen? ⟨w.heap.size+1+1+1,0,none⟩=false ∧
     Hid (It.Loops W0.heap.size W (W3.setCell ⟨w.heap.size+1+1+1,0,none⟩ (.int .i64 ((tk r0 i).length+x.2.length:Int)))∧(∀ k∈[V0.heap.size+1,V0.heap.size+1+1,b0],(W3.setCell ⟨w.heap.size+1+1+1,0,none⟩ (.int .i64 ((tk r0 i).length+x.2.length:Int))).heap[k]? = W.heap[k]?) ∧
      (FJ mb base w.heap.size lb size #[.slice a0 r0.length c0,.slice a1 r1.length c1,.slice a2 r2.length c2] w [] [((tk r0 (i+1)).length:Int),0,0] (W0.heap.size+1) (aC df (tk r0 (i+1)) S0.1 S0.2) (W3.setCell ⟨w.heap.size+1+1+1,0,none⟩ (.int .i64 ((tk r0 i).length+x.2.length:Int)))∧It.Box (W3.setCell ⟨w.heap.size+1+1+1,0,none⟩ (.int .i64 ((tk r0 i).length+x.2.length:Int))) V0.heap.size (.int .i64 0) 3∧It.Box (W3.setCell ⟨w.heap.size+1+1+1,0,none⟩ (.int .i64 ((tk r0 i).length+x.2.length:Int))) (V0.heap.size+1) (.slice a0 r0.length c0) 41∧It.Box (W3.setCell ⟨w.heap.size+1+1+1,0,none⟩ (.int .i64 ((tk r0 i).length+x.2.length:Int))) (V0.heap.size+1+1) (.func (.func 177) #[] #[]) 261))):=by
    intro W3 m3 t3
    obtain ⟨lr,hlr⟩:=hd2
    have hdl:=(t3.block (W0.heap.size+1) (by omega) (by omega) (.inr ⟨fun c hc=>(by rw [hlr] at hc; cases hc),fun c hc=>by rw [hlr] at hc; cases hc⟩))
    have hdd:=(t3.block W0.heap.size (by omega) (by omega) (.inr ⟨fun c hc=>(by rw [hd1] at hc; cases hc),fun c hc=>by rw [hd1] at hc; cases hc⟩))
    have hF3:=hF.fit t3 m3 hpS (by omega) hlm hb0 hm0 (fun x hx=>by cases hx) ⟨fun cur hc=>(by rw [hdl,hlr] at hc; cases hc),fun cur hc=>by rw [hdl,hlr] at hc; cases hc⟩
    have z0:=box_tg y0 t3 (by omega) (by decide) (by decide)
    have z1:=box_tg y1 t3 (by omega) (by decide) (by decide)
    have z2:=box_tg y2 t3 (by omega) (by decide) (by decide)
    have hF4:=hF3.set 0 ((tk r0 i).length+x.2.length:Int) (by omega) (by omega) (Nat.le_refl _) (fun x hx=>by cases hx)
    have hne : ∀ k',k'≠w.heap.size+3→(W3.setCell ⟨w.heap.size+1+1+1,0,none⟩ (.int .i64 ((tk r0 i).length+x.2.length:Int))).heap[k']? = W3.heap[k']?:=fun k' hk=>Below.heap_setCell _ _ _ _ hk
    have hlen:((tk r0 (i+1)).length:Int)=(tk r0 i).length+x.2.length:=by rw [htk,List.length_append]; omega
    refine ⟨It.Box.cell hF3.fb.b4,It.Box.cell z0,hF3.fb.b3.cell 0 (by simp),hF3.fb.b3.frozen 0,⟨Nat.le_trans t3.size (by simp [World.setCell]),(hne _ (by omega)).trans hdd,(hne _ (by omega)).trans hdl⟩,fun k hk=>?_,?_,It.Box.kept z0 (hne _ (by omega)),It.Box.kept z1 (hne _ (by omega)),It.Box.kept z2 (hne _ (by omega))⟩
    ·simp only [List.mem_cons,List.mem_nil_iff,or_false] at hk
     rcases hk with rfl | rfl | rfl
     ·exact (hne _ (by omega)).trans (z1.trans y1.symm)
     ·exact (hne _ (by omega)).trans (z2.trans y2.symm)
     ·exact (hne _ (by omega)).trans (t3.block _ (by have:=hF.tg.size; omega) hbm0 (.inl hbb0))
    ·rw [hlen]
     exact hF4
   clear hF y0 y1 y2 hmem hRx htk hle hle2 hpS hst hd1 hd2 hx HIW0 HX0 hgrow hRW
   gi_wp2_with fail
   refine ⟨trivial,?_⟩
   gi_wp2_with fail
   refine ⟨trivial,rfl,?_⟩
   refine (CallsIn.inRound l' (callsIn_wide.2 (aU HFIT))).mono ?_
   rintro e W3 ⟨rfl,m3,t3⟩
   obtain ⟨k1,k2,k3,k4,HE⟩:=aU HAFT W3 m3 t3
   clear m3 t3 HAFT HFIT
   generalize (tk r0 i).length=T at *
   gi_wp2_with fail
   exact ⟨(aU HE).1,(aU HE).2.1,hlt,(aU HE).2.2⟩
  ·obtain rfl:i=k:=by omega
   have HFIT:Hid (Calls Tryz.prog 203 #[.pointer (some ⟨mb,0,none⟩),.int .i64 size,.slice (some ⟨b0,o0+x.1*4,none⟩) x.2.length x.2.length] W fun e w' =>
     e=.returned (.bool false)∧Msg w' mb base (aC df (tk r0 i) S0.1 S0.2).1 (aC df (tk r0 i) S0.1 S0.2).2∧TG mb base W w'):=by
    have hb:=aU HBK
    exact Mr.fit_no mb base b0 (o0+x.1*4) x.2.length size df x.2 (aC df (tk r0 i) S0.1 S0.2).2 (aC df (tk r0 i) S0.1 S0.2).1 W hF.msg.msg hF.po hF.g (Nat.le_trans hbs hF.tg.size) hb0 hm0 hRx hbb0 hbm0 (Nat.le_refl _) (by omega)
     (fun r hr=>aU HK0 r (tk_mem hmem hr)) (by omega) (by omega) (by rw [hst]; exact hb.2.2.2)
   have c0':=It.Box.cell hF.fb.b0
   have c1':=It.Box.cell hF.fb.b1
   have HAFT:Hid (∀ W3,Msg W3 mb base (aC df (tk r0 i) S0.1 S0.2).1 (aC df (tk r0 i) S0.1 S0.2).2→TG mb base W W3 →
     W3.cell? ⟨w.heap.size+1+1+1+1,0,none⟩=some (.slice (some ⟨w.heap.size+1+1+1,0,none⟩) 3 3)∧W3.cell? ⟨w.heap.size+1+1,0,none⟩=some (.slice none 0 0)∧W3.frozen? ⟨w.heap.size+1+1,0,none⟩=false ∧
     Hid (It.Loops W0.heap.size W (W3.setCell ⟨w.heap.size+1+1,0,none⟩ (.slice (some ⟨w.heap.size+1+1+1,0,none⟩) 3 3))∧FX mb base w.heap.size w [] [((tk r0 i).length:Int),0,0] (W0.heap.size+1) (aC df (tk r0 i) S0.1 S0.2) (W3.setCell ⟨w.heap.size+1+1,0,none⟩ (.slice (some ⟨w.heap.size+1+1+1,0,none⟩) 3 3)))):=by
    intro W3 m3 t3
    obtain ⟨lr,hlr⟩:=hd2
    have hdl:=(t3.block (W0.heap.size+1) (by omega) (by omega) (.inr ⟨fun c hc=>(by rw [hlr] at hc; cases hc),fun c hc=>by rw [hlr] at hc; cases hc⟩))
    have hdd:=(t3.block W0.heap.size (by omega) (by omega) (.inr ⟨fun c hc=>(by rw [hd1] at hc; cases hc),fun c hc=>by rw [hd1] at hc; cases hc⟩))
    have hF3:=hF.fit t3 m3 hF.po (by omega) hlm hb0 hm0 (fun x hx=>by cases hx) ⟨fun cur hc=>(by rw [hdl,hlr] at hc; cases hc),fun cur hc=>by rw [hdl,hlr] at hc; cases hc⟩
    have hne : ∀ k',k'≠w.heap.size+2→(W3.setCell ⟨w.heap.size+1+1,0,none⟩ (.slice (some ⟨w.heap.size+1+1+1,0,none⟩) 3 3)).heap[k']? = W3.heap[k']?:=fun k' hk=>Below.heap_setCell _ _ _ _ hk
    have hbx:=hF3.fb.b2
    refine ⟨It.Box.cell hF3.fb.b4,It.Box.cell hbx,It.Box.frozen hbx,⟨Nat.le_trans t3.size (by simp [World.setCell]),(hne _ (by omega)).trans hdd,(hne _ (by omega)).trans hdl⟩,It.Box.set hbx _,(hne _ (by omega)).trans hF3.fb.b3,msgN_but hF3.msg ⟨fun c hc=>(by rw [hbx] at hc; simp at hc),fun c hc=>by rw [hbx] at hc; simp at hc⟩ (by omega) hne,hF3.tg.same rfl rfl rfl (by simp [World.setCell]) fun i hi=>hne i (by omega),fun x hx=>(hne x (by cases hx)).trans (hF3.defs x hx)⟩
   clear hF y0 y1 y2 hmem hRx htk hle hle2 hpS hst hd1 hd2 hx HIW0 HX0 hgrow hRW
   gi_wp2_with fail
   refine ⟨trivial,?_⟩
   gi_wp2_with fail
   refine ⟨trivial,rfl,?_⟩
   refine (CallsIn.inRound l' (callsIn_wide.2 (aU HFIT))).mono ?_
   rintro e W3 ⟨rfl,m3,t3⟩
   obtain ⟨k1,k2,k3,HE⟩:=aU HAFT W3 m3 t3
   clear m3 t3 HAFT HFIT
   gi_wp2_with fail
   exact ⟨(aU HE).1,rfl,(aU HE).2⟩
 case done0 =>
  intro V hI hdef hszW
  have h1:=hI.1
  omega
end Ms
end Go.Proofs.YtkkpahmoljiepaaGreatDoor
