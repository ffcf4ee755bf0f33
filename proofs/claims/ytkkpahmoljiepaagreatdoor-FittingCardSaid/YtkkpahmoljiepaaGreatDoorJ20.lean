/- Contract: wire's fit, where the records fit. -/
import Derived.Test.YtkkpahmoljiepaaGreatDoorJ19
import Derived.Test.YtkkpahmoljiepaaGreatDoorJ18
import Derived.Deep.RegionHeld
import Derived.Test.YtkkpahmoljiepaaGreatDoorJLg
import Derived.Lib.BufferWrite
import Derived.Deep.RegionHeldLaw
import Derived.LoopNIn
set_option linter.unusedSimpArgs false
set_option linter.unusedVariables false
set_option maxRecDepth 1000000
set_option maxHeartbeats 12800000
namespace Go.Proofs.YtkkpahmoljiepaaGreatDoor
open Go.RowKit
open Pu (Str aH aU)
def rVal (r:Rec):Value:=.agg #[.string (B r.owner),.int .i64 r.ttl,.int .i64 r.type,.string (B r.data)]
namespace Wt
open Ka Rg Ia Wa Wb Wc Wd We Wf Wg Wh Wi Wj Wk Wl Wm Wn Wo Wp Wq Ws Re
theorem fdsAt_of_own {mb base:Nat} {w:World} {v:Value} {fs:List Fd} (h:OwnF w base v fs) (hne:fs≠[]) (hm:mb<base) : ∃ g cap,v=.slice (some ⟨g,0,none⟩) fs.length cap∧fs.length≤cap∧FdsAt mb w g fs:=by
 have h0:=h
 obtain ⟨_,⟨rfl,hz⟩ | ⟨g,cap,cur,rfl,hb,hcur,hc,_⟩⟩:=h
 ·exact absurd (List.eq_nil_of_length_eq_zero hz) hne
 ·refine ⟨g,cap,rfl,hc,(Array.getElem?_eq_some_iff.1 hcur).1,by omega,fun c hcc=>?_,fun j hj=>?_⟩
  ·rw [hcur] at hcc; simp at hcc
  ·have:=World.ownsRow.cellAt h0 j (by omega)
   rw [this]; simp [hj]
def RB (W:World) (b:Nat) (r:Rec):Prop:=W.heap[b]? = some (.cells #[.string (B r.owner),.int .i64 r.ttl,.int .i64 r.type,.string (B r.data)] 47)
theorem RB.cells {W:World} {b:Nat} {r:Rec} (h:RB W b r):W.cell? ⟨b,0,none⟩=some (.string (B r.owner))∧W.cell? ⟨b,1,none⟩=some (.int .i64 r.ttl)∧W.cell? ⟨b,2,none⟩=some (.int .i64 r.type)∧W.cell? ⟨b,3,none⟩=some (.string (B r.data)):=by
 unfold RB at h
 refine ⟨?_,?_,?_,?_⟩ <;> simp [World.cell?,h]
theorem own_sl {w:World} {base:Nat} {v:Value} {l:Str} (h:OwnB w base v l) : ∃ a c,v=.slice a l.length c:=by
 obtain ⟨_,⟨rfl,hz⟩ | ⟨g,cap,cur,rfl,_⟩⟩:=h
 ·exact ⟨none,0,by rw [hz]⟩
 ·exact ⟨_,_,rfl⟩
end Wt
namespace Me
open Ka Kd Rg Ia Iow Ie Zb Zc Za La Wa Wb Wc Wd We Wf Wg Wh Wi Wj Wk Wl Wm Wn Wo Wp Wq Ws Wt Ma Mb Mc Md Re
structure RrG (r:Rec) (df:List Fe):Prop where
 own:r.owner.length≤300
 typ:r.type=(r.type.toNat:Int)∧r.type.toNat<65536
 ttl:r.ttl<4294967296
 data : ∀ W,G W→Calls Tryz.prog 254 #[rVal r] W fun e w'=>(∃ v,e=.returned v∧OwnE w' W.heap.size v df)∧Below W.heap.size W w'
 ok : ∀ (mb base:Nat) (I:World→Prop),(∀ w,I w→G w)→0<base→0<mb→∀ f∈df,f.Ok mb base I
 ne:df≠[]
 few:df.length≤1000
def rrFe (r:Rec) (g cap:Nat) (df:List Fe):List Fe:=[compF r.owner,ofFd (fShort r.type.toNat),ofFd (fShort 1),ofFd (fLong r.ttl),sizedF g cap df]
def rrStep (r:Rec) (df:List Fe) (l:Str) (ps:Pl):Str×Pl:=steps (rrFe r 0 0 df) l ps
def aC (df:Rec→List Fe) (rs:List Rec) (l:Str) (ps:Pl):Str×Pl:=rs.foldl (fun s r=>rrStep r (df r) s.1 s.2) (l,ps)
theorem recsStep_take (df:Rec→List Fe) (rs:List Rec) (k:Nat) (h:k<rs.length) (l:Str) (ps:Pl):aC df (rs.take (k+1)) l ps=rrStep rs[k] (df rs[k]) (aC df (rs.take k) l ps).1 (aC df (rs.take k) l ps).2:=by
 rw [List.take_succ_eq_append_getElem h,aC,List.foldl_append]; rfl
theorem recsStep_app (df:Rec→List Fe) (rs qs:List Rec) (l:Str) (ps:Pl):aC df (rs++qs) l ps=aC df qs (aC df rs l ps).1 (aC df rs l ps).2:=by
 rw [aC,List.foldl_append]; rfl
theorem fesAt_of_own {mb base:Nat} {w:World} {v:Value} {fs:List Fe} (h:OwnE w base v fs) (hne:fs≠[]) (hm:mb<base) : ∃ g cap,v=.slice (some ⟨g,0,none⟩) fs.length cap∧fs.length≤cap∧FesAt mb w g fs:=by
 have h0:=h
 obtain ⟨_,⟨rfl,hz⟩ | ⟨g,cap,cur,rfl,hb,hcur,hc,_⟩⟩:=h
 ·exact absurd (List.eq_nil_of_length_eq_zero hz) hne
 ·refine ⟨g,cap,rfl,hc,by omega,⟨_,_,hcur,by decide,by decide⟩,fun j hj=>?_⟩
  have:=World.ownsRow.cellAt h0 j (by omega)
  rw [this]; simp [hj]
theorem stab {mb base g:Nat} {df:List Fe} (hb0:0<base) (hm0:0<mb):StableG mb base (fun w=>G w∧FesAt mb w g df):=fun w w' h ht=>⟨h.1.tg ht hb0 hm0,h.2.tg ht⟩
theorem rrFe_ok {r:Rec} {df:List Fe} (hr:RrG r df) (mb base g cap:Nat) (hb0:0<base) (hm0:0<mb) (hcap:df.length≤cap) : ∀ f∈rrFe r g cap df,f.Ok mb base (fun w=>G w∧FesAt mb w g df):=by
 intro f hf
 simp only [rrFe,List.mem_cons,List.mem_nil_iff,or_false] at hf
 rcases hf with rfl | rfl | rfl | rfl | rfl
 ·exact comp_ok _ hr.own _ _ _ (fun _ h=>h.1) hb0 hm0
 ·exact ofFd_ok (short_ok _ hr.typ.2) _ _ _
 ·exact ofFd_ok (short_ok _ (by omega)) _ _ _
 ·exact ofFd_ok (long_ok _ hr.ttl) _ _ _
 ·exact sized_ok mb base g cap _ df (stab hb0 hm0) (fun _ h=>h.2) (hr.ok _ _ _ (fun _ h=>h.1) hb0 hm0) hcap (by have:=hr.few; omega)
theorem rrStep_more {r:Rec} {df:List Fe} (hr:RrG r df) (l:Str) (ps:Pl):l.length≤(rrStep r df l ps).1.length∧ps.length≤(rrStep r df l ps).2.length∧(PlOk ps→PlOk (rrStep r df l ps).2) :=
 steps_more (rrFe r 0 df.length df) (rrFe_ok hr 1 1 0 df.length (by omega) (by omega) (Nat.le_refl _)) l ps
theorem recsStep_more (df:Rec→List Fe) : ∀ (rs:List Rec),(∀ r∈rs,RrG r (df r))→∀ l ps,l.length≤(aC df rs l ps).1.length∧ps.length≤(aC df rs l ps).2.length∧(PlOk ps→PlOk (aC df rs l ps).2)
 | [],_,l,ps=>⟨Nat.le_refl _,Nat.le_refl _,id⟩
 | r :: rs,h,l,ps=>by
  have h1:=rrStep_more (h r (by simp)) l ps
  have h2:=recsStep_more df rs (fun g hg=>h g (by simp [hg])) (rrStep r (df r) l ps).1 (rrStep r (df r) l ps).2
  exact ⟨Nat.le_trans h1.1 h2.1,Nat.le_trans h1.2.1 h2.2.1,fun h=>h2.2.2 (h1.2.2 h)⟩
theorem recsStep_part (df:Rec→List Fe) (rs:List Rec) (hok : ∀ r∈rs,RrG r (df r)) (l:Str) (ps:Pl) (k:Nat):(aC df (rs.take k) l ps).1.length≤(aC df rs l ps).1.length∧(aC df (rs.take k) l ps).2.length≤(aC df rs l ps).2.length:=by
 have e:aC df rs l ps=aC df (rs.drop k) (aC df (rs.take k) l ps).1 (aC df (rs.take k) l ps).2:=by rw [← recsStep_app,List.take_append_drop]
 have:=recsStep_more df (rs.drop k) (fun f hf=>hok f (List.mem_of_mem_drop hf)) (aC df (rs.take k) l ps).1 (aC df (rs.take k) l ps).2
 rw [e]; exact ⟨this.1,this.2.1⟩
theorem put_rr_g (mb base g cap:Nat) (r:Rec) (df:List Fe) (hr:RrG r df) (hb0:0<base) (hm0:0<mb) (l:Str) (ps:Pl) (w:World) (hG:G w) (hF:FesAt mb w g df) (hcap:df.length≤cap) (hm:Msg w mb base l ps) (hpo:PlOk ps) (hbs:base≤w.heap.size)
  (hl:(rrStep r df l ps).1.length≤50000) (hp:(rrStep r df l ps).2.length≤700) :
  Calls Tryz.prog 139 #[.pointer (some ⟨mb,0,none⟩),.slice (some ⟨w.heap.size,0,none⟩) 5 5] (w.alloc (.cells #[.iface 291 (.string (B r.owner)),.iface 284 (.int .u16 r.type.toNat),.iface 284 (.int .u16 1),.iface 344 (.int .u32 r.ttl),.iface 293 (.slice (some ⟨g,0,none⟩) df.length cap)] 297)) fun e w' =>
   e=.returned (.tuple #[])∧Msg w' mb base (rrStep r df l ps).1 (rrStep r df l ps).2∧TG mb base w w':=by
 have hnew:=World.alloc_heap_new w (.cells #[.iface 291 (.string (B r.owner)),.iface 284 (.int .u16 r.type.toNat),.iface 284 (.int .u16 1),.iface 344 (.int .u32 r.ttl),.iface 293 (.slice (some ⟨g,0,none⟩) df.length cap)] 297)
 have hba:Below w.heap.size w (w.alloc (.cells #[.iface 291 (.string (B r.owner)),.iface 284 (.int .u16 r.type.toNat),.iface 284 (.int .u16 1),.iface 344 (.int .u32 r.ttl),.iface 293 (.slice (some ⟨g,0,none⟩) df.length cap)] 297)):=(Below.refl _ _).alloc (Nat.le_refl _) _
 have hta:TG mb base w _:=TG.of_below hba
 have hmlt:=hm.lt
 have hst:=stab (mb:=mb) (base:=base) (g:=g) (df:=df) hb0 hm0
 refine (put_g mb base w.heap.size 5 (fun w=>G w∧FesAt mb w g df) (rrFe r g cap df) l ps _ (hst _ _ ⟨hG,hF⟩ hta) hst (hm.below hba) (by simp; omega) hpo (rrFe_ok hr mb base g cap hb0 hm0 hcap) ⟨by omega,⟨_,_,hnew,by decide,by decide⟩,?_⟩ (by simp [rrFe]) (by simp [rrFe]) hl hp).mono ?_
 ·intro j hj
  match j,hj with
  | 0,_=>unfold World.cell?; rw [hnew]; rfl
  | 1,_=>unfold World.cell?; rw [hnew]; rfl
  | 2,_=>unfold World.cell?; rw [hnew]; rfl
  | 3,_=>unfold World.cell?; rw [hnew]; rfl
  | 4,_=>unfold World.cell?; rw [hnew]; rfl
  | j+5,hj=>simp [rrFe] at hj; omega
 rintro e w2 ⟨rfl,h1,h2⟩
 exact ⟨rfl,h1,hta.trans h2⟩
theorem RB_tg {W W':World} {b mb base:Nat} {r:Rec} (h:RB W b r) (ht:TG mb base W W') (hb:b≠mb):RB W' b r:=ht.box h hb (by decide) (by decide)
theorem fit_g (mb base b off cap:Nat) (size:Int) (df:Rec→List Fe) (rs:List Rec) (ps:Pl) (l:Str) (w:World) (hm:Msg w mb base l ps) (hpo:PlOk ps) (hg:G w) (hbs:base≤w.heap.size) (hb0:0<base) (hm0:0<mb)
  (hr:bE w b off rs) (hbb:b<base) (hbm:b≠mb) (hcap:rs.length≤cap) (hlen:rs.length≤3001) (hok : ∀ r∈rs,RrG r (df r)) (hl:(aC df rs l ps).1.length≤50000) (hp:(aC df rs l ps).2.length≤700) (hsz:((aC df rs l ps).1.length:Int)≤size) :
  Calls Tryz.prog 203 #[.pointer (some ⟨mb,0,none⟩),.int .i64 size,.slice (some ⟨b,off,none⟩) rs.length cap] w fun e w' =>
   e=.returned (.bool true)∧Msg w' mb base (aC df rs l ps).1 (aC df rs l ps).2∧TG mb base w w':=by
 have HM0:=aH hm
 obtain ⟨vb,vp,hma,ho,hpp⟩:=hm
 obtain ⟨a1,n1,c1,rfl⟩:=own_slice ho
 obtain ⟨a2,n2,c2,rfl⟩:=own_slice hpp
 obtain ⟨m0,m1⟩:=hma.cells
 have hmlt:=hma.lt
 have hT1:TG mb base w (w.alloc (.cells #[.slice a1 n1 c1,.slice a2 n2 c2] 283)):=TG.of_below ((Below.refl _ _).alloc (Nat.le_refl _) _)
 have HM:=aH (show Msg (w.alloc (.cells #[.slice a1 n1 c1,.slice a2 n2 c2] 283)) mb base l ps from (aU HM0).below ((Below.refl _ _).alloc (Nat.le_refl _) _))
 have HT1:=aH hT1
 have HG:=aH hg
 have HR:=aH hr
 have HOK:=aH hok
 have HPO:=aH hpo
 have hblt:=hr.1
 clear hma ho hpp hg hr hok hT1 HM0 hpo
 go_enter Tryz.func203,Tryz.ntmps203
 go_wp2_with fail
 go_loopw [15] (fun i wr=>∃ (k:Nat),i=.int .i64 k∧k≤rs.length∧Msg wr mb base (aC df (rs.take k) l ps).1 (aC df (rs.take k) l ps).2∧TG mb base w wr) (fun i _=>rs.length - (intOf i).toNat)
 case atStart=>exact ⟨0,rfl,Nat.zero_le _,aU HM,aU HT1⟩
 case round =>
  obtain ⟨k,rfl,hk,hmr,htr⟩:=hrel
  have HMR:=aH hmr
  have HTR:=aH htr
  have hsr:=htr.size
  by_cases hlt:k<rs.length
  ·have hkI:(k:Int)<(rs.length:Int):=by omega
   have hrr:=Ia.bE.kept (aU HR) htr.size (htr.block b hblt hbm (.inl hbb))
   obtain ⟨q0,q1,q2,q3⟩:=hrr.four k hlt
   have hrk:=aU HOK rs[k] (List.getElem_mem hlt)
   have HFT:=aH (recsStep_take df rs k hlt l ps)
   have HFL:=aH (recsStep_part df rs (aU HOK) l ps (k+1))
   have HPK:=aH ((recsStep_more df (rs.take k) (fun f hf=>aU HOK f (List.mem_of_mem_take hf)) l ps).2.2 (aU HPO))
   have hgr:=((aU HG).tg htr hb0 hm0)
   have hW0:Below wr.heap.size wr (wr.alloc (.cells #[.string (B rs[k].owner),.int .i64 rs[k].ttl,.int .i64 rs[k].type,.string (B rs[k].data)] 47)):=(Below.refl _ _).alloc (Nat.le_refl _) _
   have hnewr:RB (wr.alloc (.cells #[.string (B rs[k].owner),.int .i64 rs[k].ttl,.int .i64 rs[k].type,.string (B rs[k].data)] 47)) wr.heap.size rs[k]:=World.alloc_heap_new wr _
   obtain ⟨r,hrE⟩ : ∃ r,r=rs[k]:=⟨_,rfl⟩
   rw [← hrE] at q0 q1 q2 q3 hrk hW0 hnewr
   obtain ⟨l1,p1,hlp⟩ : ∃ l1 p1,aC df (rs.take k) l ps=(l1,p1):=⟨_,_,rfl⟩
   have HFT2:Hid (aC df (rs.take (k+1)) l ps=rrStep r (df r) l1 p1):=by
    have:=aU HFT
    rw [hlp,← hrE] at this; exact this
   have HMR1:Hid (Msg wr mb base l1 p1):=by rw [hlp] at hmr; exact hmr
   have HPK1:Hid (PlOk p1):=by have:=aU HPK; rw [hlp] at this; exact this
   clear hrr hmr htr hrE HFT hlp HMR HPK
   have hbx:wr.heap.size≠mb:=by omega
   have HD:Hid (∀ W1,Below wr.heap.size wr W1→RB W1 wr.heap.size r→Calls Tryz.prog 254 #[.agg #[.string (B r.owner),.int .i64 r.ttl,.int .i64 r.type,.string (B r.data)]] W1.drew fun e w'=>∃ g cp,e=.returned (.slice (some ⟨g,0,none⟩) (df r).length cp) ∧
     (w'.cell? ⟨wr.heap.size,0,none⟩=some (.string (B r.owner))∧w'.cell? ⟨wr.heap.size,1,none⟩=some (.int .i64 r.ttl)∧w'.cell? ⟨wr.heap.size,2,none⟩=some (.int .i64 r.type)∧w'.cell? ⟨wr.heap.size,3,none⟩=some (.string (B r.data))) ∧
     Hid ((df r).length≤cp∧FesAt mb w' g (df r)∧RB w' wr.heap.size r∧Msg w' mb base l1 p1∧G w'∧TG mb base w w')):=by
    intro W1 hb1 hr1
    have hb1d:Below wr.heap.size wr W1.drew:=hb1.drew
    refine (hrk.data W1.drew (hgr.below hb1d)).mono ?_
    rintro e w' ⟨⟨v,rfl,hv⟩,hb2⟩
    obtain ⟨g,cp,rfl,hcp,hfd⟩:=fesAt_of_own (mb:=mb) hv hrk.ne (by have:=hb1d.size; omega)
    have hr2:RB w' wr.heap.size r:=(hb2.block _ (Array.getElem?_eq_some_iff.1 hr1).1).trans hr1
    have hb3:Below wr.heap.size wr w':=hb1d.trans (hb2.mono hb1d.size)
    have ht3:TG mb base wr w':=TG.of_below hb3
    exact ⟨g,cp,rfl,hr2.cells,hcp,hfd,hr2,(aU HMR1).below hb3,hgr.below hb3,(aU HTR).trans ht3⟩
   have HPP:Hid (∀ g cp W2,Hid ((df r).length≤cp∧FesAt mb W2 g (df r)∧RB W2 wr.heap.size r∧Msg W2 mb base l1 p1∧G W2∧TG mb base w W2) →
     Calls Tryz.prog 139 #[.pointer (some ⟨mb,0,none⟩),.slice (some ⟨W2.heap.size,0,none⟩) 5 5] (W2.alloc (.cells #[.iface 291 (.string (B r.owner)),.iface 284 (.int .u16 r.type.toNat),.iface 284 (.int .u16 1),.iface 344 (.int .u32 r.ttl),.iface 293 (.slice (some ⟨g,0,none⟩) (df r).length cp)] 297)) fun e w' =>
      e=.returned (.tuple #[])∧(w'.cell? ⟨wr.heap.size,0,none⟩=some (.string (B r.owner))∧w'.cell? ⟨wr.heap.size,1,none⟩=some (.int .i64 r.ttl)∧w'.cell? ⟨wr.heap.size,2,none⟩=some (.int .i64 r.type)∧w'.cell? ⟨wr.heap.size,3,none⟩=some (.string (B r.data))) ∧
      Hid (Msg w' mb base (aC df (rs.take (k+1)) l ps).1 (aC df (rs.take (k+1)) l ps).2∧TG mb base w w')):=by
    intro g cp W2 hB
    obtain ⟨hcp,hfd,hr2,hm2,hi2,ht2⟩:=aU hB
    have hL:=aU HFL
    rw [aU HFT2] at hL
    refine (put_rr_g mb base g cp r (df r) hrk hb0 hm0 l1 p1 W2 hi2 hfd hcp hm2 (aU HPK1) (Nat.le_trans hbs ht2.size) (by omega) (by omega)).mono ?_
    rintro e w' ⟨rfl,h2,h3⟩
    refine ⟨rfl,(RB_tg hr2 h3 hbx).cells,?_,ht2.trans h3⟩
    rw [aU HFT2]
    exact h2
   have x1:IntKind.u16.wrap r.type=(r.type.toNat:Int):=by
    have h1:=hrk.typ.1
    have h2:=hrk.typ.2
    rw [IntKind.wrap_u16]; omega
   have x2:IntKind.u32.wrap (r.ttl:Int)=(r.ttl:Int):=by
    have h1:=hrk.ttl
    rw [IntKind.wrap_u32]; omega
   clear hrk HFL hgr HFT2
   obtain ⟨tn,htn⟩ : ∃ tn,tn=r.type.toNat:=⟨_,rfl⟩
   rw [← htn] at x1 HPP
   clear htn
   go_wp2_with fail
   have HD1:=aH (aU HD _ hW0 hnewr)
   have hS1:=hnewr.cells
   clear hW0 hnewr HD q0 q1 q2 q3
   generalize (wr.alloc (.cells #[.string (B r.owner),.int .i64 r.ttl,.int .i64 r.type,.string (B r.data)] 47))=W1 at *
   have hS:(W1.drew.cell? ⟨wr.heap.size,0,none⟩=some (.string (B r.owner))∧W1.drew.cell? ⟨wr.heap.size,1,none⟩=some (.int .i64 r.ttl)∧W1.drew.cell? ⟨wr.heap.size,2,none⟩=some (.int .i64 r.type)∧W1.drew.cell? ⟨wr.heap.size,3,none⟩=some (.string (B r.data))):=hS1
   clear hS1
   go_region_held (fun w'=>w'.cell? ⟨wr.heap.size,0,none⟩=some (.string (B r.owner))∧w'.cell? ⟨wr.heap.size,1,none⟩=some (.int .i64 r.ttl)∧w'.cell? ⟨wr.heap.size,2,none⟩=some (.int .i64 r.type)∧w'.cell? ⟨wr.heap.size,3,none⟩=some (.string (B r.data))) (first | assumption | go_keep)
    (first
     | (go_at_call 254; go_loud (refine (aU HD1).mono ?_; rintro e w2 ⟨g,cp,rfl,hS2,HB2⟩))
     | (go_at_call 139; go_loud (refine (aU HPP _ _ _ HB2).mono ?_; rintro e w3 ⟨rfl,hS3,HB3⟩)))
   rename_i hH
   clear hH hS hS2 hS3 HB2 HD1 HPP
   go_wp2_with fail
   obtain ⟨h1,h3⟩:=aU HB3
   exact ⟨⟨k+1,by go_num,by omega,h1,h3⟩,by simp [intOf]; omega⟩
  ·have hkl:k=rs.length:=by omega
   subst hkl
   rw [List.take_length] at hmr
   have HF:=aH (And.intro hmr htr)
   obtain ⟨vb1,vp1,hm1,ho1,_⟩:=hmr
   obtain ⟨ab,cb,rfl⟩:=own_sl ho1
   have c0:=hm1.cells.1
   have hgt : ¬ size<(((aC df rs l ps).1).length:Int):=by omega
   clear hm1 ho1 htr HMR
   generalize (aC df rs l ps).1.length=N at *
   go_wp2_with fail
   go_ret
   exact ⟨rfl,(aU HF).1,(aU HF).2⟩
end Me
namespace Wu
open Ka Kd Rf Rg Ia Iow Ie Zb Zc Za La Lb Lg Wa Wb Wc Wd We Wf Wg Wh Wi Wj Wk Wl Wm Wn Wo Wp Wq Ws Wt Re
structure FB (s mb:Nat) (size:Int) (cs:List Int) (W:World):Prop where
 b0:It.Box W s (.pointer (some ⟨mb,0,none⟩)) 216
 b1:It.Box W (s+1) (.int .i64 size) 3
 b2:It.Box W (s+2) (.slice none 0 0) 56
 b3:NumsAt W (s+3) cs 3
 b4:It.Box W (s+4) (.slice (some ⟨s+3,0,none⟩) 3 3) 56
theorem FB.kept {s mb:Nat} {size:Int} {cs:List Int} {W W':World} (h:FB s mb size cs W) (hk : ∀ k,s≤k→k<s+5→W'.heap[k]? = W.heap[k]?):FB s mb size cs W' :=
 ⟨(hk _ (by omega) (by omega)).trans h.b0,(hk _ (by omega) (by omega)).trans h.b1,(hk _ (by omega) (by omega)).trans h.b2,(hk _ (by omega) (by omega)).trans h.b3,(hk _ (by omega) (by omega)).trans h.b4⟩
theorem FB.lt {s mb:Nat} {size:Int} {cs:List Int} {W:World} (h:FB s mb size cs W):s+4<W.heap.size:=It.Box.lt h.b4
theorem FB.set {s mb:Nat} {size:Int} {cs:List Int} {W:World} (h:FB s mb size cs W) (k:Nat) (x:Int):FB s mb size (cs.set k x) (W.setCell ⟨s+3,k,none⟩ (.int .i64 x)) :=
 ⟨(Below.heap_setCell _ _ _ _ (by show s≠s+3; omega)).trans h.b0,(Below.heap_setCell _ _ _ _ (by show s+1≠s+3; omega)).trans h.b1,(Below.heap_setCell _ _ _ _ (by show s+2≠s+3; omega)).trans h.b2,h.b3.set k x,(Below.heap_setCell _ _ _ _ (by show s+4≠s+3; omega)).trans h.b4⟩
section
variable {mb base s lb:Nat} {size:Int} {vp:Value} {ps:List (Str×Nat)} {vs:Array Value} {w:World} {ds:List Nat} {cs:List Int} {d:Nat} {out:Str} {W B:World}
end
theorem sets_b (a:Option Addr) (n c:Nat) (w:World) :
  Calls Tryz.prog 107 #[.slice a n c] w fun e w'=>e=.returned (.func (.func 233) #[] #[.pointer (some ⟨w.heap.size,0,none⟩),.pointer (some ⟨w.heap.size+1,0,none⟩)])∧w'.heap.size=w.heap.size+2∧Below w.heap.size w w' ∧
   It.Box w' w.heap.size (.slice a n c) 41∧It.Box w' (w.heap.size+1) (.func (.func 177) #[] #[]) 261:=by
 refine (sets_any a n c w).mono ?_
 rintro e w' ⟨rfl,rfl⟩
 refine ⟨rfl,by simp,((Below.refl _ _).alloc (Nat.le_refl _) _).alloc (by simp) _,(It.Box.new _ _ _).alloc _,?_⟩
 have:=It.Box.new (w.alloc (.cells #[.slice a n c] 41)) (.func (.func 177) #[] #[]) 261
 rwa [World.size_alloc] at this
def tk (rs:List Rec) (i:Nat):List Rec:=((runs aD rs).take i).flatMap (·.2)
theorem tk_zero (rs:List Rec):tk rs 0 = []:=rfl
theorem tk_succ {rs:List Rec} {i:Nat} {x:Nat×List Rec} (h:(runs aD rs)[i]? = some x):tk rs (i+1)=tk rs i++x.2:=by
 unfold tk; rw [take_one h,List.flatMap_append]; simp
theorem tk_all (rs:List Rec):tk rs (runs aD rs).length=rs:=by
 unfold tk; rw [List.take_length]; exact runs_cat aD _ _ _ (Nat.le_refl _)
theorem tk_len (rs:List Rec) (i:Nat):(tk rs i).length≤rs.length:=by
 have h:rs=tk rs i++((runs aD rs).drop i).flatMap (·.2):=by
  unfold tk
  rw [← List.flatMap_append,List.take_append_drop]
  exact (runs_cat aD _ _ _ (Nat.le_refl _)).symm
 conv=>rhs; rw [h,List.length_append]
 omega
theorem tk_mem {rs:List Rec} {x:Nat×List Rec} (h:x∈runs aD rs) {r:Rec} (hr:r∈x.2):r∈rs:=by
 rw [(runs_piece h).2.2] at hr
 exact List.mem_of_mem_drop (List.mem_of_mem_take hr)
end Wu
namespace Mf
open Ka Kd Rf Rg Ia Iow Ie Zb Zc Za La Lb Lg Wa Wb Wc Wd We Wf Wg Wh Wi Wj Wk Wl Wm Wn Wo Wp Wq Ws Wt Wu Ma Mb Mc Md Me Re
theorem msgN_below {w w':World} {mb base d:Nat} {l:Str} {ps:Pl} (h:MsgN w mb base d l ps) (hb:Below w.heap.size w w'):MsgN w' mb base d l ps:=by
 obtain ⟨vb,vp,h1,h2,h3,h4,h5⟩:=h
 exact ⟨vb,vp,h1.kept (hb.block mb h1.lt),own_below h2 hb,own_below h3 hb,h4,h5⟩
theorem msg_self {w:World} {mb base:Nat} {l:Str} {ps:Pl} (h:Msg w mb base l ps):MsgN w mb base mb l ps:=by
 have h0:=h
 obtain ⟨vb,vp,h1,_⟩:=h0
 exact h.away ⟨fun cur hc=>by rw [h1] at hc; simp at hc,fun cur hc=>by rw [h1] at hc; simp at hc⟩
theorem msgN_but {w w':World} {mb base d x:Nat} {l:Str} {ps:Pl} (h:MsgN w mb base d l ps) (hx:(∀ cur,w.heap[x]?≠some (.cells cur 5 (0,0)))∧∀ cur,w.heap[x]?≠some (.cells cur 343 (0,0))) (hm:mb≠x) (hk : ∀ k,k≠x→w'.heap[k]? = w.heap[k]?):MsgN w' mb base d l ps:=by
 obtain ⟨vb,vp,h1,h2,h3,h4,h5⟩:=h
 refine ⟨vb,vp,h1.kept (hk mb hm),own_kept h2 fun g hg=>hk g fun e=>?_,own_kept h3 fun g hg=>hk g fun e=>?_,h4,h5⟩
 ·obtain ⟨cur,hcur⟩:=own_kindB h2 hg
  rw [e] at hcur; exact hx.1 cur hcur
 ·obtain ⟨cur,hcur⟩:=own_kindP h3 hg
  rw [e] at hcur; exact hx.2 cur hcur
theorem box_tg {mb base k:Nat} {W W':World} {v:Value} {t:TypeId} (h:It.Box W k v t) (ht:TG mb base W W') (hm:k≠mb) (h8:t≠5) (h9:t≠343):It.Box W' k v t:=ht.box h hm h8 h9
theorem fb_tg {s mb base:Nat} {size:Int} {cs:List Int} {W W':World} (h:FB s mb size cs W) (ht:TG mb base W W') (hm:mb<s):FB s mb size cs W':=by
 have hl:=h.lt
 refine ⟨box_tg h.b0 ht (by omega) (by decide) (by decide),box_tg h.b1 ht (by omega) (by decide) (by decide),box_tg h.b2 ht (by omega) (by decide) (by decide),?_,box_tg h.b4 ht (by omega) (by decide) (by decide)⟩
 have:=h.b3
 unfold NumsAt at this ⊢
 exact ht.box this (by omega) (by decide) (by decide)
structure FJ (mb base s lb:Nat) (size:Int) (vs:Array Value) (w:World) (ds:List Nat) (cs:List Int) (d:Nat) (S:Str×Pl) (W:World):Prop where
 fb:FB s mb size cs W
 lists:W.heap[lb]? = some (.cells vs 41)
 msg:MsgN W mb base d S.1 S.2
 po:PlOk S.2
 g:G W
 tg:TG mb base w W
 defs : ∀ x∈ds,W.heap[x]? = some (.deferred (some []))
section
variable {mb base s lb:Nat} {size:Int} {vs:Array Value} {w:World} {ds:List Nat} {cs:List Int} {d:Nat} {S S':Str×Pl} {W B:World}
theorem FJ.re (h:FJ mb base s lb size vs w ds cs d S W) (d':Nat) (hd:(∀ cur,W.heap[d']?≠some (.cells cur 5 (0,0)))∧∀ cur,W.heap[d']?≠some (.cells cur 343 (0,0))):FJ mb base s lb size vs w ds cs d' S W :=
 ⟨h.fb,h.lists,h.msg.msg.away hd,h.po,h.g,h.tg,h.defs⟩
theorem FJ.keeps (h:FJ mb base s lb size vs w ds cs d S W) (hk:It.Keeps d W B) (h1:s+4<d) (h2:lb<d) (h3:mb<d) (h4:w.heap.size≤d) (h6 : ∀ x∈ds,x≠d):FJ mb base s lb size vs w ds cs d S B:=by
 have hl:=h.fb.lt
 obtain ⟨g0,gm,gc⟩:=h.g
 exact ⟨h.fb.kept fun k k1 k2=>hk.block k (by omega) (by omega),(hk.block lb (Array.getElem?_eq_some_iff.1 h.lists).1 (by omega)).trans h.lists,h.msg.keeps hk (by omega),h.po,
  ⟨Nat.lt_of_lt_of_le g0 hk.size,gm,(World.cell?_of_block (hk.block 0 g0 (by omega))).trans gc⟩,h.tg.keeps hk h4,fun x hx=>(hk.block x (Array.getElem?_eq_some_iff.1 (h.defs x hx)).1 (h6 x hx)).trans (h.defs x hx)⟩
theorem FJ.below (h:FJ mb base s lb size vs w ds cs d S W) (hb:Below W.heap.size W B):FJ mb base s lb size vs w ds cs d S B:=by
 have hl:=h.fb.lt
 exact ⟨h.fb.kept fun k k1 k2=>hb.block k (by omega),(hb.block lb (Array.getElem?_eq_some_iff.1 h.lists).1).trans h.lists,msgN_below h.msg hb,h.po,h.g.below hb,h.tg.trans (TG.of_below hb),fun x hx=>(hb.block x (Array.getElem?_eq_some_iff.1 (h.defs x hx)).1).trans (h.defs x hx)⟩
theorem FJ.fit (h:FJ mb base s lb size vs w ds cs d S W) (ht:TG mb base W B) (hm:Msg B mb base S'.1 S'.2) (hpo:PlOk S'.2) (h0:mb<s) (h1:lb≠mb) (h2:0<base) (h3:0<mb) (h4 : ∀ x∈ds,x≠mb) (hd:(∀ cur,B.heap[d]?≠some (.cells cur 5 (0,0)))∧∀ cur,B.heap[d]?≠some (.cells cur 343 (0,0))):FJ mb base s lb size vs w ds cs d S' B :=
 ⟨fb_tg h.fb ht h0,ht.box h.lists h1 (by decide) (by decide),hm.away hd,hpo,h.g.tg ht h2 h3,h.tg.trans ht,fun x hx=>(ht.other (h.defs x hx) (h4 x hx) (fun _ _ _ e=>by cases e)).trans (h.defs x hx)⟩
theorem FJ.set (h:FJ mb base s lb size vs w ds cs d S W) (k:Nat) (x:Int) (h0:mb<s) (h1:lb<s) (h2:w.heap.size≤s) (h3 : ∀ y∈ds,y≠s+3):FJ mb base s lb size vs w ds (cs.set k x) d S (W.setCell ⟨s+3,k,none⟩ (.int .i64 x)):=by
 have hnum:=h.fb.b3
 unfold NumsAt at hnum
 have hne : ∀ k',k'≠s+3→(W.setCell ⟨s+3,k,none⟩ (.int .i64 x)).heap[k']? = W.heap[k']?:=fun k' hk=>Below.heap_setCell _ _ _ _ hk
 refine ⟨h.fb.set k x,(hne lb (by omega)).trans h.lists,msgN_but h.msg ⟨fun c hc=>?_,fun c hc=>?_⟩ (by omega) hne,h.po,?_,h.tg.same rfl rfl rfl (by simp [World.setCell]) fun i hi=>hne i (by omega),fun y hy=>(hne y (h3 y hy)).trans (h.defs y hy)⟩
 ·rw [hnum] at hc; simp at hc
 ·rw [hnum] at hc; simp at hc
 ·obtain ⟨g0,gm,gc⟩:=h.g
  exact ⟨by simpa [World.setCell] using g0,gm,(World.cell?_of_block (hne 0 (by omega))).trans gc⟩
end
theorem recsStep_nil (df:Rec→List Fe) (S:Str×Pl):aC df [] S.1 S.2=S:=rfl
theorem tkS_le (df:Rec→List Fe) (rs:List Rec) (hok : ∀ r∈rs,RrG r (df r)) (i:Nat) (l:Str) (ps:Pl):(aC df (tk rs i) l ps).1.length≤(aC df rs l ps).1.length∧(aC df (tk rs i) l ps).2.length≤(aC df rs l ps).2.length:=by
 have h:rs=tk rs i++((runs aD rs).drop i).flatMap (·.2):=by
  unfold tk
  rw [← List.flatMap_append,List.take_append_drop]
  exact (runs_cat aD _ _ _ (Nat.le_refl _)).symm
 have hq : ∀ r∈((runs aD rs).drop i).flatMap (·.2),RrG r (df r):=fun r hr=>hok r (by rw [h]; exact List.mem_append_right _ hr)
 have e:aC df rs l ps=aC df (((runs aD rs).drop i).flatMap (·.2)) (aC df (tk rs i) l ps).1 (aC df (tk rs i) l ps).2:=by rw [← recsStep_app,← h]
 have:=recsStep_more df _ hq (aC df (tk rs i) l ps).1 (aC df (tk rs i) l ps).2
 rw [e]; exact ⟨this.1,this.2.1⟩
theorem tkS_po (df:Rec→List Fe) (rs:List Rec) (hok : ∀ r∈rs,RrG r (df r)) (i:Nat) (l:Str) (ps:Pl) (hp:PlOk ps):PlOk (aC df (tk rs i) l ps).2:=by
 have h:rs=tk rs i++((runs aD rs).drop i).flatMap (·.2):=by
  unfold tk
  rw [← List.flatMap_append,List.take_append_drop]
  exact (runs_cat aD _ _ _ (Nat.le_refl _)).symm
 exact (recsStep_more df (tk rs i) (fun r hr=>hok r (by rw [h]; exact List.mem_append_left _ hr)) l ps).2.2 hp
end Mf
namespace Wv
open Ka Rg Ia Wa Wb Wc Wd We Wf Wg Wh Wi Wj Wk Wl Wm Wn Wo Wp Wq Ws Wt Re
def hdrFs (i b c0 c1 c2 c3:Nat):List Fd:=[fShort i,fShort b,fShort c0,fShort c1,fShort c2,fShort c3]
theorem hdr_len (i b c0 c1 c2 c3:Nat):(outs (hdrFs i b c0 c1 c2 c3)).length=12:=rfl
theorem underF:Tryz.prog.underlying 285=some (.slice 297):=by kernel_rfl
theorem sizeB:(Tryz.prog.info? 5).map (·.size)=some 1:=by kernel_rfl
theorem step_copy_run {P:Program} {ops:Array Oper} {o:Oper} {a:Act} {w:World} {K:Act→World→Prop} {Q:Exit→Act→World→Prop} {E:Prop}
  (hg:o.guard=none) (d x:Operand) (dT sT:TypeId) (hop:o.op=Op.call { callee:=Callee.builtin Builtin.copy,args:=#[d,x],argTypes:=#[dT,sT] })
  (vd vx v:Value) (w':World) (hd:a.eval d=vd) (hx:a.eval x=vx) (hrun:(Builtin.copy_ #[dT,sT] o.type #[vd,vx]).run P w=.ok v w')
  (hK:K (a.put o.dst v) w'):if Region.wanted o (yielded ops a.tmps)=true then Oper.wp P o a w K Q else E:=by
 have hw:Region.wanted o (yielded ops a.tmps)=true:=by simp [Region.wanted,hg]
 rw [if_pos hw]
 unfold Oper.wp
 simp [execOp,hop,resolve,invoke,builtin,hd,hx,hrun,Result.andThen]
 exact hK
theorem own_over {w:World} {base g cap:Nat} {l h:Str} (ho:OwnB w base (.slice (some ⟨g,0,none⟩) l.length cap) l) (hl:h.length≤l.length) :
  ∃ cur,w.heap[g]? = some (.cells cur 5 (0,0))∧h.length≤cur.size∧∀ w':World,w'.heap[g]? = some (.cells cur 5 (0,0))→OwnB (w'.setRow g (cur.toList.take 0++Lib.byteCells (B h).data.toList++cur.toList.drop (0+(B h).size)).toArray) base (.slice (some ⟨g,0,none⟩) l.length cap) (h++l.drop h.length):=by
 obtain ⟨h1,⟨e,hz⟩ | ⟨g',cap',cur,e,hb,hcur,hc,hm,hs,ht⟩⟩:=ho
 ·cases e
 ·cases e
  refine ⟨cur,hcur,by omega,fun w' hw'=>?_⟩
  have hlen:(h++l.drop h.length).length=l.length:=by simp; omega
  have hbs:(B h).size=h.length:=size_B h
  refine ⟨by simp,.inr ⟨g,cap,_,by rw [hlen],hb,setRow_heap w' g cur _ 5 (0,0) hw',by omega,hm,?_,?_⟩⟩
  ·have:((B h).data.toList).length=h.length:=by simp [B]
   simp [Lib.byteCells,hbs,B] at *
   omega
  ·rw [hlen,Nat.mul_one]
   rw [Nat.mul_one] at ht
   have e1:(B h).data.toList=h:=by simp [B]
   have e2:cur.toList.drop h.length=(cur.toList.take l.length).drop h.length++cur.toList.drop l.length:=by
    conv=>lhs; rw [← List.take_append_drop l.length cur.toList]
    rw [List.drop_append_of_le_length (by simp; omega)]
   simp only [List.take_zero,List.nil_append,e1,hbs,Nat.zero_add]
   rw [e2,ht,← List.append_assoc,List.take_left' (by simp [Lib.byteCells]; omega)]
   simp [Lib.byteCells]
theorem under_any (mb base i b c0 c1 c2 c3:Nat) (vb vp:Value) (l:Str) (w:World) (hm:MsgAt w mb vb vp) (ho:OwnB w base vb l) (hbs:base≤w.heap.size) (hl:12≤l.length) (hl2:l.length≤60000)
  (h0:i<65536) (h1:b<65536) (h2:c0<65536) (h3:c1<65536) (h4:c2<65536) (h5:c3<65536) :
  Calls Tryz.prog 131 #[.pointer (some ⟨mb,0,none⟩),.agg #[.int .i64 i,.int .i64 b,.int .i64 c0,.int .i64 c1,.int .i64 c2,.int .i64 c3]] w fun e w' =>
   e=.returned (.string (B (outs (hdrFs i b c0 c1 c2 c3)++l.drop 12)))∧TW mb base w w':=by
 obtain ⟨i0,hi,hz0,hz1,hz2⟩:=info_parts infoF
 obtain ⟨g,cap,cur,rfl,hbg,hcur,hcap,_⟩:=own_at ho (by intro h; subst h; simp at hl)
 have hmc:=hm.cells.1
 have hmlt:=hm.lt
 have hglt:=(Array.getElem?_eq_some_iff.1 hcur).1
 have hgm:mb≠g:=fun e=>by
  rw [MsgAt,e,hcur] at hm
  simp at hm
 have HM:=aH hm
 have HO:=aH ho
 clear hm ho hcur
 have a0:IntKind.u16.wrap (i:Int)=(i:Int):=by rw [IntKind.wrap_u16]; omega
 have a1:IntKind.u16.wrap (b:Int)=(b:Int):=by rw [IntKind.wrap_u16]; omega
 have a2:IntKind.u16.wrap (c0:Int)=(c0:Int):=by rw [IntKind.wrap_u16]; omega
 have a3:IntKind.u16.wrap (c1:Int)=(c1:Int):=by rw [IntKind.wrap_u16]; omega
 have a4:IntKind.u16.wrap (c2:Int)=(c2:Int):=by rw [IntKind.wrap_u16]; omega
 have a5:IntKind.u16.wrap (c3:Int)=(c3:Int):=by rw [IntKind.wrap_u16]; omega
 have HS:Hid (i<65536∧b<65536∧c0<65536∧c1<65536∧c2<65536∧c3<65536):=⟨h0,h1,h2,h3,h4,h5⟩
 have HX:Hid (∀ k:Nat,k<4→∃ ck:Nat,(hdrFs i b c0 c1 c2 c3).take (2+(k+1))=(hdrFs i b c0 c1 c2 c3).take (2+k)++[fShort ck]∧IntKind.u16.wrap (ck:Int)=(ck:Int)∧∀ W:World,(Instr.index 131 (.agg #[.int .i64 c0,.int .i64 c1,.int .i64 c2,.int .i64 c3]) (.int .i64 k)).run Tryz.prog W=.ok (.int .i64 ck) W):=by
  intro k hk
  match k,hk with
  | 0,_=>exact ⟨c0,rfl,a2,fun _=>by kernel_rfl⟩
  | 1,_=>exact ⟨c1,rfl,a3,fun _=>by kernel_rfl⟩
  | 2,_=>exact ⟨c2,rfl,a4,fun _=>by kernel_rfl⟩
  | 3,_=>exact ⟨c3,rfl,a5,fun _=>by kernel_rfl⟩
  | k+4,h=>omega
 clear h0 h1 h2 h3 h4 h5 a2 a3 a4 a5
 go_enter Tryz.func131,Tryz.ntmps131
 go_wp2_with fail
 have HOF0:Hid (OwnF ((w.alloc (.cells #[.int .i64 i,.int .i64 b,.int .i64 c0,.int .i64 c1,.int .i64 c2,.int .i64 c3] 133)).alloc (.cells #[.iface 284 (.int .u16 i),.iface 284 (.int .u16 b)] 297)) (w.heap.size+1) (.slice (some ⟨w.heap.size+1,0,none⟩) 2 2) ((hdrFs i b c0 c1 c2 c3).take (2+0))):=by
  have hnew:=World.alloc_heap_new (w.alloc (.cells #[.int .i64 i,.int .i64 b,.int .i64 c0,.int .i64 c1,.int .i64 c2,.int .i64 c3] 133)) (.cells #[.iface 284 (.int .u16 i),.iface 284 (.int .u16 b)] 297)
  rw [World.size_alloc] at hnew
  exact ⟨rfl,.inr ⟨w.heap.size+1,2,_,rfl,Nat.le_refl _,hnew,Nat.le_refl _,by simp [maxLen],rfl,rfl⟩⟩
 have HB0:Hid (Below w.heap.size w ((w.alloc (.cells #[.int .i64 i,.int .i64 b,.int .i64 c0,.int .i64 c1,.int .i64 c2,.int .i64 c3] 133)).alloc (.cells #[.iface 284 (.int .u16 i),.iface 284 (.int .u16 b)] 297))):=((Below.refl _ _).alloc (Nat.le_refl _) _).alloc (by simp) _
 go_loopw [19,5] (fun ix v wr=>∃ (k:Nat) (a:Option Addr) (n c:Nat),ix=.int .i64 k∧v=.slice a n c∧k≤4∧OwnF wr (w.heap.size+1) (.slice a n c) ((hdrFs i b c0 c1 c2 c3).take (2+k))∧Below w.heap.size w wr∧w.heap.size+1<wr.heap.size) (fun ix _ _=>4 - (intOf ix).toNat)
 case atStart=>exact ⟨0,_,_,_,rfl,rfl,by omega,aU HOF0,aU HB0,by simp⟩
 case round =>
  obtain ⟨k,a,n,c,rfl,rfl,hk,hof,hbr,hws⟩:=hrel
  have HOF:=aH hof
  have HBR:=aH hbr
  have hsr:=hbr.size
  clear hof HOF0 HB0
  by_cases hlt:k<4
  ·obtain ⟨ck,ht,hw,hidx⟩:=aU HX k hlt
   have HT:=aH ht
   have hkI:(k:Int)<4:=by omega
   have hfl:((hdrFs i b c0 c1 c2 c3).take (2+k)).length=2+k:=by simp [hdrFs]; omega
   clear ht hbr
   go_wp2_with (at_builtin; go_loud (refine wpList_append_own _ rfl (.tmp 22) (.tmp 26) 285 rfl (w.heap.size+1) 297 i0 .nilIface 1 16 underF hi hz0 hz1 hz2 rfl (by decide) _ ((hdrFs i b c0 c1 c2 c3).take (2+k)).length _ rfl ((aU HOF).alloc _) ⟨wr.heap.size,0,none⟩ 1 1 [.iface 284 (.int .u16 ck)] rfl rfl ?c1 ?c2 ?c3 ?c4 ?c5 ?_))
   case c1 =>
    intro j u' hj
    match j,hj with
    | 0,hj=>simp at hj; subst hj; simp [Addr.add]
    | n+1,hj=>simp at hj
   case c2=>intro u' hu'; simp at hu'; subst hu'; rfl
   case c3=>unfold maxLen; omega
   case c4=>omega
   case c5=>simp; omega
   intro v' w3 hown' hgrow _
   obtain ⟨va,vn,vc,rfl⟩:=own_slice hown'
   have HO3:Hid (OwnF w3 (w.heap.size+1) (.slice va vn vc) ((hdrFs i b c0 c1 c2 c3).take (2+(k+1)))):=by
    unfold Hid OwnF
    rw [aU HT,List.length_append,List.map_append,hfl,List.map_take]
    exact hown'
   have HB3:Hid (Below w.heap.size w w3∧w.heap.size+1<w3.heap.size):=⟨((aU HBR).alloc (by omega) _).grown hgrow (by simp; omega) (fun k' hk'=>by have:=((aU HOF).lt k' hk').1; omega),by have:=hgrow.size; simp at this; omega⟩
   clear hown' hgrow hidx
   go_wp2_with fail
   exact ⟨⟨k+1,_,_,_,by go_num,rfl,by omega,aU HO3,(aU HB3).1,(aU HB3).2⟩,by simp [intOf]; omega⟩
  ·have hkl:k=4:=by omega
   subst hkl
   have hfin:(hdrFs i b c0 c1 c2 c3).take (2+4)=hdrFs i b c0 c1 c2 c3:=rfl
   rw [hfin] at HOF
   obtain ⟨fg,fcap,hv,hfc,hfd⟩:=fdsAt_of_own (mb:=mb) (aU HOF) (by simp [hdrFs]) (by omega)
   cases hv
   have hd:Below wr.heap.size wr wr.drew:=(Below.refl _ _).drew
   have HW:=aH (written_any fg c (hdrFs i b c0 c1 c2 c3) wr.drew (fun f hf=>by
    obtain ⟨s0,s1,s2,s3,s4,s5⟩:=aU HS
    simp only [hdrFs,List.mem_cons,List.mem_nil_iff,or_false] at hf
    rcases hf with rfl | rfl | rfl | rfl | rfl | rfl <;> exact short_ok _ (by assumption)) hfd.1 (fun j hj=>hfd.2.2.2 j hj) hfc (by simp [hdrFs]) (by rw [hdr_len]; omega))
   have hmk:=hbr.block mb hmlt
   have hmc2:wr.drew.cell? ⟨mb,0,none⟩=some (.slice (some ⟨g,0,none⟩) l.length cap):=(World.cell?_of_block hmk).trans hmc
   clear hfd HX hfin
   have hmc3:wr.cell? ⟨mb,0,none⟩=some (.slice (some ⟨g,0,none⟩) l.length cap):=hmc2
   obtain ⟨cur2,hcur2,hsz2,hown2⟩:=own_over (aU HO) (h:=outs (hdrFs i b c0 c1 c2 c3)) (by rw [hdr_len]; exact hl)
   obtain ⟨hd0,hhd⟩ : ∃ x,x=outs (hdrFs i b c0 c1 c2 c3):=⟨_,rfl⟩
   have hlen0:hd0.length=12:=by rw [hhd]; exact hdr_len i b c0 c1 c2 c3
   rw [← hhd] at HW hown2 hsz2
   have HCP:Hid (∀ w2,Below wr.drew.heap.size wr.drew w2→(Builtin.copy_ #[58,9] 3 #[.slice (some ⟨g,0,none⟩) l.length cap,.string (B hd0)]).run Tryz.prog w2=.ok (goInt (B hd0).size) (w2.setRow g (cur2.toList.take 0++Lib.byteCells (B hd0).data.toList++cur2.toList.drop (0+(B hd0).size)).toArray)):=fun w2 hb2=>by
    have e:=((hb2.block g (show g<wr.heap.size by omega)).trans (hbr.block g hglt)).trans hcur2
    exact Lib.run_copy_row_string w2 _ _ _ _ g 0 l.length cap (B hd0) cur2 5 underB sizeB e (by rw [size_B]; omega) (by rw [size_B]; omega)
   have HOV:Hid (∀ w2,Below wr.drew.heap.size wr.drew w2→OwnB (w2.setRow g (cur2.toList.take 0++Lib.byteCells (B hd0).data.toList++cur2.toList.drop (0+(B hd0).size)).toArray) base (.slice (some ⟨g,0,none⟩) l.length cap) (hd0++l.drop hd0.length)):=fun w2 hb2 =>
    hown2 w2 (((hb2.block g (show g<wr.heap.size by omega)).trans (hbr.block g hglt)).trans hcur2)
   clear hown2 hcur2 hsz2
   generalize (cur2.toList.take 0++Lib.byteCells (B hd0).data.toList++cur2.toList.drop (0+(B hd0).size)).toArray=row at *
   have HHD:=aH hhd
   clear hhd hmk
   go_wp2_with fail
   go_region_held_law (fun w'=>w'.cell? ⟨mb,0,none⟩=some (.slice (some ⟨g,0,none⟩) l.length cap)) (first | assumption | exact (cell_setRow_other _ _ _ _ hgm).trans (by assumption))
    (first
     | (refine step_copy_run rfl (.tmp 32) (.tmp 34) 58 9 rfl _ _ _ _ rfl rfl (aU HCP _ hb2) ?_)
     | (go_at_call 199; go_loud (refine (aU HW).mono ?_; rintro e w2 ⟨rfl,hb2⟩; have hS2:=(hb2.cell (p:=⟨mb,0,none⟩) (show mb<wr.heap.size by omega)).trans hmc2)))
   rename_i hH
   have hown3:=aU HOV w2 hb2
   have hcv:=own_string hown3
   have hbw2:Below w.heap.size w w2:=hbr.trans (((Below.refl _ _).drew.trans hb2).mono hsr)
   obtain ⟨cur4,hcur4⟩:=own_kindB (aU HO) rfl
   have HT3:Hid (TW mb base w (w2.setRow g row)):=⟨hbw2.os,hbw2.tape,hbw2.output,by rw [setRow_size]; exact hbw2.size,fun k hk hm hp=>by
    by_cases e:k=g
    ·subst e
     rcases hp with hp | hp
     ·omega
     ·exact absurd hcur4 (hp cur4)
    ·exact (setRow_other _ _ _ _ e).trans (hbw2.block k hk)⟩
   have HE:Hid (hd0++List.drop (List.length hd0) l=outs (hdrFs i b c0 c1 c2 c3)++l.drop 12):=by rw [Hid,hlen0,aU HHD]
   rw [aU HE] at hcv
   clear hown3 hbw2 hcur4 hb2 hS2 HCP HOV HW hbr hmc hmc2 hmc3 HE hlen0
   generalize w2.setRow g row=w3 at *
   go_wp2_with fail
   go_ret
   exact ⟨rfl,aU HT3⟩
end Wv
attribute [local go_sem] Oper.semAt_some undef
namespace Wz
open Ka Kd Rf Rg Ia Iow Ie Zb Zc Za La Lb Lg Wa Wb Wc Wd We Wf Wg Wh Wi Wj Wk Wl Wm Wn Wo Wp Wq Ws Wt Wu Wv Re
theorem made3 (w:World):(Instr.makeSlice 56 (.int .i64 3) (.int .i64 3)).run Tryz.prog w=.ok (.slice (some ⟨w.heap.size,0,none⟩) 3 3) (w.alloc (.cells #[.int .i64 0,.int .i64 0,.int .i64 0] 3)):=by kernel_rfl
end Wz
end Go.Proofs.YtkkpahmoljiepaaGreatDoor
