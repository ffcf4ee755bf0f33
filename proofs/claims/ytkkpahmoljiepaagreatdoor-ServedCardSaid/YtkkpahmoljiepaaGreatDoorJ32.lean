/- Contracts: wire's dataOf, of records of every type, as fields in general. -/
import Derived.Test.YtkkpahmoljiepaaGreatDoorJ31
import Derived.Test.YtkkpahmoljiepaaGreatDoorJ25
import Derived.Deep.RegionHeld
import Derived.Test.YtkkpahmoljiepaaGreatDoorJ26
import Derived.Test.YtkkpahmoljiepaaGreatDoorJ15
import Derived.Test.YtkkpahmoljiepaaGreatDoorJ11
import Derived.Test.YtkkpahmoljiepaaGreatDoorJ12
import Derived.Test.YtkkpahmoljiepaaGreatDoorJ29
set_option linter.unusedSimpArgs false
set_option linter.unusedVariables false
set_option maxRecDepth 1000000
set_option maxHeartbeats 12800000
namespace Go.Proofs.YtkkpahmoljiepaaGreatDoor
open Go.RowKit
open Pu (Str aH aU)
def OwnE (w:World) (base:Nat) (v:Value) (fs:List Fe):Prop:=w.ownsRow base 297 1 v fs.length (fs.map fun f=>.iface f.t f.x)
namespace Md
open Ka Kd Rg Ia Iow Ie Zb Zc Za La Wa Wb Wc Wd We Wf Wg Wh Wi Wj Wk Wl Wm Wn Wo Wp Wq Ws Ma Mb Mc Re
theorem ownE_new (w:World) (base:Nat) (cs:Array Value) (fs:List Fe) (hc:cs.toList=fs.map fun f=>.iface f.t f.x) (hb:base≤w.heap.size) (hl:fs.length≤maxLen) (n g:Nat) (hn:n=fs.length) (hg:g=w.heap.size):OwnE (w.alloc (.cells cs 297)) base (.slice (some ⟨g,0,none⟩) n n) fs:=by
 subst hn hg
 have hs:cs.size=fs.length:=by rw [← Array.length_toList,hc,List.length_map]
 exact ⟨by simp,.inr ⟨w.heap.size,fs.length,cs,rfl,hb,World.alloc_heap_new w _,Nat.le_refl _,hl,by rw [hs,Nat.mul_one],by rw [hc,Nat.mul_one]; exact List.take_of_length_le (by simp)⟩⟩
def rv (r:Rec):Value:=.agg #[.string (B r.owner),.int .i64 r.ttl,.int .i64 r.type,.string (B r.data)]
def soaFs (x0 x1:Str) (n2 n3:Nat):List Fe:=[compF x0,compF x1,ofFd (fLong (n2%4294967296)),ofFd (fLong 3600),ofFd (fLong 600),ofFd (fLong 86400),ofFd (fLong (n3%4294967296))]
theorem dataOf_SOA (r:Rec) (w:World) (hg:G w) (ht:r.type=6) (hd:r.data.length≤3000) (x0 x1 x2 x3:Str) (n2 n3:Nat) (hw:Sp.pieces 32 (B r.data) = [B x0,B x1,B x2,B x3]) (hp2:Lib.parseUintB 64 x2=.ok n2) (hp3:Lib.parseUintB 64 x3=.ok n3) (hl2:x2.length≤3000) (hl3:x3.length≤3000) :
  Calls Tryz.prog 254 #[rv r] w fun e w'=>(∃ v,e=.returned v∧OwnE w' w.heap.size v (soaFs x0 x1 n2 n3))∧Below w.heap.size w w':=by
 have hb0:Below w.heap.size w (w.alloc (.cells #[.string (B r.owner),.int .i64 r.ttl,.int .i64 r.type,.string (B r.data)] 47)):=(Below.refl _ _).alloc (Nat.le_refl _) _
 have HC:=aH (split_any (B r.data) 32 _ (hg.below hb0) (by rw [size_B]; omega))
 have hs:(B r.data).size=r.data.length:=size_B _
 unfold rv
 rw [ht] at HC hb0 ⊢
 clear hg ht hb0
 rw [hw] at HC
 go_enter Tryz.func254,Tryz.ntmps254
 go_wp2_with fail
 refine (aU HC).mono ?_
 rintro e w1 ⟨rfl,rfl⟩
 clear HC
 simp only [List.map_cons,List.map_nil,List.length_cons,List.length_nil]
 have kS : ∀ W W':World,Below W.heap.size W W'→(W.cell? ⟨w.heap.size+1,0,none⟩=some (.string (B x0))∧W.cell? ⟨w.heap.size+1,1,none⟩=some (.string (B x1))∧W.cell? ⟨w.heap.size+1,2,none⟩=some (.string (B x2))∧W.cell? ⟨w.heap.size+1,3,none⟩=some (.string (B x3)))→(W'.cell? ⟨w.heap.size+1,0,none⟩=some (.string (B x0))∧W'.cell? ⟨w.heap.size+1,1,none⟩=some (.string (B x1))∧W'.cell? ⟨w.heap.size+1,2,none⟩=some (.string (B x2))∧W'.cell? ⟨w.heap.size+1,3,none⟩=some (.string (B x3))):=fun W W' hb h=>by
  have kp : ∀ (a:Addr) (v:Value),W.cell? a=some v→W'.cell? a=some v:=fun a v h=>(hb.cell (World.block_lt_of_cell? W a h)).trans h
  obtain ⟨e0,e1,e2,e3⟩:=h
  exact ⟨kp _ _ e0,kp _ _ e1,kp _ _ e2,kp _ _ e3⟩
 have HK:Hid (∀ (W:World) (o:Obj),(W.cell? ⟨w.heap.size+1,0,none⟩=some (.string (B x0))∧W.cell? ⟨w.heap.size+1,1,none⟩=some (.string (B x1))∧W.cell? ⟨w.heap.size+1,2,none⟩=some (.string (B x2))∧W.cell? ⟨w.heap.size+1,3,none⟩=some (.string (B x3)))∧Below w.heap.size w W→(((W.alloc o).cell? ⟨w.heap.size+1,0,none⟩=some (.string (B x0))∧(W.alloc o).cell? ⟨w.heap.size+1,1,none⟩=some (.string (B x1))∧(W.alloc o).cell? ⟨w.heap.size+1,2,none⟩=some (.string (B x2))∧(W.alloc o).cell? ⟨w.heap.size+1,3,none⟩=some (.string (B x3)))∧Below w.heap.size w (W.alloc o))):=fun W o h=>⟨kS W _ ((Below.refl _ _).alloc (Nat.le_refl _) _) h.1,h.2.alloc h.2.size _⟩
 have HN2:Hid (∀ W,(W.cell? ⟨w.heap.size+1,0,none⟩=some (.string (B x0))∧W.cell? ⟨w.heap.size+1,1,none⟩=some (.string (B x1))∧W.cell? ⟨w.heap.size+1,2,none⟩=some (.string (B x2))∧W.cell? ⟨w.heap.size+1,3,none⟩=some (.string (B x3)))→Below w.heap.size w W→Calls Tryz.prog 280 #[.string (B x2)] W fun e w'=>e=.returned (.int .u64 (n2:Int))∧(w'.cell? ⟨w.heap.size+1,0,none⟩=some (.string (B x0))∧w'.cell? ⟨w.heap.size+1,1,none⟩=some (.string (B x1))∧w'.cell? ⟨w.heap.size+1,2,none⟩=some (.string (B x2))∧w'.cell? ⟨w.heap.size+1,3,none⟩=some (.string (B x3)))∧Below w.heap.size w w'):=fun W h hb=>by
  refine (number_ok (B x2) n2 W (by rw [size_B]; exact hl2) hp2).mono ?_
  rintro e w' ⟨rfl,hb'⟩
  exact ⟨rfl,kS W w' hb' h,hb.trans (hb'.mono hb.size)⟩
 have y2:IntKind.u32.wrap (n2:Int)=((n2%4294967296:Nat):Int):=by rw [IntKind.wrap_u32]; omega
 have HN3:Hid (∀ W,(W.cell? ⟨w.heap.size+1,0,none⟩=some (.string (B x0))∧W.cell? ⟨w.heap.size+1,1,none⟩=some (.string (B x1))∧W.cell? ⟨w.heap.size+1,2,none⟩=some (.string (B x2))∧W.cell? ⟨w.heap.size+1,3,none⟩=some (.string (B x3)))→Below w.heap.size w W→Calls Tryz.prog 280 #[.string (B x3)] W fun e w'=>e=.returned (.int .u64 (n3:Int))∧(w'.cell? ⟨w.heap.size+1,0,none⟩=some (.string (B x0))∧w'.cell? ⟨w.heap.size+1,1,none⟩=some (.string (B x1))∧w'.cell? ⟨w.heap.size+1,2,none⟩=some (.string (B x2))∧w'.cell? ⟨w.heap.size+1,3,none⟩=some (.string (B x3)))∧Below w.heap.size w w'):=fun W h hb=>by
  refine (number_ok (B x3) n3 W (by rw [size_B]; exact hl3) hp3).mono ?_
  rintro e w' ⟨rfl,hb'⟩
  exact ⟨rfl,kS W w' hb' h,hb.trans (hb'.mono hb.size)⟩
 have y3:IntKind.u32.wrap (n3:Int)=((n3%4294967296:Nat):Int):=by rw [IntKind.wrap_u32]; omega
 have hS0:((w.alloc (.cells #[.string (B r.owner),.int .i64 r.ttl,.int .i64 6,.string (B r.data)] 47)).alloc (.cells #[.string (B x0),.string (B x1),.string (B x2),.string (B x3)] 9)).drew.cell? ⟨w.heap.size+1,0,none⟩=some (.string (B x0))∧((w.alloc (.cells #[.string (B r.owner),.int .i64 r.ttl,.int .i64 6,.string (B r.data)] 47)).alloc (.cells #[.string (B x0),.string (B x1),.string (B x2),.string (B x3)] 9)).drew.cell? ⟨w.heap.size+1,1,none⟩=some (.string (B x1))∧((w.alloc (.cells #[.string (B r.owner),.int .i64 r.ttl,.int .i64 6,.string (B r.data)] 47)).alloc (.cells #[.string (B x0),.string (B x1),.string (B x2),.string (B x3)] 9)).drew.cell? ⟨w.heap.size+1,2,none⟩=some (.string (B x2))∧((w.alloc (.cells #[.string (B r.owner),.int .i64 r.ttl,.int .i64 6,.string (B r.data)] 47)).alloc (.cells #[.string (B x0),.string (B x1),.string (B x2),.string (B x3)] 9)).drew.cell? ⟨w.heap.size+1,3,none⟩=some (.string (B x3)):=by
  have hnew:=World.alloc_heap_new (w.alloc (.cells #[.string (B r.owner),.int .i64 r.ttl,.int .i64 6,.string (B r.data)] 47)) (.cells #[.string (B x0),.string (B x1),.string (B x2),.string (B x3)] 9)
  rw [World.size_alloc] at hnew
  refine ⟨?_,?_,?_,?_⟩ <;> (show (World.cell? _ _)=_; unfold World.cell?; simp only [World.drew]; rw [hnew]; rfl)
 have hB0:Below w.heap.size w ((w.alloc (.cells #[.string (B r.owner),.int .i64 r.ttl,.int .i64 6,.string (B r.data)] 47)).alloc (.cells #[.string (B x0),.string (B x1),.string (B x2),.string (B x3)] 9)).drew:=(((Below.refl _ _).alloc (Nat.le_refl _) _).alloc (by simp) _).drew
 clear kS hw hp2 hl2 hp3 hl3
 go_wp2_with fail
 generalize ((w.alloc (.cells #[.string (B r.owner),.int .i64 r.ttl,.int .i64 6,.string (B r.data)] 47)).alloc (.cells #[.string (B x0),.string (B x1),.string (B x2),.string (B x3)] 9))=w1 at *
 go_region_held (fun w'=>(w'.cell? ⟨w.heap.size+1,0,none⟩=some (.string (B x0))∧w'.cell? ⟨w.heap.size+1,1,none⟩=some (.string (B x1))∧w'.cell? ⟨w.heap.size+1,2,none⟩=some (.string (B x2))∧w'.cell? ⟨w.heap.size+1,3,none⟩=some (.string (B x3)))∧Below w.heap.size w w') (first | exact ⟨by assumption,by assumption⟩ | (refine aU HK _ _ ?_; exact ⟨by assumption,by assumption⟩) | go_keep)
  (first
   | (go_at_call_of 280 (Value.string (B x2)); go_loud (refine (aU HN2 _ ?_ ?_).mono ?_; assumption; assumption; rintro e w' ⟨rfl,hq,hbq⟩))
   | (go_at_call_of 280 (Value.string (B x3)); go_loud (refine (aU HN3 _ ?_ ?_).mono ?_; assumption; assumption; rintro e w' ⟨rfl,hq,hbq⟩)))
 have z2:(n2:Int)%4294967296=((n2%4294967296:Nat):Int):=by omega
 have z3:(n3:Int)%4294967296=((n3%4294967296:Nat):Int):=by omega
 rw [z2,z3]
 have hbs:=hbq.size
 have HF:=aH hbq
 clear HK HN2 HN3 hS0 hB0 hq hbq
 go_wp2_with fail
 go_ret
 refine ⟨⟨.slice (some ⟨w'.heap.size,0,none⟩) 7 7,rfl,ownE_new _ _ _ (soaFs x0 x1 n2 n3) ?_ ?_ ?_ 7 _ rfl rfl⟩,?_⟩
 ·rfl
 ·exact hbs
 ·simp [maxLen,soaFs]
 ·exact (aU HF).alloc hbs _
end Md
namespace Me
open Ka Kd Rg Ia Iow Ie Zb Zc Za La Wa Wb Wc Wd We Wf Wg Wh Wi Wj Wk Wl Wm Wn Wo Wp Wq Ws Wt Ma Mb Mc Md Re
structure RrG (r:Rec) (df:List Fe):Prop where
 own:r.owner.length≤300
 typ:r.type=(r.type.toNat:Int)∧r.type.toNat<65536
 ttl:r.ttl<4294967296
 data : ∀ W,G W→Calls Tryz.prog 254 #[rVal r] W fun e w'=>(∃ v,e=.returned v∧OwnE w' W.heap.size v df)∧Below W.heap.size W w'
 ok : ∀ (mb base:Nat) (I:World→Prop),(∀ w,I w→G w)→0<base→0<mb→∀ f∈df,f.Ok mb base I
 ne:df≠[]
 few:df.length≤1000
def rrFe (r:Rec) (g cap:Nat) (df:List Fe):List Fe:=[compF r.owner,ofFd (fShort r.type.toNat),ofFd (fShort 1),ofFd (fLong r.ttl),sizedF g cap df]
def rrStep (r:Rec) (df:List Fe) (l:Str) (ps:Pl):Str×Pl:=steps (rrFe r 0 0 df) l ps
def aC (df:Rec→List Fe) (rs:List Rec) (l:Str) (ps:Pl):Str×Pl:=rs.foldl (fun s r=>rrStep r (df r) s.1 s.2) (l,ps)
theorem recsStep_take (df:Rec→List Fe) (rs:List Rec) (k:Nat) (h:k<rs.length) (l:Str) (ps:Pl):aC df (rs.take (k+1)) l ps=rrStep rs[k] (df rs[k]) (aC df (rs.take k) l ps).1 (aC df (rs.take k) l ps).2:=by
 rw [List.take_succ_eq_append_getElem h,aC,List.foldl_append]; rfl
theorem recsStep_app (df:Rec→List Fe) (rs qs:List Rec) (l:Str) (ps:Pl):aC df (rs++qs) l ps=aC df qs (aC df rs l ps).1 (aC df rs l ps).2:=by
 rw [aC,List.foldl_append]; rfl
theorem fesAt_of_own {mb base:Nat} {w:World} {v:Value} {fs:List Fe} (h:OwnE w base v fs) (hne:fs≠[]) (hm:mb<base) : ∃ g cap,v=.slice (some ⟨g,0,none⟩) fs.length cap∧fs.length≤cap∧FesAt mb w g fs:=by
 have h0:=h
 obtain ⟨_,⟨rfl,hz⟩ | ⟨g,cap,cur,rfl,hb,hcur,hc,_⟩⟩:=h
 ·exact absurd (List.eq_nil_of_length_eq_zero hz) hne
 ·refine ⟨g,cap,rfl,hc,by omega,⟨_,_,hcur,by decide,by decide⟩,fun j hj=>?_⟩
  have:=World.ownsRow.cellAt h0 j (by omega)
  rw [this]; simp [hj]
theorem stab {mb base g:Nat} {df:List Fe} (hb0:0<base) (hm0:0<mb):StableG mb base (fun w=>G w∧FesAt mb w g df):=fun w w' h ht=>⟨h.1.tg ht hb0 hm0,h.2.tg ht⟩
theorem rrFe_ok {r:Rec} {df:List Fe} (hr:RrG r df) (mb base g cap:Nat) (hb0:0<base) (hm0:0<mb) (hcap:df.length≤cap) : ∀ f∈rrFe r g cap df,f.Ok mb base (fun w=>G w∧FesAt mb w g df):=by
 intro f hf
 simp only [rrFe,List.mem_cons,List.mem_nil_iff,or_false] at hf
 rcases hf with rfl | rfl | rfl | rfl | rfl
 ·exact comp_ok _ hr.own _ _ _ (fun _ h=>h.1) hb0 hm0
 ·exact ofFd_ok (short_ok _ hr.typ.2) _ _ _
 ·exact ofFd_ok (short_ok _ (by omega)) _ _ _
 ·exact ofFd_ok (long_ok _ hr.ttl) _ _ _
 ·exact sized_ok mb base g cap _ df (stab hb0 hm0) (fun _ h=>h.2) (hr.ok _ _ _ (fun _ h=>h.1) hb0 hm0) hcap (by have:=hr.few; omega)
theorem rrStep_more {r:Rec} {df:List Fe} (hr:RrG r df) (l:Str) (ps:Pl):l.length≤(rrStep r df l ps).1.length∧ps.length≤(rrStep r df l ps).2.length∧(PlOk ps→PlOk (rrStep r df l ps).2) :=
 steps_more (rrFe r 0 df.length df) (rrFe_ok hr 1 1 0 df.length (by omega) (by omega) (Nat.le_refl _)) l ps
theorem recsStep_more (df:Rec→List Fe) : ∀ (rs:List Rec),(∀ r∈rs,RrG r (df r))→∀ l ps,l.length≤(aC df rs l ps).1.length∧ps.length≤(aC df rs l ps).2.length∧(PlOk ps→PlOk (aC df rs l ps).2)
 | [],_,l,ps=>⟨Nat.le_refl _,Nat.le_refl _,id⟩
 | r :: rs,h,l,ps=>by
  have h1:=rrStep_more (h r (by simp)) l ps
  have h2:=recsStep_more df rs (fun g hg=>h g (by simp [hg])) (rrStep r (df r) l ps).1 (rrStep r (df r) l ps).2
  exact ⟨Nat.le_trans h1.1 h2.1,Nat.le_trans h1.2.1 h2.2.1,fun h=>h2.2.2 (h1.2.2 h)⟩
theorem recsStep_part (df:Rec→List Fe) (rs:List Rec) (hok : ∀ r∈rs,RrG r (df r)) (l:Str) (ps:Pl) (k:Nat):(aC df (rs.take k) l ps).1.length≤(aC df rs l ps).1.length∧(aC df (rs.take k) l ps).2.length≤(aC df rs l ps).2.length:=by
 have e:aC df rs l ps=aC df (rs.drop k) (aC df (rs.take k) l ps).1 (aC df (rs.take k) l ps).2:=by rw [← recsStep_app,List.take_append_drop]
 have:=recsStep_more df (rs.drop k) (fun f hf=>hok f (List.mem_of_mem_drop hf)) (aC df (rs.take k) l ps).1 (aC df (rs.take k) l ps).2
 rw [e]; exact ⟨this.1,this.2.1⟩
theorem put_rr_g (mb base g cap:Nat) (r:Rec) (df:List Fe) (hr:RrG r df) (hb0:0<base) (hm0:0<mb) (l:Str) (ps:Pl) (w:World) (hG:G w) (hF:FesAt mb w g df) (hcap:df.length≤cap) (hm:Msg w mb base l ps) (hpo:PlOk ps) (hbs:base≤w.heap.size)
  (hl:(rrStep r df l ps).1.length≤50000) (hp:(rrStep r df l ps).2.length≤700) :
  Calls Tryz.prog 139 #[.pointer (some ⟨mb,0,none⟩),.slice (some ⟨w.heap.size,0,none⟩) 5 5] (w.alloc (.cells #[.iface 291 (.string (B r.owner)),.iface 284 (.int .u16 r.type.toNat),.iface 284 (.int .u16 1),.iface 344 (.int .u32 r.ttl),.iface 293 (.slice (some ⟨g,0,none⟩) df.length cap)] 297)) fun e w' =>
   e=.returned (.tuple #[])∧Msg w' mb base (rrStep r df l ps).1 (rrStep r df l ps).2∧TG mb base w w':=by
 have hnew:=World.alloc_heap_new w (.cells #[.iface 291 (.string (B r.owner)),.iface 284 (.int .u16 r.type.toNat),.iface 284 (.int .u16 1),.iface 344 (.int .u32 r.ttl),.iface 293 (.slice (some ⟨g,0,none⟩) df.length cap)] 297)
 have hba:Below w.heap.size w (w.alloc (.cells #[.iface 291 (.string (B r.owner)),.iface 284 (.int .u16 r.type.toNat),.iface 284 (.int .u16 1),.iface 344 (.int .u32 r.ttl),.iface 293 (.slice (some ⟨g,0,none⟩) df.length cap)] 297)):=(Below.refl _ _).alloc (Nat.le_refl _) _
 have hta:TG mb base w _:=TG.of_below hba
 have hmlt:=hm.lt
 have hst:=stab (mb:=mb) (base:=base) (g:=g) (df:=df) hb0 hm0
 refine (put_g mb base w.heap.size 5 (fun w=>G w∧FesAt mb w g df) (rrFe r g cap df) l ps _ (hst _ _ ⟨hG,hF⟩ hta) hst (hm.below hba) (by simp; omega) hpo (rrFe_ok hr mb base g cap hb0 hm0 hcap) ⟨by omega,⟨_,_,hnew,by decide,by decide⟩,?_⟩ (by simp [rrFe]) (by simp [rrFe]) hl hp).mono ?_
 ·intro j hj
  match j,hj with
  | 0,_=>unfold World.cell?; rw [hnew]; rfl
  | 1,_=>unfold World.cell?; rw [hnew]; rfl
  | 2,_=>unfold World.cell?; rw [hnew]; rfl
  | 3,_=>unfold World.cell?; rw [hnew]; rfl
  | 4,_=>unfold World.cell?; rw [hnew]; rfl
  | j+5,hj=>simp [rrFe] at hj; omega
 rintro e w2 ⟨rfl,h1,h2⟩
 exact ⟨rfl,h1,hta.trans h2⟩
theorem RB_tg {W W':World} {b mb base:Nat} {r:Rec} (h:RB W b r) (ht:TG mb base W W') (hb:b≠mb):RB W' b r:=ht.box h hb (by decide) (by decide)
theorem fit_g (mb base b off cap:Nat) (size:Int) (df:Rec→List Fe) (rs:List Rec) (ps:Pl) (l:Str) (w:World) (hm:Msg w mb base l ps) (hpo:PlOk ps) (hg:G w) (hbs:base≤w.heap.size) (hb0:0<base) (hm0:0<mb)
  (hr:bE w b off rs) (hbb:b<base) (hbm:b≠mb) (hcap:rs.length≤cap) (hlen:rs.length≤3001) (hok : ∀ r∈rs,RrG r (df r)) (hl:(aC df rs l ps).1.length≤50000) (hp:(aC df rs l ps).2.length≤700) (hsz:((aC df rs l ps).1.length:Int)≤size) :
  Calls Tryz.prog 203 #[.pointer (some ⟨mb,0,none⟩),.int .i64 size,.slice (some ⟨b,off,none⟩) rs.length cap] w fun e w' =>
   e=.returned (.bool true)∧Msg w' mb base (aC df rs l ps).1 (aC df rs l ps).2∧TG mb base w w':=by
 have HM0:=aH hm
 obtain ⟨vb,vp,hma,ho,hpp⟩:=hm
 obtain ⟨a1,n1,c1,rfl⟩:=own_slice ho
 obtain ⟨a2,n2,c2,rfl⟩:=own_slice hpp
 obtain ⟨m0,m1⟩:=hma.cells
 have hmlt:=hma.lt
 have hT1:TG mb base w (w.alloc (.cells #[.slice a1 n1 c1,.slice a2 n2 c2] 283)):=TG.of_below ((Below.refl _ _).alloc (Nat.le_refl _) _)
 have HM:=aH (show Msg (w.alloc (.cells #[.slice a1 n1 c1,.slice a2 n2 c2] 283)) mb base l ps from (aU HM0).below ((Below.refl _ _).alloc (Nat.le_refl _) _))
 have HT1:=aH hT1
 have HG:=aH hg
 have HR:=aH hr
 have HOK:=aH hok
 have HPO:=aH hpo
 have hblt:=hr.1
 clear hma ho hpp hg hr hok hT1 HM0 hpo
 go_enter Tryz.func203,Tryz.ntmps203
 go_wp2_with fail
 go_loopw [15] (fun i wr=>∃ (k:Nat),i=.int .i64 k∧k≤rs.length∧Msg wr mb base (aC df (rs.take k) l ps).1 (aC df (rs.take k) l ps).2∧TG mb base w wr) (fun i _=>rs.length - (intOf i).toNat)
 case atStart=>exact ⟨0,rfl,Nat.zero_le _,aU HM,aU HT1⟩
 case round =>
  obtain ⟨k,rfl,hk,hmr,htr⟩:=hrel
  have HMR:=aH hmr
  have HTR:=aH htr
  have hsr:=htr.size
  by_cases hlt:k<rs.length
  ·have hkI:(k:Int)<(rs.length:Int):=by omega
   have hrr:=Ia.bE.kept (aU HR) htr.size (htr.block b hblt hbm (.inl hbb))
   obtain ⟨q0,q1,q2,q3⟩:=hrr.four k hlt
   have hrk:=aU HOK rs[k] (List.getElem_mem hlt)
   have HFT:=aH (recsStep_take df rs k hlt l ps)
   have HFL:=aH (recsStep_part df rs (aU HOK) l ps (k+1))
   have HPK:=aH ((recsStep_more df (rs.take k) (fun f hf=>aU HOK f (List.mem_of_mem_take hf)) l ps).2.2 (aU HPO))
   have hgr:=((aU HG).tg htr hb0 hm0)
   have hW0:Below wr.heap.size wr (wr.alloc (.cells #[.string (B rs[k].owner),.int .i64 rs[k].ttl,.int .i64 rs[k].type,.string (B rs[k].data)] 47)):=(Below.refl _ _).alloc (Nat.le_refl _) _
   have hnewr:RB (wr.alloc (.cells #[.string (B rs[k].owner),.int .i64 rs[k].ttl,.int .i64 rs[k].type,.string (B rs[k].data)] 47)) wr.heap.size rs[k]:=World.alloc_heap_new wr _
   obtain ⟨r,hrE⟩ : ∃ r,r=rs[k]:=⟨_,rfl⟩
   rw [← hrE] at q0 q1 q2 q3 hrk hW0 hnewr
   obtain ⟨l1,p1,hlp⟩ : ∃ l1 p1,aC df (rs.take k) l ps=(l1,p1):=⟨_,_,rfl⟩
   have HFT2:Hid (aC df (rs.take (k+1)) l ps=rrStep r (df r) l1 p1):=by
    have:=aU HFT
    rw [hlp,← hrE] at this; exact this
   have HMR1:Hid (Msg wr mb base l1 p1):=by rw [hlp] at hmr; exact hmr
   have HPK1:Hid (PlOk p1):=by have:=aU HPK; rw [hlp] at this; exact this
   clear hrr hmr htr hrE HFT hlp HMR HPK
   have hbx:wr.heap.size≠mb:=by omega
   have HD:Hid (∀ W1,Below wr.heap.size wr W1→RB W1 wr.heap.size r→Calls Tryz.prog 254 #[.agg #[.string (B r.owner),.int .i64 r.ttl,.int .i64 r.type,.string (B r.data)]] W1.drew fun e w'=>∃ g cp,e=.returned (.slice (some ⟨g,0,none⟩) (df r).length cp) ∧
     (w'.cell? ⟨wr.heap.size,0,none⟩=some (.string (B r.owner))∧w'.cell? ⟨wr.heap.size,1,none⟩=some (.int .i64 r.ttl)∧w'.cell? ⟨wr.heap.size,2,none⟩=some (.int .i64 r.type)∧w'.cell? ⟨wr.heap.size,3,none⟩=some (.string (B r.data))) ∧
     Hid ((df r).length≤cp∧FesAt mb w' g (df r)∧RB w' wr.heap.size r∧Msg w' mb base l1 p1∧G w'∧TG mb base w w')):=by
    intro W1 hb1 hr1
    have hb1d:Below wr.heap.size wr W1.drew:=hb1.drew
    refine (hrk.data W1.drew (hgr.below hb1d)).mono ?_
    rintro e w' ⟨⟨v,rfl,hv⟩,hb2⟩
    obtain ⟨g,cp,rfl,hcp,hfd⟩:=fesAt_of_own (mb:=mb) hv hrk.ne (by have:=hb1d.size; omega)
    have hr2:RB w' wr.heap.size r:=(hb2.block _ (Array.getElem?_eq_some_iff.1 hr1).1).trans hr1
    have hb3:Below wr.heap.size wr w':=hb1d.trans (hb2.mono hb1d.size)
    have ht3:TG mb base wr w':=TG.of_below hb3
    exact ⟨g,cp,rfl,hr2.cells,hcp,hfd,hr2,(aU HMR1).below hb3,hgr.below hb3,(aU HTR).trans ht3⟩
   have HPP:Hid (∀ g cp W2,Hid ((df r).length≤cp∧FesAt mb W2 g (df r)∧RB W2 wr.heap.size r∧Msg W2 mb base l1 p1∧G W2∧TG mb base w W2) →
     Calls Tryz.prog 139 #[.pointer (some ⟨mb,0,none⟩),.slice (some ⟨W2.heap.size,0,none⟩) 5 5] (W2.alloc (.cells #[.iface 291 (.string (B r.owner)),.iface 284 (.int .u16 r.type.toNat),.iface 284 (.int .u16 1),.iface 344 (.int .u32 r.ttl),.iface 293 (.slice (some ⟨g,0,none⟩) (df r).length cp)] 297)) fun e w' =>
      e=.returned (.tuple #[])∧(w'.cell? ⟨wr.heap.size,0,none⟩=some (.string (B r.owner))∧w'.cell? ⟨wr.heap.size,1,none⟩=some (.int .i64 r.ttl)∧w'.cell? ⟨wr.heap.size,2,none⟩=some (.int .i64 r.type)∧w'.cell? ⟨wr.heap.size,3,none⟩=some (.string (B r.data))) ∧
      Hid (Msg w' mb base (aC df (rs.take (k+1)) l ps).1 (aC df (rs.take (k+1)) l ps).2∧TG mb base w w')):=by
    intro g cp W2 hB
    obtain ⟨hcp,hfd,hr2,hm2,hi2,ht2⟩:=aU hB
    have hL:=aU HFL
    rw [aU HFT2] at hL
    refine (put_rr_g mb base g cp r (df r) hrk hb0 hm0 l1 p1 W2 hi2 hfd hcp hm2 (aU HPK1) (Nat.le_trans hbs ht2.size) (by omega) (by omega)).mono ?_
    rintro e w' ⟨rfl,h2,h3⟩
    refine ⟨rfl,(RB_tg hr2 h3 hbx).cells,?_,ht2.trans h3⟩
    rw [aU HFT2]
    exact h2
   have x1:IntKind.u16.wrap r.type=(r.type.toNat:Int):=by
    have h1:=hrk.typ.1
    have h2:=hrk.typ.2
    rw [IntKind.wrap_u16]; omega
   have x2:IntKind.u32.wrap (r.ttl:Int)=(r.ttl:Int):=by
    have h1:=hrk.ttl
    rw [IntKind.wrap_u32]; omega
   clear hrk HFL hgr HFT2
   obtain ⟨tn,htn⟩ : ∃ tn,tn=r.type.toNat:=⟨_,rfl⟩
   rw [← htn] at x1 HPP
   clear htn
   go_wp2_with fail
   have HD1:=aH (aU HD _ hW0 hnewr)
   have hS1:=hnewr.cells
   clear hW0 hnewr HD q0 q1 q2 q3
   generalize (wr.alloc (.cells #[.string (B r.owner),.int .i64 r.ttl,.int .i64 r.type,.string (B r.data)] 47))=W1 at *
   have hS:(W1.drew.cell? ⟨wr.heap.size,0,none⟩=some (.string (B r.owner))∧W1.drew.cell? ⟨wr.heap.size,1,none⟩=some (.int .i64 r.ttl)∧W1.drew.cell? ⟨wr.heap.size,2,none⟩=some (.int .i64 r.type)∧W1.drew.cell? ⟨wr.heap.size,3,none⟩=some (.string (B r.data))):=hS1
   clear hS1
   go_region_held (fun w'=>w'.cell? ⟨wr.heap.size,0,none⟩=some (.string (B r.owner))∧w'.cell? ⟨wr.heap.size,1,none⟩=some (.int .i64 r.ttl)∧w'.cell? ⟨wr.heap.size,2,none⟩=some (.int .i64 r.type)∧w'.cell? ⟨wr.heap.size,3,none⟩=some (.string (B r.data))) (first | assumption | go_keep)
    (first
     | (go_at_call 254; go_loud (refine (aU HD1).mono ?_; rintro e w2 ⟨g,cp,rfl,hS2,HB2⟩))
     | (go_at_call 139; go_loud (refine (aU HPP _ _ _ HB2).mono ?_; rintro e w3 ⟨rfl,hS3,HB3⟩)))
   rename_i hH
   clear hH hS hS2 hS3 HB2 HD1 HPP
   go_wp2_with fail
   obtain ⟨h1,h3⟩:=aU HB3
   exact ⟨⟨k+1,by go_num,by omega,h1,h3⟩,by simp [intOf]; omega⟩
  ·have hkl:k=rs.length:=by omega
   subst hkl
   rw [List.take_length] at hmr
   have HF:=aH (And.intro hmr htr)
   obtain ⟨vb1,vp1,hm1,ho1,_⟩:=hmr
   obtain ⟨ab,cb,rfl⟩:=own_sl ho1
   have c0:=hm1.cells.1
   have hgt : ¬ size<(((aC df rs l ps).1).length:Int):=by omega
   clear hm1 ho1 htr HMR
   generalize (aC df rs l ps).1.length=N at *
   go_wp2_with fail
   go_ret
   exact ⟨rfl,(aU HF).1,(aU HF).2⟩
end Me
namespace Mm
open Ka Kd Rg Ia Iow Ie Zb Zc Za La Wa Wb Wc Wd We Wf Wg Wh Wi Wj Wk Wl Wm Wn Wo Wp Wq Ws Wt Ma Mb Mc Md Me Re
theorem rr_SOA (r:Rec) (ho:r.owner.length≤300) (ht:r.type=6) (hl:r.ttl<4294967296) (hd:r.data.length≤3000) (x0 x1 x2 x3:Str) (n2 n3:Nat) (hw:Sp.pieces 32 (B r.data) = [B x0,B x1,B x2,B x3]) (hp2:Lib.parseUintB 64 x2=.ok n2) (hp3:Lib.parseUintB 64 x3=.ok n3) (hl0:x0.length≤300) (hl1:x1.length≤300) (hl2:x2.length≤3000) (hl3:x3.length≤3000):RrG r (soaFs x0 x1 n2 n3) where
 own:=ho
 typ:=by rw [ht]; exact ⟨rfl,by decide⟩
 ttl:=hl
 data:=fun W hG=>dataOf_SOA r W hG ht hd x0 x1 x2 x3 n2 n3 hw hp2 hp3 hl2 hl3
 ok:=fun mb base I hI hb hm f hf=>by
  simp only [soaFs,List.mem_cons,List.mem_nil_iff,or_false] at hf
  rcases hf with rfl | rfl | rfl | rfl | rfl | rfl | rfl
  ·exact comp_ok _ hl0 _ _ _ hI hb hm
  ·exact comp_ok _ hl1 _ _ _ hI hb hm
  ·exact ofFd_ok (long_ok _ (Nat.mod_lt _ (by omega))) _ _ _
  ·exact ofFd_ok (long_ok _ (by omega)) _ _ _
  ·exact ofFd_ok (long_ok _ (by omega)) _ _ _
  ·exact ofFd_ok (long_ok _ (by omega)) _ _ _
  ·exact ofFd_ok (long_ok _ (Nat.mod_lt _ (by omega))) _ _ _
 ne:=by simp [soaFs]
 few:=by simp [soaFs]
end Mm
namespace Mo
open Go.Sort
open Ta (headS zz)
open Va (lineS aJ dataN recN)
def soaR:Rec:=([122,122],40,6,[97,46,122,122,32,98,46,122,122,32,57,32,52,48])
theorem ansT4:aQ zz Va.recs 1 (aJ 52) = []:=by kernel_rfl
theorem authT4:aP zz Va.recs 1 (aJ 52) = [soaR]:=by kernel_rfl
theorem rcT4:stepRc zz Va.recs (aJ 52)=3:=by kernel_rfl
theorem cutT4:cutP zz Va.recs (aJ 52) = []:=by kernel_rfl
theorem plainT4:Plain zz (aJ 52) Va.recs 1 where
 fit:=Va.fit1
 len:=by decide
 soa:=Va.soa1
 ne5:=rfl
 ne255:=rfl
 alias:=by kernel_rfl
 mlen:=by
  have:(matchP Va.recs (aJ 52)).1.length≤1:=of_decide_eq_true (by kernel_rfl)
  omega
 under:=by kernel_rfl
 names:=by
  rw [ansT4,authT4]
  intro r hr
  simp only [List.append_nil,List.nil_append,List.mem_cons,List.mem_nil_iff,or_false] at hr
  subst hr
  exact ⟨rfl,rfl,by decide⟩
 alen:=by rw [ansT4]; simp
 blen:=by rw [authT4]; simp
end Mo
namespace Mi
open Ka Kd Rf Rg Ia Iow Ie Zb Zc Za La Wa Wb Wc Wd We Wf Wg Wh Wi Wj Wk Wl Wm Wn Wo Wp Ws Ma Mb Mc Re
end Mi
namespace Mpp
open Ka Kd Rg Ia Iow Ie Zb Zc Za La Wa Wb Wc Wd We Wf Wg Wh Wi Wj Wk Wl Wm Wn Wo Wp Wq Ws Wt Wy Ma Mb Mc Md Me Mi Mm Mo Xb Re
open Va (aJ recN dataN IsK)
def dfC (d:UInt8) (r:Rec):List Fe:=if r.type=6 then soaFs [97,46,122,122] [98,46,122,122] 9 40 else (addrFs [10,0,d.toNat - 48,7]).map ofFd
theorem rr_soa (d:UInt8):RrG soaR (dfC d soaR):=by
 refine rr_SOA soaR (by decide) rfl (by decide) (by decide) [97,46,122,122] [98,46,122,122] [57] [52,48] 9 40 ?_ ?_ ?_ (by decide) (by decide) (by decide) (by decide)
 ·kernel_rfl
 ·kernel_rfl
 ·kernel_rfl
def qC (d:UInt8):Str:=[2,104,d,2,122,122,0,0,1,0,1]
def soaOut:Str:=[192,15,0,6,0,1,0,0,0,40,0,28,1,97,192,15,1,98,192,15,0,0,0,9,0,0,14,16,0,0,2,88,0,1,81,128,0,0,0,40]
theorem step_soa {d:UInt8} (h:d=51∨d=52):aC (dfC d) [soaR] (List.replicate 12 0++qC d) (plcs 12 (aJ d))=(List.replicate 12 0++qC d++soaOut,plcs 12 (aJ d)++[([97,46,122,122],35),([98,46,122,122],39)]):=by
 rcases h with rfl | rfl <;> kernel_rfl
end Mpp
namespace Mn
open Ka Kd Rf Rg Ia Iow Ie Zb Zc Za La Lb Lc Lg Lj Wa Wb Wc Wd We Wf Wg Wh Wi Wj Wk Wl Wm Wn Wo Wp Wq Ws Wt Wu Wv Wx Wy Wz Xa Xb Va Vb Vd Re
open Ta (zz)
theorem reply_glue (zb i:Nat) (xo sz rc:Int) (op:Bool) (m qs nm:Str) (ra rb:List Rec) (R:Str) (w:World) (hg:G w) (hml:12≤m.length)
  (hh:Calls Tryz.prog 70 #[.string (B m)] w fun e w'=>e=.returned (.tuple #[.agg #[.int .i64 i,.int .i64 256,.int .i64 1,.int .i64 0,.int .i64 0,.int .i64 xo],.bool true])∧Below w.heap.size w w')
  (hq : ∀ W,Calls Tryz.prog 72 #[.agg #[.int .i64 i,.int .i64 256,.int .i64 1,.int .i64 0,.int .i64 0,.int .i64 xo],.string (B m)] W fun e w'=>e=.returned (.tuple #[qVal i 256 1 0 0 xo qs nm 1 1 op sz 0,.bool true])∧Below W.heap.size W w')
  (ha : ∀ W,Below w.heap.size w W→Calls Tryz.prog 74 #[qVal i 256 1 0 0 xo qs nm 1 1 op sz 0,.pointer (some ⟨zb,0,none⟩)] W fun e w'=>(∃ va vb,e=.returned (.agg #[.int .i64 rc,.bool true,va,vb,.slice none 0 0])∧OwnR w' W.heap.size va ra∧OwnR w' W.heap.size vb rb)∧Below W.heap.size W w')
  (hr : ∀ W va vb,G W→RV W va ra→RV W vb rb→Calls Tryz.prog 73 #[qVal i 256 1 0 0 xo qs nm 1 1 op sz 0,.agg #[.int .i64 rc,.bool true,va,vb,.slice none 0 0]] W fun e w'=>e=.returned (.string (B R))∧Below W.heap.size W w') :
  Calls Tryz.prog 27 #[.pointer (some ⟨zb,0,none⟩),.string (B m)] w fun e w'=>e=.returned (.string (B R))∧Below w.heap.size w w':=by
 have HRH:=aH hh
 have HRQ:=aH hq
 have HQA:=aH ha
 have HRP:=aH hr
 have HG:=aH hg
 have hs:(B m).size=m.length:=size_B m
 have b1:bits .and .i64 256 32768=0:=by kernel_rfl
 have b2:bits .and .i64 256 30720=0:=by kernel_rfl
 clear hh hq ha hr hg
 unfold qVal at HRQ HQA HRP
 go_enter Tryz.func27,Tryz.ntmps27
 go_wp2_with fail
 refine (aU HRH).mono ?_
 rintro e w1 ⟨rfl,hb1⟩
 have hB1:=aH hb1
 have hs1:=hb1.size
 clear hb1
 go_wp2_with fail
 refine (aU HRQ _).mono ?_
 rintro e w2 ⟨rfl,hb2⟩
 have hB2:Below w.heap.size w w2:=((aU hB1).alloc hs1 _).trans (hb2.mono (by simp; omega))
 have HB2:=aH hB2
 have hs2:=hB2.size
 clear hb2 hB2 hB1 HRQ HRH
 go_wp2_with fail
 have hQ:QAt (w2.alloc (.cells #[.int .i64 i,.int .i64 256,.int .i64 1,.int .i64 0,.int .i64 0,.int .i64 xo,.string (B qs),.string (B nm),.int .i64 1,.int .i64 1,.bool op,.int .i64 sz,.int .i64 0] 137)) w2.heap.size i 256 1 0 0 xo qs nm 1 1 op sz 0:=World.alloc_heap_new w2 _
 have hBX:Below w.heap.size w (w2.alloc (.cells #[.int .i64 i,.int .i64 256,.int .i64 1,.int .i64 0,.int .i64 0,.int .i64 xo,.string (B qs),.string (B nm),.int .i64 1,.int .i64 1,.bool op,.int .i64 sz,.int .i64 0] 137)):=(aU HB2).alloc hs2 _
 clear HB2
 generalize (w2.alloc (.cells #[.int .i64 i,.int .i64 256,.int .i64 1,.int .i64 0,.int .i64 0,.int .i64 xo,.string (B qs),.string (B nm),.int .i64 1,.int .i64 1,.bool op,.int .i64 sz,.int .i64 0] 137))=X at *
 have kS : ∀ W W':World,Below W.heap.size W W'→(W.cell? ⟨w2.heap.size,0,none⟩=some (.int .i64 i)∧W.cell? ⟨w2.heap.size,1,none⟩=some (.int .i64 256)∧W.cell? ⟨w2.heap.size,2,none⟩=some (.int .i64 1)∧W.cell? ⟨w2.heap.size,3,none⟩=some (.int .i64 0)∧W.cell? ⟨w2.heap.size,4,none⟩=some (.int .i64 0)∧W.cell? ⟨w2.heap.size,5,none⟩=some (.int .i64 xo)∧W.cell? ⟨w2.heap.size,6,none⟩=some (.string (B qs))∧W.cell? ⟨w2.heap.size,7,none⟩=some (.string (B nm))∧W.cell? ⟨w2.heap.size,8,none⟩=some (.int .i64 1)∧W.cell? ⟨w2.heap.size,9,none⟩=some (.int .i64 1)∧W.cell? ⟨w2.heap.size,10,none⟩=some (.bool op)∧W.cell? ⟨w2.heap.size,11,none⟩=some (.int .i64 sz)∧W.cell? ⟨w2.heap.size,12,none⟩=some (.int .i64 0))→(W'.cell? ⟨w2.heap.size,0,none⟩=some (.int .i64 i)∧W'.cell? ⟨w2.heap.size,1,none⟩=some (.int .i64 256)∧W'.cell? ⟨w2.heap.size,2,none⟩=some (.int .i64 1)∧W'.cell? ⟨w2.heap.size,3,none⟩=some (.int .i64 0)∧W'.cell? ⟨w2.heap.size,4,none⟩=some (.int .i64 0)∧W'.cell? ⟨w2.heap.size,5,none⟩=some (.int .i64 xo)∧W'.cell? ⟨w2.heap.size,6,none⟩=some (.string (B qs))∧W'.cell? ⟨w2.heap.size,7,none⟩=some (.string (B nm))∧W'.cell? ⟨w2.heap.size,8,none⟩=some (.int .i64 1)∧W'.cell? ⟨w2.heap.size,9,none⟩=some (.int .i64 1)∧W'.cell? ⟨w2.heap.size,10,none⟩=some (.bool op)∧W'.cell? ⟨w2.heap.size,11,none⟩=some (.int .i64 sz)∧W'.cell? ⟨w2.heap.size,12,none⟩=some (.int .i64 0)):=fun W W' hb h=>by
  have kp : ∀ (a:Addr) (v:Value),W.cell? a=some v→W'.cell? a=some v:=fun a v h=>(hb.cell (World.block_lt_of_cell? W a h)).trans h
  obtain ⟨e0,e1,e2,e3,e4,e5,e6,e7,e8,e9,e10,e11,e12⟩:=h
  exact ⟨kp _ _ e0,kp _ _ e1,kp _ _ e2,kp _ _ e3,kp _ _ e4,kp _ _ e5,kp _ _ e6,kp _ _ e7,kp _ _ e8,kp _ _ e9,kp _ _ e10,kp _ _ e11,kp _ _ e12⟩
 have HQ2:Hid (∀ W,Below w.heap.size w W→(W.cell? ⟨w2.heap.size,0,none⟩=some (.int .i64 i)∧W.cell? ⟨w2.heap.size,1,none⟩=some (.int .i64 256)∧W.cell? ⟨w2.heap.size,2,none⟩=some (.int .i64 1)∧W.cell? ⟨w2.heap.size,3,none⟩=some (.int .i64 0)∧W.cell? ⟨w2.heap.size,4,none⟩=some (.int .i64 0)∧W.cell? ⟨w2.heap.size,5,none⟩=some (.int .i64 xo)∧W.cell? ⟨w2.heap.size,6,none⟩=some (.string (B qs))∧W.cell? ⟨w2.heap.size,7,none⟩=some (.string (B nm))∧W.cell? ⟨w2.heap.size,8,none⟩=some (.int .i64 1)∧W.cell? ⟨w2.heap.size,9,none⟩=some (.int .i64 1)∧W.cell? ⟨w2.heap.size,10,none⟩=some (.bool op)∧W.cell? ⟨w2.heap.size,11,none⟩=some (.int .i64 sz)∧W.cell? ⟨w2.heap.size,12,none⟩=some (.int .i64 0))→Calls Tryz.prog 74 #[(.agg #[.int .i64 i,.int .i64 256,.int .i64 1,.int .i64 0,.int .i64 0,.int .i64 xo,.string (B qs),.string (B nm),.int .i64 1,.int .i64 1,.bool op,.int .i64 sz,.int .i64 0]),.pointer (some ⟨zb,0,none⟩)] W fun e w' =>
   ∃ aa ca ab cb,e=.returned (.agg #[.int .i64 rc,.bool true,.slice aa ra.length ca,.slice ab rb.length cb,.slice none 0 0])∧(w'.cell? ⟨w2.heap.size,0,none⟩=some (.int .i64 i)∧w'.cell? ⟨w2.heap.size,1,none⟩=some (.int .i64 256)∧w'.cell? ⟨w2.heap.size,2,none⟩=some (.int .i64 1)∧w'.cell? ⟨w2.heap.size,3,none⟩=some (.int .i64 0)∧w'.cell? ⟨w2.heap.size,4,none⟩=some (.int .i64 0)∧w'.cell? ⟨w2.heap.size,5,none⟩=some (.int .i64 xo)∧w'.cell? ⟨w2.heap.size,6,none⟩=some (.string (B qs))∧w'.cell? ⟨w2.heap.size,7,none⟩=some (.string (B nm))∧w'.cell? ⟨w2.heap.size,8,none⟩=some (.int .i64 1)∧w'.cell? ⟨w2.heap.size,9,none⟩=some (.int .i64 1)∧w'.cell? ⟨w2.heap.size,10,none⟩=some (.bool op)∧w'.cell? ⟨w2.heap.size,11,none⟩=some (.int .i64 sz)∧w'.cell? ⟨w2.heap.size,12,none⟩=some (.int .i64 0))∧Hid (Below w.heap.size w w'∧G w'∧RV w' (.slice aa ra.length ca) ra∧RV w' (.slice ab rb.length cb) rb)):=by
  intro W hb hS
  refine (aU HQA W hb).mono ?_
  rintro e w' ⟨⟨va,vb,rfl,ha,hv⟩,hb'⟩
  have hB':=hb.trans (hb'.mono hb.size)
  have ra':=ha.rv
  have rb':=hv.rv
  obtain ⟨aa,ca,rfl⟩:=ha.slice
  obtain ⟨ab,cb,rfl⟩:=hv.slice
  exact ⟨aa,ca,ab,cb,rfl,kS W w' hb' hS,hB',(aU HG).below hB',ra',rb'⟩
 have HR2:Hid (∀ W aa ca ab cb,Hid (Below w.heap.size w W∧G W∧RV W (.slice aa ra.length ca) ra∧RV W (.slice ab rb.length cb) rb)→(W.cell? ⟨w2.heap.size,0,none⟩=some (.int .i64 i)∧W.cell? ⟨w2.heap.size,1,none⟩=some (.int .i64 256)∧W.cell? ⟨w2.heap.size,2,none⟩=some (.int .i64 1)∧W.cell? ⟨w2.heap.size,3,none⟩=some (.int .i64 0)∧W.cell? ⟨w2.heap.size,4,none⟩=some (.int .i64 0)∧W.cell? ⟨w2.heap.size,5,none⟩=some (.int .i64 xo)∧W.cell? ⟨w2.heap.size,6,none⟩=some (.string (B qs))∧W.cell? ⟨w2.heap.size,7,none⟩=some (.string (B nm))∧W.cell? ⟨w2.heap.size,8,none⟩=some (.int .i64 1)∧W.cell? ⟨w2.heap.size,9,none⟩=some (.int .i64 1)∧W.cell? ⟨w2.heap.size,10,none⟩=some (.bool op)∧W.cell? ⟨w2.heap.size,11,none⟩=some (.int .i64 sz)∧W.cell? ⟨w2.heap.size,12,none⟩=some (.int .i64 0))→Calls Tryz.prog 73 #[(.agg #[.int .i64 i,.int .i64 256,.int .i64 1,.int .i64 0,.int .i64 0,.int .i64 xo,.string (B qs),.string (B nm),.int .i64 1,.int .i64 1,.bool op,.int .i64 sz,.int .i64 0]),.agg #[.int .i64 rc,.bool true,.slice aa ra.length ca,.slice ab rb.length cb,.slice none 0 0]] W fun e w' =>
   e=.returned (.string (B (R)))∧(w'.cell? ⟨w2.heap.size,0,none⟩=some (.int .i64 i)∧w'.cell? ⟨w2.heap.size,1,none⟩=some (.int .i64 256)∧w'.cell? ⟨w2.heap.size,2,none⟩=some (.int .i64 1)∧w'.cell? ⟨w2.heap.size,3,none⟩=some (.int .i64 0)∧w'.cell? ⟨w2.heap.size,4,none⟩=some (.int .i64 0)∧w'.cell? ⟨w2.heap.size,5,none⟩=some (.int .i64 xo)∧w'.cell? ⟨w2.heap.size,6,none⟩=some (.string (B qs))∧w'.cell? ⟨w2.heap.size,7,none⟩=some (.string (B nm))∧w'.cell? ⟨w2.heap.size,8,none⟩=some (.int .i64 1)∧w'.cell? ⟨w2.heap.size,9,none⟩=some (.int .i64 1)∧w'.cell? ⟨w2.heap.size,10,none⟩=some (.bool op)∧w'.cell? ⟨w2.heap.size,11,none⟩=some (.int .i64 sz)∧w'.cell? ⟨w2.heap.size,12,none⟩=some (.int .i64 0))∧Hid (Below w.heap.size w w')):=by
  intro W aa ca ab cb hB hS
  obtain ⟨hb,hgW,ra',rb'⟩:=aU hB
  refine (aU HRP W _ _ hgW ra' rb').mono ?_
  rintro e w' ⟨rfl,hb'⟩
  exact ⟨rfl,kS W w' hb' hS,hb.trans (hb'.mono hb.size)⟩
 have hS:X.drew.cell? ⟨w2.heap.size,0,none⟩=some (.int .i64 i)∧X.drew.cell? ⟨w2.heap.size,1,none⟩=some (.int .i64 256)∧X.drew.cell? ⟨w2.heap.size,2,none⟩=some (.int .i64 1)∧X.drew.cell? ⟨w2.heap.size,3,none⟩=some (.int .i64 0)∧X.drew.cell? ⟨w2.heap.size,4,none⟩=some (.int .i64 0)∧X.drew.cell? ⟨w2.heap.size,5,none⟩=some (.int .i64 xo)∧X.drew.cell? ⟨w2.heap.size,6,none⟩=some (.string (B qs))∧X.drew.cell? ⟨w2.heap.size,7,none⟩=some (.string (B nm))∧X.drew.cell? ⟨w2.heap.size,8,none⟩=some (.int .i64 1)∧X.drew.cell? ⟨w2.heap.size,9,none⟩=some (.int .i64 1)∧X.drew.cell? ⟨w2.heap.size,10,none⟩=some (.bool op)∧X.drew.cell? ⟨w2.heap.size,11,none⟩=some (.int .i64 sz)∧X.drew.cell? ⟨w2.heap.size,12,none⟩=some (.int .i64 0):=hQ.cells
 have hBD:Below w.heap.size w X.drew:=hBX.drew
 have HBD:=aH hBD
 clear hQ hBX hBD HQA HRP kS
 go_region_held (fun w'=>w'.cell? ⟨w2.heap.size,0,none⟩=some (.int .i64 i)∧w'.cell? ⟨w2.heap.size,1,none⟩=some (.int .i64 256)∧w'.cell? ⟨w2.heap.size,2,none⟩=some (.int .i64 1)∧w'.cell? ⟨w2.heap.size,3,none⟩=some (.int .i64 0)∧w'.cell? ⟨w2.heap.size,4,none⟩=some (.int .i64 0)∧w'.cell? ⟨w2.heap.size,5,none⟩=some (.int .i64 xo)∧w'.cell? ⟨w2.heap.size,6,none⟩=some (.string (B qs))∧w'.cell? ⟨w2.heap.size,7,none⟩=some (.string (B nm))∧w'.cell? ⟨w2.heap.size,8,none⟩=some (.int .i64 1)∧w'.cell? ⟨w2.heap.size,9,none⟩=some (.int .i64 1)∧w'.cell? ⟨w2.heap.size,10,none⟩=some (.bool op)∧w'.cell? ⟨w2.heap.size,11,none⟩=some (.int .i64 sz)∧w'.cell? ⟨w2.heap.size,12,none⟩=some (.int .i64 0)) (first | assumption | go_keep)
  (first
   | (go_at_call 74; go_loud (refine (aU HQ2 _ (aU HBD) ?_).mono ?_; assumption; rintro e w5 ⟨aa,ca,ab,cb,rfl,hS5,HB5⟩))
   | (go_at_call 73; go_loud (refine (aU HR2 _ _ _ _ _ HB5 ?_).mono ?_; assumption; rintro e w6 ⟨rfl,hS6,HB6⟩)))
 rename_i hH
 clear hH hS hS5 hS6 HB5
 go_wp2_with fail
 go_ret
 exact ⟨rfl,aU HB6⟩
end Mn
namespace Mj
open Ka Wa Wb Wc Wd We Wf Re
section
variable {w:World} {b:Nat} {h0 h1 h2 h3 h4 h5:Int} {q n:Str} {k c:Int} {opt:Bool} {sz ver:Int}
end
end Mj
namespace Mk
open Ka Wa Wb Wc Wd We Wf Wg Mj Re
end Mk
end Go.Proofs.YtkkpahmoljiepaaGreatDoor
