/- Contract: wire's under: a whole message with its header. -/
import Derived.Test.YtkkpahmoljiepaaGreatDoorJ26
import Derived.Lib.BufferWrite
import Derived.Deep.RegionHeldLaw
import Derived.Test.YtkkpahmoljiepaaGreatDoorJ05
import Derived.OrdersHeld
import Derived.Deep.RegionHeld
set_option linter.unusedSimpArgs false
set_option linter.unusedVariables false
set_option maxRecDepth 1000000
set_option maxHeartbeats 12800000
namespace Go.Proofs.YtkkpahmoljiepaaGreatDoor
open Go.RowKit
open Pu (Str aH aU)
namespace Wv
open Ka Rg Ia Wa Wb Wc Wd We Wf Wg Wh Wi Wj Wk Wl Wm Wn Wo Wp Wq Ws Wt Re
def hdrFs (i b c0 c1 c2 c3:Nat):List Fd:=[fShort i,fShort b,fShort c0,fShort c1,fShort c2,fShort c3]
theorem hdr_len (i b c0 c1 c2 c3:Nat):(outs (hdrFs i b c0 c1 c2 c3)).length=12:=rfl
theorem underF:Tryz.prog.underlying 285=some (.slice 297):=by kernel_rfl
theorem sizeB:(Tryz.prog.info? 5).map (·.size)=some 1:=by kernel_rfl
theorem step_copy_run {P:Program} {ops:Array Oper} {o:Oper} {a:Act} {w:World} {K:Act→World→Prop} {Q:Exit→Act→World→Prop} {E:Prop}
  (hg:o.guard=none) (d x:Operand) (dT sT:TypeId) (hop:o.op=Op.call { callee:=Callee.builtin Builtin.copy,args:=#[d,x],argTypes:=#[dT,sT] })
  (vd vx v:Value) (w':World) (hd:a.eval d=vd) (hx:a.eval x=vx) (hrun:(Builtin.copy_ #[dT,sT] o.type #[vd,vx]).run P w=.ok v w')
  (hK:K (a.put o.dst v) w'):if Region.wanted o (yielded ops a.tmps)=true then Oper.wp P o a w K Q else E:=by
 have hw:Region.wanted o (yielded ops a.tmps)=true:=by simp [Region.wanted,hg]
 rw [if_pos hw]
 unfold Oper.wp
 simp [execOp,hop,resolve,invoke,builtin,hd,hx,hrun,Result.andThen]
 exact hK
theorem own_over {w:World} {base g cap:Nat} {l h:Str} (ho:OwnB w base (.slice (some ⟨g,0,none⟩) l.length cap) l) (hl:h.length≤l.length) :
  ∃ cur,w.heap[g]? = some (.cells cur 5 (0,0))∧h.length≤cur.size∧∀ w':World,w'.heap[g]? = some (.cells cur 5 (0,0))→OwnB (w'.setRow g (cur.toList.take 0++Lib.byteCells (B h).data.toList++cur.toList.drop (0+(B h).size)).toArray) base (.slice (some ⟨g,0,none⟩) l.length cap) (h++l.drop h.length):=by
 obtain ⟨h1,⟨e,hz⟩ | ⟨g',cap',cur,e,hb,hcur,hc,hm,hs,ht⟩⟩:=ho
 ·cases e
 ·cases e
  refine ⟨cur,hcur,by omega,fun w' hw'=>?_⟩
  have hlen:(h++l.drop h.length).length=l.length:=by simp; omega
  have hbs:(B h).size=h.length:=size_B h
  refine ⟨by simp,.inr ⟨g,cap,_,by rw [hlen],hb,setRow_heap w' g cur _ 5 (0,0) hw',by omega,hm,?_,?_⟩⟩
  ·have:((B h).data.toList).length=h.length:=by simp [B]
   simp [Lib.byteCells,hbs,B] at *
   omega
  ·rw [hlen,Nat.mul_one]
   rw [Nat.mul_one] at ht
   have e1:(B h).data.toList=h:=by simp [B]
   have e2:cur.toList.drop h.length=(cur.toList.take l.length).drop h.length++cur.toList.drop l.length:=by
    conv=>lhs; rw [← List.take_append_drop l.length cur.toList]
    rw [List.drop_append_of_le_length (by simp; omega)]
   simp only [List.take_zero,List.nil_append,e1,hbs,Nat.zero_add]
   rw [e2,ht,← List.append_assoc,List.take_left' (by simp [Lib.byteCells]; omega)]
   simp [Lib.byteCells]
theorem under_any (mb base i b c0 c1 c2 c3:Nat) (vb vp:Value) (l:Str) (w:World) (hm:MsgAt w mb vb vp) (ho:OwnB w base vb l) (hbs:base≤w.heap.size) (hl:12≤l.length) (hl2:l.length≤60000)
  (h0:i<65536) (h1:b<65536) (h2:c0<65536) (h3:c1<65536) (h4:c2<65536) (h5:c3<65536) :
  Calls Tryz.prog 131 #[.pointer (some ⟨mb,0,none⟩),.agg #[.int .i64 i,.int .i64 b,.int .i64 c0,.int .i64 c1,.int .i64 c2,.int .i64 c3]] w fun e w' =>
   e=.returned (.string (B (outs (hdrFs i b c0 c1 c2 c3)++l.drop 12)))∧TF mb base w w':=by
 obtain ⟨i0,hi,hz0,hz1,hz2⟩:=info_parts infoF
 obtain ⟨g,cap,cur,rfl,hbg,hcur,hcap,_⟩:=own_at ho (by intro h; subst h; simp at hl)
 have hmc:=hm.cells.1
 have hmlt:=hm.lt
 have hglt:=(Array.getElem?_eq_some_iff.1 hcur).1
 have hgm:mb≠g:=fun e=>by
  rw [MsgAt,e,hcur] at hm
  simp at hm
 have HM:=aH hm
 have HO:=aH ho
 clear hm ho hcur
 have a0:IntKind.u16.wrap (i:Int)=(i:Int):=by rw [IntKind.wrap_u16]; omega
 have a1:IntKind.u16.wrap (b:Int)=(b:Int):=by rw [IntKind.wrap_u16]; omega
 have a2:IntKind.u16.wrap (c0:Int)=(c0:Int):=by rw [IntKind.wrap_u16]; omega
 have a3:IntKind.u16.wrap (c1:Int)=(c1:Int):=by rw [IntKind.wrap_u16]; omega
 have a4:IntKind.u16.wrap (c2:Int)=(c2:Int):=by rw [IntKind.wrap_u16]; omega
 have a5:IntKind.u16.wrap (c3:Int)=(c3:Int):=by rw [IntKind.wrap_u16]; omega
 have HS:Hid (i<65536∧b<65536∧c0<65536∧c1<65536∧c2<65536∧c3<65536):=⟨h0,h1,h2,h3,h4,h5⟩
 have HX:Hid (∀ k:Nat,k<4→∃ ck:Nat,(hdrFs i b c0 c1 c2 c3).take (2+(k+1))=(hdrFs i b c0 c1 c2 c3).take (2+k)++[fShort ck]∧IntKind.u16.wrap (ck:Int)=(ck:Int)∧∀ W:World,(Instr.index 131 (.agg #[.int .i64 c0,.int .i64 c1,.int .i64 c2,.int .i64 c3]) (.int .i64 k)).run Tryz.prog W=.ok (.int .i64 ck) W):=by
  intro k hk
  match k,hk with
  | 0,_=>exact ⟨c0,rfl,a2,fun _=>by kernel_rfl⟩
  | 1,_=>exact ⟨c1,rfl,a3,fun _=>by kernel_rfl⟩
  | 2,_=>exact ⟨c2,rfl,a4,fun _=>by kernel_rfl⟩
  | 3,_=>exact ⟨c3,rfl,a5,fun _=>by kernel_rfl⟩
  | k+4,h=>omega
 clear h0 h1 h2 h3 h4 h5 a2 a3 a4 a5
 go_enter Tryz.func131,Tryz.ntmps131
 go_wp2_with fail
 have HOF0:Hid (OwnF ((w.alloc (.cells #[.int .i64 i,.int .i64 b,.int .i64 c0,.int .i64 c1,.int .i64 c2,.int .i64 c3] 133)).alloc (.cells #[.iface 284 (.int .u16 i),.iface 284 (.int .u16 b)] 297)) (w.heap.size+1) (.slice (some ⟨w.heap.size+1,0,none⟩) 2 2) ((hdrFs i b c0 c1 c2 c3).take (2+0))):=by
  have hnew:=World.alloc_heap_new (w.alloc (.cells #[.int .i64 i,.int .i64 b,.int .i64 c0,.int .i64 c1,.int .i64 c2,.int .i64 c3] 133)) (.cells #[.iface 284 (.int .u16 i),.iface 284 (.int .u16 b)] 297)
  rw [World.size_alloc] at hnew
  exact ⟨rfl,.inr ⟨w.heap.size+1,2,_,rfl,Nat.le_refl _,hnew,Nat.le_refl _,by simp [maxLen],rfl,rfl⟩⟩
 have HB0:Hid (Below w.heap.size w ((w.alloc (.cells #[.int .i64 i,.int .i64 b,.int .i64 c0,.int .i64 c1,.int .i64 c2,.int .i64 c3] 133)).alloc (.cells #[.iface 284 (.int .u16 i),.iface 284 (.int .u16 b)] 297))):=((Below.refl _ _).alloc (Nat.le_refl _) _).alloc (by simp) _
 go_loopw [19,5] (fun ix v wr=>∃ (k:Nat) (a:Option Addr) (n c:Nat),ix=.int .i64 k∧v=.slice a n c∧k≤4∧OwnF wr (w.heap.size+1) (.slice a n c) ((hdrFs i b c0 c1 c2 c3).take (2+k))∧Below w.heap.size w wr∧w.heap.size+1<wr.heap.size) (fun ix _ _=>4 - (intOf ix).toNat)
 case atStart=>exact ⟨0,_,_,_,rfl,rfl,by omega,aU HOF0,aU HB0,by simp⟩
 case round =>
  obtain ⟨k,a,n,c,rfl,rfl,hk,hof,hbr,hws⟩:=hrel
  have HOF:=aH hof
  have HBR:=aH hbr
  have hsr:=hbr.size
  clear hof HOF0 HB0
  by_cases hlt:k<4
  ·obtain ⟨ck,ht,hw,hidx⟩:=aU HX k hlt
   have HT:=aH ht
   have hkI:(k:Int)<4:=by omega
   have hfl:((hdrFs i b c0 c1 c2 c3).take (2+k)).length=2+k:=by simp [hdrFs]; omega
   clear ht hbr
   go_wp2_with (at_builtin; go_loud (refine wpList_append_own _ rfl (.tmp 22) (.tmp 26) 285 rfl (w.heap.size+1) 297 i0 .nilIface 1 16 underF hi hz0 hz1 hz2 rfl (by decide) _ ((hdrFs i b c0 c1 c2 c3).take (2+k)).length _ rfl ((aU HOF).alloc _) ⟨wr.heap.size,0,none⟩ 1 1 [.iface 284 (.int .u16 ck)] rfl rfl ?c1 ?c2 ?c3 ?c4 ?c5 ?_))
   case c1 =>
    intro j u' hj
    match j,hj with
    | 0,hj=>simp at hj; subst hj; simp [Addr.add]
    | n+1,hj=>simp at hj
   case c2=>intro u' hu'; simp at hu'; subst hu'; rfl
   case c3=>unfold maxLen; omega
   case c4=>omega
   case c5=>simp; omega
   intro v' w3 hown' hgrow _
   obtain ⟨va,vn,vc,rfl⟩:=own_slice hown'
   have HO3:Hid (OwnF w3 (w.heap.size+1) (.slice va vn vc) ((hdrFs i b c0 c1 c2 c3).take (2+(k+1)))):=by
    unfold Hid OwnF
    rw [aU HT,List.length_append,List.map_append,hfl,List.map_take]
    exact hown'
   have HB3:Hid (Below w.heap.size w w3∧w.heap.size+1<w3.heap.size):=⟨((aU HBR).alloc (by omega) _).grown hgrow (by simp; omega) (fun k' hk'=>by have:=((aU HOF).lt k' hk').1; omega),by have:=hgrow.size; simp at this; omega⟩
   clear hown' hgrow hidx
   go_wp2_with fail
   exact ⟨⟨k+1,_,_,_,by go_num,rfl,by omega,aU HO3,(aU HB3).1,(aU HB3).2⟩,by simp [intOf]; omega⟩
  ·have hkl:k=4:=by omega
   subst hkl
   have hfin:(hdrFs i b c0 c1 c2 c3).take (2+4)=hdrFs i b c0 c1 c2 c3:=rfl
   rw [hfin] at HOF
   obtain ⟨fg,fcap,hv,hfc,hfd⟩:=fdsAt_of_own (mb:=mb) (aU HOF) (by simp [hdrFs]) (by omega)
   cases hv
   have hd:Below wr.heap.size wr wr.drew:=(Below.refl _ _).drew
   have HW:=aH (written_any fg c (hdrFs i b c0 c1 c2 c3) wr.drew (fun f hf=>by
    obtain ⟨s0,s1,s2,s3,s4,s5⟩:=aU HS
    simp only [hdrFs,List.mem_cons,List.mem_nil_iff,or_false] at hf
    rcases hf with rfl | rfl | rfl | rfl | rfl | rfl <;> exact short_ok _ (by assumption)) hfd.1 (fun j hj=>hfd.2.2.2 j hj) hfc (by simp [hdrFs]) (by rw [hdr_len]; omega))
   have hmk:=hbr.block mb hmlt
   have hmc2:wr.drew.cell? ⟨mb,0,none⟩=some (.slice (some ⟨g,0,none⟩) l.length cap):=(World.cell?_of_block hmk).trans hmc
   clear hfd HX hfin
   have hmc3:wr.cell? ⟨mb,0,none⟩=some (.slice (some ⟨g,0,none⟩) l.length cap):=hmc2
   obtain ⟨cur2,hcur2,hsz2,hown2⟩:=own_over (aU HO) (h:=outs (hdrFs i b c0 c1 c2 c3)) (by rw [hdr_len]; exact hl)
   obtain ⟨hd0,hhd⟩ : ∃ x,x=outs (hdrFs i b c0 c1 c2 c3):=⟨_,rfl⟩
   have hlen0:hd0.length=12:=by rw [hhd]; exact hdr_len i b c0 c1 c2 c3
   rw [← hhd] at HW hown2 hsz2
   have HCP:Hid (∀ w2,Below wr.drew.heap.size wr.drew w2→(Builtin.copy_ #[58,9] 3 #[.slice (some ⟨g,0,none⟩) l.length cap,.string (B hd0)]).run Tryz.prog w2=.ok (goInt (B hd0).size) (w2.setRow g (cur2.toList.take 0++Lib.byteCells (B hd0).data.toList++cur2.toList.drop (0+(B hd0).size)).toArray)):=fun w2 hb2=>by
    have e:=((hb2.block g (show g<wr.heap.size by omega)).trans (hbr.block g hglt)).trans hcur2
    exact Lib.run_copy_row_string w2 _ _ _ _ g 0 l.length cap (B hd0) cur2 5 underB sizeB e (by rw [size_B]; omega) (by rw [size_B]; omega)
   have HOV:Hid (∀ w2,Below wr.drew.heap.size wr.drew w2→OwnB (w2.setRow g (cur2.toList.take 0++Lib.byteCells (B hd0).data.toList++cur2.toList.drop (0+(B hd0).size)).toArray) base (.slice (some ⟨g,0,none⟩) l.length cap) (hd0++l.drop hd0.length)):=fun w2 hb2 =>
    hown2 w2 (((hb2.block g (show g<wr.heap.size by omega)).trans (hbr.block g hglt)).trans hcur2)
   clear hown2 hcur2 hsz2
   generalize (cur2.toList.take 0++Lib.byteCells (B hd0).data.toList++cur2.toList.drop (0+(B hd0).size)).toArray=row at *
   have HHD:=aH hhd
   clear hhd hmk
   go_wp2_with fail
   go_region_held_law (fun w'=>w'.cell? ⟨mb,0,none⟩=some (.slice (some ⟨g,0,none⟩) l.length cap)) (first | assumption | exact (cell_setRow_other _ _ _ _ hgm).trans (by assumption))
    (first
     | (refine step_copy_run rfl (.tmp 32) (.tmp 34) 58 9 rfl _ _ _ _ rfl rfl (aU HCP _ hb2) ?_)
     | (go_at_call 199; go_loud (refine (aU HW).mono ?_; rintro e w2 ⟨rfl,hb2⟩; have hS2:=(hb2.cell (p:=⟨mb,0,none⟩) (show mb<wr.heap.size by omega)).trans hmc2)))
   rename_i hH
   have hown3:=aU HOV w2 hb2
   have hcv:=own_string hown3
   have hbw2:Below w.heap.size w w2:=hbr.trans (((Below.refl _ _).drew.trans hb2).mono hsr)
   obtain ⟨cur4,hcur4⟩:=own_kindB (aU HO) rfl
   have HT3:Hid (TF mb base w (w2.setRow g row)):=⟨hbw2.os,hbw2.tape,hbw2.output,by rw [setRow_size]; exact hbw2.size,fun k hk hm hp=>by
    by_cases e:k=g
    ·subst e
     rcases hp with hp | hp
     ·omega
     ·exact absurd hcur4 (hp cur4)
    ·exact (setRow_other _ _ _ _ e).trans (hbw2.block k hk)⟩
   have HE:Hid (hd0++List.drop (List.length hd0) l=outs (hdrFs i b c0 c1 c2 c3)++l.drop 12):=by rw [Hid,hlen0,aU HHD]
   rw [aU HE] at hcv
   clear hown3 hbw2 hcur4 hb2 hS2 HCP HOV HW hbr hmc hmc2 hmc3 HE hlen0
   generalize w2.setRow g row=w3 at *
   go_wp2_with fail
   go_ret
   exact ⟨rfl,aU HT3⟩
end Wv
end Go.Proofs.YtkkpahmoljiepaaGreatDoor

namespace Go.Proofs.YtkkpahmoljiepaaGreatDoor
open Go.RowKit
namespace Ih
variable {P:Program} {ops:Array Oper} {Q:Exit→Act→World→Prop} {S:World→Prop} {l:Nat}
def Only (Q:Exit→Act→World→Prop) (e:Exit) (a:Act) (w:World):Prop:=e=.normal∧Q .normal a w
theorem Only.no {e:Exit} {a:Act} {w:World} (h:Only Q e a w) (he:e≠.normal):False:=he h.1
theorem Only.out (h:LetsOut (Only Q)):False:=by
 obtain ⟨a,w,h⟩:=h
 cases h.1
theorem opIn_of_held {i:Nat} {K K':Act→World→Prop} (hK : ∀ a w,K a w→K' a w) {a:Act} {w:World} (h:wpOp P ops (Only Q) i K a w):wpOpIn Fence.wide 0 P ops Q i K' a w:=by
 unfold wpOp at h
 unfold wpOpIn
 split
 ·rename_i ho; simp only [ho] at h; exact hK _ _ h
 ·rename_i o ho
  simp only [ho] at h
  split
  ·rename_i hw
   simp only [hw,if_true] at h
   rcases h with h | ⟨_,h⟩
   ·unfold Oper.wp at h
    unfold Oper.wpIn
    refine ⟨fun _ _=>trivial,?_⟩
    rw [show Fence.wide.round=none from rfl,Oper.semAt_none]
    generalize (execOp a.eval o).run P w=r at *
    cases r with
    | ok x w' =>
     cases x <;> simp only [Oper.upon] at h
     all_goals first
      | exact hK _ _ h
      | exact h.elim
      | (refine ⟨fun h'=>by simp [Fence.wide] at h',callsIn_wide.2 (h.mono fun e w'' he=>?_)⟩
         cases e with
         | returned v=>exact hK _ _ he
         | panicked c=>exact (Only.no he (by simp)).elim
         | outgrown=>exact (Only.out he).elim)
      | skip
     exact ⟨fun h'=>by simp [Fence.wide] at h',fun c cs _=>let ⟨v,w'',r,s⟩:=h c cs; ⟨v,w'',hK _ _ r,stepsIn_wide.2 s⟩⟩
    | halt x w' =>
     cases x <;> simp only [Oper.upon] at h
     all_goals first
      | exact (Only.no h (by simp)).elim
      | exact h.elim
   ·exact (Only.out h).elim
  ·rename_i hw
   simp only [hw] at h
   exact ⟨fun _ _=>trivial,hK _ _ h⟩
theorem anyIn_of_held {md:Region.Mode} : ∀ (fuel:Nat) (listed:Array Bool) (a:Act) (w:World),wpAnyH P md ops (Only Q) S fuel listed a w→wpAnyIn Fence.wide 0 P md ops Q fuel listed a w
 | 0,_,_,_,h=>⟨h.1,h.2.2⟩
 | fuel+1,_,_,_,h=>⟨fun h0=>(h.1 h0).2,fun i hi=>opIn_of_held (fun a' w' h'=>anyIn_of_held fuel _ a' w' h'.2) (h.2 i hi)⟩
theorem region_held {id:Nat} {a:Act} {w:World} (S:World→Prop) (hm:P.follows .mixedOrders=true) (hnd : ∀ (i:Nat) (o:Oper),ops[i]? = some o→∀ c,o.op≠.defer c) (hS:S w.drew)
  (h:S w.drew→wpAnyH P .any ops (Only Q) S ops.size (Array.replicate ops.size false) a w.drew):(Code.region id ops true).wpIn (Fence.wide.inRound l) 0 P Q a w :=
 Ir.region_round hm hnd (anyIn_of_held _ _ _ _ (h hS))
end Ih
end Go.Proofs.YtkkpahmoljiepaaGreatDoor
