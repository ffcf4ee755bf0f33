/- Contract: wire's compressed in general: labels up to the first end that was written already. -/
import Derived.Test.YtkkpahmoljiepaaGreatDoorJ18
import Derived.Test.YtkkpahmoljiepaaGreatDoorJ17
import Derived.Deep.RegionHeld
set_option linter.unusedSimpArgs false
set_option linter.unusedVariables false
set_option maxRecDepth 1000000
set_option maxHeartbeats 12800000
namespace Go.Proofs.YtkkpahmoljiepaaGreatDoor
open Go.RowKit
open Pu (Str aH aU)
attribute [local go_sem] Oper.semAt_some undef
def firstL (e:Str):Str:=(Lib.cut e [46]).1
theorem first_some (a b:Str) (h:(46:UInt8) ∉ a):firstL (a++46 :: b)=a:=by
 unfold firstL Lib.cut
 rw [Lib.index_one,Sp.indexByte_some 46 a b h,if_pos (by omega)]
 simp [Int.toNat_natCast]
theorem first_none (l:Str) (h:(46:UInt8) ∉ l):firstL l=l:=by
 unfold firstL Lib.cut
 rw [Lib.index_one,Sp.indexByte_none 46 l h,if_neg (by decide)]
theorem first_after (l:Str):(firstL l).length+(after l).length≤l.length:=by
 by_cases hc:(46:UInt8)∈l
 ·obtain ⟨a,b,rfl,ha⟩:=List.eq_append_cons_of_mem hc
  rw [after_some a b ha,first_some a b ha]; simp
 ·rw [after_none l hc,first_none l hc]; simp
theorem ends_few : ∀ (f:Nat) (n:Str),n.length≤f→(ends n).length≤n.length
 | 0,n,h=>by
  obtain rfl:n = []:=List.eq_nil_of_length_eq_zero (by omega)
  simp [ends_nil]
 | f+1,n,h=>by
  by_cases hn:n = []
  ·subst hn; simp [ends_nil]
  ·have h1:=after_len n hn
   rw [ends_cons n hn,List.length_cons]
   have:=ends_few f (after n) (by omega)
   omega
def labS (e:Str):Str:=UInt8.ofNat (firstL e).length :: firstL e
def PlOk (ps:Pl):Prop:=∀ p∈ps,p.2<16384
namespace Mb
open Ka Kd Rg Ia Iow Ie Zb Zc Za La Wa Wb Wc Wd We Wf Wg Wh Wi Wj Wk Wl Wm Wn Wo Wp Ws Ma Re
def compL:List Str→Str→Pl→Str×Pl
 | [],l,ps=>(l++[0],ps)
 | e :: es,l,ps=>match findP ps e with
  | some n=>(l++ptr n,ps)
  | none=>compL es (l++labS e) (learnP ps e l.length)
theorem compL_hit {e:Str} {es:List Str} {l:Str} {ps:Pl} {n:Nat} (h:findP ps e=some n):compL (e :: es) l ps=(l++ptr n,ps):=by rw [compL,h]
theorem compL_miss {e:Str} {es:List Str} {l:Str} {ps:Pl} (h:findP ps e=none):compL (e :: es) l ps=compL es (l++labS e) (learnP ps e l.length):=by rw [compL,h]
theorem learn_ok {ps:Pl} (h:PlOk ps) (x:Str) (n:Nat):PlOk (learnP ps x n):=by
 intro p hp
 unfold learnP at hp
 split at hp
 ·rename_i hn
  rw [List.mem_append] at hp
  rcases hp with hp | hp
  ·exact h p hp
  ·simp at hp; subst hp; exact hn
 ·exact h p hp
theorem find_lt {ps:Pl} (h:PlOk ps) {x:Str} {n:Nat} (hf:findP ps x=some n):n<16384:=by
 obtain ⟨j,hj,e1,_⟩:=findP_hit ps x n hf
 rw [← e1]; exact h _ (List.getElem_mem hj)
theorem learn_v (mb base:Nat) (x:Str) (n:Nat) (l:Str) (ps:Pl) (vb vp:Value) (w:World) (h1:MsgAt w mb vb vp) (h2:OwnB w base vb l) (h3:OwnP w base vp ps) (hbs:base≤w.heap.size) (hl:ps.length≤1000) (hn:n≤1000000) :
  Calls Tryz.prog 202 #[.pointer (some ⟨mb,0,none⟩),.string (B x),.int .i64 (n:Int)] w fun e w' =>
   e=.returned (.tuple #[])∧∃ vp',MsgAt w' mb vb vp'∧OwnB w' base vb l∧OwnP w' base vp' (learnP ps x n)∧TG mb base w w':=by
 unfold learnP
 split
 ·rename_i hlt
  refine (learn_w mb base x n vb vp ps w h1 h3 hbs hl hlt).mono ?_
  rintro e w' ⟨rfl,vp',k1,k2,_,k5,k4⟩
  refine ⟨rfl,vp',k1,own_kept h2 fun g hg=>?_,k2,k4.os,k4.tape,k4.output,k4.size,fun i hi hmi hp=>?_,k5⟩
  ·obtain ⟨cur,hcur⟩:=own_kindB h2 hg
   refine k4.block g (World.ownsRow.lt h2 g hg).2 ⟨fun e=>?_,fun e=>?_⟩
   ·rw [e,h1] at hcur; simp at hcur
   ·obtain ⟨cur',hcur'⟩:=own_kindP h3 e.symm
    rw [hcur] at hcur'; simp at hcur'
  ·refine k4.block i hi ⟨hmi,fun e=>?_⟩
   rcases hp with hp | hp
   ·have:=(World.ownsRow.lt h3 i e.symm).1; omega
   ·obtain ⟨cur',hcur'⟩:=own_kindP h3 e.symm
    exact hp.2 cur' hcur'
 ·rename_i hlt
  refine (learn_skip mb x n w hlt hn).mono ?_
  rintro e w' ⟨rfl,rfl⟩
  exact ⟨rfl,vp,h1,h2,h3,TG.refl _ _ _⟩
theorem comp_m (mb base:Nat) (x:Str) (l:Str) (ps:Pl) (w:World) (hm:Msg w mb base l ps) (hg:G w) (hbs:base≤w.heap.size) (hb0:0<base) (hm0:0<mb) (hxl:x.length≤3000) (hok:PlOk ps) (hpl:ps.length+x.length≤1000) (hl:l.length≤60000) :
  Calls Tryz.prog 338 #[.string (B x),.pointer (some ⟨mb,0,none⟩)] w fun e w' =>
   e=.returned (.tuple #[])∧Msg w' mb base (compL (ends x) l ps).1 (compL (ends x) l ps).2∧TG mb base w w':=by
 refine (callsIn_wide (n:=0)).1 ?_
 refine callsIn_of_wp_marks Tryz.func338 rfl trivial ?_
 simp only [Tryz.ntmps338,List.size_toArray,List.length_cons,List.length_nil,Nat.reduceAdd,Nat.reduceSub,Array.replicate_succ,Array.replicate_zero,List.push_toArray,List.append_toArray,List.nil_append,List.cons_append]
 have HM:=aH hm
 have HG:=aH hg
 have HOK:=aH hok
 have hlt:=hm.lt
 have hg0:=hg.1
 have hmx:Tryz.prog.follows .mixedOrders=true:=by kernel_rfl
 have hef:=ends_few _ x (Nat.le_refl _)
 clear hm hg hok
 obtain ⟨R,hR⟩ : ∃ R,R=compL (ends x) l ps:=⟨_,rfl⟩
 rw [← hR]
 have HR:=aH hR
 clear hR
 gi_wp2_with fail
 refine ⟨trivial,rfl,?_⟩
 refine (callsIn_wide.2 (ends_o _ _)).mono ?_
 rintro e W2 ⟨rfl,e4,hb2,e2⟩
 have e0:It.Box W2 w.heap.size (.pointer (some ⟨mb,0,none⟩)) 216:=(It.Box.new _ _ _).below hb2 (by simp)
 have e5:Below w.heap.size w W2:=((Below.refl _ _).alloc (Nat.le_refl _) _).trans (hb2.mono (by simp))
 simp only [World.size_alloc] at e4 e2
 have s2:w.heap.size+2≤W2.heap.size:=by omega
 have HM2:=aH ((aU HM).below e5)
 have HT2:Hid (TG mb base w W2):=TG.of_below e5
 have HG2:=aH ((aU HG).below e5)
 clear e4 e5 hb2
 gi_wp2_with fail
 have hgrow : ∀ r,Below W2.heap.size W2 ((W2.alloc (.deferred (some []))).alloc (.loop r)):=fun r=>((Below.refl _ _).alloc (Nat.le_refl _) _).alloc (by simp) _
 refine It.rangeE (xs:=ends x) (encs:=fun e:Str=>#[.string (B e)]) (St:=fun A B=>Below A.heap.size A B) (Kp:=fun A B=>A.heap.size≤B.heap.size∧B.heap[0]? = A.heap[0]?) (Kx:=fun _ _=>True)
  (gf:=241) (lb:=#[.pointer (some ⟨w.heap.size+1,0,none⟩)]) rfl (enters_of Tryz.func241 (by kernel_rfl) rfl) (fun _=>rfl) ?seq
  [0] (by simp; omega) (fun A B h=>h) (fun A B h h'=>⟨h',h _ (by simp)⟩) (fun _ _=>trivial)
  (fun i W=>(∃ y li psi,(ends x).drop i=ends y∧R=compL (ends y) li psi∧li.length+y.length≤l.length+x.length+i∧psi.length≤ps.length+i∧PlOk psi∧MsgN W mb base (W2.heap.size+1) li psi)∧TG mb base w W∧It.Box W w.heap.size (.pointer (some ⟨mb,0,none⟩)) 216∧G W)
  (fun c W=>c=.ret∧MsgN W mb base (W2.heap.size+1) R.1 R.2∧TG mb base w W)
  (fun i A B h hA hk=>by
   obtain ⟨⟨y,li,psi,q1,q2,q3,q4,q5,q6⟩,hT,hB,hG⟩:=h
   refine ⟨⟨y,li,psi,q1,q2,q3,q4,q5,q6.keeps hk (by omega)⟩,hT.keeps hk (by omega),It.Box.kept hB (hk.block _ (It.Box.lt hB) (by omega)),?_⟩
   obtain ⟨g0,m,hc⟩:=hG
   exact ⟨Nat.lt_of_lt_of_le g0 hk.size,m,(World.cell?_of_block (hk.block 0 g0 (by omega))).trans hc⟩)
  (fun c A B h hA hk=>⟨h.1,h.2.1.keeps hk (by omega),h.2.2.keeps hk (by omega)⟩)
  ⟨⟨x,l,ps,rfl,aU HR,by omega,by omega,aU HOK,(aU HM2).new (by omega)⟩,aU HT2,e0,aU HG2⟩
  ?round ?done ?stop
 case seq =>
  intro r
  have hg:=hgrow r
  exact ends_seq _ x _ ((hg.cell (p:=⟨w.heap.size+1,0,none⟩) (by show w.heap.size+1<W2.heap.size; omega)).trans e2) ((aU HG2).below hg) hxl
 case round =>
  intro l' i y' Vr W hy hI hsz hd1 hd2
  obtain ⟨⟨y,li,psi,q1,q2,q3,q4,q5,q6⟩,hT,hB,hGW⟩:=hI
  have hil:i<(ends x).length:=(List.getElem?_eq_some_iff.1 hy).1
  have hyx:y'.length≤x.length:=ends_mem_len (List.mem_of_getElem? hy)
  have hy0:y≠[]:=by
   intro h
   subst h
   rw [ends_nil] at q1
   have:=congrArg List.length q1
   simp at this; omega
  have hyy:y'=y∧(ends x).drop (i+1)=ends (after y):=by
   rw [ends_cons y hy0] at q1
   have h1:((ends x).drop i)[0]? = some y':=by simpa using hy
   rw [q1] at h1
   refine ⟨by simpa using h1.symm,?_⟩
   rw [← List.drop_drop,q1]; rfl
  obtain ⟨rfl,q7⟩:=hyy
  rw [ends_cons y' hy0] at q2
  have hfa:=first_after y'
  have hPO:=placeOf_any mb base y' li psi W q6.msg (by omega)
  have HT:=aH hT
  have HB:=aH hB
  have HGW:=aH hGW
  have HQ6:=aH q6
  have hmlt:=q6.msg.lt
  have cb:=It.Box.cell hB
  have HQ7:=aH q7
  have HQ5:=aH q5
  have HD1:=aH hd1
  have HD2:=aH hd2
  have hTs:=hT.size
  clear hT hB hGW q6 q1 q7 hd1 hd2 hy
  cases hf:findP psi y' with
  | some pn =>
   have hpn:=find_lt (aU HQ5) hf
   rw [hf] at hPO
   have HPO:Hid (Calls Tryz.prog 339 #[.pointer (some ⟨mb,0,none⟩),.string (B y')] W fun e w'=>e=.returned (.tuple #[.int .i64 (pn:Int),.bool true])∧Below W.heap.size W w'):=hPO
   rw [compL_hit hf] at q2
   have HQ2:=aH q2
   clear q2 hf hPO
   gi_wp2_with fail
   refine ⟨trivial,?_⟩
   gi_wp2_with fail
   refine ⟨trivial,rfl,?_⟩
   refine (CallsIn.inRound l' (callsIn_wide.2 (aU HPO))).mono ?_
   rintro e W3 ⟨rfl,hb3⟩
   have hm3:=(aU HQ6).msg.below hb3
   have hB3:=It.Box.below (aU HB) hb3 (It.Box.lt (aU HB))
   have hs3:=hb3.size
   have c3:=It.Box.cell hB3
   have hor':=or_place pn hpn
   have hwr:IntKind.u16.wrap ((49152+pn:Nat):Int)=((49152+pn:Nat):Int):=by rw [IntKind.wrap_u16]; omega
   have hnew:=World.alloc_heap_new W3 (.cells #[.iface 284 (.int .u16 ((49152+pn:Nat):Int))] 297)
   have HPUT:=aH (put_m mb base W3.heap.size 1 [fShort (49152+pn)] li psi (W3.alloc (.cells #[.iface 284 (.int .u16 ((49152+pn:Nat):Int))] 297)) (hm3.below ((Below.refl _ _).alloc (Nat.le_refl _) _)) (by simp; omega)
    (fun f hf=>by simp at hf; subst hf; exact short_ok _ (by omega)) (by simp) (by have:=hm3.lt; omega) (.inr fun cur h=>by rw [hnew] at h; simp at h)
    (fun j hj=>by
     match j,hj with
     | 0,_=>unfold World.cell?; rw [hnew]; rfl
     | j+1,hj=>simp at hj) (by simp) (by simp) (by simp [outs,fShort]; omega))
   obtain ⟨q,hq⟩ : ∃ q,q=49152+pn:=⟨_,rfl⟩
   rw [← hq] at HPUT hwr hor'
   have HQ:=aH hq
   have HB3:=aH hb3
   clear hq hnew hm3 hB3 hb3 HPO cb
   gi_wp2_with fail
   refine ⟨trivial,rfl,?_⟩
   refine (CallsIn.inRound l' (callsIn_wide.2 (aU HPUT))).mono ?_
   rintro e W4 ⟨rfl,hm4,hT4⟩
   have T34:TG mb base W W4:=(TG.of_below (aU HB3)).trans ((TG.of_below ((Below.refl _ _).alloc (Nat.le_refl _) _)).trans hT4)
   have d1:=aU HD1
   obtain ⟨r,d2⟩:=aU HD2
   have g1:W4.heap[W2.heap.size]? = W.heap[W2.heap.size]?:=T34.other d1 (by omega) (fun _ _ _ h=>by cases h)
   have g2:W4.heap[W2.heap.size+1]? = W.heap[W2.heap.size+1]?:=T34.other d2 (by omega) (fun _ _ _ h=>by cases h)
   have HE:Hid (It.Loops W2.heap.size W W4∧MsgN W4 mb base (W2.heap.size+1) R.1 R.2∧TG mb base w W4):=by
    refine ⟨⟨T34.size,g1,g2⟩,?_,(aU HT).trans T34⟩
    rw [aU HQ2,show ptr pn=outs [fShort q] by rw [aU HQ]; rfl]
    exact hm4.away (no_cells (g2.trans d2) (fun _ _ _ h=>by cases h))
   clear hm4 hT4 T34 d1 d2 g1 g2 HPUT
   gi_wp2_with fail
   exact ⟨(aU HE).1,rfl,(aU HE).2⟩
  | none =>
   rw [hf] at hPO
   have HPO:Hid (Calls Tryz.prog 339 #[.pointer (some ⟨mb,0,none⟩),.string (B y')] W fun e w'=>e=.returned (.tuple #[.int .i64 0,.bool false])∧Below W.heap.size W w'):=hPO
   rw [compL_miss hf] at q2
   have HQ2:=aH q2
   clear q2 hf hPO
   gi_wp2_with fail
   refine ⟨trivial,?_⟩
   gi_wp2_with fail
   refine ⟨trivial,rfl,?_⟩
   refine (CallsIn.inRound l' (callsIn_wide.2 (aU HPO))).mono ?_
   rintro e W3 ⟨rfl,hb3⟩
   obtain ⟨vb3,vp3,m3,b3,p3⟩:=(aU HQ6).msg.below hb3
   have bx3:=It.Box.below (aU HB) hb3 (It.Box.lt (aU HB))
   have hs3:=hb3.size
   have c3:=It.Box.cell bx3
   obtain ⟨ab,nb,cb3,rfl⟩:=own_slice b3
   obtain rfl:nb=li.length:=by
    obtain ⟨_,⟨e,hz⟩ | ⟨g',cap',cur',e,_⟩⟩:=b3
    ·cases e; omega
    ·cases e; rfl
   have m30:=m3.cells.1
   have hd3:Below W3.heap.size W3 W3.drew:=(Below.refl _ _).drew
   have bx3':It.Box W3.drew w.heap.size (.pointer (some ⟨mb,0,none⟩)) 216:=bx3
   have HLE:=aH (learn_v mb base y' li.length li psi _ vp3 W3.drew (m3.kept rfl) (own_below b3 hd3) (own_below p3 hd3) (by show base≤W3.heap.size; omega) (by omega) (by omega))
   have T3:TG mb base W W3.drew:=TG.of_below (hb3.trans (hd3.mono hs3))
   have HT3:=aH T3
   have HC3:=aH (And.intro m3 (And.intro b3 p3))
   clear m3 b3 p3 hb3 hd3 T3 HPO cb
   gi_wp2_with fail
   refine Ih.region_held (fun W=>W.cell? ⟨w.heap.size,0,none⟩=some (.pointer (some ⟨mb,0,none⟩))∧W.cell? ⟨mb,0,none⟩=some (.slice ab li.length cb3)) hmx (Ir.noDefer_spec (by kernel_rfl)) ⟨c3,m30⟩ fun hS=>?_
   refine wpAnyH_take (i:=0) (v:=?_) rfl (by kernel_rfl) (by kernel_rfl) (by kernel_rfl) (fun _ _ _ h=>(Ih.Only.no h (by simp)).elim) (Or.inl ⟨by rfl,by intro w hw; go_simp; first | done | with_reducible rfl⟩) hS ?_
   refine wpAnyH_take (i:=1) (v:=?_) rfl (by kernel_rfl) (by kernel_rfl) (by kernel_rfl) (fun _ _ _ h=>(Ih.Only.no h (by simp)).elim) (Or.inl ⟨by rfl,by intro w hw; go_simp; first | done | with_reducible rfl⟩) hS ?_
   refine wpAnyH_take (i:=2) (v:=?_) rfl (by kernel_rfl) (by kernel_rfl) (by kernel_rfl) (fun _ _ _ h=>(Ih.Only.no h (by simp)).elim) (Or.inl ⟨by rfl,by intro w hw; go_simp; first | done | with_reducible rfl⟩) hS ?_
   refine wpAnyH_take (i:=3) (v:=?_) rfl (by kernel_rfl) (by kernel_rfl) (by kernel_rfl) (fun _ _ _ h=>(Ih.Only.no h (by simp)).elim) (Or.inl ⟨by rfl,by intro w hw; go_simp; first | done | with_reducible rfl⟩) hS ?_
   refine wpAnyH_take (i:=4) (v:=?_) rfl (by kernel_rfl) (by kernel_rfl) (by kernel_rfl) (fun _ _ _ h=>(Ih.Only.no h (by simp)).elim) (Or.inl ⟨by rfl,by intro w hw; go_simp; first | done | with_reducible rfl⟩) hS ?_
   refine wpAnyH_take (i:=5) (v:=?_) rfl (by kernel_rfl) (by kernel_rfl) (by kernel_rfl) (fun _ _ _ h=>(Ih.Only.no h (by simp)).elim) (Or.inl ⟨by rfl,by intro w hw; go_simp; first | done | with_reducible rfl⟩) hS ?_
   refine wpAnyH_take (i:=6) (v:=?_) rfl (by kernel_rfl) (by kernel_rfl) (by kernel_rfl) (fun _ _ _ h=>(Ih.Only.no h (by simp)).elim) (Or.inl ⟨by rfl,by intro w hw; go_simp; first | done | with_reducible rfl⟩) hS ?_
   refine wpAnyH_ready (rs:=[7]) (by kernel_rfl) (by simp) (AllReadyH.cons rfl (fun K hK=>?_) AllReadyH.nil)
   go_simp
   refine (aU HLE).mono ?_
   rintro e W4 ⟨rfl,vp4,m4,b4,p4,g4⟩
   have x4:=g4.box bx3' (by omega) (by decide) (by decide)
   refine hK.out _ _ ⟨It.Box.cell x4,m4.cells.1⟩ (fun hS=>?_)
   clear hK K hS
   refine wpAnyH_done (by kernel_rfl) ?_ _
   refine ⟨rfl,?_⟩
   have hG4:=((aU HGW).tg ((aU HT3).trans g4) hb0 hm0)
   have T4:TG mb base W W4:=(aU HT3).trans g4
   have hT4s:=T4.size
   have HFI:=aH (first_any y' W4 hG4 (by omega))
   have HM4:Hid (Msg W4 mb base li (learnP psi y' li.length)):=⟨_,_,m4,b4,p4⟩
   have HX4:=aH x4
   have HT4:=aH T4
   have c4:=It.Box.cell x4
   clear m4 b4 p4 g4 x4 T4 hG4 HLE c3 m30 bx3 bx3'
   gi_wp2_with fail
   refine ⟨trivial,rfl,?_⟩
   refine (CallsIn.inRound l' (callsIn_wide.2 (aU HFI))).mono ?_
   rintro e W5 ⟨rfl,hb5⟩
   have HFL:Hid ((Lib.cut y' [46]).1=firstL y'):=rfl
   rw [aU HFL]
   have hm5:=(aU HM4).below hb5
   have hx5:=It.Box.below (aU HX4) hb5 (It.Box.lt (aU HX4))
   have c5:=It.Box.cell hx5
   have hs5:=hb5.size
   have hll:=learnP_len psi y' li.length
   obtain ⟨fl,hfl⟩ : ∃ fl,fl=firstL y':=⟨_,rfl⟩
   have HLS:Hid (labS y'=UInt8.ofNat fl.length :: fl):=by rw [hfl]; rfl
   rw [← hfl] at hfa ⊢
   obtain ⟨oc,hoc⟩ : ∃ oc,oc=UInt8.ofNat fl.length:=⟨_,rfl⟩
   have hocv:IntKind.u8.wrap (fl.length:Int)=(oc.toNat:Int):=by rw [IntKind.wrap_u8,hoc,UInt8.toNat_ofNat']; omega
   rw [← hoc] at HLS
   have hfs:(B fl).size=fl.length:=size_B fl
   have hnew:=World.alloc_heap_new W5 (.cells #[.iface 292 (.int .u8 oc.toNat),.iface 224 (.string (B fl))] 297)
   have HPUT:=aH (put_m mb base W5.heap.size 2 [fOctet oc,fRaw fl] li _ (W5.alloc (.cells #[.iface 292 (.int .u8 oc.toNat),.iface 224 (.string (B fl))] 297)) (hm5.below ((Below.refl _ _).alloc (Nat.le_refl _) _)) (by simp; omega)
    (fun f hf=>by
     simp at hf
     rcases hf with rfl | rfl
     ·exact octet_ok _
     ·exact raw_ok _) (by simp) (by have:=hm5.lt; omega) (.inr fun cur h=>by rw [hnew] at h; simp at h)
    (fun j hj=>by
     match j,hj with
     | 0,_=>unfold World.cell?; rw [hnew]; rfl
     | 1,_=>unfold World.cell?; rw [hnew]; rfl
     | j+2,hj=>simp at hj; omega) (by simp) (by simp) (by simp [outs,fOctet,fRaw]; omega))
   have T5:TG mb base W W5:=(aU HT4).trans (TG.of_below hb5)
   have HT5:=aH T5
   have HX5:=aH hx5
   clear hfl hoc hnew hm5 hx5 hb5 T5 HFI HM4 HX4 c4 HFL
   gi_wp2_with fail
   refine ⟨trivial,rfl,?_⟩
   refine (CallsIn.inRound l' (callsIn_wide.2 (aU HPUT))).mono ?_
   rintro e W6 ⟨rfl,hm6,hT6⟩
   have T6:TG mb base W W6:=(aU HT5).trans ((TG.of_below ((Below.refl _ _).alloc (Nat.le_refl _) _)).trans hT6)
   have d1:=aU HD1
   obtain ⟨r,d2⟩:=aU HD2
   have g1:W6.heap[W2.heap.size]? = W.heap[W2.heap.size]?:=T6.other d1 (by omega) (fun _ _ _ h=>by cases h)
   have g2:W6.heap[W2.heap.size+1]? = W.heap[W2.heap.size+1]?:=T6.other d2 (by omega) (fun _ _ _ h=>by cases h)
   have HE:Hid (It.Loops W2.heap.size W W6∧(∀ k∈[0],W6.heap[k]? = W.heap[k]?)∧(∃ y li psi,(ends x).drop (i+1)=ends y∧R=compL (ends y) li psi∧li.length+y.length≤l.length+x.length+(i+1)∧psi.length≤ps.length+(i+1)∧PlOk psi∧MsgN W6 mb base (W2.heap.size+1) li psi)∧TG mb base w W6∧It.Box W6 w.heap.size (.pointer (some ⟨mb,0,none⟩)) 216∧G W6):=by
    refine ⟨⟨T6.size,g1,g2⟩,fun k hk=>?_,⟨after y',li++labS y',_,aU HQ7,aU HQ2,?_,by omega,learn_ok (aU HQ5) _ _,?_⟩,(aU HT).trans T6,T6.box (aU HB) (by omega) (by decide) (by decide),(aU HGW).tg T6 hb0 hm0⟩
    ·obtain rfl:k=0:=by simpa using hk
     exact T6.block 0 (by omega) (by omega) (.inl hb0)
    ·rw [aU HLS,List.length_append,List.length_cons]; omega
    ·rw [aU HLS]
     have:li++outs [fOctet oc,fRaw fl]=li++oc :: fl:=by simp [outs,fOctet,fRaw]
     rw [← this]
     exact hm6.away (no_cells (g2.trans d2) (fun _ _ _ h=>by cases h))
   clear hm6 hT6 T6 d1 d2 g1 g2 HPUT
   gi_wp2_with fail
   exact ⟨(aU HE).1,(aU HE).2.1,(aU HE).2.2⟩
 case done =>
  intro W hI hdef hsz
  obtain ⟨⟨y,li,psi,q1,q2,q3,q4,q5,q6⟩,hT,hB,hGW⟩:=hI
  have hy0:y = []:=by
   rw [List.drop_length] at q1
   by_cases h:y = []
   ·exact h
   ·rw [ends_cons y h] at q1; cases q1
  subst hy0
  rw [ends_nil] at q2
  have c3:=It.Box.cell hB
  have hm3:=q6.msg
  have hTs:=hT.size
  have hnew:=World.alloc_heap_new W (.cells #[.iface 292 (.int .u8 (0:UInt8).toNat)] 297)
  have HPUT:Hid (Calls Tryz.prog 139 #[.pointer (some ⟨mb,0,none⟩),.slice (some ⟨W.heap.size,0,none⟩) 1 1] (W.alloc (.cells #[.iface 292 (.int .u8 0)] 297)) fun e w'=>e=.returned (.tuple #[])∧Msg w' mb base (li++[0]) psi∧TG mb base (W.alloc (.cells #[.iface 292 (.int .u8 0)] 297)) w') :=
   put_m mb base W.heap.size 1 [fOctet 0] li psi (W.alloc (.cells #[.iface 292 (.int .u8 (0:UInt8).toNat)] 297)) (hm3.below ((Below.refl _ _).alloc (Nat.le_refl _) _)) (by simp; omega)
    (fun f hf=>by simp at hf; subst hf; exact octet_ok _) (by simp) (by have:=hm3.lt; omega) (.inr fun cur h=>by rw [hnew] at h; simp at h)
    (fun j hj=>by
     match j,hj with
     | 0,_=>unfold World.cell?; rw [hnew]; rfl
     | j+1,hj=>simp at hj) (by simp) (by simp) (by simp [outs,fOctet]; simp at q3; omega)
  have HQ2:=aH q2
  have HT:=aH hT
  have HD:=aH hdef
  clear q1 q2 hT hB hGW q6 hm3 hnew hdef
  gi_wp2_with fail
  refine ⟨trivial,rfl,?_⟩
  refine (callsIn_wide.2 (aU HPUT)).mono ?_
  rintro e W4 ⟨rfl,hm4,hT4⟩
  have T4:TG mb base W W4:=(TG.of_below ((Below.refl _ _).alloc (Nat.le_refl _) _)).trans hT4
  have hdef4:W4.heap[W2.heap.size]? = some (.deferred (some [])):=(T4.other (aU HD) (by omega) (fun _ _ _ h=>by cases h)).trans (aU HD)
  have hN:=hm4.away (d:=W2.heap.size) (no_cells hdef4 (fun _ _ _ h=>by cases h))
  have HF:Hid (MsgN W4 mb base W2.heap.size R.1 R.2∧TG mb base w W4∧W4.heap[W2.heap.size]? = some (.deferred (some []))):=⟨by rw [aU HQ2]; exact hN,(aU HT).trans T4,hdef4⟩
  clear hm4 hT4 T4 hdef4 hN HPUT HD c3
  gi_wp2_with fail
  refine ⟨by simp,.inl ⟨_,_,rfl,run_takeDeferred (aU HF).2.2,?_⟩⟩
  exact ⟨.tuple #[],by simp [results,Tryz.results338],rfl,(aU HF).1.put _ (by omega),(aU HF).2.1.keeps (It.Keeps.put (d:=W2.heap.size) W4 W2.heap.size (.deferred none)) (by omega)⟩
 case stop =>
  intro c W hI hdef hsz
  obtain ⟨rfl,h2,h3⟩:=hI
  have H:=aH (And.intro h2 h3)
  have hN:=h2.msg.away (d:=W2.heap.size) (no_cells hdef (fun _ _ _ h=>by cases h))
  have HN:=aH hN
  clear h2 h3 hN
  gi_wp2_with fail
  refine ⟨by simp,.inl ⟨_,_,rfl,run_takeDeferred hdef,?_⟩⟩
  exact ⟨.tuple #[],by simp [results,Tryz.results338],rfl,(aU HN).put _ (by omega),(aU H).2.keeps (It.Keeps.put (d:=W2.heap.size) W W2.heap.size (.deferred none)) (by omega)⟩
end Mb
end Go.Proofs.YtkkpahmoljiepaaGreatDoor

set_option maxRecDepth 1000000
set_option maxHeartbeats 12800000
namespace Go.Proofs.YtkkpahmoljiepaaGreatDoor
open Go.RowKit
open Pu (Str aH aU)
def WrM (mb base:Nat) (I:World→Prop) (fn:FuncId) (x:Value) (step:Str→Pl→Str×Pl):Prop:=∀ (l:Str) (ps:Pl) (w:World),I w→Msg w mb base l ps→base≤w.heap.size→PlOk ps→(step l ps).1.length≤50000→(step l ps).2.length≤700 →
 Calls Tryz.prog fn #[x,.pointer (some ⟨mb,0,none⟩)] w fun e w'=>e=.returned (.tuple #[])∧Msg w' mb base (step l ps).1 (step l ps).2∧TG mb base w w'
structure Fe where
 t:TypeId
 x:Value
 fn:FuncId
 step:Str→Pl→Str×Pl
structure Fe.Ok (f:Fe) (mb base:Nat) (I:World→Prop):Prop where
 meth : ∀ W : World, (method 521 f.t f.x "beacon/wire.writeTo").run Tryz.prog W = .ok (f.fn, f.x) W
 call : ∀ (args:Array Value) (W:World),(callFunc f.fn args).run Tryz.prog W=.ok (.enter f.fn args) W
 wr:WrM mb base I f.fn f.x f.step
 more : ∀ l ps,l.length≤(f.step l ps).1.length∧ps.length≤(f.step l ps).2.length∧(PlOk ps→PlOk (f.step l ps).2)
def steps (fs:List Fe) (l:Str) (ps:Pl):Str×Pl:=fs.foldl (fun s f=>f.step s.1 s.2) (l,ps)
def StableG (mb base:Nat) (I:World→Prop):Prop:=∀ w w',I w→TG mb base w w'→I w'
def FesAt (mb:Nat) (w:World) (g:Nat) (fs:List Fe):Prop:=g≠mb∧(∃ cs t,w.heap[g]? = some (.cells cs t)∧t≠5∧t≠343)∧∀ j (h:j<fs.length),w.cell? ⟨g,j,none⟩=some (.iface fs[j].t fs[j].x)
theorem FesAt.tg {mb base g:Nat} {fs:List Fe} {w w':World} (h:FesAt mb w g fs) (ht:TG mb base w w'):FesAt mb w' g fs:=by
 obtain ⟨h1,⟨cs,t,h2,h3,h4⟩,h5⟩:=h
 have e:=ht.box h2 h1 h3 h4
 exact ⟨h1,⟨cs,t,e,h3,h4⟩,fun j hj=>(World.cell?_of_block (e.trans h2.symm)).trans (h5 j hj)⟩
namespace Mc
open Ka Kd Rg Ia Iow Ie Zb Zc Za La Wa Wb Wc Wd We Wf Wg Wh Wi Wj Wk Wl Wm Wn Wo Wp Ws Ma Mb Re
theorem steps_cons (f:Fe) (fs:List Fe) (l:Str) (ps:Pl):steps (f :: fs) l ps=steps fs (f.step l ps).1 (f.step l ps).2:=rfl
theorem steps_app (fs gs:List Fe) (l:Str) (ps:Pl):steps (fs++gs) l ps=steps gs (steps fs l ps).1 (steps fs l ps).2:=by
 unfold steps; rw [List.foldl_append]
theorem steps_take (fs:List Fe) (k:Nat) (h:k<fs.length) (l:Str) (ps:Pl):steps (fs.take (k+1)) l ps=fs[k].step (steps (fs.take k) l ps).1 (steps (fs.take k) l ps).2:=by
 rw [List.take_succ_eq_append_getElem h,steps_app]; rfl
theorem steps_more {mb base:Nat} {I:World→Prop} : ∀ (fs:List Fe),(∀ f∈fs,f.Ok mb base I)→∀ l ps,l.length≤(steps fs l ps).1.length∧ps.length≤(steps fs l ps).2.length∧(PlOk ps→PlOk (steps fs l ps).2)
 | [],_,l,ps=>⟨Nat.le_refl _,Nat.le_refl _,id⟩
 | f :: fs,h,l,ps=>by
  have h1:=(h f (by simp)).more l ps
  have h2:=steps_more fs (fun g hg=>h g (by simp [hg])) (f.step l ps).1 (f.step l ps).2
  rw [steps_cons]
  exact ⟨by omega,by omega,fun h=>h2.2.2 (h1.2.2 h)⟩
theorem steps_part {mb base:Nat} {I:World→Prop} (fs:List Fe) (hok : ∀ f∈fs,f.Ok mb base I) (l:Str) (ps:Pl) (k:Nat):(steps (fs.take k) l ps).1.length≤(steps fs l ps).1.length∧(steps (fs.take k) l ps).2.length≤(steps fs l ps).2.length:=by
 have e:steps fs l ps=steps (fs.drop k) (steps (fs.take k) l ps).1 (steps (fs.take k) l ps).2:=by rw [← steps_app,List.take_append_drop]
 have:=steps_more (fs.drop k) (fun f hf=>hok f (List.mem_of_mem_drop hf)) (steps (fs.take k) l ps).1 (steps (fs.take k) l ps).2
 rw [e]; exact ⟨this.1,this.2.1⟩
theorem put_g (mb base g cap:Nat) (I:World→Prop) (fs:List Fe) (l:Str) (ps:Pl) (w:World) (hI:I w) (hst:StableG mb base I) (hm:Msg w mb base l ps) (hbs:base≤w.heap.size) (hpo:PlOk ps)
  (hok : ∀ f∈fs,f.Ok mb base I) (hfs:FesAt mb w g fs) (hn:fs.length≤cap) (hc:fs.length≤1000000) (hl:(steps fs l ps).1.length≤50000) (hp:(steps fs l ps).2.length≤700) :
  Calls Tryz.prog 139 #[.pointer (some ⟨mb,0,none⟩),.slice (some ⟨g,0,none⟩) fs.length cap] w fun e w' =>
   e=.returned (.tuple #[])∧Msg w' mb base (steps fs l ps).1 (steps fs l ps).2∧TG mb base w w':=by
 have HM:=aH hm
 have HOK:=aH hok
 have HC:=aH hfs
 have HI:=aH hI
 have HST:=aH hst
 have HPO:=aH hpo
 have hgl:g<w.heap.size:=by obtain ⟨_,⟨cs,t,h2,_⟩,_⟩:=hfs; exact (Array.getElem?_eq_some_iff.1 h2).1
 clear hm hok hfs hI hst hpo
 go_enter Tryz.func139,Tryz.ntmps139
 go_wp2_with fail
 go_loopw [8] (fun i wr=>∃ (k:Nat),i=.int .i64 k∧k≤fs.length∧Msg wr mb base (steps (fs.take k) l ps).1 (steps (fs.take k) l ps).2∧TG mb base w wr) (fun i _=>fs.length - (intOf i).toNat)
 case atStart=>exact ⟨0,rfl,Nat.zero_le _,aU HM,TG.refl _ _ _⟩
 case round =>
  obtain ⟨k,rfl,hk,hmr,ht⟩:=hrel
  have HM1:=aH hmr
  have HT1:=aH ht
  have hsz:=ht.size
  clear hmr ht
  by_cases hlk:k<fs.length
  ·have hcell:wr.cell? ⟨g,k,none⟩=some (.iface fs[k].t fs[k].x):=((aU HC).tg (aU HT1)).2.2 k hlk
   have hOK:=aU HOK fs[k] (List.getElem_mem hlk)
   have HE:=aH (steps_take fs k hlk l ps)
   have h1:=steps_part fs (aU HOK) l ps (k+1)
   rw [steps_take fs k hlk l ps] at h1
   have hpk:=(steps_more (fs.take k) (fun f hf=>aU HOK f (List.mem_of_mem_take hf)) l ps).2.2 (aU HPO)
   generalize fs[k]=f at *
   have hmeth:=hOK.meth
   have hcf:=hOK.call
   have HW:=aH (hOK.wr _ _ wr (aU HST w wr (aU HI) (aU HT1)) (aU HM1) (by omega) hpk (by omega) (by omega))
   clear hOK h1 hpk
   go_wp2_with fail
   refine (aU HW).mono ?_
   rintro e w2 ⟨rfl,h1,h3⟩
   rw [← aU HE] at h1
   have HF:=aH (And.intro h1 ((aU HT1).trans h3))
   clear h1 h3 HW
   go_wp2_with fail
   exact ⟨⟨k+1,by go_num,by omega,(aU HF).1,(aU HF).2⟩,by simp [intOf]; omega⟩
  ·have hkl:k=fs.length:=by omega
   subst hkl
   have HO2:=aU HM1
   rw [List.take_length] at HO2
   have HO3:=aH HO2
   clear HO2
   go_wp2
   refine bodyPost_end (v:=.tuple #[]) (by simp [results,Tryz.results139]) rfl ?_
   exact ⟨rfl,aU HO3,aU HT1⟩
def ofFd (f:Fd):Fe:=⟨f.t,f.x,f.fn,fun l ps=>(l++f.out,ps)⟩
theorem ofFd_ok {f:Fd} (h:f.Ok) (mb base:Nat) (I:World→Prop):(ofFd f).Ok mb base I where
 meth:=h.1
 call:=h.2.1
 wr:=fun l ps w _ hm hbs _ hl _=>by
  obtain ⟨vb,vp,h1,h2,h3⟩:=hm
  simp only [ofFd,List.length_append] at hl
  refine (h.2.2 mb base vb vp l w h1 h2 hbs (by omega)).mono ?_
  rintro e w' ⟨rfl,⟨vb',k1,k2⟩,k3⟩
  exact ⟨rfl,⟨vb',vp,k1,k2,own_tfP h3 h1 k3⟩,TG.of_tf k3⟩
 more:=fun l ps=>⟨by simp [ofFd],Nat.le_refl _,id⟩
def compF (x:Str):Fe:=⟨291,.string (B x),338,fun l ps=>compL (ends x) l ps⟩
theorem compL_more : ∀ (es:List Str) (l:Str) (ps:Pl),l.length≤(compL es l ps).1.length∧ps.length≤(compL es l ps).2.length∧(PlOk ps→PlOk (compL es l ps).2)
 | [],l,ps=>⟨by simp [compL],Nat.le_refl _,id⟩
 | e :: es,l,ps=>by
  cases hf:findP ps e with
  | some n=>rw [compL_hit hf]; exact ⟨by simp,Nat.le_refl _,id⟩
  | none =>
   rw [compL_miss hf]
   have h1:=compL_more es (l++labS e) (learnP ps e l.length)
   have h2:=learnP_ge ps e l.length
   rw [List.length_append] at h1
   exact ⟨by omega,by omega,fun h=>h1.2.2 (learn_ok h _ _)⟩
theorem comp_ok (x:Str) (hx:x.length≤300) (mb base:Nat) (I:World→Prop) (hIg : ∀ w,I w→G w) (hb0:0<base) (hm0:0<mb):(compF x).Ok mb base I where
 meth:=m_comp _
 call:=c_comp
 wr:=fun l ps w hI hm hbs hpo hl hp=>by
  have h1:=compL_more (ends x) l ps
  exact comp_m mb base x l ps w hm (hIg w hI) hbs hb0 hm0 (by omega) hpo (by have:(compL (ends x) l ps).2.length≤700:=hp; omega) (by have:(compL (ends x) l ps).1.length≤50000:=hl; omega)
 more:=fun l ps=>compL_more (ends x) l ps
def patch (l:Str) (n:Nat) (k:Nat):Str:=(l.set n (hi k)).set (n+1) (lo k)
theorem patch_len (l:Str) (n k:Nat):(patch l n k).length=l.length:=by simp [patch]
def sizedStep (fs:List Fe) (l:Str) (ps:Pl):Str×Pl :=
 (patch (steps fs (l++[0,0]) ps).1 l.length ((steps fs (l++[0,0]) ps).1.length - (l.length+2)),(steps fs (l++[0,0]) ps).2)
def sizedF (g cap:Nat) (fs:List Fe):Fe:=⟨293,.slice (some ⟨g,0,none⟩) fs.length cap,342,sizedStep fs⟩
theorem sized_m (mb base g cap:Nat) (I:World→Prop) (fs:List Fe) (hst:StableG mb base I) (hI : ∀ w,I w→FesAt mb w g fs) (hok : ∀ f∈fs,f.Ok mb base I) (hn:fs.length≤cap) (hc:fs.length≤1000000) :
  WrM mb base I 342 (.slice (some ⟨g,0,none⟩) fs.length cap) (sizedStep fs):=by
 intro l ps w hIw hm hbs hpo hl hp
 have hmo:=steps_more fs hok (l++[0,0]) ps
 rw [List.length_append] at hmo
 simp only [List.length_cons,List.length_nil] at hmo
 simp only [sizedStep,patch_len] at hl hp
 have HM:=aH hm
 have HIW:=aH hIw
 have HST:=aH hst
 have HI:=aH hI
 have HOK:=aH hok
 have HPO:=aH hpo
 have hlt:=hm.lt
 clear hm hIw hst hI hok hpo
 go_enter Tryz.func342,Tryz.ntmps342
 go_wp2_with fail
 have hnew:=World.alloc_heap_new w (.cells #[.iface 284 (.int .u16 0)] 297)
 refine (put_m mb base w.heap.size 1 [fShort 0] l ps _ ((aU HM).below ((Below.refl _ _).alloc (Nat.le_refl _) _)) (by simp; omega) ?_ (by simp) (by omega) (.inr ?_) ?_ (by simp) (by simp) ?_).mono ?_
 ·intro f hf
  simp at hf
  subst hf; exact short_ok _ (by omega)
 ·intro cur h
  rw [hnew] at h
  simp at h
 ·intro j hj
  match j,hj with
  | 0,_=>unfold World.cell?; rw [hnew]; rfl
  | j+1,hj=>simp at hj
 ·simp [outs,fShort]; omega
 rintro e w2 ⟨rfl,h1,h3⟩
 have T2:Hid (TG mb base w w2):=(TG.of_below ((Below.refl _ _).alloc (Nat.le_refl _) _)).trans h3
 have HM2:Hid (Msg w2 mb base (l++[0,0]) ps):=h1
 have HX0:Hid (∃ vb vp,MsgAt w mb vb vp∧ownLen vb=l.length):=by
  obtain ⟨vb,vp,q1,q2,_⟩:=aU HM
  exact ⟨vb,vp,q1,Wp.own_lenB q2⟩
 clear h1 h3 hnew HM
 obtain ⟨vb2,vp2,m2,o2,p2⟩:=aU HM2
 obtain ⟨g2,cap2,cur2,rfl,hb2,hcur2,hc2,_⟩:=own_at o2 (by simp)
 have c2:=m2.cells.1
 have hs2:=(aU T2).size
 rw [List.length_append] at c2
 simp only [List.length_cons,List.length_nil] at c2
 have HP:=aH (put_g mb base g cap I fs (l++[0,0]) ps w2 (aU HST w w2 (aU HIW) (aU T2)) (aU HST) (aU HM2) (by omega) (aU HPO) (aU HOK) (aU HI _ (aU HST w w2 (aU HIW) (aU T2))) hn hc hl hp)
 clear hcur2 hb2 m2 o2 p2 hc2
 go_wp2_with fail
 refine (aU HP).mono ?_
 rintro e w3 ⟨rfl,h1,h3⟩
 have T3:Hid (TG mb base w w3):=(aU T2).trans h3
 clear h3 HP c2
 obtain ⟨vb3,vp3,m3,o3,p3⟩:=h1
 obtain ⟨st,hsteq⟩ : ∃ st,st=steps fs (l++[0,0]) ps:=⟨_,rfl⟩
 have HSS:Hid (sizedStep fs l ps=(patch st.1 l.length (st.1.length - (l.length+2)),st.2)):=by rw [Hid,hsteq]; rfl
 rw [← hsteq] at hmo hl hp o3 p3
 obtain ⟨s1,s2⟩:=st
 simp only at hmo hl hp o3 p3 HSS
 have hne:s1≠[]:=by intro h; subst h; simp at hmo
 obtain ⟨g3,cap3,cur3,rfl,hb3,hcur3,hc3,hm3⟩:=own_at o3 hne
 have c3:=m3.cells.1
 have hgm:mb≠g3:=fun e=>by
  rw [MsgAt,e,hcur3] at m3
  simp at m3
 have k0:w3.frozen? ⟨g3,l.length,none⟩=false:=by simp [World.frozen?,hcur3]
 have k1 : ∀ u,(w3.setCell ⟨g3,l.length,none⟩ u).frozen? ⟨g3,l.length+1,none⟩=false:=fun u=>by
  simp [World.frozen?,World.setCell,Array.getElem?_modify,hcur3]
 have hx0 : ∃ u,w3.cell? ⟨g3,l.length,none⟩=some (.int .u8 u):=⟨_,by
  rw [World.ownsRow.cellAt o3 l.length (by omega)]
  rw [List.getElem?_map,List.getElem?_eq_getElem (by omega)]; rfl⟩
 have hx1 : ∃ u,w3.cell? ⟨g3,l.length+1,none⟩=some (.int .u8 u):=⟨_,by
  rw [World.ownsRow.cellAt o3 (l.length+1) (by omega)]
  rw [List.getElem?_map,List.getElem?_eq_getElem (by omega)]; rfl⟩
 obtain ⟨u0,hx0⟩:=hx0
 obtain ⟨u1,hx1⟩:=hx1
 obtain ⟨L,hL⟩ : ∃ L,s1.length=l.length+2+L:=⟨s1.length - (l.length+2),by omega⟩
 have hLL:s1.length - (l.length+2)=L:=by omega
 rw [hLL] at HSS
 have HC3:=aH hcur3
 have HO3:=aH o3
 have HM3:=aH m3
 have HP3:=aH p3
 have HLn:=aH hL
 have hl0:l.length<s1.length:=by omega
 have hl1:l.length+1<s1.length:=by omega
 rw [hL] at c3 hc3
 clear hcur3 o3 m3 p3 hsteq
 have e1:(l.length:Int)+2+(L:Int) - ((l.length:Int)+2)=(L:Int):=by omega
 have hLb:l.length+L+2≤60000:=by omega
 clear hmo hl hp hL hLL hne HM2
 go_wp2_with fail
 go_region
 have eh:(L:Int)/256=((hi L).toNat:Int):=by unfold hi; rw [UInt8.toNat_ofNat']; omega
 have el:(L:Int)%256=((lo L).toNat:Int):=by unfold lo; rw [UInt8.toNat_ofNat']; omega
 rw [eh,el]
 have O4:=own_setB (own_setB (aU HO3) l.length (hi L) hl0) (l.length+1) (lo L) (by simp; omega)
 have hne4 : ∀ k,k≠g3→((w3.setCell ⟨g3,l.length,none⟩ (.int .u8 (hi L).toNat)).setCell ⟨g3,l.length+1,none⟩ (.int .u8 (lo L).toNat)).heap[k]? = w3.heap[k]?:=fun k hk=>(Below.heap_setCell _ _ _ _ hk).trans (Below.heap_setCell _ _ _ _ hk)
 have M4:=(aU HM3).kept (w':=((w3.setCell ⟨g3,l.length,none⟩ (.int .u8 (hi L).toNat)).setCell ⟨g3,l.length+1,none⟩ (.int .u8 (lo L).toNat))) (hne4 mb hgm)
 have P4:OwnP ((w3.setCell ⟨g3,l.length,none⟩ (.int .u8 (hi L).toNat)).setCell ⟨g3,l.length+1,none⟩ (.int .u8 (lo L).toNat)) base vp3 s2:=own_kept (aU HP3) fun k hk=>hne4 k fun e=>by
  obtain ⟨cur,hcur⟩:=own_kindP (aU HP3) hk
  rw [e,aU HC3] at hcur; simp at hcur
 have T4:TG mb base w ((w3.setCell ⟨g3,l.length,none⟩ (.int .u8 (hi L).toNat)).setCell ⟨g3,l.length+1,none⟩ (.int .u8 (lo L).toNat)):=by
  obtain ⟨vb0,vp0,q1,q2⟩:=aU HX0
  exact ((aU T3).behind q1 (aU HM3) rfl (Nat.le_of_eq q2) hb3 (aU HC3) _).behind q1 ((aU HM3).kept (Below.heap_setCell _ _ _ _ hgm)) rfl (by rw [q2]; omega) hb3 (cur:=cur3.setIfInBounds l.length (.int .u8 (hi L).toNat)) (by simp only [World.setCell]; rw [Array.getElem?_modify,if_pos rfl,aU HC3]; rfl) _
 have HF:Hid (Msg ((w3.setCell ⟨g3,l.length,none⟩ (.int .u8 (hi L).toNat)).setCell ⟨g3,l.length+1,none⟩ (.int .u8 (lo L).toNat)) mb base (patch s1 l.length L) s2∧TG mb base w ((w3.setCell ⟨g3,l.length,none⟩ (.int .u8 (hi L).toNat)).setCell ⟨g3,l.length+1,none⟩ (.int .u8 (lo L).toNat))):=⟨⟨_,_,M4,O4,P4⟩,T4⟩
 clear O4 M4 P4 T4 eh el hne4
 generalize ((w3.setCell ⟨g3,l.length,none⟩ (.int .u8 (hi L).toNat)).setCell ⟨g3,l.length+1,none⟩ (.int .u8 (lo L).toNat))=w4 at *
 go_wp2_with fail
 refine bodyPost_end (v:=.tuple #[]) (by simp [results,Tryz.results342]) rfl ?_
 refine ⟨rfl,?_,(aU HF).2.trans (TG.of_below (Below.refl _ _).drew)⟩
 rw [aU HSS]
 exact (aU HF).1.below (Below.refl _ _).drew
theorem sized_ok (mb base g cap:Nat) (I:World→Prop) (fs:List Fe) (hst:StableG mb base I) (hI : ∀ w,I w→FesAt mb w g fs) (hok : ∀ f∈fs,f.Ok mb base I) (hn:fs.length≤cap) (hc:fs.length≤1000000):(sizedF g cap fs).Ok mb base I where
 meth:=m_sized _ _ _
 call:=c_sized
 wr:=sized_m mb base g cap I fs hst hI hok hn hc
 more:=fun l ps=>by
  have h:=steps_more fs hok (l++[0,0]) ps
  rw [List.length_append] at h
  refine ⟨?_,h.2⟩
  show l.length≤(patch _ _ _).length
  rw [patch_len]
  have:=h.1
  simp at this; omega
end Mc
def OwnF (w:World) (base:Nat) (v:Value) (fs:List Fd):Prop:=w.ownsRow base 297 1 v fs.length (fs.map fun f=>.iface f.t f.x)
namespace Wq
open Ka Wa Wb Wc Wd We Wf Wg Wh Wi Wj Wk Wl Wm Wn Wo Wp Re
theorem infoF:(Tryz.prog.info? 297).map (fun i=>(i.zero,i.size,i.bytes))=some (some .nilIface,1,16):=by kernel_rfl
end Wq
def OwnE (w:World) (base:Nat) (v:Value) (fs:List Fe):Prop:=w.ownsRow base 297 1 v fs.length (fs.map fun f=>.iface f.t f.x)
namespace Md
open Ka Kd Rg Ia Iow Ie Zb Zc Za La Wa Wb Wc Wd We Wf Wg Wh Wi Wj Wk Wl Wm Wn Wo Wp Wq Ws Ma Mb Mc Re
theorem ownE_new (w:World) (base:Nat) (cs:Array Value) (fs:List Fe) (hc:cs.toList=fs.map fun f=>.iface f.t f.x) (hb:base≤w.heap.size) (hl:fs.length≤maxLen) (n g:Nat) (hn:n=fs.length) (hg:g=w.heap.size):OwnE (w.alloc (.cells cs 297)) base (.slice (some ⟨g,0,none⟩) n n) fs:=by
 subst hn hg
 have hs:cs.size=fs.length:=by rw [← Array.length_toList,hc,List.length_map]
 exact ⟨by simp,.inr ⟨w.heap.size,fs.length,cs,rfl,hb,World.alloc_heap_new w _,Nat.le_refl _,hl,by rw [hs,Nat.mul_one],by rw [hc,Nat.mul_one]; exact List.take_of_length_le (by simp)⟩⟩
def rv (r:Rec):Value:=.agg #[.string (B r.owner),.int .i64 r.ttl,.int .i64 r.type,.string (B r.data)]
def txtFs (d:Str):List Fe:=[ofFd (fOctet (UInt8.ofNat d.length)),ofFd (fRaw d)]
theorem dataOf_TXT (r:Rec) (w:World) (hg:G w) (ht:r.type=16) (hd:r.data.length≤3000) :
  Calls Tryz.prog 254 #[rv r] w fun e w'=>(∃ v,e=.returned v∧OwnE w' w.heap.size v (txtFs r.data))∧Below w.heap.size w w':=by
 obtain ⟨oc,hoc⟩ : ∃ oc,oc=UInt8.ofNat r.data.length:=⟨_,rfl⟩
 have ho:IntKind.u8.wrap (r.data.length:Int)=(oc.toNat:Int):=by rw [IntKind.wrap_u8,hoc,UInt8.toNat_ofNat']; omega
 have HOC:=aH hoc
 clear hoc
 have hb0:Below w.heap.size w (w.alloc (.cells #[.string (B r.owner),.int .i64 r.ttl,.int .i64 r.type,.string (B r.data)] 47)):=(Below.refl _ _).alloc (Nat.le_refl _) _
 have HC:=aH (split_any (B r.data) 32 _ (hg.below hb0) (by rw [size_B]; omega))
 have hs:(B r.data).size=r.data.length:=size_B _
 unfold rv
 rw [ht] at HC hb0 ⊢
 clear hg ht hb0
 generalize Sp.pieces 32 (B r.data)=L at *
 go_enter Tryz.func254,Tryz.ntmps254
 go_wp2_with fail
 refine (aU HC).mono ?_
 rintro e w1 ⟨rfl,rfl⟩
 clear HC
 go_wp2_with fail
 go_ret
 refine ⟨⟨.slice (some ⟨w.heap.size+1+1,0,none⟩) 2 2,rfl,?_⟩,(((Below.refl _ _).alloc (Nat.le_refl _) _).alloc (by simp) _).alloc (by simp <;> omega) _⟩
 rw [show txtFs r.data = [ofFd (fOctet oc),ofFd (fRaw r.data)] by rw [aU HOC]; rfl]
 refine ownE_new _ _ _ [ofFd (fOctet oc),ofFd (fRaw r.data)] ?_ ?_ ?_ 2 _ rfl ?_
 ·rfl
 ·first | omega | (simp only [World.size_alloc]; omega) | (simp; omega)
 ·simp [maxLen]
 ·simp only [World.size_alloc]
end Md
end Go.Proofs.YtkkpahmoljiepaaGreatDoor
