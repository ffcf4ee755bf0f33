/- Contract: wire's compressed: a name that was written already is a pointer. -/
import Derived.Test.YtkkpahmoljiepaaGreatDoorJ25
import Derived.Test.YtkkpahmoljiepaaGreatDoorJ07
import Derived.Deep.RegionHeld
import Derived.Test.YtkkpahmoljiepaaGreatDoorJ10
set_option linter.unusedSimpArgs false
set_option linter.unusedVariables false
set_option maxRecDepth 1000000
set_option maxHeartbeats 12800000
namespace Go.Proofs.YtkkpahmoljiepaaGreatDoor
open Go.RowKit
open Pu (Str aH aU)
attribute [local go_sem] Oper.semAt_some undef
def PlAt (mb:Nat) (w:World) (vp:Value) (ps:List (Str×Nat)):Prop:=∃ b,OwnP w b vp ps∧vp.ownBlock≠some mb
theorem own_kept {w w':World} {base n sz:Nat} {t:TypeId} {v:Value} {xs:List Value} (h:w.ownsRow base t sz v n xs) (hg : ∀ g,v.ownBlock=some g→w'.heap[g]? = w.heap[g]?):w'.ownsRow base t sz v n xs:=by
 obtain ⟨h1,h2⟩:=h
 refine ⟨h1,?_⟩
 rcases h2 with h2 | ⟨g,cap,cur,rfl,hb,hcur,hr⟩
 ·exact .inl h2
 ·exact .inr ⟨g,cap,cur,rfl,hb,(hg g rfl).trans hcur,hr⟩
theorem PlAt.tf {mb base:Nat} {vp:Value} {ps:List (Str×Nat)} {w w':World} (h:PlAt mb w vp ps) (ht:TF mb base w w'):PlAt mb w' vp ps:=by
 obtain ⟨b,ho,hm⟩:=h
 refine ⟨b,own_kept ho fun g hg=>?_,hm⟩
 have ho':=ho
 obtain ⟨_,⟨rfl,_⟩ | ⟨g',cap,cur,rfl,hb,hcur,_⟩⟩:=ho'
 ·simp [Value.ownBlock] at hg
 ·simp only [Value.ownBlock,Option.some.injEq] at hg
  subst hg
  refine ht.block g' (Array.getElem?_eq_some_iff.1 hcur).1 (fun e=>hm (by rw [← e]; rfl)) (.inr fun c hc=>?_)
  rw [hcur] at hc
  simp at hc
theorem G.tf {mb base:Nat} {w w':World} (h:G w) (ht:TF mb base w w') (hb:0<base) (hm:0<mb):G w':=by
 obtain ⟨h0,m,hc⟩:=h
 exact ⟨Nat.lt_of_lt_of_le h0 ht.size,m,(World.cell?_of_block (ht.block 0 h0 (by omega) (.inl hb))).trans hc⟩
theorem TF.keeps {mb base d:Nat} {w A B:World} (h:TF mb base w A) (hk:It.Keeps d A B) (hd:w.heap.size≤d):TF mb base w B :=
 ⟨hk.os.trans h.os,hk.tape.trans h.tape,hk.output.trans h.output,Nat.le_trans h.size hk.size,fun i hi hm hp=>(hk.block i (Nat.lt_of_lt_of_le hi h.size) (by omega)).trans (h.block i hi hm hp)⟩
theorem own_kindB {W:World} {base g:Nat} {v:Value} {l:Str} (h:OwnB W base v l) (hg:v.ownBlock=some g) : ∃ cur,W.heap[g]? = some (.cells cur 5 (0,0)):=by
 obtain ⟨_,⟨rfl,_⟩ | ⟨g',cap,cur,rfl,_,hcur,_⟩⟩:=h
 ·simp [Value.ownBlock] at hg
 ·simp only [Value.ownBlock,Option.some.injEq] at hg
  subst hg
  exact ⟨cur,hcur⟩
namespace Ws
open Ka Kd Rg Ia Iow Ie Zb Zc Za La Wa Wb Wc Wd We Wf Wg Wh Wi Wj Wk Wl Wm Wn Wo Wp Re
theorem or_place (n:Nat) (h:n<16384):bits .or .i64 49152 (n:Int)=((49152+n:Nat):Int):=by
 have h1:=Wa.i64_or_nat 49152 n (by omega) (by omega)
 have h2:49152+n=49152 ||| n:=Nat.two_pow_add_eq_or_of_lt (i:=14) (b:=n) (by omega) 3
 rw [h2]; exact h1
theorem m_comp (s : ByteArray) (W : World) : (method 521 291 (.string s) "beacon/wire.writeTo").run Tryz.prog W = .ok (338, .string s) W := by kernel_rfl
theorem c_comp (args:Array Value) (W:World):(callFunc 338 args).run Tryz.prog W=.ok (.enter 338 args) W:=by kernel_rfl
def ptr (n:Nat):Str:=[hi (49152+n),lo (49152+n)]
def fComp (x:Str) (n:Nat):Fd:=⟨291,.string (B x),338,ptr n⟩
theorem comp_w (mb base j0:Nat) (vp:Value) (ps:List (Str×Nat)) (x:Str) (hx:x≠[]) (hxl:x.length≤3000) (hps:ps.length≤1000) (hj:j0<ps.length) (he:ps[j0].1=x) (hb : ∀ j (h:j<j0),(ps[j].1 == x)=false) (hn:ps[j0].2<16384) (hb0:0<base) (hm0:0<mb) :
  WrI mb base vp (fun w=>PlAt mb w vp ps∧G w) 338 (.string (B x)) (ptr ps[j0].2):=by
 intro vb l w hI hm ho hbs hl
 refine (callsIn_wide (n:=0)).1 ?_
 refine callsIn_of_wp_marks Tryz.func338 rfl trivial ?_
 simp only [Tryz.ntmps338,List.size_toArray,List.length_cons,List.length_nil,Nat.reduceAdd,Nat.reduceSub,Array.replicate_succ,Array.replicate_zero,List.push_toArray,List.append_toArray,List.nil_append,List.cons_append]
 have HM:=aH hm
 have HO:=aH ho
 have HI:=aH hI
 have hlt:=hm.lt
 have hvb:Hid (∀ g,vb.ownBlock=some g→g<w.heap.size):=fun g hg=>(World.ownsRow.lt ho g hg).2
 have hg0:=hI.2.1
 have hl2:l.length+2≤60000:=by simpa [ptr] using hl
 have HE:=aH he
 have HB:=aH hb
 clear hm ho hI hl he hb
 gi_wp2_with fail
 refine ⟨trivial,rfl,?_⟩
 refine (callsIn_wide.2 (ends_o _ _)).mono ?_
 rintro e W2 ⟨rfl,e4,hb2,e2⟩
 have e0:It.Box W2 w.heap.size (.pointer (some ⟨mb,0,none⟩)) 216:=(It.Box.new _ _ _).below hb2 (by simp)
 have e5:Below w.heap.size w W2:=((Below.refl _ _).alloc (Nat.le_refl _) _).trans (hb2.mono (by simp))
 simp only [World.size_alloc] at e4 e2
 have HM2:=aH ((aU HM).kept (e5.block mb hlt))
 have HO2:Hid (OwnB W2 base vb l):=own_below (aU HO) e5
 have HT2:Hid (TF mb base w W2):=TF.of_below e5
 have HI2:Hid (PlAt mb W2 vp ps∧G W2):=⟨(aU HI).1.tf (aU HT2),(aU HI).2.below e5⟩
 gi_wp2_with fail
 have hgrow : ∀ r,Below W2.heap.size W2 ((W2.alloc (.deferred (some []))).alloc (.loop r)):=fun r=>((Below.refl _ _).alloc (Nat.le_refl _) _).alloc (by simp) _
 have hvp:Hid (∀ g,vp.ownBlock=some g→g<w.heap.size):=fun g hg=>by
  obtain ⟨b',ho',_⟩:=(aU HI).1
  exact (World.ownsRow.lt ho' g hg).2
 refine It.rangeE (xs:=ends x) (encs:=fun e:Str=>#[.string (B e)]) (St:=fun A B=>Below A.heap.size A B) (Kp:=fun A B=>A.heap.size≤B.heap.size∧B.heap[0]? = A.heap[0]?) (Kx:=fun _ _=>True)
  (gf:=241) (lb:=#[.pointer (some ⟨w.heap.size+1,0,none⟩)]) rfl (enters_of Tryz.func241 (by kernel_rfl) rfl) (fun _=>rfl) ?seq
  [0] (by simp; omega) (fun A B h=>h) (fun A B h h'=>⟨h',h _ (by simp)⟩) (fun _ _=>trivial)
  (fun i W=>i=0∧MsgAt W mb vb vp∧OwnB W base vb l∧TF mb base w W∧It.Box W w.heap.size (.pointer (some ⟨mb,0,none⟩)) 216∧PlAt mb W vp ps∧G W)
  (fun c W=>c=.ret∧∃ vb',MsgAt W mb vb' vp∧OwnB W base vb' (l++ptr ps[j0].2)∧TF mb base w W∧∀ g,vb'.ownBlock=some g→g≠W2.heap.size+1)
  (fun i A B h hA hk=>⟨h.1,h.2.1.kept (hk.block mb h.2.1.lt (by omega)),own_kept h.2.2.1 (fun g hg=>hk.block g (World.ownsRow.lt h.2.2.1 g hg).2 (by have:=aU hvb g hg; omega)),h.2.2.2.1.keeps hk (by omega),It.Box.kept h.2.2.2.2.1 (hk.block _ (It.Box.lt h.2.2.2.2.1) (by omega)),by
   obtain ⟨b',ho',hm'⟩:=h.2.2.2.2.2.1
   exact ⟨b',own_kept ho' (fun g hg=>hk.block g (World.ownsRow.lt ho' g hg).2 (by have:=aU hvp g hg; omega)),hm'⟩,by
   obtain ⟨g0,m,hc⟩:=h.2.2.2.2.2.2
   exact ⟨Nat.lt_of_lt_of_le g0 hk.size,m,(World.cell?_of_block (hk.block 0 g0 (by omega))).trans hc⟩⟩)
  (fun c A B h hA hk=>by
   obtain ⟨hc,vb',h1,h2,h3,h4⟩:=h
   exact ⟨hc,vb',h1.kept (hk.block mb h1.lt (by omega)),own_kept h2 (fun g hg=>hk.block g (World.ownsRow.lt h2 g hg).2 (h4 g hg)),h3.keeps hk (by omega),h4⟩)
  ⟨rfl,aU HM2,aU HO2,aU HT2,e0,(aU HI2).1,(aU HI2).2⟩
  ?round ?done ?stop
 case seq =>
  intro r
  have hg:=hgrow r
  exact ends_seq _ x _ ((hg.cell (p:=⟨w.heap.size+1,0,none⟩) (by show w.heap.size+1<W2.heap.size; omega)).trans e2) ((aU HI2).2.below hg) hxl
 case round =>
  intro l' i y V W hy hI hsz hd1 hd2
  obtain ⟨rfl,hmW,hoW,htW,hbW,hpW,hgW⟩:=hI
  rw [ends_cons x hx] at hy
  simp only [List.getElem?_cons_zero,Option.some.injEq] at hy
  subst hy
  obtain ⟨b',hopW,hpm⟩:=hpW
  have HPO:=aH (placeOf_hit mb b' j0 x vb vp ps W hmW hopW hj (aU HE) (aU HB) hps)
  have cb:=hbW.cell
  have HMW:=aH hmW
  have HOW:=aH hoW
  have HTW:=aH htW
  have HBW:=aH hbW
  have hmlt:=hmW.lt
  clear hmW hoW htW hbW hopW hgW
  generalize hpn:ps[j0].2=pn at *
  have hpI:(0:Int)≤(pn:Int):=by omega
  gi_wp2_with fail
  refine ⟨trivial,?_⟩
  gi_wp2_with fail
  refine ⟨trivial,rfl,?_⟩
  refine (CallsIn.inRound l' (callsIn_wide.2 (aU HPO))).mono ?_
  rintro e W3 ⟨rfl,hb3⟩
  have HT3:Hid (TF mb base w W3):=(aU HTW).trans (TF.of_below hb3)
  have HM3:=aH ((aU HMW).kept (hb3.block mb hmlt))
  have HO3:Hid (OwnB W3 base vb l):=own_below (aU HOW) hb3
  have c3:=((aU HBW).below hb3 (aU HBW).lt).cell
  have hs3:=hb3.size
  have f1:=(hb3.block _ (by omega)).trans hd1
  have f2 : ∃ r,W3.heap[W2.heap.size+1]? = some (.loop r):=by
   obtain ⟨r,hr⟩:=hd2
   exact ⟨r,(hb3.block _ (by omega)).trans hr⟩
  have hor:=or_place pn hn
  clear HPO HMW HOW HTW HBW cb hd1 hd2
  have HF1:=aH f1
  have HF2:=aH f2
  have hbase3:base≤W3.heap.size:=Nat.le_trans hbs (aU HT3).size
  have hm3lt:=(aU HM3).lt
  have hnew:=World.alloc_heap_new W3 (.cells #[.iface 284 (.int .u16 ((49152+pn:Nat):Int))] 297)
  have HPUT:=aH (put_any mb base W3.heap.size 1 [fShort (49152+pn)] vb vp l (W3.alloc (.cells #[.iface 284 (.int .u16 ((49152+pn:Nat):Int))] 297)) ((Below.heap_alloc _ _ _ hm3lt).trans (aU HM3)) ((aU HO3).alloc _) (by simp; omega)
   (fun f hf=>by simp at hf; subst hf; exact short_ok _ (by omega)) (by simp) (by omega) (.inr fun cur h=>by rw [hnew] at h; simp at h)
   (fun j hj=>by
    match j,hj with
    | 0,_=>unfold World.cell?; rw [hnew]; rfl
    | j+1,hj=>simp at hj) (by simp) (by simp) (by simp [outs,fShort]; omega))
  clear f1 f2 hnew
  have hwr:IntKind.u16.wrap ((49152+pn:Nat):Int)=((49152+pn:Nat):Int):=by rw [IntKind.wrap_u16]; omega
  have hor':bits BinOp.or IntKind.i64 49152 (pn:Int)=((49152+pn:Nat):Int):=hor
  clear hor
  obtain ⟨q,hq⟩ : ∃ q,q=49152+pn:=⟨_,rfl⟩
  rw [← hq] at HPUT hwr hor'
  have HQ:=aH hq
  clear hq
  gi_wp2_with fail
  refine ⟨trivial,rfl,?_⟩
  refine (CallsIn.inRound l' (callsIn_wide.2 (aU HPUT))).mono ?_
  rintro e W4 ⟨rfl,⟨vb4,h1,h2⟩,h3⟩
  have T4:TF mb base W3 W4:=(TF.of_below ((Below.refl _ _).alloc (Nat.le_refl _) _)).trans h3
  have f1:=aU HF1
  obtain ⟨r,f2⟩:=aU HF2
  have g1:W4.heap[W2.heap.size]? = W3.heap[W2.heap.size]?:=T4.block _ (by omega) (by omega) (.inr fun c hc=>by rw [f1] at hc; cases hc)
  have g2:W4.heap[W2.heap.size+1]? = W3.heap[W2.heap.size+1]?:=T4.block _ (by omega) (by omega) (.inr fun c hc=>by rw [f2] at hc; cases hc)
  have hnb : ∀ g,vb4.ownBlock=some g→g≠W2.heap.size+1:=fun g hg e=>by
   obtain ⟨cur,hcur⟩:=own_kindB h2 hg
   rw [e,g2,f2] at hcur
   cases hcur
  have HR:Hid (It.Loops W2.heap.size W W4∧∃ vb',MsgAt W4 mb vb' vp∧OwnB W4 base vb' (l++ptr pn)∧TF mb base w W4∧∀ g,vb'.ownBlock=some g→g≠W2.heap.size+1) :=
   ⟨⟨Nat.le_trans hs3 T4.size,g1.trans (hb3.block _ (by omega)),g2.trans (hb3.block _ (by omega))⟩,vb4,h1,by rw [show ptr pn=outs [fShort q] by rw [aU HQ]; rfl]; exact h2,(aU HT3).trans T4,hnb⟩
  clear h1 h2 h3 T4 f1 f2 g1 g2 hnb HF1 HF2 HPUT
  gi_wp2_with fail
  exact ⟨(aU HR).1,rfl,(aU HR).2⟩
 case done =>
  intro W hI hdef hsz
  exfalso
  have:=hI.1
  rw [ends_cons x hx] at this
  simp at this
 case stop =>
  intro c W hI hdef hsz
  obtain ⟨rfl,vb',h1,h2,h3,h4⟩:=hI
  have H:=aH (And.intro h1 (And.intro h2 h3))
  clear h1 h2 h3 h4
  gi_wp2_with fail
  refine ⟨by simp,.inl ⟨_,_,rfl,run_takeDeferred hdef,?_⟩⟩
  obtain ⟨h1,h2,h3⟩:=aU H
  have hmW:mb≠W2.heap.size:=by omega
  have hkp:=It.Keeps.put (d:=W2.heap.size) W W2.heap.size (.deferred none)
  have hnb : ∀ g,vb'.ownBlock=some g→g≠W2.heap.size:=fun g hg e=>by
   obtain ⟨cur,hcur⟩:=own_kindB h2 hg
   rw [e,hdef] at hcur
   cases hcur
  exact ⟨.tuple #[],by simp [results,Tryz.results338],rfl,⟨vb',h1.kept (hkp.block mb h1.lt hmW),own_kept h2 fun g hg=>hkp.block g (World.ownsRow.lt h2 g hg).2 (hnb g hg)⟩,h3.keeps hkp (by omega)⟩
end Ws
end Go.Proofs.YtkkpahmoljiepaaGreatDoor

set_option maxRecDepth 1000000
set_option maxHeartbeats 12800000
namespace Go.Proofs.YtkkpahmoljiepaaGreatDoor
open Go.RowKit
open Pu (Str aH aU)
def rVal (r:Rec):Value:=.agg #[.string (B r.owner),.int .i64 r.ttl,.int .i64 r.type,.string (B r.data)]
namespace Wt
open Ka Rg Ia Wa Wb Wc Wd We Wf Wg Wh Wi Wj Wk Wl Wm Wn Wo Wp Wq Ws Re
structure RrOk (mb base:Nat) (vp:Value) (ps:List (Str×Nat)) (r:Rec) (p:Nat) (df:List Fd):Prop where
 own:(fComp r.owner p).OkI mb base vp (fun w=>PlAt mb w vp ps∧G w)
 typ:r.type=(r.type.toNat:Int)∧r.type.toNat<65536
 ttl:r.ttl<4294967296
 data : ∀ W,G W→Calls Tryz.prog 254 #[rVal r] W fun e w'=>(∃ v,e=.returned v∧OwnF w' W.heap.size v df)∧Below W.heap.size W w'
 ok : ∀ f∈df,f.Ok
 ne:df≠[]
 few:df.length≤1000
def rrFs (r:Rec) (p g cap:Nat) (df:List Fd):List Fd:=[fComp r.owner p,fShort r.type.toNat,fShort 1,fLong r.ttl,fSized g cap df]
def rrOut (r:Rec) (p:Nat) (df:List Fd):Str:=outs (rrFs r p 0 0 df)
theorem OkI_mono {mb base:Nat} {vp:Value} {I J:World→Prop} {f:Fd} (h:f.OkI mb base vp I) (hij : ∀ w,J w→I w):f.OkI mb base vp J :=
 ⟨h.1,h.2.1,fun vb l w hj hm ho hb hl=>h.2.2 vb l w (hij w hj) hm ho hb hl⟩
theorem fdsAt_of_own {mb base:Nat} {w:World} {v:Value} {fs:List Fd} (h:OwnF w base v fs) (hne:fs≠[]) (hm:mb<base) : ∃ g cap,v=.slice (some ⟨g,0,none⟩) fs.length cap∧fs.length≤cap∧FdsAt mb w g fs:=by
 have h0:=h
 obtain ⟨_,⟨rfl,hz⟩ | ⟨g,cap,cur,rfl,hb,hcur,hc,_⟩⟩:=h
 ·exact absurd (List.eq_nil_of_length_eq_zero hz) hne
 ·refine ⟨g,cap,rfl,hc,(Array.getElem?_eq_some_iff.1 hcur).1,by omega,fun c hcc=>?_,fun j hj=>?_⟩
  ·rw [hcur] at hcc; simp at hcc
  ·have:=World.ownsRow.cellAt h0 j (by omega)
   rw [this]; simp [hj]
theorem put_rr (mb base g cap p:Nat) (vp:Value) (ps:List (Str×Nat)) (r:Rec) (df:List Fd) (hr:RrOk mb base vp ps r p df) (hb0:0<base) (hm0:0<mb) (vb:Value) (l:Str) (w:World) (hI:PlAt mb w vp ps∧G w) (hF:FdsAt mb w g df) (hcap:df.length≤cap)
  (hm:MsgAt w mb vb vp) (ho:OwnB w base vb l) (hbs:base≤w.heap.size) (hl:l.length+(rrOut r p df).length≤60000) :
  Calls Tryz.prog 139 #[.pointer (some ⟨mb,0,none⟩),.slice (some ⟨w.heap.size,0,none⟩) 5 5] (w.alloc (.cells #[.iface 291 (.string (B r.owner)),.iface 284 (.int .u16 r.type.toNat),.iface 284 (.int .u16 1),.iface 344 (.int .u32 r.ttl),.iface 293 (.slice (some ⟨g,0,none⟩) df.length cap)] 297)) fun e w' =>
   e=.returned (.tuple #[])∧(∃ vb',MsgAt w' mb vb' vp∧OwnB w' base vb' (l++rrOut r p df))∧TF mb base w w':=by
 have hnew:=World.alloc_heap_new w (.cells #[.iface 291 (.string (B r.owner)),.iface 284 (.int .u16 r.type.toNat),.iface 284 (.int .u16 1),.iface 344 (.int .u32 r.ttl),.iface 293 (.slice (some ⟨g,0,none⟩) df.length cap)] 297)
 have hba:Below w.heap.size w (w.alloc (.cells #[.iface 291 (.string (B r.owner)),.iface 284 (.int .u16 r.type.toNat),.iface 284 (.int .u16 1),.iface 344 (.int .u32 r.ttl),.iface 293 (.slice (some ⟨g,0,none⟩) df.length cap)] 297)):=(Below.refl _ _).alloc (Nat.le_refl _) _
 have hta:TF mb base w _:=TF.of_below hba
 have hmlt:=hm.lt
 have hst:Stable mb base (fun w=>(PlAt mb w vp ps∧G w)∧FdsAt mb w g df):=fun w w' h ht=>⟨⟨h.1.1.tf ht,h.1.2.tf ht hb0 hm0⟩,h.2.tf ht⟩
 refine (put_I mb base w.heap.size 5 (fun w=>(PlAt mb w vp ps∧G w)∧FdsAt mb w g df) (rrFs r p g cap df) vb vp l _ (hst _ _ ⟨hI,hF⟩ hta) hst ((Below.heap_alloc _ _ _ hmlt).trans hm) (ho.alloc _) (by simp; omega) ?_ (by simp) (by omega) (.inr ?_) ?_ (by simp [rrFs]) (by simp [rrFs]) hl).mono ?_
 ·intro f hf
  simp only [rrFs,List.mem_cons,List.mem_nil_iff,or_false] at hf
  rcases hf with rfl | rfl | rfl | rfl | rfl
  ·exact OkI_mono hr.own fun _ h=>h.1
  ·exact (short_ok _ hr.typ.2).toI _ _ _ _
  ·exact (short_ok _ (by omega)).toI _ _ _ _
  ·exact (long_ok _ hr.ttl).toI _ _ _ _
  ·exact ⟨m_sized _ _ _,c_sized,sized_w mb base g cap vp _ df hst (fun _ h=>h.2) (fun f hf=>(hr.ok f hf).toI _ _ _ _) hcap (by have:=hr.few; omega)⟩
 ·intro cur h
  rw [hnew] at h
  simp at h
 ·intro j hj
  match j,hj with
  | 0,_=>unfold World.cell?; rw [hnew]; rfl
  | 1,_=>unfold World.cell?; rw [hnew]; rfl
  | 2,_=>unfold World.cell?; rw [hnew]; rfl
  | 3,_=>unfold World.cell?; rw [hnew]; rfl
  | 4,_=>unfold World.cell?; rw [hnew]; rfl
  | j+5,hj=>simp [rrFs] at hj; omega
 rintro e w2 ⟨rfl,h1,h2⟩
 exact ⟨rfl,h1,hta.trans h2⟩
def RB (W:World) (b:Nat) (r:Rec):Prop:=W.heap[b]? = some (.cells #[.string (B r.owner),.int .i64 r.ttl,.int .i64 r.type,.string (B r.data)] 47)
theorem RB.cells {W:World} {b:Nat} {r:Rec} (h:RB W b r):W.cell? ⟨b,0,none⟩=some (.string (B r.owner))∧W.cell? ⟨b,1,none⟩=some (.int .i64 r.ttl)∧W.cell? ⟨b,2,none⟩=some (.int .i64 r.type)∧W.cell? ⟨b,3,none⟩=some (.string (B r.data)):=by
 unfold RB at h
 refine ⟨?_,?_,?_,?_⟩ <;> simp [World.cell?,h]
theorem RB.tf {W W':World} {b mb base:Nat} {r:Rec} (h:RB W b r) (ht:TF mb base W W') (hb:b≠mb):RB W' b r :=
 (ht.block b (Array.getElem?_eq_some_iff.1 h).1 hb (.inr fun c hc=>by rw [h] at hc; simp at hc)).trans h
theorem own_sl {w:World} {base:Nat} {v:Value} {l:Str} (h:OwnB w base v l) : ∃ a c,v=.slice a l.length c:=by
 obtain ⟨_,⟨rfl,hz⟩ | ⟨g,cap,cur,rfl,_⟩⟩:=h
 ·exact ⟨none,0,by rw [hz]⟩
 ·exact ⟨_,_,rfl⟩
theorem flat_take {α:Type} (f:α→Str) (l:List α) (k:Nat) (h:k<l.length):(l.take (k+1)).flatMap f=(l.take k).flatMap f++f l[k]:=by
 rw [List.take_succ_eq_append_getElem h,List.flatMap_append]; simp
theorem flat_le {α:Type} (f:α→Str) (l:List α) (k:Nat):((l.take k).flatMap f).length≤(l.flatMap f).length:=by
 have:l.flatMap f=(l.take k).flatMap f++(l.drop k).flatMap f:=by rw [← List.flatMap_append,List.take_append_drop]
 rw [this]; simp
theorem fit_yes (mb base b off cap:Nat) (size:Int) (p:Rec→Nat) (df:Rec→List Fd) (rs:List Rec) (ps:List (Str×Nat)) (vb vp:Value) (l:Str) (w:World) (hm:MsgAt w mb vb vp) (ho:OwnB w base vb l) (hp:PlAt mb w vp ps) (hg:G w) (hbs:base≤w.heap.size) (hb0:0<base) (hm0:0<mb)
  (hr:bE w b off rs) (hbb:b<base) (hbm:b≠mb) (hcap:rs.length≤cap) (hlen:rs.length≤3001) (hok : ∀ r∈rs,RrOk mb base vp ps r (p r) (df r)) (hl:l.length+(rs.flatMap fun r=>rrOut r (p r) (df r)).length≤60000) (hsz:((l.length+(rs.flatMap fun r=>rrOut r (p r) (df r)).length:Nat):Int)≤size) :
  Calls Tryz.prog 203 #[.pointer (some ⟨mb,0,none⟩),.int .i64 size,.slice (some ⟨b,off,none⟩) rs.length cap] w fun e w' =>
   e=.returned (.bool true)∧(∃ vb',MsgAt w' mb vb' vp∧OwnB w' base vb' (l++rs.flatMap fun r=>rrOut r (p r) (df r)))∧TF mb base w w':=by
 obtain ⟨a1,n1,c1,rfl⟩:=own_slice ho
 obtain ⟨a2,n2,c2,rfl⟩ : ∃ a n c,vp=.slice a n c:=by obtain ⟨_,h,_⟩:=hp; exact own_slice h
 obtain ⟨m0,m1⟩:=hm.cells
 have hmlt:=hm.lt
 have hT1:TF mb base w (w.alloc (.cells #[.slice a1 n1 c1,.slice a2 n2 c2] 283)):=TF.of_below ((Below.refl _ _).alloc (Nat.le_refl _) _)
 have HM:=aH (show MsgAt (w.alloc (.cells #[.slice a1 n1 c1,.slice a2 n2 c2] 283)) mb _ _ from (Below.heap_alloc _ _ _ hmlt).trans hm)
 have HO:Hid (OwnB (w.alloc (.cells #[.slice a1 n1 c1,.slice a2 n2 c2] 283)) base (.slice a1 n1 c1) l):=ho.alloc _
 have HT1:=aH hT1
 have HP:=aH hp
 have HG:=aH hg
 have HR:=aH hr
 have HOK:=aH hok
 have hblt:=hr.1
 clear hm ho hp hg hr hok hT1
 generalize hout:(fun r=>rrOut r (p r) (df r))=out at *
 go_enter Tryz.func203,Tryz.ntmps203
 go_wp2_with fail
 go_loopw [15] (fun i wr=>∃ (k:Nat) (vb':Value),i=.int .i64 k∧k≤rs.length∧MsgAt wr mb vb' (.slice a2 n2 c2)∧OwnB wr base vb' (l++(rs.take k).flatMap out)∧TF mb base w wr) (fun i _=>rs.length - (intOf i).toNat)
 case atStart=>exact ⟨0,_,rfl,Nat.zero_le _,aU HM,by simpa using aU HO,aU HT1⟩
 case round =>
  obtain ⟨k,vb',rfl,hk,hmr,hor,htr⟩:=hrel
  have HMR:=aH hmr
  have HOR:=aH hor
  have HTR:=aH htr
  have hsr:=htr.size
  by_cases hlt:k<rs.length
  ·have hkI:(k:Int)<(rs.length:Int):=by omega
   have hrr:=Ia.bE.kept (aU HR) htr.size (htr.block b hblt hbm (.inl hbb))
   obtain ⟨q0,q1,q2,q3⟩:=hrr.four k hlt
   have hrk:=aU HOK rs[k] (List.getElem_mem hlt)
   have HFT:=aH (flat_take out rs k hlt)
   have HFL:=aH (flat_le out rs (k+1))
   have hor2:Hid (out rs[k]=rrOut rs[k] (p rs[k]) (df rs[k])):=by rw [Hid,← hout]
   have hgr:=((aU HG).tf htr hb0 hm0)
   have hpr:=(aU HP).tf htr
   have hW0:Below wr.heap.size wr (wr.alloc (.cells #[.string (B rs[k].owner),.int .i64 rs[k].ttl,.int .i64 rs[k].type,.string (B rs[k].data)] 47)):=(Below.refl _ _).alloc (Nat.le_refl _) _
   have hnewr:RB (wr.alloc (.cells #[.string (B rs[k].owner),.int .i64 rs[k].ttl,.int .i64 rs[k].type,.string (B rs[k].data)] 47)) wr.heap.size rs[k]:=World.alloc_heap_new wr _
   obtain ⟨r,hrE⟩ : ∃ r,r=rs[k]:=⟨_,rfl⟩
   rw [← hrE] at q0 q1 q2 q3 hrk hor2 hW0 hnewr
   have HFT2:Hid (List.flatMap out (List.take (k+1) rs)=List.flatMap out (List.take k rs)++out r):=by rw [hrE]; exact aU HFT
   clear hrr hmr hor htr hrE HFT
   have hbx:wr.heap.size≠mb:=by omega
   have HD:Hid (∀ W1,Below wr.heap.size wr W1→RB W1 wr.heap.size r→Calls Tryz.prog 254 #[.agg #[.string (B r.owner),.int .i64 r.ttl,.int .i64 r.type,.string (B r.data)]] W1.drew fun e w'=>∃ g cp,e=.returned (.slice (some ⟨g,0,none⟩) (df r).length cp) ∧
     (w'.cell? ⟨wr.heap.size,0,none⟩=some (.string (B r.owner))∧w'.cell? ⟨wr.heap.size,1,none⟩=some (.int .i64 r.ttl)∧w'.cell? ⟨wr.heap.size,2,none⟩=some (.int .i64 r.type)∧w'.cell? ⟨wr.heap.size,3,none⟩=some (.string (B r.data))) ∧
     Hid ((df r).length≤cp∧FdsAt mb w' g (df r)∧RB w' wr.heap.size r∧MsgAt w' mb vb' (.slice a2 n2 c2)∧OwnB w' base vb' (l++(rs.take k).flatMap out)∧(PlAt mb w' (.slice a2 n2 c2) ps∧G w')∧TF mb base w w')):=by
    intro W1 hb1 hr1
    have hb1d:Below wr.heap.size wr W1.drew:=hb1.drew
    refine (hrk.data W1.drew (hgr.below hb1d)).mono ?_
    rintro e w' ⟨⟨v,rfl,hv⟩,hb2⟩
    obtain ⟨g,cp,rfl,hcp,hfd⟩:=fdsAt_of_own (mb:=mb) hv hrk.ne (by have:=hb1d.size; omega)
    have hr2:RB w' wr.heap.size r:=(hb2.block _ (Array.getElem?_eq_some_iff.1 hr1).1).trans hr1
    have hb3:Below wr.heap.size wr w':=hb1d.trans (hb2.mono hb1d.size)
    have ht3:TF mb base wr w':=TF.of_below hb3
    exact ⟨g,cp,rfl,hr2.cells,hcp,hfd,hr2,(aU HMR).kept (hb3.block mb (by omega)),own_below (aU HOR) hb3,⟨hpr.tf ht3,hgr.below hb3⟩,(aU HTR).trans ht3⟩
   have HPP:Hid (∀ g cp W2,Hid ((df r).length≤cp∧FdsAt mb W2 g (df r)∧RB W2 wr.heap.size r∧MsgAt W2 mb vb' (.slice a2 n2 c2)∧OwnB W2 base vb' (l++(rs.take k).flatMap out)∧(PlAt mb W2 (.slice a2 n2 c2) ps∧G W2)∧TF mb base w W2) →
     Calls Tryz.prog 139 #[.pointer (some ⟨mb,0,none⟩),.slice (some ⟨W2.heap.size,0,none⟩) 5 5] (W2.alloc (.cells #[.iface 291 (.string (B r.owner)),.iface 284 (.int .u16 r.type.toNat),.iface 284 (.int .u16 1),.iface 344 (.int .u32 r.ttl),.iface 293 (.slice (some ⟨g,0,none⟩) (df r).length cp)] 297)) fun e w' =>
      e=.returned (.tuple #[])∧(w'.cell? ⟨wr.heap.size,0,none⟩=some (.string (B r.owner))∧w'.cell? ⟨wr.heap.size,1,none⟩=some (.int .i64 r.ttl)∧w'.cell? ⟨wr.heap.size,2,none⟩=some (.int .i64 r.type)∧w'.cell? ⟨wr.heap.size,3,none⟩=some (.string (B r.data))) ∧
      Hid (∃ vb2,MsgAt w' mb vb2 (.slice a2 n2 c2)∧OwnB w' base vb2 (l++(rs.take (k+1)).flatMap out)∧TF mb base w w')):=by
    intro g cp W2 hB
    obtain ⟨hcp,hfd,hr2,hm2,ho2,hi2,ht2⟩:=aU hB
    refine (put_rr mb base g cp (p r) (.slice a2 n2 c2) ps r (df r) hrk hb0 hm0 vb' (l++(rs.take k).flatMap out) W2 hi2 hfd hcp hm2 ho2 (Nat.le_trans hbs ht2.size) ?_).mono ?_
    ·rw [← aU hor2,List.length_append]
     have:=aU HFL
     rw [aU HFT2,List.length_append] at this
     omega
    ·rintro e w' ⟨rfl,⟨vb2,h1,h2⟩,h3⟩
     refine ⟨rfl,(hr2.tf h3 hbx).cells,vb2,h1,?_,ht2.trans h3⟩
     rw [List.append_assoc,← aU hor2,← aU HFT2] at h2
     exact h2
   have x1:IntKind.u16.wrap r.type=(r.type.toNat:Int):=by
    have h1:=hrk.typ.1
    have h2:=hrk.typ.2
    rw [IntKind.wrap_u16]; omega
   have x2:IntKind.u32.wrap (r.ttl:Int)=(r.ttl:Int):=by
    have h1:=hrk.ttl
    rw [IntKind.wrap_u32]; omega
   clear hrk hor2 HFL hgr hpr
   obtain ⟨tn,htn⟩ : ∃ tn,tn=r.type.toNat:=⟨_,rfl⟩
   rw [← htn] at x1 HPP
   clear htn
   go_wp2_with fail
   have HD1:=aH (aU HD _ hW0 hnewr)
   have hS1:=hnewr.cells
   clear hW0 hnewr HD q0 q1 q2 q3
   generalize (wr.alloc (.cells #[.string (B r.owner),.int .i64 r.ttl,.int .i64 r.type,.string (B r.data)] 47))=W1 at *
   have hS:(W1.drew.cell? ⟨wr.heap.size,0,none⟩=some (.string (B r.owner))∧W1.drew.cell? ⟨wr.heap.size,1,none⟩=some (.int .i64 r.ttl)∧W1.drew.cell? ⟨wr.heap.size,2,none⟩=some (.int .i64 r.type)∧W1.drew.cell? ⟨wr.heap.size,3,none⟩=some (.string (B r.data))):=hS1
   clear hS1
   go_region_held (fun w'=>w'.cell? ⟨wr.heap.size,0,none⟩=some (.string (B r.owner))∧w'.cell? ⟨wr.heap.size,1,none⟩=some (.int .i64 r.ttl)∧w'.cell? ⟨wr.heap.size,2,none⟩=some (.int .i64 r.type)∧w'.cell? ⟨wr.heap.size,3,none⟩=some (.string (B r.data))) (first | assumption | go_keep)
    (first
     | (go_at_call 254; go_loud (refine (aU HD1).mono ?_; rintro e w2 ⟨g,cp,rfl,hS2,HB2⟩))
     | (go_at_call 139; go_loud (refine (aU HPP _ _ _ HB2).mono ?_; rintro e w3 ⟨rfl,hS3,HB3⟩)))
   rename_i hH
   clear hH hS hS2 hS3 HB2 HD1 HPP
   go_wp2_with fail
   obtain ⟨vb2,h1,h2,h3⟩:=aU HB3
   exact ⟨⟨k+1,vb2,by go_num,by omega,h1,h2,h3⟩,by simp [intOf]; omega⟩
  ·have hkl:k=rs.length:=by omega
   subst hkl
   rw [List.take_length] at hor
   obtain ⟨ab,cb,rfl⟩:=own_sl hor
   have c0:=hmr.cells.1
   have HF:=aH (And.intro hmr (And.intro hor htr))
   have hgt : ¬ size<((l++rs.flatMap out).length:Int):=by rw [List.length_append]; omega
   clear hmr hor htr HMR HOR
   generalize (l++rs.flatMap out).length=N at *
   go_wp2_with fail
   go_ret
   exact ⟨rfl,⟨_,(aU HF).1,(aU HF).2.1⟩,(aU HF).2.2⟩
end Wt
namespace Wu
open Ka Kd Rf Rg Ia Iow Ie Zb Zc Za La Lb Lg Wa Wb Wc Wd We Wf Wg Wh Wi Wj Wk Wl Wm Wn Wo Wp Wq Ws Wt Re
structure FB (s mb:Nat) (size:Int) (cs:List Int) (W:World):Prop where
 b0:It.Box W s (.pointer (some ⟨mb,0,none⟩)) 216
 b1:It.Box W (s+1) (.int .i64 size) 3
 b2:It.Box W (s+2) (.slice none 0 0) 56
 b3:NumsAt W (s+3) cs 3
 b4:It.Box W (s+4) (.slice (some ⟨s+3,0,none⟩) 3 3) 56
theorem FB.kept {s mb:Nat} {size:Int} {cs:List Int} {W W':World} (h:FB s mb size cs W) (hk : ∀ k,s≤k→k<s+5→W'.heap[k]? = W.heap[k]?):FB s mb size cs W' :=
 ⟨(hk _ (by omega) (by omega)).trans h.b0,(hk _ (by omega) (by omega)).trans h.b1,(hk _ (by omega) (by omega)).trans h.b2,(hk _ (by omega) (by omega)).trans h.b3,(hk _ (by omega) (by omega)).trans h.b4⟩
theorem FB.lt {s mb:Nat} {size:Int} {cs:List Int} {W:World} (h:FB s mb size cs W):s+4<W.heap.size:=It.Box.lt h.b4
theorem box_tf {mb base k:Nat} {W W':World} {v:Value} {t:TypeId} (h:It.Box W k v t) (ht:TF mb base W W') (hm:k≠mb) (h8:t≠5):It.Box W' k v t :=
 (ht.block k (It.Box.lt h) hm (.inr fun c hc=>by rw [h] at hc; simp at hc; exact h8 hc.2)).trans h
theorem FB.tf {s mb base:Nat} {size:Int} {cs:List Int} {W W':World} (h:FB s mb size cs W) (ht:TF mb base W W') (hm:mb<s):FB s mb size cs W':=by
 have hl:=h.lt
 refine ⟨box_tf h.b0 ht (by omega) (by decide),box_tf h.b1 ht (by omega) (by decide),box_tf h.b2 ht (by omega) (by decide),(ht.block _ (by omega) (by omega) (.inr fun c hc=>?_)).trans h.b3,box_tf h.b4 ht (by omega) (by decide)⟩
 have:=h.b3
 unfold NumsAt at this
 rw [this] at hc; simp at hc
theorem FB.set {s mb:Nat} {size:Int} {cs:List Int} {W:World} (h:FB s mb size cs W) (k:Nat) (x:Int):FB s mb size (cs.set k x) (W.setCell ⟨s+3,k,none⟩ (.int .i64 x)) :=
 ⟨(Below.heap_setCell _ _ _ _ (by show s≠s+3; omega)).trans h.b0,(Below.heap_setCell _ _ _ _ (by show s+1≠s+3; omega)).trans h.b1,(Below.heap_setCell _ _ _ _ (by show s+2≠s+3; omega)).trans h.b2,h.b3.set k x,(Below.heap_setCell _ _ _ _ (by show s+4≠s+3; omega)).trans h.b4⟩
structure FI (mb base s lb:Nat) (size:Int) (vp:Value) (ps:List (Str×Nat)) (vs:Array Value) (w:World) (ds:List Nat) (cs:List Int) (d:Nat) (out:Str) (W:World):Prop where
 fb:FB s mb size cs W
 lists:W.heap[lb]? = some (.cells vs 41)
 msg : ∃ vb',MsgAt W mb vb' vp∧OwnB W base vb' out∧∀ g,vb'.ownBlock=some g→g≠d
 pl:PlAt mb W vp ps
 g:G W
 tf:TF mb base w W
 defs : ∀ x∈ds,W.heap[x]? = some (.deferred (some []))
section
variable {mb base s lb:Nat} {size:Int} {vp:Value} {ps:List (Str×Nat)} {vs:Array Value} {w:World} {ds:List Nat} {cs:List Int} {d:Nat} {out:Str} {W B:World}
theorem FI.re (h:FI mb base s lb size vp ps vs w ds cs d out W) (d':Nat) (hd : ∀ cur,W.heap[d']?≠some (.cells cur 5 (0,0))):FI mb base s lb size vp ps vs w ds cs d' out W:=by
 obtain ⟨vb,h1,h2,h3⟩:=h.msg
 refine ⟨h.fb,h.lists,⟨vb,h1,h2,fun g hg e=>?_⟩,h.pl,h.g,h.tf,h.defs⟩
 obtain ⟨cur,hcur⟩:=own_kindB h2 hg
 rw [e] at hcur
 exact hd cur hcur
theorem FI.keeps (h:FI mb base s lb size vp ps vs w ds cs d out W) (hk:It.Keeps d W B) (h1:s+4<d) (h2:lb<d) (h3:mb<d) (h4:w.heap.size≤d) (h5 : ∀ g,vp.ownBlock=some g→g<d) (h6 : ∀ x∈ds,x≠d):FI mb base s lb size vp ps vs w ds cs d out B:=by
 obtain ⟨vb,m1,m2,m3⟩:=h.msg
 have hl:=h.fb.lt
 obtain ⟨b',p1,p2⟩:=h.pl
 obtain ⟨g0,gm,gc⟩:=h.g
 refine ⟨h.fb.kept fun k k1 k2=>hk.block k (by omega) (by omega),(hk.block lb (Array.getElem?_eq_some_iff.1 h.lists).1 (by omega)).trans h.lists,⟨vb,m1.kept (hk.block mb m1.lt (by omega)),own_kept m2 fun g hg=>hk.block g (World.ownsRow.lt m2 g hg).2 (m3 g hg),m3⟩,
  ⟨b',own_kept p1 fun g hg=>hk.block g (World.ownsRow.lt p1 g hg).2 (by have:=h5 g hg; omega),p2⟩,⟨Nat.lt_of_lt_of_le g0 hk.size,gm,(World.cell?_of_block (hk.block 0 g0 (by omega))).trans gc⟩,h.tf.keeps hk h4,fun x hx=>(hk.block x (Array.getElem?_eq_some_iff.1 (h.defs x hx)).1 (h6 x hx)).trans (h.defs x hx)⟩
theorem FI.below (h:FI mb base s lb size vp ps vs w ds cs d out W) (hb:Below W.heap.size W B):FI mb base s lb size vp ps vs w ds cs d out B:=by
 obtain ⟨vb,m1,m2,m3⟩:=h.msg
 have hl:=h.fb.lt
 have ht:TF mb base W B:=TF.of_below hb
 exact ⟨h.fb.kept fun k k1 k2=>hb.block k (by omega),(hb.block lb (Array.getElem?_eq_some_iff.1 h.lists).1).trans h.lists,⟨vb,m1.kept (hb.block mb m1.lt),own_below m2 hb,m3⟩,h.pl.tf ht,h.g.below hb,h.tf.trans ht,fun x hx=>(hb.block x (Array.getElem?_eq_some_iff.1 (h.defs x hx)).1).trans (h.defs x hx)⟩
theorem FI.fit (h:FI mb base s lb size vp ps vs w ds cs d out W) (ht:TF mb base W B) {vb:Value} {out':Str} (hm:MsgAt B mb vb vp) (ho:OwnB B base vb out') (h0:mb<s) (h1:lb≠mb) (h2:0<base) (h3:0<mb) (h4 : ∀ x∈ds,x≠mb) (hd : ∀ cur,B.heap[d]?≠some (.cells cur 5 (0,0))):FI mb base s lb size vp ps vs w ds cs d out' B:=by
 refine ⟨h.fb.tf ht h0,(ht.block lb (Array.getElem?_eq_some_iff.1 h.lists).1 h1 (.inr fun c hc=>by rw [h.lists] at hc; simp at hc)).trans h.lists,⟨vb,hm,ho,fun g hg e=>?_⟩,h.pl.tf ht,h.g.tf ht h2 h3,h.tf.trans ht,fun x hx=>(ht.block x (Array.getElem?_eq_some_iff.1 (h.defs x hx)).1 (h4 x hx) (.inr fun c hc=>by rw [h.defs x hx] at hc; cases hc)).trans (h.defs x hx)⟩
 obtain ⟨cur,hcur⟩:=own_kindB ho hg
 rw [e] at hcur
 exact hd cur hcur
theorem FI.set (h:FI mb base s lb size vp ps vs w ds cs d out W) (k:Nat) (x:Int) (h0:mb<s) (h1:lb<s) (h2:w.heap.size≤s) (h3 : ∀ y∈ds,y≠s+3):FI mb base s lb size vp ps vs w ds (cs.set k x) d out (W.setCell ⟨s+3,k,none⟩ (.int .i64 x)):=by
 obtain ⟨vb,m1,m2,m3⟩:=h.msg
 obtain ⟨b',p1,p2⟩:=h.pl
 have hnum:=h.fb.b3
 unfold NumsAt at hnum
 have hne : ∀ k',k'≠s+3→(W.setCell ⟨s+3,k,none⟩ (.int .i64 x)).heap[k']? = W.heap[k']?:=fun k' hk=>Below.heap_setCell _ _ _ _ hk
 refine ⟨h.fb.set k x,(hne lb (by omega)).trans h.lists,⟨vb,m1.kept (hne mb (by omega)),own_kept m2 fun g hg=>hne g fun e=>?_,m3⟩,⟨b',own_kept p1 fun g hg=>hne g fun e=>?_,p2⟩,?_,⟨h.tf.os,h.tf.tape,h.tf.output,Nat.le_trans h.tf.size (by simp [World.setCell]),fun i hi hm hp=>(hne i (by omega)).trans (h.tf.block i hi hm hp)⟩,fun y hy=>(hne y (h3 y hy)).trans (h.defs y hy)⟩
 ·obtain ⟨cur,hcur⟩:=own_kindB m2 hg
  rw [e,hnum] at hcur
  simp at hcur
 ·obtain ⟨_,⟨rfl,_⟩ | ⟨g',cap,cur,rfl,_,hcur,_⟩⟩:=p1
  ·simp [Value.ownBlock] at hg
  ·simp only [Value.ownBlock,Option.some.injEq] at hg
   subst hg
   rw [e,hnum] at hcur
   simp at hcur
 ·obtain ⟨g0,gm,gc⟩:=h.g
  exact ⟨by simpa [World.setCell] using g0,gm,(World.cell?_of_block (hne 0 (by omega))).trans gc⟩
end
theorem sets_b (a:Option Addr) (n c:Nat) (w:World) :
  Calls Tryz.prog 107 #[.slice a n c] w fun e w'=>e=.returned (.func (.func 233) #[] #[.pointer (some ⟨w.heap.size,0,none⟩),.pointer (some ⟨w.heap.size+1,0,none⟩)])∧w'.heap.size=w.heap.size+2∧Below w.heap.size w w' ∧
   It.Box w' w.heap.size (.slice a n c) 41∧It.Box w' (w.heap.size+1) (.func (.func 177) #[] #[]) 261:=by
 refine (sets_any a n c w).mono ?_
 rintro e w' ⟨rfl,rfl⟩
 refine ⟨rfl,by simp,((Below.refl _ _).alloc (Nat.le_refl _) _).alloc (by simp) _,(It.Box.new _ _ _).alloc _,?_⟩
 have:=It.Box.new (w.alloc (.cells #[.slice a n c] 41)) (.func (.func 177) #[] #[]) 261
 rwa [World.size_alloc] at this
def tk (rs:List Rec) (i:Nat):List Rec:=((runs aD rs).take i).flatMap (·.2)
theorem tk_zero (rs:List Rec):tk rs 0 = []:=rfl
theorem tk_succ {rs:List Rec} {i:Nat} {x:Nat×List Rec} (h:(runs aD rs)[i]? = some x):tk rs (i+1)=tk rs i++x.2:=by
 unfold tk; rw [take_one h,List.flatMap_append]; simp
theorem tk_all (rs:List Rec):tk rs (runs aD rs).length=rs:=by
 unfold tk; rw [List.take_length]; exact runs_cat aD _ _ _ (Nat.le_refl _)
theorem tk_le (rs:List Rec) (i:Nat) (f:Rec→Str):((tk rs i).flatMap f).length≤(rs.flatMap f).length:=by
 have h:rs=tk rs i++((runs aD rs).drop i).flatMap (·.2):=by
  unfold tk
  rw [← List.flatMap_append,List.take_append_drop]
  exact (runs_cat aD _ _ _ (Nat.le_refl _)).symm
 conv=>rhs; rw [h,List.flatMap_append,List.length_append]
 omega
theorem tk_len (rs:List Rec) (i:Nat):(tk rs i).length≤rs.length:=by
 have h:rs=tk rs i++((runs aD rs).drop i).flatMap (·.2):=by
  unfold tk
  rw [← List.flatMap_append,List.take_append_drop]
  exact (runs_cat aD _ _ _ (Nat.le_refl _)).symm
 conv=>rhs; rw [h,List.length_append]
 omega
theorem tk_mem {rs:List Rec} {x:Nat×List Rec} (h:x∈runs aD rs) {r:Rec} (hr:r∈x.2):r∈rs:=by
 rw [(runs_piece h).2.2] at hr
 exact List.mem_of_mem_drop (List.mem_of_mem_take hr)
end Wu
end Go.Proofs.YtkkpahmoljiepaaGreatDoor
