/- Contracts: wire's message, with a frame that goes by type: what octets and raw texts write; newMessage. -/
import Derived.Test.YtkkpahmoljiepaaGreatDoorJ16
import Derived.Lib.AppendStr
import Derived.Laws.OwnMore
import Derived.Test.YtkkpahmoljiepaaGreatDoorJ11
import Derived.BigRegion
set_option linter.unusedSimpArgs false
set_option linter.unusedVariables false
set_option maxRecDepth 1000000
set_option maxHeartbeats 12800000
namespace Go.Proofs.YtkkpahmoljiepaaGreatDoor
open Go.RowKit
open Pu (Str aH aU)
def Kp (mb:Nat) (w w':World):Prop:=∀ vb vp,MsgAt w mb vb vp→∃ vb' vp',MsgAt w' mb vb' vp'∧Stp w w' 5 1 vb vb'∧Stp w w' 343 2 vp vp'
theorem Kp.of {mb:Nat} {w w':World} {vb vp vb' vp':Value} (hm:MsgAt w mb vb vp) (hm':MsgAt w' mb vb' vp') (h1:Stp w w' 5 1 vb vb') (h2:Stp w w' 343 2 vp vp'):Kp mb w w':=fun xb xp hx=>by
 unfold MsgAt at hm hx
 rw [hm] at hx
 obtain ⟨rfl,rfl⟩:vb=xb∧vp=xp:=by simpa using hx
 exact ⟨_,_,hm',h1,h2⟩
theorem Kp.trans {mb:Nat} {w w1 w':World} (h:Kp mb w w1) (k:Kp mb w1 w') (hs:w.heap.size≤w1.heap.size):Kp mb w w':=fun vb vp hm=>by
 obtain ⟨b1,p1,m1,x1,y1⟩:=h vb vp hm
 obtain ⟨b2,p2,m2,x2,y2⟩:=k b1 p1 m1
 exact ⟨b2,p2,m2,x1.trans x2 hs,y1.trans y2 hs⟩
theorem Kp.same {mb:Nat} {w w1 w':World} (h:Kp mb w w1) (hb : ∀ i,i<w.heap.size→w'.heap[i]? = w1.heap[i]?):Kp mb w w':=fun vb vp hm=>by
 obtain ⟨b1,p1,m1,x1,y1⟩:=h vb vp hm
 have hlt:=hm.lt
 refine ⟨b1,p1,m1.kept (hb mb hlt),⟨fun i cur hc=>?_,x1.own⟩,⟨fun i cur hc=>?_,y1.own⟩⟩
 ·obtain ⟨c,k1,k2⟩:=x1.row i cur hc
  exact ⟨c,(hb i (Array.getElem?_eq_some_iff.1 hc).1).trans k1,k2⟩
 ·obtain ⟨c,k1,k2⟩:=y1.row i cur hc
  exact ⟨c,(hb i (Array.getElem?_eq_some_iff.1 hc).1).trans k1,k2⟩
theorem Kp.refl (mb:Nat) (w:World):Kp mb w w:=fun vb vp hm=>⟨vb,vp,hm,Stp.refl _ _ _ _,Stp.refl _ _ _ _⟩
theorem Kp.below {mb:Nat} {w w':World} (h:Below w.heap.size w w'):Kp mb w w':=(Kp.refl mb w).same fun i hi=>h.block i hi
theorem Kp.behind {mb:Nat} {w w1:World} {vb vp v1 p1:Value} (h:Kp mb w w1) (hm:MsgAt w mb vb vp) (hm1:MsgAt w1 mb v1 p1) {g k:Nat} (hg:v1.ownBlock=some g) (hk:ownLen vb≤k) {cur:Array Value} (hcur:w1.heap[g]? = some (.cells cur 5 (0,0))) (u:Value):Kp mb w (w1.setCell ⟨g,k,none⟩ u):=by
 obtain ⟨b1,q1,m1,x1,y1⟩:=h vb vp hm
 obtain ⟨rfl,rfl⟩:b1=v1∧q1=p1:=by
  unfold MsgAt at m1 hm1
  rw [m1] at hm1
  simpa using hm1
 have hne : ∀ i,i≠g→(w1.setCell ⟨g,k,none⟩ u).heap[i]? = w1.heap[i]?:=fun i hi=>Below.heap_setCell _ _ _ _ hi
 have hmg:mb≠g:=fun e=>by rw [← e,m1] at hcur; simp at hcur
 refine Kp.of hm (m1.kept (hne mb hmg)) ⟨fun i c hc=>?_,x1.own⟩ ⟨fun i c hc=>?_,y1.own⟩
 ·obtain ⟨c',k1,k2,k3⟩:=x1.row i c hc
  by_cases e:i=g
  ·subst e
   refine ⟨c'.setIfInBounds k u,?_,by simpa using k2,fun j hj=>?_⟩
   ·simp only [World.setCell]
    rw [Array.getElem?_modify,if_pos rfl,k1]; rfl
   ·have hjk:k≠j:=fun e'=>by
     rcases x1.own i hg with ⟨a,b⟩ | a
     ·have:=hj a; omega
     ·have:=(Array.getElem?_eq_some_iff.1 hc).1; omega
    rw [Array.getElem?_setIfInBounds_ne hjk]
    exact k3 j hj
  ·exact ⟨c',(hne i e).trans k1,k2,k3⟩
 ·obtain ⟨c',k1,k2,k3⟩:=y1.row i c hc
  refine ⟨c',(hne i fun e=>?_).trans k1,k2,k3⟩
  rw [e,hcur] at k1
  simp at k1
structure TW (mb base:Nat) (w w':World):Prop where
 os:w'.os=w.os
 tape:w'.tape=w.tape
 output:w'.output=w.output
 size:w.heap.size≤w'.heap.size
 block : ∀ i,i<w.heap.size→i≠mb→(i<base∨∀ cur,w.heap[i]?≠some (.cells cur 5 (0,0)))→w'.heap[i]? = w.heap[i]?
structure TF (mb base:Nat) (w w':World):Prop where
 os:w'.os=w.os
 tape:w'.tape=w.tape
 output:w'.output=w.output
 size:w.heap.size≤w'.heap.size
 block : ∀ i,i<w.heap.size→i≠mb→(i<base∨∀ cur,w.heap[i]?≠some (.cells cur 5 (0,0)))→w'.heap[i]? = w.heap[i]?
 kp:Kp mb w w'
theorem TF.refl (mb base:Nat) (w:World):TF mb base w w:=⟨rfl,rfl,rfl,Nat.le_refl _,fun _ _ _ _=>rfl,Kp.refl _ _⟩
theorem TF.trans {mb base:Nat} {A B C:World} (h:TF mb base A B) (k:TF mb base B C):TF mb base A C :=
 ⟨k.os.trans h.os,k.tape.trans h.tape,k.output.trans h.output,Nat.le_trans h.size k.size,fun i hi hm hp=>by
  have e:=h.block i hi hm hp
  refine (k.block i (Nat.lt_of_lt_of_le hi h.size) hm ?_).trans e
  rw [e]; exact hp,h.kp.trans k.kp h.size⟩
theorem TF.of_below {mb base:Nat} {A B:World} (h:Below A.heap.size A B):TF mb base A B:=⟨h.os,h.tape,h.output,h.size,fun i hi _ _=>h.block i hi,Kp.below h⟩
theorem TF.of_fr {mb base:Nat} {A B:World} {v:Value} {l:Str} (ho:OwnB A base v l) (h:Fr (fun i=>i≠mb∧some i≠v.ownBlock) A B) {vp v':Value} (hm:MsgAt A mb v vp) (hm':MsgAt B mb v' vp) (hs:Stp A B 5 1 v v'):TF mb base A B :=
 ⟨h.os,h.tape,h.output,h.size,fun i hi hm hp=>h.block i hi ⟨hm,fun e=>by
  obtain ⟨_,⟨rfl,_⟩ | ⟨g,cap,cur,rfl,hb,hcur,_⟩⟩:=ho
  ·simp [Value.ownBlock] at e
  ·simp only [Value.ownBlock,Option.some.injEq] at e
   subst e
   rcases hp with hp | hp
   ·omega
   ·exact hp cur hcur⟩,Kp.of hm hm' hs (Stp.same _ _ fun i cur hc=>h.block i (Array.getElem?_eq_some_iff.1 hc).1 ⟨fun e=>by rw [e,hm] at hc; simp at hc,fun e=>by
  obtain ⟨_,⟨rfl,_⟩ | ⟨g,cap,cur',rfl,hb,hcur,_⟩⟩:=ho
  ·simp [Value.ownBlock] at e
  ·simp only [Value.ownBlock,Option.some.injEq] at e
   subst e
   rw [hcur] at hc
   simp at hc⟩)⟩
namespace Wj
open Ka Wa Wb Wc Wd We Wf Wg Wh Wi Re
theorem octet_t (mb base:Nat) (c:UInt8) (vb vp:Value) (l:Str) (w:World) (hm:MsgAt w mb vb vp) (ho:OwnB w base vb l) (hbs:base≤w.heap.size) (hl:l.length≤1000000) :
  Calls Tryz.prog 341 #[.int .u8 c.toNat,.pointer (some ⟨mb,0,none⟩)] w fun e w' =>
   e=.returned (.tuple #[])∧(∃ vb',MsgAt w' mb vb' vp∧OwnB w' base vb' (l++[c]))∧TF mb base w w':=by
 refine (octet_w mb base c vb vp l w hm ho hbs hl).mono ?_
 rintro e w' ⟨rfl,vb',h1,h2,_,h3,h4⟩
 exact ⟨rfl,⟨vb',h1,h2⟩,TF.of_fr ho h4 hm h1 h3⟩
theorem raw_t (mb base:Nat) (s:Str) (vb vp:Value) (l:Str) (w:World) (hm:MsgAt w mb vb vp) (ho:OwnB w base vb l) (hbs:base≤w.heap.size) (hl:l.length≤1000000) (hs:s.length≤1000000000) :
  Calls Tryz.prog 336 #[.string (B s),.pointer (some ⟨mb,0,none⟩)] w fun e w' =>
   e=.returned (.tuple #[])∧(∃ vb',MsgAt w' mb vb' vp∧OwnB w' base vb' (l++s))∧TF mb base w w':=by
 obtain ⟨i0,hi,hz0,hz1,hz2⟩:=info_parts infoB
 have hc0:=hm.cells.1
 have HM:=aH hm
 have HO:=aH ho
 have hlt:=hm.lt
 have hsz:(B s).size=s.length:=size_B s
 have HU:Hid (Tryz.prog.underlying 224=some .string):=by unfold Hid; kernel_rfl
 clear hm ho
 go_enter Tryz.func336,Tryz.ntmps336
 go_wp2_with (at_builtin; go_loud (refine wpList_append_stp_string _ rfl (.tmp 8) (.tmp 9) 58 224 rfl base 5 i0 underB (aU HU) hi hz0 hz1 hz2 _ l.length _ rfl (aU HO) (B s) rfl ?c3 ?c4 hbs ?_))
 case c3=>unfold maxLen; omega
 case c4=>omega
 intro v' w3 hown' hgrow hstp
 obtain ⟨va,vn,vc,rfl⟩:=own_slice hown'
 have HO3:Hid (OwnB w3 base (.slice va vn vc) (l++s)):=by
  unfold Hid OwnB
  rw [List.length_append,List.map_append,← hsz]
  exact hown'
 have hne:some mb≠vb.ownBlock:=msg_ne (aU HM) (aU HO)
 have HM3:=aH ((aU HM).kept (hgrow.block mb hlt hne))
 have HF3:Hid (TF mb base w (w3.setCell ⟨mb,0,none⟩ (.slice va vn vc))):=TF.of_fr (aU HO)
  (Fr.trans ⟨hgrow.os,hgrow.tape,hgrow.output,hgrow.size,fun i hi hp=>hgrow.block i hi hp.2⟩ (Fr.of_set _ fun i h=>h.1)) (aU HM) ((aU HM3).set0 _) (hstp.trans (stp_msg (aU HM3) (by decide) _ _ _ _) hgrow.size)
 have hfz:=(aU HM3).frozen
 have hc:=(aU HM3).cells.1
 clear hown' hgrow hstp hne HM HO
 go_wp2_with fail
 refine bodyPost_end (v:=.tuple #[]) (by simp [results,Tryz.results336]) rfl ?_
 refine ⟨rfl,⟨_,(aU HM3).set0 _,aS (aU HO3) (msg_ne (aU HM3) (aU HO3)) _ _⟩,aU HF3⟩
end Wj
def Wr (fn:FuncId) (x:Value) (out:Str):Prop:=∀ (mb base:Nat) (vb vp:Value) (l:Str) (w:World),MsgAt w mb vb vp→OwnB w base vb l→base≤w.heap.size→l.length+out.length≤1000000 →
 Calls Tryz.prog fn #[x,.pointer (some ⟨mb,0,none⟩)] w fun e w'=>e=.returned (.tuple #[])∧(∃ vb',MsgAt w' mb vb' vp∧OwnB w' base vb' (l++out))∧TF mb base w w'
structure Fd where
 t:TypeId
 x:Value
 fn:FuncId
 out:Str
def Fd.Ok (f : Fd) : Prop := (∀ W : World, (method 521 f.t f.x "beacon/wire.writeTo").run Tryz.prog W = .ok (f.fn, f.x) W) ∧ (∀ (args : Array Value) (W : World), (callFunc f.fn args).run Tryz.prog W = .ok (.enter f.fn args) W) ∧ Wr f.fn f.x f.out
def outs (fs:List Fd):Str:=fs.flatMap (·.out)
namespace Wk
open Ka Wa Wb Wc Wd We Wf Wg Wh Wi Wj Re
theorem outs_take (fs:List Fd) (k:Nat) (h:k<fs.length):outs (fs.take (k+1))=outs (fs.take k)++fs[k].out:=by
 rw [outs,List.take_succ_eq_append_getElem h,List.flatMap_append]; simp [outs]
theorem outs_le (fs:List Fd) (k:Nat):(outs (fs.take k)).length≤(outs fs).length:=by
 have:outs fs=outs (fs.take k)++outs (fs.drop k):=by rw [outs,outs,outs,← List.flatMap_append,List.take_append_drop]
 rw [this]; simp
theorem put_any (mb base g cap:Nat) (fs:List Fd) (vb vp:Value) (l:Str) (w:World) (hm:MsgAt w mb vb vp) (ho:OwnB w base vb l) (hbs:base≤w.heap.size)
  (hok : ∀ f∈fs,f.Ok) (hlt:g<w.heap.size) (hgm:g≠mb) (hkeep:g<base∨∀ cur,w.heap[g]?≠some (.cells cur 5 (0,0))) (hcells : ∀ j (h:j<fs.length),w.cell? ⟨g,j,none⟩=some (.iface fs[j].t fs[j].x))
  (hn:fs.length≤cap) (hc:fs.length≤1000000) (hl:l.length+(outs fs).length≤1000000) :
  Calls Tryz.prog 139 #[.pointer (some ⟨mb,0,none⟩),.slice (some ⟨g,0,none⟩) fs.length cap] w fun e w' =>
   e=.returned (.tuple #[])∧(∃ vb',MsgAt w' mb vb' vp∧OwnB w' base vb' (l++outs fs))∧TF mb base w w':=by
 have HM:=aH hm
 have HO:=aH ho
 have HOK:=aH hok
 have HC:=aH hcells
 have HK:=aH hkeep
 clear hm ho hok hcells hkeep
 go_enter Tryz.func139,Tryz.ntmps139
 go_wp2_with fail
 go_loopw [8] (fun i wr=>∃ (k:Nat) (vb':Value),i=.int .i64 k∧k≤fs.length∧MsgAt wr mb vb' vp∧OwnB wr base vb' (l++outs (fs.take k))∧TF mb base w wr) (fun i _=>fs.length - (intOf i).toNat)
 case atStart=>exact ⟨0,vb,rfl,Nat.zero_le _,aU HM,by simpa [outs] using aU HO,TF.refl _ _ _⟩
 case round =>
  obtain ⟨k,vb',rfl,hk,hm,ho,ht⟩:=hrel
  have HM1:=aH hm
  have HO1:=aH ho
  have HT1:=aH ht
  have hsz:=ht.size
  clear hm ho ht
  by_cases hlk:k<fs.length
  ·have hcell:wr.cell? ⟨g,k,none⟩=some (.iface fs[k].t fs[k].x):=(World.cell?_of_block (w:=w) ((aU HT1).block g hlt hgm (aU HK))).trans (aU HC k hlk)
   have hOK:=aU HOK fs[k] (List.getElem_mem hlk)
   have HE:=aH (outs_take fs k hlk)
   have HL:=aH (outs_le fs (k+1))
   rw [outs_take fs k hlk,List.length_append] at HL
   generalize fs[k]=f at *
   have hmeth:=hOK.1
   have hcf:=hOK.2.1
   have HW:=aH (hOK.2.2 mb base vb' vp _ wr (aU HM1) (aU HO1) (by omega) (by rw [List.length_append]; have:=aU HL; omega))
   clear hOK
   go_wp2_with fail
   refine (aU HW).mono ?_
   rintro e w2 ⟨rfl,⟨vb2,h1,h2⟩,h3⟩
   rw [List.append_assoc,← aU HE] at h2
   have HF:=aH (And.intro h1 (And.intro h2 ((aU HT1).trans h3)))
   clear h1 h2 h3 HW
   go_wp2_with fail
   exact ⟨⟨k+1,vb2,by go_num,by omega,(aU HF).1,(aU HF).2.1,(aU HF).2.2⟩,by simp [intOf]; omega⟩
  ·have hkl:k=fs.length:=by omega
   subst hkl
   have HO2:=aU HO1
   rw [List.take_length] at HO2
   have HO3:=aH HO2
   clear HO2
   go_wp2
   refine bodyPost_end (v:=.tuple #[]) (by simp [results,Tryz.results139]) rfl ?_
   exact ⟨rfl,⟨vb',aU HM1,aU HO3⟩,aU HT1⟩
end Wk
namespace Wl
open Ka Wa Wb Wc Wd We Wf Wg Wh Wi Wj Wk Re
def fOctet (c:UInt8):Fd:=⟨292,.int .u8 c.toNat,341,[c]⟩
def fRaw (s:Str):Fd:=⟨224,.string (B s),336,s⟩
theorem m_octet (n : Int) (W : World) : (method 521 292 (.int .u8 n) "beacon/wire.writeTo").run Tryz.prog W = .ok (341, .int .u8 n) W := by kernel_rfl
theorem m_raw (s : ByteArray) (W : World) : (method 521 224 (.string s) "beacon/wire.writeTo").run Tryz.prog W = .ok (336, .string s) W := by kernel_rfl
theorem c_octet (args:Array Value) (W:World):(callFunc 341 args).run Tryz.prog W=.ok (.enter 341 args) W:=by kernel_rfl
theorem c_raw (args:Array Value) (W:World):(callFunc 336 args).run Tryz.prog W=.ok (.enter 336 args) W:=by kernel_rfl
theorem octet_ok (c:UInt8):(fOctet c).Ok :=
 ⟨m_octet _,c_octet,fun mb base vb vp l w hm ho hbs hl=>octet_t mb base c vb vp l w hm ho hbs (by simp [fOctet] at hl; omega)⟩
theorem raw_ok (s:Str):(fRaw s).Ok :=
 ⟨m_raw _,c_raw,fun mb base vb vp l w hm ho hbs hl=>raw_t mb base s vb vp l w hm ho hbs (by simp [fRaw] at hl; omega) (by simp [fRaw] at hl; omega)⟩
def hi (n:Nat):UInt8:=UInt8.ofNat (n/256)
def lo (n:Nat):UInt8:=UInt8.ofNat n
def fShort (n:Nat):Fd:=⟨284,.int .u16 n,337,[hi n,lo n]⟩
theorem m_short (n : Int) (W : World) : (method 521 284 (.int .u16 n) "beacon/wire.writeTo").run Tryz.prog W = .ok (337, .int .u16 n) W := by kernel_rfl
theorem c_short (args:Array Value) (W:World):(callFunc 337 args).run Tryz.prog W=.ok (.enter 337 args) W:=by kernel_rfl
theorem short_w (n:Nat) (hn:n<65536):Wr 337 (.int .u16 n) [hi n,lo n]:=by
 intro mb base vb vp l w hm ho hbs hl
 have HM:=aH hm
 have HO:=aH ho
 have hlt:=hm.lt
 clear hm ho
 go_enter Tryz.func337,Tryz.ntmps337
 go_wp2_with fail
 have eh:(n:Int)/256=((hi n).toNat:Int):=by unfold hi; rw [UInt8.toNat_ofNat']; omega
 have el:(n:Int)%256=((lo n).toNat:Int):=by unfold lo; rw [UInt8.toNat_ofNat']; omega
 rw [eh,el]
 have hnew:=World.alloc_heap_new w (.cells #[.iface 292 (.int .u8 (hi n).toNat),.iface 292 (.int .u8 (lo n).toNat)] 297)
 refine (put_any mb base w.heap.size 2 [fOctet (hi n),fOctet (lo n)] vb vp l _ ((Below.heap_alloc _ _ _ hlt).trans (aU HM)) ((aU HO).alloc _) (by simp; omega) ?_ (by simp) (by omega) (.inr ?_) ?_ (by simp) (by simp) ?_).mono ?_
 ·intro f hf
  simp at hf
  rcases hf with rfl | rfl <;> exact octet_ok _
 ·intro cur h
  rw [hnew] at h
  simp at h
 ·intro j hj
  match j,hj with
  | 0,_=>unfold World.cell?; rw [hnew]; rfl
  | 1,_=>unfold World.cell?; rw [hnew]; rfl
  | j+2,hj=>simp at hj; omega
 ·simp [outs,fOctet] at hl ⊢; omega
 rintro e w2 ⟨rfl,⟨vb2,h1,h2⟩,h3⟩
 have HF:Hid ((∃ vb',MsgAt w2 mb vb' vp∧OwnB w2 base vb' (l++[hi n,lo n]))∧TF mb base w w2) :=
  ⟨⟨vb2,h1,h2⟩,(TF.of_below ((Below.refl _ _).alloc (Nat.le_refl _) _)).trans h3⟩
 clear h1 h2 h3 hnew eh el
 go_wp2_with fail
 refine bodyPost_end (v:=.tuple #[]) (by simp [results,Tryz.results337]) rfl ?_
 exact ⟨rfl,aU HF⟩
theorem short_ok (n:Nat) (hn:n<65536):(fShort n).Ok:=⟨m_short _,c_short,short_w n hn⟩
def fLong (n:Nat):Fd:=⟨344,.int .u32 n,343,[hi (n/65536),lo (n/65536),hi (n%65536),lo (n%65536)]⟩
theorem m_long (n : Int) (W : World) : (method 521 344 (.int .u32 n) "beacon/wire.writeTo").run Tryz.prog W = .ok (343, .int .u32 n) W := by kernel_rfl
theorem c_long (args:Array Value) (W:World):(callFunc 343 args).run Tryz.prog W=.ok (.enter 343 args) W:=by kernel_rfl
theorem long_w (n:Nat) (hn:n<4294967296):Wr 343 (.int .u32 n) [hi (n/65536),lo (n/65536),hi (n%65536),lo (n%65536)]:=by
 intro mb base vb vp l w hm ho hbs hl
 have HM:=aH hm
 have HO:=aH ho
 have hlt:=hm.lt
 clear hm ho
 go_enter Tryz.func343,Tryz.ntmps343
 go_wp2_with fail
 have eh:(n:Int)/65536=((n/65536:Nat):Int):=by omega
 have el:IntKind.u16.wrap (n:Int)=((n%65536:Nat):Int):=by rw [IntKind.wrap_u16]; omega
 rw [eh,el]
 have hnew:=World.alloc_heap_new w (.cells #[.iface 284 (.int .u16 (n/65536:Nat)),.iface 284 (.int .u16 (n%65536:Nat))] 297)
 refine (put_any mb base w.heap.size 2 [fShort (n/65536),fShort (n%65536)] vb vp l _ ((Below.heap_alloc _ _ _ hlt).trans (aU HM)) ((aU HO).alloc _) (by simp; omega) ?_ (by simp) (by omega) (.inr ?_) ?_ (by simp) (by simp) ?_).mono ?_
 ·intro f hf
  simp at hf
  rcases hf with rfl | rfl <;> exact short_ok _ (by omega)
 ·intro cur h
  rw [hnew] at h
  simp at h
 ·intro j hj
  match j,hj with
  | 0,_=>unfold World.cell?; rw [hnew]; rfl
  | 1,_=>unfold World.cell?; rw [hnew]; rfl
  | j+2,hj=>simp at hj; omega
 ·simp [outs,fShort] at hl ⊢; omega
 rintro e w2 ⟨rfl,⟨vb2,h1,h2⟩,h3⟩
 have HF:Hid ((∃ vb',MsgAt w2 mb vb' vp∧OwnB w2 base vb' (l++[hi (n/65536),lo (n/65536),hi (n%65536),lo (n%65536)]))∧TF mb base w w2) :=
  ⟨⟨vb2,h1,h2⟩,(TF.of_below ((Below.refl _ _).alloc (Nat.le_refl _) _)).trans h3⟩
 clear h1 h2 h3 hnew eh el
 go_wp2_with fail
 refine bodyPost_end (v:=.tuple #[]) (by simp [results,Tryz.results343]) rfl ?_
 exact ⟨rfl,aU HF⟩
theorem long_ok (n:Nat) (hn:n<4294967296):(fLong n).Ok:=⟨m_long _,c_long,long_w n hn⟩
end Wl
namespace Wm
open Ka Wa Wb Wc Wd We Wf Wg Wh Wi Wj Wk Wl Re
theorem own_string {w:World} {base:Nat} {v:Value} {l:Str} (h:OwnB w base v l):(convert 58 9 v).run Tryz.prog w=.ok (.string (B l)) w:=by
 obtain ⟨h1,⟨rfl,h2⟩ | ⟨g,cap,cur,rfl,hb,hcur,hn,hm,hs,ht⟩⟩:=h
 ·obtain rfl:l = []:=List.eq_nil_of_length_eq_zero h2
  kernel_rfl
 ·refine run_convert_bytes_back (P:=Tryz.prog) w 58 9 5 ⟨g,0,none⟩ cap l Tryz.underlying58 Tryz.underlying5 Tryz.underlying9 fun j hj=>?_
  have e:(⟨g,0,none⟩:Addr).add j=⟨g,j,none⟩:=by unfold Addr.add; by_cases h:j=0 <;> simp [h]
  rw [e]
  have e2:cur.toList[j]? = (l.map fun c=>Value.int .u8 (c.toNat:Int))[j]?:=by
   rw [← ht,List.getElem?_take,if_pos (by omega)]
  simp only [World.cell?,hcur]
  rw [← Array.getElem?_toList,e2]
  simp [hj]
theorem written_any (g cap:Nat) (fs:List Fd) (w:World) (hok : ∀ f∈fs,f.Ok) (hlt:g<w.heap.size) (hcells : ∀ j (h:j<fs.length),w.cell? ⟨g,j,none⟩=some (.iface fs[j].t fs[j].x))
  (hn:fs.length≤cap) (hc:fs.length≤1000000) (hl:(outs fs).length≤1000000) :
  Calls Tryz.prog 199 #[.slice (some ⟨g,0,none⟩) fs.length cap] w fun e w'=>e=.returned (.string (B (outs fs)))∧Below w.heap.size w w':=by
 have hnew:=World.alloc_heap_new w (.cells #[.slice none 0 0,.slice none 0 0] 283)
 have HP:=aH (put_any w.heap.size (w.heap.size+1) g cap fs (.slice none 0 0) (.slice none 0 0) [] (w.alloc (.cells #[.slice none 0 0,.slice none 0 0] 283)) hnew (World.ownsRow_nil _ _ _ _) (by simp) hok (by simp; omega) (by omega) (.inl (by omega))
  (fun j hj=>(World.cell?_of_block (w:=w) (Below.heap_alloc _ _ _ hlt)).trans (hcells j hj)) hn hc (by simpa using hl))
 clear hnew hok hcells
 go_enter Tryz.func199,Tryz.ntmps199
 go_wp2_with fail
 refine (aU HP).mono ?_
 rintro e w2 ⟨rfl,⟨vb,h1,h2⟩,h3⟩
 have hc0:=h1.cells.1
 have hcv:=own_string h2
 have HB:Hid (Below w.heap.size w w2):=((Below.refl _ _).alloc (Nat.le_refl _) _).trans ⟨h3.os,h3.tape,h3.output,h3.size,fun k hk=>h3.block k (by simp; omega) (by omega) (.inl (by omega))⟩
 rw [List.nil_append] at hcv
 obtain ⟨va,vn,vc,rfl⟩:=own_slice h2
 clear h1 h2 h3 HP
 go_wp2_with fail
 go_ret
 exact ⟨rfl,aU HB⟩
end Wm
namespace Wn
open Ka Wa Wb Wc Wd We Wf Wg Wh Wi Wj Wk Wl Wm Re
end Wn
def placeCells (ps:List (Str×Nat)):List Value:=ps.flatMap fun p=>[.string (B p.1),.int .i64 (p.2:Int)]
def OwnP (w:World) (base:Nat) (v:Value) (ps:List (Str×Nat)):Prop:=w.ownsRow base 343 2 v ps.length (placeCells ps)
namespace Wo
open Ka Kd Rg Ia Wa Wb Wc Wd We Wf Wg Wh Wi Wj Wk Wl Wm Wn Re
theorem infoP:(Tryz.prog.info? 343).map (fun i=>(i.zero,i.size,i.bytes))=some (some (.agg #[.string ⟨#[]⟩,.int .i64 0]),2,24):=by kernel_rfl
theorem underP:Tryz.prog.underlying 281=some (.slice 343):=by kernel_rfl
theorem placeCells_snoc (ps:List (Str×Nat)) (p:Str×Nat):placeCells (ps++[p])=placeCells ps++[.string (B p.1),.int .i64 (p.2:Int)]:=by
 simp [placeCells]
theorem placeCells_get : ∀ (ps:List (Str×Nat)) (j:Nat) (h:j<ps.length),(placeCells ps)[j*2]? = some (.string (B ps[j].1))∧(placeCells ps)[j*2+1]? = some (.int .i64 (ps[j].2:Int))
 | [],j,h=>by simp at h
 | p :: t,0,h=>by simp [placeCells]
 | p :: t,j+1,h=>by
  have:=placeCells_get t j (by simpa using h)
  have e:placeCells (p :: t)=.string (B p.1) :: .int .i64 (p.2:Int) :: placeCells t:=by simp [placeCells]
  rw [e,show (j+1)*2=j*2+1+1 by omega]
  simpa using this
theorem msg_neP {w:World} {mb base:Nat} {vb vp v:Value} {ps:List (Str×Nat)} (hm:MsgAt w mb vb vp) (ho:OwnP w base v ps):some mb≠v.ownBlock:=fun e=>by
 obtain ⟨_,⟨rfl,_⟩ | ⟨g,cap,cur,rfl,_,hcur,_⟩⟩:=ho
 ·simp [Value.ownBlock] at e
 ·simp only [Value.ownBlock,Option.some.injEq] at e
  subst e
  rw [hm] at hcur
  simp at hcur
theorem newMessage_any (w:World) :
  Calls Tryz.prog 130 #[] w fun e w'=>e=.returned (.pointer (some ⟨w.heap.size+1,0,none⟩))∧(∃ vb,MsgAt w' (w.heap.size+1) vb (.slice none 0 0)∧OwnB w' w.heap.size vb (List.replicate 12 0))∧Below w.heap.size w w':=by
 have hmk : ∀ w:World,(Instr.makeSlice 58 (.int .i64 12) (.int .i64 12)).run Tryz.prog w=.ok (.slice (some ⟨w.heap.size,0,none⟩) 12 12) (w.alloc (.cells (Array.replicate 12 (.int .u8 0)) 5)):=fun _=>by kernel_rfl
 generalize hrep:(Array.replicate 12 (Value.int .u8 0))=R at *
 go_enter Tryz.func130,Tryz.ntmps130
 go_wp2
 go_ret
 have hnew:=World.alloc_heap_new (w.alloc (.cells R 5)) (.cells #[.slice (some ⟨w.heap.size,0,none⟩) 12 12,.slice none 0 0] 283)
 simp only [World.size_alloc] at hnew
 refine ⟨rfl,⟨_,hnew,by simp,.inr ⟨w.heap.size,12,R,rfl,Nat.le_refl _,(Below.heap_alloc _ _ _ (by simp)).trans (World.alloc_heap_new w _),by simp,by unfold maxLen; omega,by rw [← hrep]; rfl,by rw [← hrep]; rfl⟩⟩,((Below.refl _ _).alloc (Nat.le_refl _) _).alloc (by simp) _⟩
theorem learn_w (mb base:Nat) (x:Str) (n:Nat) (vb vp:Value) (ps:List (Str×Nat)) (w:World) (hm:MsgAt w mb vb vp) (ho:OwnP w base vp ps) (hbs:base≤w.heap.size) (hl:ps.length≤1000) (hn:n<16384) :
  Calls Tryz.prog 202 #[.pointer (some ⟨mb,0,none⟩),.string (B x),.int .i64 (n:Int)] w fun e w' =>
   e=.returned (.tuple #[])∧∃ vp',MsgAt w' mb vb vp'∧OwnP w' base vp' (ps++[(x,n)])∧(vp'.ownBlock=vp.ownBlock∨∃ g,vp'.ownBlock=some g∧w.heap.size≤g)∧Kp mb w w'∧Fr (fun i=>i≠mb∧some i≠vp.ownBlock) w w':=by
 obtain ⟨i0,hi,hz0,hz1,hz2⟩:=info_parts infoP
 have hc0:=hm.cells.2
 have HM:=aH hm
 have HO:=aH ho
 have hlt:=hm.lt
 have hnI:(n:Int)<16384:=by omega
 clear hm ho
 go_enter Tryz.func202,Tryz.ntmps202
 go_wp2_with (at_builtin; go_loud (refine wpList_append_stp _ rfl (.tmp 12) (.tmp 16) 281 rfl base 343 i0 (.agg #[.string ⟨#[]⟩,.int .i64 0]) 2 24 underP hi hz0 hz1 hz2 rfl (by decide) _ ps.length _ rfl ((aU HO).alloc _) ⟨w.heap.size,0,none⟩ 1 1 [.string (B x),.int .i64 (n:Int)] (by decide) rfl rfl ?c1 ?c2 ?c3 ?c4 ?c5 ?_))
 case c1 =>
  intro j u hj
  match j,hj with
  | 0,hj=>simp at hj; subst hj; simp [Addr.add]
  | 1,hj=>simp at hj; subst hj; simp [Addr.add]
  | n+2,hj=>simp at hj
 case c2=>intro u hu; simp at hu; rcases hu with rfl | rfl <;> rfl
 case c3=>unfold maxLen; omega
 case c4=>omega
 case c5=>simp; omega
 intro v' w3 hown' hgrow hstp hat
 obtain ⟨va,vn,vc,rfl⟩:=own_slice hown'
 have HO3:Hid (OwnP w3 base (.slice va vn vc) (ps++[(x,n)])):=by
  unfold Hid OwnP
  rw [List.length_append,placeCells_snoc]
  exact hown'
 have hblk : ∀ i,i<w.heap.size→some i≠vp.ownBlock→w3.heap[i]? = w.heap[i]?:=fun i hi hne =>
  (hgrow.block i (by simp; omega) hne).trans (Below.heap_alloc _ _ _ hi)
 have hne:some mb≠vp.ownBlock:=msg_neP (aU HM) (aU HO)
 have HM3:=aH ((aU HM).kept (hblk mb hlt hne))
 have HF3:Hid (Fr (fun i=>i≠mb∧some i≠vp.ownBlock) w w3) :=
  ⟨hgrow.os,hgrow.tape,hgrow.output,Nat.le_trans (by simp) hgrow.size,fun i hi hp=>hblk i hi hp.2⟩
 have HA:Hid ((Value.slice va vn vc).ownBlock=vp.ownBlock∨∃ g,(Value.slice va vn vc).ownBlock=some g∧w.heap.size≤g):=by
  rcases hat with h | h
  ·exact .inl h
  ·exact .inr ⟨_,h,by simp⟩
 have HKP:Hid (Kp mb w (w3.setCell ⟨mb,1,none⟩ (.slice va vn vc))):=by
  refine Kp.of (aU HM) ((aU HM3).set1 _) ?_ (((stp_alloc w _ _ _ _).trans hstp (by simp)).trans (stp_msg (aU HM3) (by decide) _ _ _ _) (aU HF3).size)
  refine Stp.trans (Stp.same _ _ fun i cur hc=>hblk i (Array.getElem?_eq_some_iff.1 hc).1 fun e=>?_) (stp_msg (aU HM3) (by decide) _ _ _ _) (aU HF3).size
  obtain ⟨_,⟨h0,_⟩ | ⟨g,cap,cur',h0,_,hcur,_⟩⟩:=aU HO
  ·rw [h0] at e; simp [Value.ownBlock] at e
  ·rw [h0] at e
   simp only [Value.ownBlock,Option.some.injEq] at e
   subst e
   rw [hcur] at hc
   simp at hc
 have hfz:=(aU HM3).frozen
 have hc:=(aU HM3).cells.2
 clear hown' hgrow hstp hat hblk hne HM HO
 go_wp2_with fail
 refine bodyPost_end (v:=.tuple #[]) (by simp [results,Tryz.results202]) rfl ?_
 refine ⟨rfl,_,(aU HM3).set1 _,?_,aU HA,aU HKP,(aU HF3).trans (Fr.of_set _ fun i h=>h.1)⟩
 exact aS (aU HO3) (msg_neP (aU HM3) (aU HO3)) _ _
theorem learn_w0 (mb base:Nat) (x:Str) (n:Nat) (vb vp:Value) (ps:List (Str×Nat)) (w:World) (hm:MsgAt w mb vb vp) (ho:OwnP w base vp ps) (hbs:base≤w.heap.size) (hl:ps.length≤1000) (hn:n<16384) :
  Calls Tryz.prog 202 #[.pointer (some ⟨mb,0,none⟩),.string (B x),.int .i64 (n:Int)] w fun e w' =>
   e=.returned (.tuple #[])∧∃ vp',MsgAt w' mb vb vp'∧OwnP w' base vp' (ps++[(x,n)])∧(vp'.ownBlock=vp.ownBlock∨∃ g,vp'.ownBlock=some g∧w.heap.size≤g)∧Fr (fun i=>i≠mb∧some i≠vp.ownBlock) w w':=by
 refine (learn_w mb base x n vb vp ps w hm ho hbs hl hn).mono ?_
 rintro e w' ⟨rfl,vp',k1,k2,k3,_,k4⟩
 exact ⟨rfl,vp',k1,k2,k3,k4⟩
theorem place_at {w:World} {base:Nat} {v:Value} {ps:List (Str×Nat)} (h:OwnP w base v ps) (hne:ps≠[]) : ∃ g cap,v=.slice (some ⟨g,0,none⟩) ps.length cap∧g<w.heap.size∧ps.length≤cap∧∀ j (hj:j<ps.length),w.cell? ⟨g,j*2,none⟩=some (.string (B ps[j].1))∧w.cell? ⟨g,j*2+1,none⟩=some (.int .i64 (ps[j].2:Int)):=by
 have h0:=h
 obtain ⟨_,⟨rfl,hz⟩ | ⟨g,cap,cur,rfl,hb,hcur,hc,_⟩⟩:=h
 ·exact absurd (List.eq_nil_of_length_eq_zero hz) hne
 ·refine ⟨g,cap,rfl,(Array.getElem?_eq_some_iff.1 hcur).1,hc,fun j hj=>?_⟩
  have hg:=placeCells_get ps j hj
  have c0:=World.ownsRow.cellAt h0 (j*2) (by omega)
  have c1:=World.ownsRow.cellAt h0 (j*2+1) (by omega)
  exact ⟨c0.trans hg.1,c1.trans hg.2⟩
theorem placeOf_hit (mb base j0:Nat) (x:Str) (vb vp:Value) (ps:List (Str×Nat)) (w:World) (hm:MsgAt w mb vb vp) (ho:OwnP w base vp ps) (hj:j0<ps.length) (he:ps[j0].1=x) (hb : ∀ j (h:j<j0),(ps[j].1 == x)=false) (hl:ps.length≤1000) :
  Calls Tryz.prog 339 #[.pointer (some ⟨mb,0,none⟩),.string (B x)] w fun e w' =>
   e=.returned (.tuple #[.int .i64 (ps[j0].2:Int),.bool true])∧Below w.heap.size w w':=by
 obtain ⟨g,cap,rfl,hg,hcap,hcell⟩:=place_at ho (by intro h; subst h; simp at hj)
 have hc0:=hm.cells.2
 have HC:=aH hcell
 have HB:=aH hb
 have HE:=aH he
 clear hm ho hcell hb he
 go_enter Tryz.func339,Tryz.ntmps339
 go_wp2_with fail
 go_loopw [13] (fun i wr=>∃ k:Nat,i=.int .i64 k∧k≤j0∧Below w.heap.size w wr) (fun i _=>ps.length - (intOf i).toNat)
 case atStart=>exact ⟨0,rfl,Nat.zero_le _,Below.refl _ _⟩
 case round =>
  obtain ⟨k,rfl,hk,hbr⟩:=hrel
  have hkl:k<ps.length:=by omega
  have hkI:(k:Int)<(ps.length:Int):=by omega
  obtain ⟨c0,c1⟩:=aU HC k hkl
  have d0:=(hbr.cell (p:=⟨g,k*2,none⟩) hg).trans c0
  have d1:=(hbr.cell (p:=⟨g,k*2+1,none⟩) hg).trans c1
  have hBB:((B ps[k].1).toList == (B x).toList)=(ps[k].1 == x):=B_inj
  have HBR:=aH hbr
  have hs:=hbr.size
  clear c0 c1 hbr
  by_cases hkj:k=j0
  ·subst hkj
   clear hBB hk
   rw [aU HE] at d0
   obtain ⟨pn,hpn⟩ : ∃ pn,pn=ps[k].2:=⟨_,rfl⟩
   rw [← hpn] at d1
   have HPN:=aH hpn
   clear hpn
   go_wp2_with fail
   go_ret2
   refine ⟨?_,(aU HBR).alloc hs _⟩
   rw [← aU HPN]
   rfl
  ·rw [aU HB k (by omega)] at hBB
   generalize ps[k].2=pn at *
   generalize B ps[k].1=pb at *
   go_wp2_with fail
   go_roundw
   case rel=>exact ⟨k+1,by go_num,by omega,(aU HBR).alloc hs _⟩
   case measure=>simp [intOf]; omega
end Wo
def FdsAt (mb:Nat) (w:World) (g:Nat) (fs:List Fd):Prop:=g<w.heap.size∧g≠mb∧(∀ cur,w.heap[g]?≠some (.cells cur 5 (0,0)))∧∀ j (h:j<fs.length),w.cell? ⟨g,j,none⟩=some (.iface fs[j].t fs[j].x)
namespace Wp
open Ka Wa Wb Wc Wd We Wf Wg Wh Wi Wj Wk Wl Wm Wn Wo Re
theorem own_at {w:World} {base:Nat} {v:Value} {l:Str} (h:OwnB w base v l) (hne:l≠[]) : ∃ g cap cur,v=.slice (some ⟨g,0,none⟩) l.length cap∧base≤g∧w.heap[g]? = some (.cells cur 5 (0,0))∧l.length≤cap∧cap≤maxLen:=by
 obtain ⟨_,⟨rfl,hz⟩ | ⟨g,cap,cur,rfl,hb,hcur,hc,hm,_⟩⟩:=h
 ·exact absurd (List.eq_nil_of_length_eq_zero hz) hne
 ·exact ⟨g,cap,cur,rfl,hb,hcur,hc,hm⟩
theorem own_setB {w:World} {base g n cap:Nat} {l:Str} (h:OwnB w base (.slice (some ⟨g,0,none⟩) n cap) l) (i:Nat) (c:UInt8) (hi:i<l.length) :
  OwnB (w.setCell ⟨g,i,none⟩ (.int .u8 c.toNat)) base (.slice (some ⟨g,0,none⟩) n cap) (l.set i c):=by
 obtain ⟨h1,⟨e,hz⟩ | ⟨g',cap',cur,e,hb,hcur,hc,hm,hs,ht⟩⟩:=h
 ·cases e
 ·cases e
  refine ⟨by simp,.inr ⟨g,cap,cur.setIfInBounds i (.int .u8 c.toNat),by simp,hb,?_,by rw [List.length_set]; exact hc,hm,by rw [Array.size_setIfInBounds]; exact hs,?_⟩⟩
  ·simp only [World.setCell]; rw [Array.getElem?_modify,if_pos rfl,hcur]; rfl
  ·rw [Array.toList_setIfInBounds,List.take_set]
   rw [List.length_set,ht]
   rw [List.map_set]
theorem own_lenB {w:World} {base:Nat} {v:Value} {l:Str} (h:OwnB w base v l):ownLen v=l.length:=by
 obtain ⟨_,⟨rfl,h0⟩ | ⟨g,cap,cur,rfl,_⟩⟩:=h
 ·exact h0.symm
 ·rfl
theorem m_sized (a : Option Addr) (n c : Nat) (W : World) : (method 521 293 (.slice a n c) "beacon/wire.writeTo").run Tryz.prog W = .ok (342, .slice a n c) W := by kernel_rfl
theorem c_sized (args:Array Value) (W:World):(callFunc 342 args).run Tryz.prog W=.ok (.enter 342 args) W:=by kernel_rfl
end Wp
end Go.Proofs.YtkkpahmoljiepaaGreatDoor
