/- Contracts: fields that were just laid, written and summed; frames: readFrame, bytes. -/
import Derived.Test.YtkkpahmoljiepaaGreatDoorJ15
import Derived.Deep.RegionHeld
import Derived.LoopN
import Derived.Deep.Cut
import Derived.Deep.CutRange
import Derived.Deep.RegionLaw
import Derived.Deep.AppendLies
import Derived.BigQuiet
set_option linter.unusedSimpArgs false
set_option linter.unusedVariables false
set_option maxRecDepth 1000000
set_option maxHeartbeats 12800000
namespace Go.Proofs.YtkkpahmoljiepaaGreatDoor
open Go.RowKit
open Pu (Str aH aU)
def aB (w:World) (b:Nat) (cs:List Value) (t:TypeId):Prop:=w.heap[b]? = some (.cells cs.toArray t)
section
variable {w w':World} {b d:Nat} {cs:List Value} {t:TypeId}
theorem aB.lt (h:aB w b cs t):b<w.heap.size:=(Array.getElem?_eq_some_iff.1 h).1
theorem aB.cell (h:aB w b cs t) (i:Nat) (hi:i<cs.length):w.cell? ⟨b,i,none⟩=some cs[i]:=by
 unfold aB at h; simp [World.cell?,h,hi]
theorem aB.frozen (h:aB w b cs t) (i:Nat):w.frozen? ⟨b,i,none⟩=false:=by
 unfold aB at h; simp [World.frozen?,h]
theorem aB.set (h:aB w b cs t) (i:Nat) (v:Value):aB (w.setCell ⟨b,i,none⟩ v) b (cs.set i v) t:=by
 unfold aB at *; simp only [World.setCell]; rw [Array.getElem?_modify,if_pos rfl,h]; simp
theorem aB.kept (h:aB w b cs t) (hk:It.Keeps d w w') (hd:b≠d):aB w' b cs t:=(hk.block b h.lt hd).trans h
theorem aB.below (h:aB w b cs t) (hb:Below d w w') (hd:b<d):aB w' b cs t:=(hb.block b hd).trans h
theorem aB.alloc (h:aB w b cs t) (o:Obj):aB (w.alloc o) b cs t:=(Below.heap_alloc _ _ _ h.lt).trans h
theorem aB.new (w:World) (cs:List Value) (t:TypeId):aB (w.alloc (.cells cs.toArray t)) w.heap.size cs t:=World.alloc_heap_new _ _
end
namespace Hc
open Ka Kc Wa Wb Wc Wd We Wf Wg Wh Wi Wj Wk Wl Wm Ha Hb Re
def ifs (fs:List Fd):List Value:=fs.map fun f=>Value.iface f.t f.x
theorem ifs_cell (fs:List Fd) (W:World) (j:Nat) (h:j<fs.length):(W.alloc (.cells (ifs fs).toArray 297)).cell? ⟨W.heap.size,j,none⟩=some (.iface fs[j].t fs[j].x):=by
 have:=(aB.new W (ifs fs) 297).cell j (by simpa [ifs] using h)
 rw [this]; simp [ifs]
theorem written_new (fs:List Fd) (W:World) (hok : ∀ f∈fs,f.Ok) (hc:fs.length≤1000000) (hl:(outs fs).length≤1000000) :
  Calls Tryz.prog 199 #[.slice (some ⟨W.heap.size,0,none⟩) fs.length fs.length] (W.alloc (.cells (ifs fs).toArray 297)) fun e w'=>e=.returned (.string (B (outs fs)))∧Below W.heap.size W w':=by
 refine (written_any W.heap.size fs.length fs _ hok (by simp) (ifs_cell fs W) (Nat.le_refl _) hc hl).mono ?_
 rintro e w' ⟨rfl,hb⟩
 exact ⟨rfl,((Below.refl _ _).alloc (Nat.le_refl _) _).trans (hb.mono (by simp))⟩
theorem sum_new (fs:List Fd) (W:World) (hok : ∀ f∈fs,f.Ok) (hc:fs.length≤1000000) (hl:(outs fs).length≤1000000) :
  Calls Tryz.prog 256 #[.slice (some ⟨W.heap.size,0,none⟩) fs.length fs.length] (W.alloc (.cells (ifs fs).toArray 297)) fun e w'=>e=.returned (.int .i64 (fold (ws true (outs fs))))∧Below W.heap.size W w':=by
 refine (sum_any W.heap.size fs.length fs _ hok (by simp) (ifs_cell fs W) (Nat.le_refl _) hc hl).mono ?_
 rintro e w' ⟨rfl,hb⟩
 exact ⟨rfl,((Below.refl _ _).alloc (Nat.le_refl _) _).trans (hb.mono (by simp))⟩
theorem readFrame_any (s:Str) (w:World) (hl:s.length≤1000000000) {a s1 c s2 s3:Str} {k:Nat} {b1 b2 b3:Bool} (e1:takP s false 6=(a,s1,b1)) (e2:takP s1 b1 6=(c,s2,b2)) (e3:shortP s2 b2=(k,s3,b3)) :
  Calls Tryz.prog 79 #[.string (B s)] w fun e w'=>e=.returned (.tuple #[.agg #[.string (B a),.string (B c),.int .i64 k,.string (B s3)],.bool (!b3)])∧Below w.heap.size w w':=by
 have l1:=takP_len s false 6
 have l2:=takP_len s1 b1 6
 rw [e1] at l1
 rw [e2] at l2
 simp only at l1 l2
 have hz0:aB ((w.alloc (.cells #[.string ⟨#[]⟩,.string ⟨#[]⟩,.int .i64 0,.string ⟨#[]⟩] 150)).alloc (.cells #[.string (B s),.bool false] 215)) w.heap.size [.string ⟨#[]⟩,.string ⟨#[]⟩,.int .i64 0,.string ⟨#[]⟩] 150:=(aB.new w _ _).alloc _
 have hr0:RdAt ((w.alloc (.cells #[.string ⟨#[]⟩,.string ⟨#[]⟩,.int .i64 0,.string ⟨#[]⟩] 150)).alloc (.cells #[.string (B s),.bool false] 215)) (w.heap.size+1) s false:=by
  have:=World.alloc_heap_new (w.alloc (.cells #[.string ⟨#[]⟩,.string ⟨#[]⟩,.int .i64 0,.string ⟨#[]⟩] 150)) (.cells #[.string (B s),.bool false] 215)
  simpa [RdAt] using this
 have HB0:=aH (((Below.refl w.heap.size w).alloc (Nat.le_refl _) (.cells #[.string ⟨#[]⟩,.string ⟨#[]⟩,.int .i64 0,.string ⟨#[]⟩] 150)).alloc (by simp) (.cells #[.string (B s),.bool false] 215))
 have HC0:=aH (Wb.take_any _ 6 s false _ hr0 (by omega) hl)
 rw [e1] at HC0
 have HZ0:=aH hz0
 have HE2:=aH e2
 have HE3:=aH e3
 clear hz0 hr0 e1 e2 e3
 go_enter Tryz.func79,Tryz.ntmps79
 go_wp2_with fail
 refine (aU HC0).mono ?_
 rintro e w1 ⟨rfl,hr1,hk1,hs1⟩
 have HC1:=aH (Wb.take_any _ 6 s1 b1 w1 hr1 (by omega) (by omega))
 rw [aU HE2] at HC1
 have HZ1:=aH ((aU HZ0).kept hk1 (by omega))
 have HB1:=aH ((aU HB0).trans (hk1.below (by omega) (by simp; omega)))
 have HS1:Hid (w1.heap.size=w.heap.size+2):=by rw [Hid,hs1]; simp
 clear hr1 hk1 hs1 HC0 HZ0 HB0 HE2
 go_wp2_with fail
 refine (aU HC1).mono ?_
 rintro e w2 ⟨rfl,hr2,hk2,hs2⟩
 have HC2:=aH (short_any _ s2 b2 w2 hr2 (by omega))
 rw [aU HE3] at HC2
 have HZ2:=aH ((aU HZ1).kept hk2 (by omega))
 have HB2:=aH ((aU HB1).trans (hk2.below (by omega) (by have:=aU HS1; omega)))
 have HS2:Hid (w2.heap.size=w.heap.size+2):=by rw [Hid,hs2]; exact aU HS1
 clear hr2 hk2 hs2 HC1 HZ1 HB1 HS1 HE3
 go_wp2_with fail
 refine (aU HC2).mono ?_
 rintro e w3 ⟨rfl,hr3,hk3,hs3⟩
 have HZ3:=aH ((aU HZ2).kept hk3 (by omega))
 have HB3:=aH ((aU HB2).trans (hk3.below (by omega) (by have:=aU HS2; omega)))
 have hs:w3.heap.size=w.heap.size+2:=by rw [hs3]; exact aU HS2
 have hrx : ∀ x,RdAt (w3.alloc (.cells #[.string (B a),.string (B c),.int .i64 k,x] 150)) (w.heap.size+1) s3 b3:=fun x=>(Below.heap_alloc _ _ _ hr3.lt).trans hr3
 have hzx:=fun x=>(aU HZ3).alloc (.cells #[.string (B a),.string (B c),.int .i64 k,x] 150)
 have HB4:=aH (fun x=>(aU HB3).alloc (by omega) (.cells #[.string (B a),.string (B c),.int .i64 k,x] 150))
 have q0:=fun x=>(hrx x).cells.1
 have q1:=fun x=>(hrx x).cells.2
 have z0 : ∀ x,(w3.alloc (.cells #[.string (B a),.string (B c),.int .i64 k,x] 150)).cell? ⟨w.heap.size,0,none⟩=_:=fun x=>(hzx x).cell 0 (by simp)
 have z1 : ∀ x,(w3.alloc (.cells #[.string (B a),.string (B c),.int .i64 k,x] 150)).cell? ⟨w.heap.size,1,none⟩=_:=fun x=>(hzx x).cell 1 (by simp)
 have z2 : ∀ x,(w3.alloc (.cells #[.string (B a),.string (B c),.int .i64 k,x] 150)).cell? ⟨w.heap.size,2,none⟩=_:=fun x=>(hzx x).cell 2 (by simp)
 have z3 : ∀ x,(w3.alloc (.cells #[.string (B a),.string (B c),.int .i64 k,x] 150)).cell? ⟨w.heap.size,3,none⟩=_:=fun x=>(hzx x).cell 3 (by simp)
 simp only [List.getElem_cons_zero,List.getElem_cons_succ] at z0 z1 z2 z3
 have hfz : ∀ x i,(w3.alloc (.cells #[.string (B a),.string (B c),.int .i64 k,x] 150)).frozen? ⟨w.heap.size,i,none⟩=false:=fun x i=>(hzx x).frozen i
 have n1:w.heap.size≠w3.heap.size:=by omega
 have n2:w.heap.size+1≠w3.heap.size:=by omega
 have nz:w.heap.size≤w3.heap.size:=by omega
 clear hr3 hk3 hs3 HC2 HZ2 HB2 HS2 HZ3 hs HB3 hrx hzx
 go_wp2_with fail
 go_region
 all_goals
  go_wp2
  refine bodyPost_ret (v:=.tuple #[.agg #[.string (B a),.string (B c),.int .i64 k,.string (B s3)],.bool (!b3)]) (by simp [results,Tryz.results79,go_sem,z0,z1,z2,z3]) rfl ⟨rfl,?_⟩
  exact (((((aU HB4 _).drew).setCell (Nat.le_refl _) _).setCell (Nat.le_refl _) _).setCell (Nat.le_refl _) _).setCell (Nat.le_refl _) _
end Hc
def aF (w:World) (mb bb:Nat) (vl vm:Value) (wild:Bool) (cnt:Nat) (early d0 d1:Bool) (st:Nat):Prop :=
 aB w mb [.slice (some ⟨bb,0,none⟩) 25600 25600,vl,.bool wild,.slice none 0 0,.int .i64 cnt,vm,.bool early,.bool d0,.bool d1,.int .i64 st] 84
def RowB (w:World) (bb:Nat) (bs:Str):Prop:=bs.length=25600∧aB w bb (bs.map fun c=>Value.int .u8 c.toNat) 5
def OwnI (w:World) (base:Nat) (v:Value) (ns:List Int):Prop:=w.ownsRow base 3 1 v ns.length (ns.map (Value.int .i64))
def OwnM (w:World) (base:Nat) (v:Value) (ms:List (Int×Int)):Prop:=w.ownsRow base 177 2 v ms.length (ms.flatMap fun x=>[.int .i64 x.1,.int .i64 x.2])
namespace Qa
open Ka Wa Wb Wc Wd We Wf Wg Wh Wi Wj Wk Wl Wm Ha Hb Hc Re
section
variable {w w':World} {mb bb:Nat} {vl vm:Value} {wild early d0 d1:Bool} {cnt st:Nat}
theorem aF.at0 (h:aF w mb bb vl vm wild cnt early d0 d1 st):w.cell? ⟨mb,0,none⟩=some (.slice (some ⟨bb,0,none⟩) 25600 25600):=aB.cell h 0 (by simp)
theorem aF.at1 (h:aF w mb bb vl vm wild cnt early d0 d1 st):w.cell? ⟨mb,1,none⟩=some vl:=aB.cell h 1 (by simp)
theorem aF.at2 (h:aF w mb bb vl vm wild cnt early d0 d1 st):w.cell? ⟨mb,2,none⟩=some (.bool wild):=aB.cell h 2 (by simp)
theorem aF.at3 (h:aF w mb bb vl vm wild cnt early d0 d1 st):w.cell? ⟨mb,3,none⟩=some (.slice none 0 0):=aB.cell h 3 (by simp)
theorem aF.at4 (h:aF w mb bb vl vm wild cnt early d0 d1 st):w.cell? ⟨mb,4,none⟩=some (.int .i64 cnt):=aB.cell h 4 (by simp)
theorem aF.at5 (h:aF w mb bb vl vm wild cnt early d0 d1 st):w.cell? ⟨mb,5,none⟩=some vm:=aB.cell h 5 (by simp)
theorem aF.at6 (h:aF w mb bb vl vm wild cnt early d0 d1 st):w.cell? ⟨mb,6,none⟩=some (.bool early):=aB.cell h 6 (by simp)
theorem aF.at7 (h:aF w mb bb vl vm wild cnt early d0 d1 st):w.cell? ⟨mb,7,none⟩=some (.bool d0):=aB.cell h 7 (by simp)
theorem aF.at8 (h:aF w mb bb vl vm wild cnt early d0 d1 st):w.cell? ⟨mb,8,none⟩=some (.bool d1):=aB.cell h 8 (by simp)
theorem aF.at9 (h:aF w mb bb vl vm wild cnt early d0 d1 st):w.cell? ⟨mb,9,none⟩=some (.int .i64 st):=aB.cell h 9 (by simp)
theorem aF.set1 (h:aF w mb bb vl vm wild cnt early d0 d1 st) (v:Value):aF (w.setCell ⟨mb,1,none⟩ v) mb bb v vm wild cnt early d0 d1 st:=aB.set h 1 v
theorem aF.set4 (h:aF w mb bb vl vm wild cnt early d0 d1 st) (n:Nat):aF (w.setCell ⟨mb,4,none⟩ (.int .i64 n)) mb bb vl vm wild n early d0 d1 st:=aB.set h 4 (.int .i64 n)
theorem aF.set5 (h:aF w mb bb vl vm wild cnt early d0 d1 st) (v:Value):aF (w.setCell ⟨mb,5,none⟩ v) mb bb vl v wild cnt early d0 d1 st:=aB.set h 5 v
theorem aF.set6 (h:aF w mb bb vl vm wild cnt early d0 d1 st) (v:Bool):aF (w.setCell ⟨mb,6,none⟩ (.bool v)) mb bb vl vm wild cnt v d0 d1 st:=aB.set h 6 (.bool v)
theorem aF.set7 (h:aF w mb bb vl vm wild cnt early d0 d1 st) (v:Bool):aF (w.setCell ⟨mb,7,none⟩ (.bool v)) mb bb vl vm wild cnt early v d1 st:=aB.set h 7 (.bool v)
theorem aF.set8 (h:aF w mb bb vl vm wild cnt early d0 d1 st) (v:Bool):aF (w.setCell ⟨mb,8,none⟩ (.bool v)) mb bb vl vm wild cnt early d0 v st:=aB.set h 8 (.bool v)
theorem aF.set9 (h:aF w mb bb vl vm wild cnt early d0 d1 st) (n:Nat):aF (w.setCell ⟨mb,9,none⟩ (.int .i64 n)) mb bb vl vm wild cnt early d0 d1 n:=aB.set h 9 (.int .i64 n)
theorem aF.fz (h:aF w mb bb vl vm wild cnt early d0 d1 st) (i:Nat):w.frozen? ⟨mb,i,none⟩=false:=aB.frozen h i
theorem aF.lt (h:aF w mb bb vl vm wild cnt early d0 d1 st):mb<w.heap.size:=aB.lt h
theorem aF.of (h:aF w mb bb vl vm wild cnt early d0 d1 st) (hb:w'.heap[mb]? = w.heap[mb]?):aF w' mb bb vl vm wild cnt early d0 d1 st:=hb.trans h
end
theorem infoI:(Tryz.prog.info? 3).map (fun i=>(i.zero,i.size,i.bytes))=some (some (.int .i64 0),1,8):=by kernel_rfl
theorem underI:Tryz.prog.underlying 56=some (.slice 3):=by kernel_rfl
theorem own_ne {w:World} {base b:Nat} {t t':TypeId} {sz n:Nat} {v:Value} {xs:List Value} {cs:List Value} (hb:aB w b cs t') (ho:w.ownsRow base t sz v n xs) (ht:t'≠t):some b≠v.ownBlock:=fun e=>by
 obtain ⟨_,⟨rfl,_⟩ | ⟨g,cap,cur,rfl,_,hcur,_⟩⟩:=ho
 ·simp [Value.ownBlock] at e
 ·simp only [Value.ownBlock,Option.some.injEq] at e
  subst e
  unfold aB at hb
  rw [hb] at hcur
  simp at hcur
  exact ht hcur.2
theorem blk_ne {w:World} {b b':Nat} {cs cs':List Value} {t t':TypeId} (h:aB w b cs t) (h':aB w b' cs' t') (ht:t≠t'):b≠b':=fun e=>by
 subst e
 unfold aB at h h'
 rw [h] at h'
 simp at h'
 exact ht h'.2
theorem rest_any (mb bb:Nat) (vl vm:Value) (wild early d0 d1:Bool) (cnt st:Nat) (w:World) (h:aF w mb bb vl vm wild cnt early d0 d1 st) :
  Calls Tryz.prog 47 #[.pointer (some ⟨mb,0,none⟩)] w fun e w'=>e=.returned (.tuple #[])∧aF w' mb bb vl vm wild cnt early false false st∧It.Keeps mb w w'∧w'.heap.size=w.heap.size:=by
 have c7:=aF.at7 h
 have c8:=aF.at8 h
 have hf:=aF.fz h
 have HM:=aH h
 clear h
 go_enter Tryz.func47,Tryz.ntmps47
 go_wp2
 refine bodyPost_end (v:=.tuple #[]) (by simp [results,Tryz.results47]) rfl ?_
 exact ⟨rfl,aF.set8 (aF.set7 (aU HM) false) false,Keeps_set (Keeps_set (Keeps_refl _ _) _ _) _ _,by simp [World.setCell]⟩
theorem load_any (mb bb base n:Nat) (vl vm:Value) (wild early d0 d1:Bool) (cnt st:Nat) (bs:Str) (ns:List Int) (w:World) (h:aF w mb bb vl vm wild cnt early d0 d1 st) (hr:RowB w bb bs) (ho:OwnI w base vl ns) (hbs:base≤w.heap.size) (bv:UInt8) (hbv:bs[n]? = some bv) (hns:ns.length≤1000000) (hcnt:cnt≤1000000) :
  Calls Tryz.prog 159 #[.pointer (some ⟨mb,0,none⟩),.int .i64 n] w fun e w' =>
   e=.returned (.int .u8 bv.toNat)∧∃ vl',aF w' mb bb vl' vm wild (cnt+1) early false false st∧OwnI w' base vl' (ns++[(n:Int)])∧(vl'.ownBlock=vl.ownBlock∨∃ g,vl'.ownBlock=some g∧w.heap.size≤g)∧Fr (fun i=>i≠mb∧some i≠vl.ownBlock) w w':=by
 obtain ⟨i0,hi,hz0,hz1,hz2⟩:=info_parts infoI
 obtain ⟨hn,hbn⟩:=List.getElem?_eq_some_iff.1 hbv
 have hl:=hr.1
 have hne:some mb≠vl.ownBlock:=own_ne h ho (by decide)
 have hneb:some bb≠vl.ownBlock:=own_ne hr.2 ho (by decide)
 have hmb:mb≠bb:=blk_ne h hr.2 (by decide)
 have c3:=aF.at3 h
 have c4:=aF.at4 h
 have hf:=aF.fz h
 have HM:=aH h
 have HR:=aH hr
 have HO:=aH ho
 have hlt:=aF.lt h
 clear h hr ho
 obtain ⟨c1,hc1⟩ : ∃ c1,c1=cnt+1:=⟨_,rfl⟩
 have kc:(cnt:Int)+1=(c1:Int):=by omega
 have HRS:=aH (rest_any mb bb vl vm wild early d0 d1 c1 st (w.setCell ⟨mb,4,none⟩ (.int .i64 c1)).drew (aF.set4 (aU HM) c1))
 rw [← hc1]
 clear hc1
 go_enter Tryz.func159,Tryz.ntmps159
 go_wp2_with fail
 refine wp_loop_rounds 1 ?_
 rw [rounds_succ]
 go_wp2_with fail
 go_region
 go_wp2_with fail
 refine (aU HRS).mono ?_
 rintro e w1 ⟨rfl,hm1,hk1,hs1⟩
 have hblk1 : ∀ i,i<w.heap.size→i≠mb→w1.heap[i]? = w.heap[i]?:=fun i hi hne=>(hk1.block i (by simpa [World.setCell] using hi) hne).trans (Below.heap_setCell _ _ _ _ hne)
 have hsz1:w1.heap.size=w.heap.size:=by rw [hs1]; simp [World.setCell]
 have HO1:Hid (OwnI w1 base vl ns):=by
  obtain ⟨x1,x2⟩:=aU HO
  refine ⟨x1,?_⟩
  rcases x2 with x2 | ⟨g,cap,cur,rfl,hb,hcur,hrr⟩
  ·exact .inl x2
  ·exact .inr ⟨g,cap,cur,rfl,hb,(hblk1 g (Array.getElem?_eq_some_iff.1 hcur).1 (fun e=>hne (by rw [e]; rfl))).trans hcur,hrr⟩
 have HF1:Hid (Fr (fun i=>i≠mb∧some i≠vl.ownBlock) w w1):=⟨hk1.os,hk1.tape,hk1.output,by omega,fun i hi hp=>hblk1 i hi hp.1⟩
 have HR1:Hid (RowB w1 bb bs):=⟨hl,(hblk1 bb (aU HR).2.lt (fun e=>hmb e.symm)).trans (aU HR).2⟩
 have HM1:=aH hm1
 have a1:=aF.at1 hm1
 have hf1:=aF.fz hm1
 have hlt1:=aF.lt hm1
 have HS1:=aH hsz1
 have hbs1:base≤w1.heap.size:=by omega
 clear hm1 hk1 hs1 hblk1 HRS HM HR HO c3 c4 hf hsz1
 go_wp2_with (at_builtin; go_loud (refine wpList_append_own_at _ rfl (.tmp 75) (.tmp 77) 56 rfl base 3 i0 (.int .i64 0) 1 8 underI hi hz0 hz1 hz2 rfl (by decide) _ ns.length _ rfl ((aU HO1).alloc _) ⟨w1.heap.size,0,none⟩ 1 1 [.int .i64 n] rfl rfl ?c1 ?c2 ?c3 ?c4 ?c5 ?_))
 case c1 =>
  intro j u hj
  match j,hj with
  | 0,hj=>simp at hj; subst hj; simp [Addr.add]
  | n+1,hj=>simp at hj
 case c2=>intro u hu; simp at hu; subst hu; rfl
 case c3=>unfold maxLen; omega
 case c4=>omega
 case c5=>simp; omega
 intro v' w3 hown' hgrow _ hat
 obtain ⟨va,vn,vc,rfl⟩:=own_slice hown'
 have HO3:Hid (OwnI w3 base (.slice va vn vc) (ns++[(n:Int)])):=by
  unfold Hid OwnI
  rw [List.length_append,List.map_append]
  exact hown'
 have hblk : ∀ i,i<w1.heap.size→some i≠vl.ownBlock→w3.heap[i]? = w1.heap[i]?:=fun i hi hne =>
  (hgrow.block i (by simp; omega) hne).trans (Below.heap_alloc _ _ _ hi)
 have HM3:=aH (aF.of (aU HM1) (hblk mb hlt1 hne))
 have HR3:Hid (RowB w3 bb bs):=⟨hl,(hblk bb (aU HR1).2.lt hneb).trans (aU HR1).2⟩
 have HF3:Hid (Fr (fun i=>i≠mb∧some i≠vl.ownBlock) w w3) :=
  (aU HF1).trans ⟨hgrow.os,hgrow.tape,hgrow.output,Nat.le_trans (by simp) hgrow.size,fun i hi hp=>hblk i hi hp.2⟩
 have HA:Hid ((Value.slice va vn vc).ownBlock=vl.ownBlock∨∃ g,(Value.slice va vn vc).ownBlock=some g∧w.heap.size≤g):=by
  rcases hat with h | h
  ·exact .inl h
  ·exact .inr ⟨_,h,by have:=aU HS1; simp; omega⟩
 have hne3:some mb≠(Value.slice va vn vc).ownBlock:=own_ne (aU HM3) (aU HO3) (by decide)
 have hfz:=aF.fz (aU HM3)
 have b1:=aF.at1 (aU HM3)
 have b0:=aF.at0 (aU HM3)
 have hM4:=aF.set1 (aU HM3) (.slice va vn vc)
 have q0:=aF.at0 hM4
 have HM4:=aH hM4
 have hcell:(w3.setCell ⟨mb,1,none⟩ (.slice va vn vc)).cell? ⟨bb,n,none⟩=some (.int .u8 bv.toNat):=by
  have:=(aU HR3).2.cell n (by simpa using hn)
  rw [World.cell?_setCell_other _ _ _ _ (fun x=>hmb (by have:=congrArg Addr.block x; exact this)),this]
  simp [hbn]
 have hcell3:w3.cell? ⟨bb,n,none⟩=some (.int .u8 bv.toNat):=by
  have:=(aU HR3).2.cell n (by simpa using hn)
  rw [this]; simp [hbn]
 have hn':n<25600:=by omega
 clear hown' hgrow hat hblk hne hM4 HM1 HO1 HR1 HF1 a1 hf1 hlt1 hbs1 hl hn hbn hbv
 go_wp2
 go_ret
 refine ⟨rfl,_,aU HM4,?_,aU HA,(aU HF3).trans (Fr.of_set _ fun i h=>h.1)⟩
 exact aS (aU HO3) hne3 _ _
end Qa
namespace Qb
open Ka Wa Wb Wc Wd We Wf Wg Wh Wi Wj Wk Wl Wm Ha Hb Hc Re Qa
theorem RowB.set {w:World} {bb:Nat} {bs:Str} (h:RowB w bb bs) (n:Nat) (c:UInt8):RowB (w.setCell ⟨bb,n,none⟩ (.int .u8 c.toNat)) bb (bs.set n c) :=
 ⟨by rw [List.length_set]; exact h.1,by have:=h.2.set n (.int .u8 c.toNat); rwa [List.map_set]⟩
theorem RowB.of {w w':World} {bb:Nat} {bs:Str} (h:RowB w bb bs) (hb:w'.heap[bb]? = w.heap[bb]?):RowB w' bb bs:=⟨h.1,hb.trans h.2⟩
def MemE (w:World) (mb bb:Nat) (vl vm:Value) (wild:Bool) (cnt:Nat) (d0 d1:Bool) (st:Nat):Prop:=∃ early,aF w mb bb vl vm wild cnt early d0 d1 st
def Ring (n rg:Nat):Prop:=(rg=0∧n<512)∨(rg=0∧1024≤n∧n<13312)∨(rg=1∧512≤n∧n<1024)∨(rg=1∧13312≤n)
theorem store_plain (mb bb n rg:Nat) (c:UInt8) (vl vm:Value) (wild early d0 d1:Bool) (cnt st:Nat) (bs:Str) (w:World) (h:aF w mb bb vl vm wild cnt early d0 d1 st) (hr:RowB w bb bs) (hn:n<25600) (hst:st≤100000000) (hrg:Ring n rg) (h0:n≠130+512*rg) (h1:n≠131+512*rg) :
  Calls Tryz.prog 155 #[.pointer (some ⟨mb,0,none⟩),.int .i64 n,.int .u8 c.toNat] w fun e w' =>
   e=.returned (.tuple #[])∧MemE w' mb bb vl vm wild cnt d0 d1 (st+1)∧RowB w' bb (bs.set n c)∧Fr (fun i=>i≠mb∧i≠bb) w w':=by
 have hmb:mb≠bb:=blk_ne h hr.2 (by decide)
 obtain ⟨s1,hs1⟩ : ∃ s1,s1=st+1:=⟨_,rfl⟩
 have ks:(st:Int)+1=(s1:Int):=by omega
 rw [← hs1]
 have hsb:s1≤200000000:=by omega
 have hM1:=aF.set9 h s1
 have m0:=aF.at0 h
 have m9:=aF.at9 h
 have m6:=aF.at6 h
 have m7:=aF.at7 h
 have m8:=aF.at8 h
 have hf:=aF.fz h
 have p0:=aF.at0 hM1
 have p6:=aF.at6 hM1
 have p7:=aF.at7 hM1
 have p8:=aF.at8 hM1
 have hf1:=aF.fz hM1
 have HM1:=aH hM1
 have HR:=aH hr
 have hbl:=hr.2.lt
 have hbc:=hr.2.cell n (by simpa using (by rw [hr.1]; exact hn))
 have hbf:=hr.2.frozen
 simp only [List.getElem_map] at hbc
 have hbn:n<bs.length:=by rw [hr.1]; exact hn
 have hbc2 : ∃ v,w.cell? ⟨bb,n,none⟩=some (.int .u8 v):=⟨_,hbc⟩
 obtain ⟨v0,hv0⟩:=hbc2
 clear h hr hs1 hM1 hbc
 have HF:Hid (∀ (W:World) (b:Bool),W=(w.setCell ⟨mb,9,none⟩ (.int .i64 s1)).setCell ⟨mb,6,none⟩ (.bool b)→aF (W.setCell ⟨bb,n,none⟩ (.int .u8 c.toNat)) mb bb vl vm wild cnt b d0 d1 s1∧RowB (W.setCell ⟨bb,n,none⟩ (.int .u8 c.toNat)) bb (bs.set n c)∧Fr (fun i=>i≠mb∧i≠bb) w (W.setCell ⟨bb,n,none⟩ (.int .u8 c.toNat))):=fun W b hW=>by
  subst hW
  have e1:=aF.set6 (aU HM1) b
  have r1:RowB ((w.setCell ⟨mb,9,none⟩ (.int .i64 s1)).setCell ⟨mb,6,none⟩ (.bool b)) bb bs:=RowB.of (aU HR) ((Below.heap_setCell _ _ _ _ (fun e=>hmb e.symm)).trans (Below.heap_setCell _ _ _ _ (fun e=>hmb e.symm)))
  exact ⟨aF.of e1 (Below.heap_setCell _ _ _ _ hmb),RowB.set r1 n c,((Fr.of_set (a:=⟨mb,9,none⟩) (p:=fun i=>i≠mb∧i≠bb) _ fun i h=>h.1).trans (Fr.of_set _ fun i h=>h.1)).trans (Fr.of_set _ fun i h=>h.2)⟩
 go_enter Tryz.func155,Tryz.ntmps155
 rcases hrg with ⟨rfl,q1⟩ | ⟨rfl,q1,q2⟩ | ⟨rfl,q1,q2⟩ | ⟨rfl,q1⟩
 ·have k0 : ¬ (n:Int)<0:=by omega
  have k1 : ¬ (25600:Int)≤(n:Int):=by omega
  have k2 : ¬ (512:Int)≤(n:Int):=by omega
  have k3 : ¬ (13312:Int)≤(n:Int):=by omega
  have k6 : ¬ (n:Int)=130:=by omega
  have k7 : ¬ (n:Int)=131:=by omega
  have k4:((n:Int) == 130)=false:=by simpa using k6
  have k5:((n:Int) == 131)=false:=by simpa using k7
  have k8 : ¬ n=130:=by omega
  have k9 : ¬ n=131:=by omega
  clear hst hbn h0 h1 q1 p0 p6 p7 p8 hf1
  cases early with
  | true =>
   go_wp2
   refine bodyPost_end (v:=.tuple #[]) (by simp [results,Tryz.results155]) rfl ?_
   have hfin:=aU HF _ true rfl
   exact ⟨rfl,⟨true,hfin.1⟩,hfin.2.1,hfin.2.2⟩
  | false =>
   go_wp2
   refine bodyPost_end (v:=.tuple #[]) (by simp [results,Tryz.results155]) rfl ?_
   have hfin:=aU HF _ d0 rfl
   exact ⟨rfl,⟨_,hfin.1⟩,hfin.2.1,hfin.2.2⟩
 ·have k0 : ¬ (n:Int)<0:=by omega
  have k1 : ¬ (25600:Int)≤(n:Int):=by omega
  have k2:(512:Int)≤(n:Int):=by omega
  have k2a : ¬ (n:Int)<1024:=by omega
  have k3 : ¬ (13312:Int)≤(n:Int):=by omega
  have k6 : ¬ (n:Int)=130:=by omega
  have k7 : ¬ (n:Int)=131:=by omega
  have k4:((n:Int) == 130)=false:=by simpa using k6
  have k5:((n:Int) == 131)=false:=by simpa using k7
  have k8 : ¬ n=130:=by omega
  have k9 : ¬ n=131:=by omega
  clear hst hbn h0 h1 q1 q2 p0 p6 p7 p8 hf1
  cases early with
  | true =>
   go_wp2
   refine bodyPost_end (v:=.tuple #[]) (by simp [results,Tryz.results155]) rfl ?_
   have hfin:=aU HF _ true rfl
   exact ⟨rfl,⟨true,hfin.1⟩,hfin.2.1,hfin.2.2⟩
  | false =>
   go_wp2
   refine bodyPost_end (v:=.tuple #[]) (by simp [results,Tryz.results155]) rfl ?_
   have hfin:=aU HF _ d0 rfl
   exact ⟨rfl,⟨_,hfin.1⟩,hfin.2.1,hfin.2.2⟩
 ·have k0 : ¬ (n:Int)<0:=by omega
  have k1 : ¬ (25600:Int)≤(n:Int):=by omega
  have k2:(512:Int)≤(n:Int):=by omega
  have k2a:(n:Int)<1024:=by omega
  have k6 : ¬ (n:Int)=642:=by omega
  have k7 : ¬ (n:Int)=643:=by omega
  have k4:((n:Int) == 642)=false:=by simpa using k6
  have k5:((n:Int) == 643)=false:=by simpa using k7
  have k8 : ¬ n=642:=by omega
  have k9 : ¬ n=643:=by omega
  clear hst hbn h0 h1 q1 q2 p0 p6 p7 p8 hf1
  cases early with
  | true =>
   go_wp2
   refine bodyPost_end (v:=.tuple #[]) (by simp [results,Tryz.results155]) rfl ?_
   have hfin:=aU HF _ true rfl
   exact ⟨rfl,⟨true,hfin.1⟩,hfin.2.1,hfin.2.2⟩
  | false =>
   go_wp2
   refine bodyPost_end (v:=.tuple #[]) (by simp [results,Tryz.results155]) rfl ?_
   have hfin:=aU HF _ d1 rfl
   exact ⟨rfl,⟨_,hfin.1⟩,hfin.2.1,hfin.2.2⟩
 ·have k0 : ¬ (n:Int)<0:=by omega
  have k1 : ¬ (25600:Int)≤(n:Int):=by omega
  have k2:(512:Int)≤(n:Int):=by omega
  have k2a : ¬ (n:Int)<1024:=by omega
  have k3:(13312:Int)≤(n:Int):=by omega
  have k6 : ¬ (n:Int)=642:=by omega
  have k7 : ¬ (n:Int)=643:=by omega
  have k4:((n:Int) == 642)=false:=by simpa using k6
  have k5:((n:Int) == 643)=false:=by simpa using k7
  have k8 : ¬ n=642:=by omega
  have k9 : ¬ n=643:=by omega
  clear hst hbn h0 h1 q1 p0 p6 p7 p8 hf1
  cases early with
  | true =>
   go_wp2
   refine bodyPost_end (v:=.tuple #[]) (by simp [results,Tryz.results155]) rfl ?_
   have hfin:=aU HF _ true rfl
   exact ⟨rfl,⟨true,hfin.1⟩,hfin.2.1,hfin.2.2⟩
  | false =>
   go_wp2
   refine bodyPost_end (v:=.tuple #[]) (by simp [results,Tryz.results155]) rfl ?_
   have hfin:=aU HF _ d1 rfl
   exact ⟨rfl,⟨_,hfin.1⟩,hfin.2.1,hfin.2.2⟩
end Qb
namespace Qc
open Ka Wa Wb Wc Wd We Wf Wg Wh Wi Wj Wk Wl Wm Ha Hb Hc Re Qa Qb
theorem infoM:(Tryz.prog.info? 177).map (fun i=>(i.zero,i.size,i.bytes))=some (some (.agg #[.int .i64 0,.int .i64 0]),2,16):=by kernel_rfl
theorem underM:Tryz.prog.underlying 81=some (.slice 177):=by kernel_rfl
theorem new2 (W:World) (b:Nat) (hb:b=W.heap.size) (x y:Int) (t:TypeId) : ∀ (j:Nat) (u:Value),[Value.int .i64 x,Value.int .i64 y][j]? = some u→(W.alloc (.cells #[.int .i64 x,.int .i64 y] t)).cell? ((⟨b,0,none⟩:Addr).add j)=some u:=fun j u hj=>by
 subst hb
 match j,hj with
 | 0,hj=>simp at hj; subst hj; simp [Addr.add]
 | 1,hj=>simp at hj; subst hj; exact (aB.new W [Value.int .i64 x,Value.int .i64 y] t).cell 1 (by simp)
 | n+2,hj=>simp at hj
theorem one2 (x y:Int) : ∀ u∈[Value.int .i64 x,Value.int .i64 y],u.oneCell'=true:=by
 intro u hu
 simp at hu
 rcases hu with rfl | rfl <;> rfl
def MemD (w:World) (mb bb:Nat) (vl vm:Value) (wild:Bool) (cnt st:Nat):Prop:=∃ early d0 d1,aF w mb bb vl vm wild cnt early d0 d1 st
def MarksAt (w:World) (base:Nat) (v:Value) (k:Nat):Prop:=∃ ms,OwnM w base v ms∧ms.length≤k
theorem fin_index {w w3:World} {mb bb base n:Nat} {c:UInt8} {vl vm vm':Value} {wild early d0 d1:Bool} {cnt s1:Nat} {bs:Str} {ms:List (Int×Int)} {P:Nat→Prop}
  (hm:aF w3 mb bb vl vm wild cnt early d0 d1 s1) (ho:OwnM w3 base vm' ms) (hr:RowB w3 bb bs) (hF:Fr P w w3) (hP : ∀ i,P i→i≠mb∧i≠bb) :
  MemD ((w3.setCell ⟨mb,5,none⟩ vm').setCell ⟨bb,n,none⟩ (.int .u8 c.toNat)) mb bb vl vm' wild cnt s1∧MarksAt ((w3.setCell ⟨mb,5,none⟩ vm').setCell ⟨bb,n,none⟩ (.int .u8 c.toNat)) base vm' ms.length∧RowB ((w3.setCell ⟨mb,5,none⟩ vm').setCell ⟨bb,n,none⟩ (.int .u8 c.toNat)) bb (bs.set n c)∧Fr P w ((w3.setCell ⟨mb,5,none⟩ vm').setCell ⟨bb,n,none⟩ (.int .u8 c.toNat)):=by
 have hmb:mb≠bb:=blk_ne hm hr.2 (by decide)
 have n1:some mb≠vm'.ownBlock:=own_ne hm ho (by decide)
 have n2:some bb≠vm'.ownBlock:=own_ne hr.2 ho (by decide)
 refine ⟨⟨early,d0,d1,aF.of (aF.set5 hm vm') (Below.heap_setCell _ _ _ _ hmb)⟩,⟨ms,aS (aS ho n1 _ _) n2 _ _,Nat.le_refl _⟩,RowB.set (RowB.of hr (Below.heap_setCell _ _ _ _ (fun e=>hmb e.symm))) n c,(hF.trans (Fr.of_set _ fun i h=>(hP i h).1)).trans (Fr.of_set _ fun i h=>(hP i h).2)⟩
theorem store_first (mb bb base n:Nat) (c:UInt8) (vl:Value) (wild early d0 d1:Bool) (cnt st:Nat) (bs:Str) (vm:Value) (w:World) (h:aF w mb bb vl vm wild cnt early d0 d1 st) (ho:OwnM w base vm []) (hr:RowB w bb bs) (hbs:base≤w.heap.size) (hst:st≤100000000) (hn:n=130∨n=131∨n=642∨n=643) :
  Calls Tryz.prog 155 #[.pointer (some ⟨mb,0,none⟩),.int .i64 n,.int .u8 c.toNat] w fun e w' =>
   e=.returned (.tuple #[])∧(∃ vm',MemD w' mb bb vl vm' wild cnt (st+1)∧MarksAt w' base vm' 1)∧RowB w' bb (bs.set n c)∧Fr (fun i=>i≠mb∧i≠bb∧some i≠vm.ownBlock) w w':=by
 obtain ⟨i0,hi,hz0,hz1,hz2⟩:=info_parts infoM
 obtain ⟨va,vc,rfl⟩ : ∃ a c,vm=.slice a 0 c:=by
  obtain ⟨_,⟨rfl,_⟩ | ⟨g,cap,cur,rfl,_⟩⟩:=ho
  ·exact ⟨_,_,rfl⟩
  ·exact ⟨_,_,rfl⟩
 obtain ⟨s1,hs1⟩ : ∃ s1,s1=st+1:=⟨_,rfl⟩
 have ks:(st:Int)+1=(s1:Int):=by omega
 rw [← hs1]
 have hsb:s1≤200000000:=by omega
 have m0:=aF.at0 h
 have m4:=aF.at4 h
 have m5:=aF.at5 h
 have m7:=aF.at7 h
 have m8:=aF.at8 h
 have m9:=aF.at9 h
 have hf:=aF.fz h
 have HM:=aH h
 have HR:=aH hr
 have HO:=aH ho
 clear h hr ho hs1 hst
 have hne:some mb≠(Value.slice va 0 vc).ownBlock:=own_ne (aU HM) (aU HO) (by decide)
 have hneb:some bb≠(Value.slice va 0 vc).ownBlock:=own_ne (aU HR).2 (aU HO) (by decide)
 have hmb:mb≠bb:=blk_ne (aU HM) (aU HR).2 (by decide)
 have hlt:=aF.lt (aU HM)
 go_enter Tryz.func155,Tryz.ntmps155
 rcases hn with rfl | rfl | rfl | rfl
 ·have HM1:=aH (aF.set7 (aF.set9 (aU HM) s1) true)
  have HO1:Hid (OwnM ((w.setCell ⟨mb,9,none⟩ (.int .i64 s1)).setCell ⟨mb,7,none⟩ (.bool true)) base (.slice va 0 vc) []):=aS (aS (aU HO) hne _ _) hne _ _
  go_upto_region 9 with fail
  go_region
  go_upto_region 10 with fail
  go_region_law (first | (refine step_append_lies _ rfl (.tmp 84) (.tmp 91) 81 rfl base 177 i0 (.agg #[.int .i64 0,.int .i64 0]) 2 16 underM hi hz0 hz1 hz2 rfl (by decide) _ 0 [] rfl ((aU HO1).alloc _) _ 1 1 [.int .i64 0,.int .i64 cnt] rfl rfl (new2 _ _ (by simp [World.setCell]) 0 cnt _) (one2 0 cnt) (by decide) (by unfold maxLen; omega) (by omega) (by simp [World.setCell]; omega) (w.heap.size+1) (by simp [World.setCell]) ?_; intro g cap w3 hown hgrow hat hlt3; have hm3:=aF.of (aU HM1) ((hgrow.block mb (by simp [World.setCell]; omega) hne).trans (Below.heap_alloc _ _ _ (by simpa [World.setCell] using hlt))); have b5:=aF.at5 hm3; have hf3:=aF.fz hm3))
  all_goals
   have hown':OwnM w3 base (.slice (some ⟨g,0,none⟩) 1 cap) [((0:Int),(cnt:Int))]:=hown
   have hgr:World.grownBy (((w.setCell ⟨mb,9,none⟩ (.int .i64 s1)).setCell ⟨mb,7,none⟩ (.bool true)).alloc (.cells #[.int .i64 0,.int .i64 cnt] 177)) w3 (Value.slice va 0 vc).ownBlock:=⟨hgrow.os,hgrow.tape,hgrow.output,hgrow.size,hgrow.block⟩
   have hblk : ∀ i,i<w.heap.size→i≠mb→some i≠(Value.slice va 0 vc).ownBlock→w3.heap[i]? = w.heap[i]?:=fun i hi h1 h2 =>
    ((hgr.block i (by simp [World.setCell]; omega) h2).trans (Below.heap_alloc _ _ _ (by simpa [World.setCell] using hi))).trans ((Below.heap_setCell _ _ _ _ h1).trans (Below.heap_setCell _ _ _ _ h1))
   have hr3:RowB w3 bb bs:=RowB.of (aU HR) (hblk bb (aU HR).2.lt (fun e=>hmb e.symm) hneb)
   have hF3:Fr (fun i=>i≠mb∧i≠bb∧some i≠(Value.slice va 0 vc).ownBlock) w w3:=⟨hgr.os,hgr.tape,hgr.output,Nat.le_trans (by simp [World.setCell]) hgr.size,fun i hi hp=>hblk i hi hp.1 hp.2.2⟩
   have HFIN:=aH (fin_index (n:=130) (c:=c) hm3 hown' hr3 hF3 fun i h=>⟨h.1,h.2.1⟩)
   have b0:=aF.at0 hm3
   obtain ⟨v0,hrow⟩ : ∃ v,w3.cell? ⟨bb,130,none⟩=some v:=⟨_,hr3.2.cell 130 (by simp [hr3.1])⟩
   have hfrow:=hr3.2.frozen
   clear hown hgrow hat hgr hblk hr3 hF3 hown' hm3
   go_wp2
   refine bodyPost_end (v:=.tuple #[]) (by simp [results,Tryz.results155]) rfl ?_
   have hfin:=aU HFIN
   exact ⟨rfl,⟨_,hfin.1,hfin.2.1⟩,hfin.2.2.1,hfin.2.2.2⟩
 ·have HM1:=aH (aF.set7 (aF.set9 (aU HM) s1) true)
  have HO1:Hid (OwnM ((w.setCell ⟨mb,9,none⟩ (.int .i64 s1)).setCell ⟨mb,7,none⟩ (.bool true)) base (.slice va 0 vc) []):=aS (aS (aU HO) hne _ _) hne _ _
  go_upto_region 9 with fail
  go_region
  go_upto_region 10 with fail
  go_region_law (first | (refine step_append_lies _ rfl (.tmp 84) (.tmp 91) 81 rfl base 177 i0 (.agg #[.int .i64 0,.int .i64 0]) 2 16 underM hi hz0 hz1 hz2 rfl (by decide) _ 0 [] rfl ((aU HO1).alloc _) _ 1 1 [.int .i64 0,.int .i64 cnt] rfl rfl (new2 _ _ (by simp [World.setCell]) 0 cnt _) (one2 0 cnt) (by decide) (by unfold maxLen; omega) (by omega) (by simp [World.setCell]; omega) (w.heap.size+1) (by simp [World.setCell]) ?_; intro g cap w3 hown hgrow hat hlt3; have hm3:=aF.of (aU HM1) ((hgrow.block mb (by simp [World.setCell]; omega) hne).trans (Below.heap_alloc _ _ _ (by simpa [World.setCell] using hlt))); have b5:=aF.at5 hm3; have hf3:=aF.fz hm3))
  all_goals
   have hown':OwnM w3 base (.slice (some ⟨g,0,none⟩) 1 cap) [((0:Int),(cnt:Int))]:=hown
   have hgr:World.grownBy (((w.setCell ⟨mb,9,none⟩ (.int .i64 s1)).setCell ⟨mb,7,none⟩ (.bool true)).alloc (.cells #[.int .i64 0,.int .i64 cnt] 177)) w3 (Value.slice va 0 vc).ownBlock:=⟨hgrow.os,hgrow.tape,hgrow.output,hgrow.size,hgrow.block⟩
   have hblk : ∀ i,i<w.heap.size→i≠mb→some i≠(Value.slice va 0 vc).ownBlock→w3.heap[i]? = w.heap[i]?:=fun i hi h1 h2 =>
    ((hgr.block i (by simp [World.setCell]; omega) h2).trans (Below.heap_alloc _ _ _ (by simpa [World.setCell] using hi))).trans ((Below.heap_setCell _ _ _ _ h1).trans (Below.heap_setCell _ _ _ _ h1))
   have hr3:RowB w3 bb bs:=RowB.of (aU HR) (hblk bb (aU HR).2.lt (fun e=>hmb e.symm) hneb)
   have hF3:Fr (fun i=>i≠mb∧i≠bb∧some i≠(Value.slice va 0 vc).ownBlock) w w3:=⟨hgr.os,hgr.tape,hgr.output,Nat.le_trans (by simp [World.setCell]) hgr.size,fun i hi hp=>hblk i hi hp.1 hp.2.2⟩
   have HFIN:=aH (fin_index (n:=131) (c:=c) hm3 hown' hr3 hF3 fun i h=>⟨h.1,h.2.1⟩)
   have b0:=aF.at0 hm3
   obtain ⟨v0,hrow⟩ : ∃ v,w3.cell? ⟨bb,131,none⟩=some v:=⟨_,hr3.2.cell 131 (by simp [hr3.1])⟩
   have hfrow:=hr3.2.frozen
   clear hown hgrow hat hgr hblk hr3 hF3 hown' hm3
   go_wp2
   refine bodyPost_end (v:=.tuple #[]) (by simp [results,Tryz.results155]) rfl ?_
   have hfin:=aU HFIN
   exact ⟨rfl,⟨_,hfin.1,hfin.2.1⟩,hfin.2.2.1,hfin.2.2.2⟩
 ·have HM1:=aH (aF.set8 (aF.set9 (aU HM) s1) true)
  have HO1:Hid (OwnM ((w.setCell ⟨mb,9,none⟩ (.int .i64 s1)).setCell ⟨mb,8,none⟩ (.bool true)) base (.slice va 0 vc) []):=aS (aS (aU HO) hne _ _) hne _ _
  go_upto_region 9 with fail
  go_region
  go_upto_region 10 with fail
  go_region_law (first | (refine step_append_lies _ rfl (.tmp 84) (.tmp 91) 81 rfl base 177 i0 (.agg #[.int .i64 0,.int .i64 0]) 2 16 underM hi hz0 hz1 hz2 rfl (by decide) _ 0 [] rfl ((aU HO1).alloc _) _ 1 1 [.int .i64 1,.int .i64 cnt] rfl rfl (new2 _ _ (by simp [World.setCell]) 1 cnt _) (one2 1 cnt) (by decide) (by unfold maxLen; omega) (by omega) (by simp [World.setCell]; omega) (w.heap.size+1) (by simp [World.setCell]) ?_; intro g cap w3 hown hgrow hat hlt3; have hm3:=aF.of (aU HM1) ((hgrow.block mb (by simp [World.setCell]; omega) hne).trans (Below.heap_alloc _ _ _ (by simpa [World.setCell] using hlt))); have b5:=aF.at5 hm3; have hf3:=aF.fz hm3))
  all_goals
   have hown':OwnM w3 base (.slice (some ⟨g,0,none⟩) 1 cap) [((1:Int),(cnt:Int))]:=hown
   have hgr:World.grownBy (((w.setCell ⟨mb,9,none⟩ (.int .i64 s1)).setCell ⟨mb,8,none⟩ (.bool true)).alloc (.cells #[.int .i64 1,.int .i64 cnt] 177)) w3 (Value.slice va 0 vc).ownBlock:=⟨hgrow.os,hgrow.tape,hgrow.output,hgrow.size,hgrow.block⟩
   have hblk : ∀ i,i<w.heap.size→i≠mb→some i≠(Value.slice va 0 vc).ownBlock→w3.heap[i]? = w.heap[i]?:=fun i hi h1 h2 =>
    ((hgr.block i (by simp [World.setCell]; omega) h2).trans (Below.heap_alloc _ _ _ (by simpa [World.setCell] using hi))).trans ((Below.heap_setCell _ _ _ _ h1).trans (Below.heap_setCell _ _ _ _ h1))
   have hr3:RowB w3 bb bs:=RowB.of (aU HR) (hblk bb (aU HR).2.lt (fun e=>hmb e.symm) hneb)
   have hF3:Fr (fun i=>i≠mb∧i≠bb∧some i≠(Value.slice va 0 vc).ownBlock) w w3:=⟨hgr.os,hgr.tape,hgr.output,Nat.le_trans (by simp [World.setCell]) hgr.size,fun i hi hp=>hblk i hi hp.1 hp.2.2⟩
   have HFIN:=aH (fin_index (n:=642) (c:=c) hm3 hown' hr3 hF3 fun i h=>⟨h.1,h.2.1⟩)
   have b0:=aF.at0 hm3
   obtain ⟨v0,hrow⟩ : ∃ v,w3.cell? ⟨bb,642,none⟩=some v:=⟨_,hr3.2.cell 642 (by simp [hr3.1])⟩
   have hfrow:=hr3.2.frozen
   clear hown hgrow hat hgr hblk hr3 hF3 hown' hm3
   go_wp2
   refine bodyPost_end (v:=.tuple #[]) (by simp [results,Tryz.results155]) rfl ?_
   have hfin:=aU HFIN
   exact ⟨rfl,⟨_,hfin.1,hfin.2.1⟩,hfin.2.2.1,hfin.2.2.2⟩
 ·have HM1:=aH (aF.set8 (aF.set9 (aU HM) s1) true)
  have HO1:Hid (OwnM ((w.setCell ⟨mb,9,none⟩ (.int .i64 s1)).setCell ⟨mb,8,none⟩ (.bool true)) base (.slice va 0 vc) []):=aS (aS (aU HO) hne _ _) hne _ _
  go_upto_region 9 with fail
  go_region
  go_upto_region 10 with fail
  go_region_law (first | (refine step_append_lies _ rfl (.tmp 84) (.tmp 91) 81 rfl base 177 i0 (.agg #[.int .i64 0,.int .i64 0]) 2 16 underM hi hz0 hz1 hz2 rfl (by decide) _ 0 [] rfl ((aU HO1).alloc _) _ 1 1 [.int .i64 1,.int .i64 cnt] rfl rfl (new2 _ _ (by simp [World.setCell]) 1 cnt _) (one2 1 cnt) (by decide) (by unfold maxLen; omega) (by omega) (by simp [World.setCell]; omega) (w.heap.size+1) (by simp [World.setCell]) ?_; intro g cap w3 hown hgrow hat hlt3; have hm3:=aF.of (aU HM1) ((hgrow.block mb (by simp [World.setCell]; omega) hne).trans (Below.heap_alloc _ _ _ (by simpa [World.setCell] using hlt))); have b5:=aF.at5 hm3; have hf3:=aF.fz hm3))
  all_goals
   have hown':OwnM w3 base (.slice (some ⟨g,0,none⟩) 1 cap) [((1:Int),(cnt:Int))]:=hown
   have hgr:World.grownBy (((w.setCell ⟨mb,9,none⟩ (.int .i64 s1)).setCell ⟨mb,8,none⟩ (.bool true)).alloc (.cells #[.int .i64 1,.int .i64 cnt] 177)) w3 (Value.slice va 0 vc).ownBlock:=⟨hgrow.os,hgrow.tape,hgrow.output,hgrow.size,hgrow.block⟩
   have hblk : ∀ i,i<w.heap.size→i≠mb→some i≠(Value.slice va 0 vc).ownBlock→w3.heap[i]? = w.heap[i]?:=fun i hi h1 h2 =>
    ((hgr.block i (by simp [World.setCell]; omega) h2).trans (Below.heap_alloc _ _ _ (by simpa [World.setCell] using hi))).trans ((Below.heap_setCell _ _ _ _ h1).trans (Below.heap_setCell _ _ _ _ h1))
   have hr3:RowB w3 bb bs:=RowB.of (aU HR) (hblk bb (aU HR).2.lt (fun e=>hmb e.symm) hneb)
   have hF3:Fr (fun i=>i≠mb∧i≠bb∧some i≠(Value.slice va 0 vc).ownBlock) w w3:=⟨hgr.os,hgr.tape,hgr.output,Nat.le_trans (by simp [World.setCell]) hgr.size,fun i hi hp=>hblk i hi hp.1 hp.2.2⟩
   have HFIN:=aH (fin_index (n:=643) (c:=c) hm3 hown' hr3 hF3 fun i h=>⟨h.1,h.2.1⟩)
   have b0:=aF.at0 hm3
   obtain ⟨v0,hrow⟩ : ∃ v,w3.cell? ⟨bb,643,none⟩=some v:=⟨_,hr3.2.cell 643 (by simp [hr3.1])⟩
   have hfrow:=hr3.2.frozen
   clear hown hgrow hat hgr hblk hr3 hF3 hown' hm3
   go_wp2
   refine bodyPost_end (v:=.tuple #[]) (by simp [results,Tryz.results155]) rfl ?_
   have hfin:=aU HFIN
   exact ⟨rfl,⟨_,hfin.1,hfin.2.1⟩,hfin.2.2.1,hfin.2.2.2⟩
end Qc
end Go.Proofs.YtkkpahmoljiepaaGreatDoor
