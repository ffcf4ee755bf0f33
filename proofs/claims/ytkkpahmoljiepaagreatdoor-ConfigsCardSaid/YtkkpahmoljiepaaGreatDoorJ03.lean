/- Contracts: wire's reader: take, octet, short. -/
import Derived.Test.YtkkpahmoljiepaaGreatDoorJ02
import Derived.Laws.BitsAllLaws
import Derived.RegionTactic
import Derived.ChangeAlike
import Derived.Shelf.SlicesQ.Contains
import Derived.Shelf.SlicesQ.IndexFunc
import Derived.Shelf.SlicesE.Clone
import Derived.Shelf.SlSortCmp.InsertionK
import Derived.Ground.SlgqProg
import Derived.Ground.SlgfProg
import Derived.Ground.SlsfProg
import Derived.Ground.SlgnProg
import Derived.Test.YtkkpahmoljiepaaGreatDoorProg
set_option linter.unusedSimpArgs false
set_option linter.unusedVariables false
set_option maxRecDepth 1000000
set_option maxHeartbeats 12800000
namespace Go.Proofs.YtkkpahmoljiepaaGreatDoor
open Go.RowKit
open Pu (Str aH aU)
theorem Keeps_refl (d:Nat) (A:World):It.Keeps d A A:=⟨rfl,rfl,rfl,Nat.le_refl _,fun _ _ _=>rfl⟩
theorem Keeps_trans {d:Nat} {A B C:World} (h:It.Keeps d A B) (k:It.Keeps d B C):It.Keeps d A C :=
 ⟨k.os.trans h.os,k.tape.trans h.tape,k.output.trans h.output,Nat.le_trans h.size k.size,fun i hi hd=>(k.block i (Nat.lt_of_lt_of_le hi h.size) hd).trans (h.block i hi hd)⟩
theorem Keeps_set {d:Nat} {A B:World} (h:It.Keeps d A B) (o:Nat) (v:Value):It.Keeps d A (B.setCell ⟨d,o,none⟩ v) :=
 Keeps_trans h ⟨rfl,rfl,rfl,by simp [World.setCell],fun k _ hk=>Below.heap_setCell _ _ _ _ hk⟩
def RdAt (w:World) (b:Nat) (s:Str) (br:Bool):Prop:=w.heap[b]? = some (.cells #[.string (B s),.bool br] 215)
section
variable {w:World} {b:Nat} {s:Str} {br:Bool}
theorem RdAt.lt (h:RdAt w b s br):b<w.heap.size:=(Array.getElem?_eq_some_iff.1 h).1
theorem RdAt.cells (h:RdAt w b s br):w.cell? ⟨b,0,none⟩=some (.string (B s))∧w.cell? ⟨b,1,none⟩=some (.bool br):=by
 unfold RdAt at h
 constructor <;> simp [World.cell?,h]
theorem RdAt.frozen (h:RdAt w b s br) (i:Nat):w.frozen? ⟨b,i,none⟩=false:=by
 unfold RdAt at h; simp [World.frozen?,h]
theorem RdAt.set0 (h:RdAt w b s br) (t:Str):RdAt (w.setCell ⟨b,0,none⟩ (.string (B t))) b t br:=by
 unfold RdAt at *; simp only [World.setCell]; rw [Array.getElem?_modify,if_pos rfl,h]; rfl
theorem RdAt.set1 (h:RdAt w b s br) (t:Bool):RdAt (w.setCell ⟨b,1,none⟩ (.bool t)) b s t:=by
 unfold RdAt at *; simp only [World.setCell]; rw [Array.getElem?_modify,if_pos rfl,h]; rfl
end
namespace Wa
open Ka
theorem B_take (s:Str) (n:Nat) (h:n≤s.length):(B s).extract 0 n=B (s.take n):=by
 apply ByteArray.ext
 simp [B,ByteArray.data_extract]
theorem B_drop (s:Str) (n m:Nat) (h:m=s.length):(B s).extract n m=B (s.drop n):=by
 subst h
 apply ByteArray.ext
 simp [B,ByteArray.data_extract]
 exact List.take_of_length_le (by simp)
theorem take_ok (b n:Nat) (s:Str) (br:Bool) (w:World) (h:RdAt w b s br) (hn:n≤s.length) (hl:s.length≤1000000000) :
  Calls Tryz.prog 148 #[.pointer (some ⟨b,0,none⟩),.int .i64 n] w fun e w' =>
   e=.returned (.string (B (s.take n)))∧RdAt w' b (s.drop n) br∧It.Keeps b w w'∧w'.heap.size=w.heap.size:=by
 obtain ⟨h0,h1⟩:=h.cells
 have hf:=h.frozen
 have HR:=aH h
 clear h
 have hs:(B s).size=s.length:=size_B s
 have HT:=aH (B_take s n hn)
 have HD:=aH (B_drop s n _ rfl)
 have hd : ¬ s.length<n:=by omega
 go_enter Tryz.func148,Tryz.ntmps148
 go_wp2
 go_ret
 rw [aU HD]
 refine ⟨?_,(aU HR).set0 _,Keeps_set (Keeps_refl _ _) _ _,by simp [World.setCell]⟩
 show Ending.returned (.string ((B s).extract 0 n))=_
 rw [aU HT]
theorem take_no (b n:Nat) (s:Str) (br:Bool) (w:World) (h:RdAt w b s br) (hn:s.length<n) (hl:n≤1000000000) :
  Calls Tryz.prog 148 #[.pointer (some ⟨b,0,none⟩),.int .i64 n] w fun e w' =>
   e=.returned (.string (B []))∧RdAt w' b [] true∧It.Keeps b w w'∧w'.heap.size=w.heap.size:=by
 obtain ⟨h0,h1⟩:=h.cells
 have hf:=h.frozen
 have HR:=aH h
 clear h
 have hs:(B s).size=s.length:=size_B s
 go_enter Tryz.func148,Tryz.ntmps148
 go_wp2
 go_ret
 exact ⟨rfl,((aU HR).set1 _).set0 [],Keeps_set (Keeps_set (Keeps_refl _ _) _ _) _ _,by simp [World.setCell]⟩
theorem octet_ok (b:Nat) (c:UInt8) (s:Str) (br:Bool) (w:World) (h:RdAt w b (c :: s) br) (hl:s.length<1000000000) :
  Calls Tryz.prog 198 #[.pointer (some ⟨b,0,none⟩)] w fun e w' =>
   e=.returned (.int .i64 c.toNat)∧RdAt w' b s br∧It.Keeps b w w'∧w'.heap.size=w.heap.size:=by
 have HC:=aH (take_ok b 1 (c :: s) br w h (by simp) (by simp; omega))
 clear h
 go_enter Tryz.func198,Tryz.ntmps198
 go_wp2_with fail
 refine (aU HC).mono ?_
 rintro e w1 ⟨rfl,hr,hk,hz⟩
 have HF:=aH (And.intro hr (And.intro hk hz))
 clear hr hk hz HC
 have e1:B (List.take 1 (c :: s))=⟨#[c]⟩:=rfl
 rw [e1]
 have HW:Hid (wrap64 (c.toNat:Int)=c.toNat):=by
  have:=UInt8.toNat_lt c
  show wrap64 _=_
  unfold wrap64; omega
 go_wp2_with fail
 go_ret
 refine ⟨?_,aU HF⟩
 show Ending.returned (.int .i64 (wrap64 (c.toNat:Int)))=_
 rw [aU HW]
theorem octet_no (b:Nat) (br:Bool) (w:World) (h:RdAt w b [] br) :
  Calls Tryz.prog 198 #[.pointer (some ⟨b,0,none⟩)] w fun e w' =>
   e=.returned (.int .i64 0)∧RdAt w' b [] true∧It.Keeps b w w'∧w'.heap.size=w.heap.size:=by
 have HC:=aH (take_no b 1 [] br w h (by simp) (by omega))
 clear h
 go_enter Tryz.func198,Tryz.ntmps198
 go_wp2_with fail
 refine (aU HC).mono ?_
 rintro e w1 ⟨rfl,hr,hk,hz⟩
 have HF:=aH (And.intro hr (And.intro hk hz))
 clear hr hk hz HC
 have e1:B []=⟨#[]⟩:=rfl
 rw [e1]
 go_wp2_with fail
 go_ret
 exact ⟨rfl,aU HF⟩
def octP:Str→Bool→Nat×Str×Bool
 | [],_=>(0,[],true)
 | c :: s,br=>(c.toNat,s,br)
theorem octP_lt (s:Str) (br:Bool):(octP s br).1<256:=by cases s <;> simp [octP]; exact UInt8.toNat_lt _
theorem octP_len (s:Str) (br:Bool):(octP s br).2.1.length≤s.length:=by cases s <;> simp [octP]
theorem octet_any (b:Nat) (s:Str) (br:Bool) (w:World) (h:RdAt w b s br) (hl:s.length≤1000000000) :
  Calls Tryz.prog 198 #[.pointer (some ⟨b,0,none⟩)] w fun e w' =>
   e=.returned (.int .i64 (octP s br).1)∧RdAt w' b (octP s br).2.1 (octP s br).2.2∧It.Keeps b w w'∧w'.heap.size=w.heap.size:=by
 cases s with
 | nil=>exact octet_no b br w h
 | cons c s=>exact octet_ok b c s br w h (by simp at hl; omega)
theorem i64_or_nat (a b:Nat) (ha:a<9223372036854775808) (hb:b<9223372036854775808):bits .or .i64 (a:Int) (b:Int)=((a ||| b:Nat):Int):=by
 have hx:a ||| b<2 ^ 63:=Nat.or_lt_two_pow (by omega) (by omega)
 show IntKind.i64.wrap ((BitVec.ofInt 64 (a:Int) ||| BitVec.ofInt 64 (b:Int)).toNat:Int)=_
 rw [BitVec.toNat_or,ofInt_u64 a (by omega),ofInt_u64 b (by omega)]
 generalize a ||| b=x at *
 rw [IntKind.wrap_i64]
 first | omega | (unfold wrap64; omega)
theorem or_byte (a b:Nat) (ha:a<256) (hb:b<256):bits .or .i64 ((a:Int)*256) b=((a*256+b:Nat):Int):=by
 have e:((a:Int)*256)=((a*256:Nat):Int):=by omega
 rw [e,i64_or_nat _ _ (by omega) (by omega),← Nat.shiftLeft_eq a 8,Nat.shiftLeft_add_eq_or_of_lt (by omega)]
def shortP (s:Str) (br:Bool):Nat×Str×Bool :=
 let x:=octP s br
 let y:=octP x.2.1 x.2.2
 (x.1*256+y.1,y.2.1,y.2.2)
theorem short_any (b:Nat) (s:Str) (br:Bool) (w:World) (h:RdAt w b s br) (hl:s.length≤1000000000) :
  Calls Tryz.prog 129 #[.pointer (some ⟨b,0,none⟩)] w fun e w' =>
   e=.returned (.int .i64 (shortP s br).1)∧RdAt w' b (shortP s br).2.1 (shortP s br).2.2∧It.Keeps b w w'∧w'.heap.size=w.heap.size:=by
 have HC:=aH (octet_any b s br w h hl)
 have HL:=aH (octP_len s br)
 have h1:=octP_lt s br
 have HE:Hid (shortP s br=((octP s br).1*256+(octP (octP s br).2.1 (octP s br).2.2).1,(octP (octP s br).2.1 (octP s br).2.2).2.1,(octP (octP s br).2.1 (octP s br).2.2).2.2)):=rfl
 generalize octP s br=x at *
 obtain ⟨n1,s1,b1⟩:=x
 simp only at HC HL h1 HE
 clear h
 go_enter Tryz.func129,Tryz.ntmps129
 go_wp2_with fail
 refine (aU HC).mono ?_
 rintro e w1 ⟨rfl,hr,hk,hz⟩
 have HD:=aH (octet_any b s1 b1 w1 hr (Nat.le_trans (aU HL) hl))
 have HF:=aH (And.intro hk hz)
 have h2:=octP_lt s1 b1
 generalize octP s1 b1=y at *
 obtain ⟨n2,s2,b2⟩:=y
 simp only at HD h2 HE
 clear hr hk hz HC
 go_wp2_with fail
 refine (aU HD).mono ?_
 rintro e w2 ⟨rfl,hr,hk,hz⟩
 have HG:=aH (And.intro hr (And.intro (Keeps_trans (aU HF).1 hk) (hz.trans (aU HF).2)))
 clear hr hk hz HD HF
 go_wp2_with fail
 go_ret
 rw [aU HE]
 refine ⟨?_,aU HG⟩
 show Ending.returned (.int .i64 (bits .or .i64 ((n1:Int)*256) n2))=.returned (.int .i64 ((n1*256+n2:Nat):Int))
 rw [or_byte n1 n2 h1 h2]
end Wa
namespace Rd
open Ka Kb Kd Ke Kf Rc
theorem numV_le (most:Nat) (l:Str):numV most l≤most:=by
 unfold numV Pu.num
 cases l with
 | nil=>simp
 | cons c r =>
  simp only []
  split
  ·simp
  ·cases h:Pu.numFrom most 0 (c :: r) with
   | none=>simp
   | some m=>simpa using numFrom_le _ _ _ h (Nat.zero_le _)
theorem isData_pieces (k:Int) (b:Nat) (x:ByteArray) (w:World) (hg:G w) (hat:StrsAt w b 0 (Sp.pieces 32 x)) (hx:x.size≤3000) :
  Calls Tryz.prog 170 #[.int .i64 k,.slice (some ⟨b,0,none⟩) (Sp.pieces 32 x).length (Sp.pieces 32 x).length] w fun e w'=>e=.returned (.bool (isData k (Sp.spl 32 x.data.toList)))∧Below w.heap.size w w':=by
 rw [← Sp.pieces_data]
 refine isData_any k b _ _ w hg hat (fun y hy=>Nat.le_trans (Sp.piece_size 32 x y hy) hx) ?_
 have:=Sp.spl_len_le 32 x.data.toList
 rw [← Sp.pieces_data,List.length_map,Pu.len_eq] at this
 omega
theorem readRecord_four (s x0 x1 x2 x3:ByteArray) (w:World) (hg:G w) (hs:s.size≤3000) (h4:four s = [x0,x1,x2,x3]) :
  Calls Tryz.prog 99 #[.string s] w fun e w' =>
   e=.returned (recR (if Sp.valid x0.data.toList && numB 86400 x1.data.toList && isData (Pu.kindOf x2.data.toList) (Sp.spl 32 x3.data.toList) then some (x0.data.toList,numV 86400 x1.data.toList,Pu.kindOf x2.data.toList,x3.data.toList) else none))∧Below w.heap.size w w':=by
 have hcall2:=splitN_any s (w.alloc (.cells #[.string ⟨#[]⟩,.int .i64 0,.int .i64 0,.string ⟨#[]⟩] 47)) (hg.alloc _) hs
 have hsz:=four_size s
 have hat:=strsAt_cellsOf (w.alloc (.cells #[.string ⟨#[]⟩,.int .i64 0,.int .i64 0,.string ⟨#[]⟩] 47)) (four s) (min 4 (s.size+1))
 rw [h4] at hcall2 hsz hat
 have hgW:G ((w.alloc (.cells #[.string ⟨#[]⟩,.int .i64 0,.int .i64 0,.string ⟨#[]⟩] 47)).alloc (.cells (Lib.cellsOf [x0,x1,x2,x3] (min 4 (s.size+1))) 9)):=(hg.alloc _).alloc _
 have hbW:Below w.heap.size w ((w.alloc (.cells #[.string ⟨#[]⟩,.int .i64 0,.int .i64 0,.string ⟨#[]⟩] 47)).alloc (.cells (Lib.cellsOf [x0,x1,x2,x3] (min 4 (s.size+1))) 9)) :=
  ((Below.refl _ _).alloc (Nat.le_refl _) _).alloc (by simp) _
 have r0:((w.alloc (.cells #[.string ⟨#[]⟩,.int .i64 0,.int .i64 0,.string ⟨#[]⟩] 47)).alloc (.cells (Lib.cellsOf [x0,x1,x2,x3] (min 4 (s.size+1))) 9)).cell? ⟨w.heap.size,0,none⟩=some (.string ⟨#[]⟩):=by simp
 have r1:((w.alloc (.cells #[.string ⟨#[]⟩,.int .i64 0,.int .i64 0,.string ⟨#[]⟩] 47)).alloc (.cells (Lib.cellsOf [x0,x1,x2,x3] (min 4 (s.size+1))) 9)).cell? ⟨w.heap.size,1,none⟩=some (.int .i64 0):=by simp
 have r2:((w.alloc (.cells #[.string ⟨#[]⟩,.int .i64 0,.int .i64 0,.string ⟨#[]⟩] 47)).alloc (.cells (Lib.cellsOf [x0,x1,x2,x3] (min 4 (s.size+1))) 9)).cell? ⟨w.heap.size,2,none⟩=some (.int .i64 0):=by simp
 have r3:((w.alloc (.cells #[.string ⟨#[]⟩,.int .i64 0,.int .i64 0,.string ⟨#[]⟩] 47)).alloc (.cells (Lib.cellsOf [x0,x1,x2,x3] (min 4 (s.size+1))) 9)).cell? ⟨w.heap.size,3,none⟩=some (.string ⟨#[]⟩):=by simp
 have rf : ∀ i,((w.alloc (.cells #[.string ⟨#[]⟩,.int .i64 0,.int .i64 0,.string ⟨#[]⟩] 47)).alloc (.cells (Lib.cellsOf [x0,x1,x2,x3] (min 4 (s.size+1))) 9)).frozen? ⟨w.heap.size,i,none⟩=false:=by intro i; simp
 have hzz:w.heap.size+1<((w.alloc (.cells #[.string ⟨#[]⟩,.int .i64 0,.int .i64 0,.string ⟨#[]⟩] 47)).alloc (.cells (Lib.cellsOf [x0,x1,x2,x3] (min 4 (s.size+1))) 9)).heap.size:=by simp
 rw [World.size_alloc] at hat hcall2
 generalize (w.alloc (.cells #[.string ⟨#[]⟩,.int .i64 0,.int .i64 0,.string ⟨#[]⟩] 47)).alloc (.cells (Lib.cellsOf [x0,x1,x2,x3] (min 4 (s.size+1))) 9)=W at *
 have c0:W.cell? ⟨w.heap.size+1,0,none⟩=some (.string x0):=hat.2 0 (by simp)
 have c1:W.cell? ⟨w.heap.size+1,1,none⟩=some (.string x1):=hat.2 1 (by simp)
 have c2:W.cell? ⟨w.heap.size+1,2,none⟩=some (.string x2):=hat.2 2 (by simp)
 have c3:W.cell? ⟨w.heap.size+1,3,none⟩=some (.string x3):=hat.2 3 (by simp)
 have t0:x0.size≤3000:=by have:=hsz x0 (by simp); omega
 have t1:x1.size≤3000:=by have:=hsz x1 (by simp); omega
 have t3:x3.size≤3000:=by have:=hsz x3 (by simp); omega
 have s0:x0.size≤maxLen:=by unfold maxLen; omega
 have s1:x1.size≤maxLen:=by unfold maxLen; omega
 simp only [List.length_cons,List.length_nil,Nat.zero_add,Nat.reduceAdd] at hcall2
 have hz0:w.heap.size<W.heap.size:=by omega
 have HC:=aH hcall2
 have HB:=aH hbW
 clear hcall2 hbW hat hsz h4
 cases v0:Sp.valid x0.data.toList
 ·go_enter Tryz.func99,Tryz.ntmps99
  go_wp2_with fail
  refine (aU HC).mono ?_
  rintro e w' ⟨rfl,rfl⟩
  go_wp2_with fail
  refine (valid_any x0 _ hgW s0).mono ?_
  rintro e w1 ⟨rfl,hb1⟩
  obtain ⟨bc,bf⟩:=bcell hb1
  go_wp2_with fail
  refine bodyPost_ret (v:=recR none) (by simp [results,Tryz.results99,go_sem,recR,Rec.val,Rec.zero,Rec.owner,Rec.ttl,Rec.type,Rec.data,B,bc,r0,r1,r2,r3,hz0]) rfl ⟨by simp,?_⟩
  exact (((((aU HB).trans (hb1.mono (by omega))).setCell (Nat.le_refl _) _).setCell (Nat.le_refl _) _).setCell (Nat.le_refl _) _).setCell (Nat.le_refl _) _
 cases v1:numB 86400 x1.data.toList
 ·go_enter Tryz.func99,Tryz.ntmps99
  go_wp2_with fail
  refine (aU HC).mono ?_
  rintro e w' ⟨rfl,rfl⟩
  go_wp2_with fail
  refine (valid_any x0 _ hgW s0).mono ?_
  rintro e w1 ⟨rfl,hb1⟩
  obtain ⟨bc,bf⟩:=bcell hb1
  go_wp2_with fail
  refine (readNumber_any x1 86400 _ s1 (by omega)).mono ?_
  rintro e w2 ⟨rfl,rfl⟩
  go_wp2_with fail
  refine (kindOf_any x2 _).mono ?_
  rintro e w2 ⟨rfl,rfl⟩
  go_wp2_with fail
  refine bodyPost_ret (v:=recR none) (by simp [results,Tryz.results99,go_sem,recR,Rec.val,Rec.zero,Rec.owner,Rec.ttl,Rec.type,Rec.data,B, bc,r0,r1,r2,r3,hz0]) rfl ⟨by simp,?_⟩
  exact (((((aU HB).trans (hb1.mono (by omega))).setCell (Nat.le_refl _) _).setCell (Nat.le_refl _) _).setCell (Nat.le_refl _) _).setCell (Nat.le_refl _) _
 cases v2:isData (Pu.kindOf x2.data.toList) (Sp.spl 32 x3.data.toList)
 all_goals
  go_enter Tryz.func99,Tryz.ntmps99
  go_wp2_with fail
  refine (aU HC).mono ?_
  rintro e w' ⟨rfl,rfl⟩
  go_wp2_with fail
  refine (valid_any x0 _ hgW s0).mono ?_
  rintro e w1 ⟨rfl,hb1⟩
  obtain ⟨bc,bf⟩:=bcell hb1
  have hg1:=hgW.below hb1
  go_wp2_with fail
  refine (readNumber_any x1 86400 _ s1 (by omega)).mono ?_
  rintro e w2 ⟨rfl,rfl⟩
  go_wp2_with fail
  refine (kindOf_any x2 _).mono ?_
  rintro e w2 ⟨rfl,rfl⟩
  go_wp2_with fail
  refine (split_any x3 32 _ hg1 (by omega)).mono ?_
  rintro e w3 ⟨rfl,hw3⟩
  have hb3:Below w2.heap.size w2 w3:=by rw [hw3]; exact (Below.refl _ _).alloc (Nat.le_refl _) _
  have hat3:StrsAt w3 w2.heap.size 0 (Sp.pieces 32 x3):=by rw [hw3]; exact strsAt_alloc _ _
  have hg3:=hg1.below hb3
  clear hw3
  have hnv:(numV 86400 x1.data.toList:Int)≤86400:=by have:=numV_le 86400 x1.data.toList; omega
  go_wp2_with fail
  refine (isData_pieces _ _ x3 _ hg3 hat3 t3).mono ?_
  rintro e w4 ⟨rfl,hb4⟩
  have hb14:Below w'.heap.size w' w4:=hb1.trans ((hb3.trans (hb4.mono hb3.size)).mono hb1.size)
  clear bc bf hat3 hg3 hb3 hb4 hb1 hg1
  obtain ⟨bc,bf⟩:=bcell hb14
  go_wp2_with fail
 ·refine bodyPost_ret (v:=recR none) (by simp [results,Tryz.results99,go_sem,recR,Rec.val,Rec.zero,Rec.owner,Rec.ttl,Rec.type,Rec.data,B, bc,r0,r1,r2,r3,hz0]) rfl ⟨by simp,?_⟩
  exact (((((aU HB).trans (hb14.mono (by omega))).setCell (Nat.le_refl _) _).setCell (Nat.le_refl _) _).setCell (Nat.le_refl _) _).setCell (Nat.le_refl _) _
 ·go_region
  all_goals
   go_wp2
   refine bodyPost_ret (v:=recR (some (x0.data.toList,numV 86400 x1.data.toList,Pu.kindOf x2.data.toList,x3.data.toList))) (by simp [results,Tryz.results99,go_sem,recR,Rec.val,Rec.owner,Rec.ttl,Rec.type,Rec.data,B_data,bc,r0,r1,r2,r3,hz0]) rfl ⟨by simp,?_⟩
   exact ((((((aU HB).trans (hb14.mono (by omega))).setCell (Nat.le_refl _) _).setCell (Nat.le_refl _) _).setCell (Nat.le_refl _) _).setCell (Nat.le_refl _) _).drew
theorem readRecord_any (s:ByteArray) (w:World) (hg:G w) (hs:s.size≤3000) :
  Calls Tryz.prog 99 #[.string s] w fun e w'=>e=.returned (recR (readRec s.data.toList))∧Below w.heap.size w w':=by
 by_cases h4:(four s).length=4
 ·match h:four s,h4 with
  | [x0,x1,x2,x3],_ =>
  have e:readRec s.data.toList=if Sp.valid x0.data.toList && numB 86400 x1.data.toList && isData (Pu.kindOf x2.data.toList) (Sp.spl 32 x3.data.toList) then some (x0.data.toList,numV 86400 x1.data.toList,Pu.kindOf x2.data.toList,x3.data.toList) else none:=by
   unfold readRec
   rw [← four_data,h]
   rfl
  rw [e]
  exact readRecord_four s x0 x1 x2 x3 w hg hs h
 ·have e:readRec s.data.toList=none:=by
   unfold readRec
   split
   ·rename_i he
    rw [← four_data] at he
    exact absurd (by have:=congrArg List.length he; simpa using this) h4
   ·rfl
  rw [e]
  exact readRecord_short s w hg hs h4
end Rd
def readAll:List Str→Option (List Rec)
 | []=>some []
 | l :: t=>(readRec l).bind fun r=>(readAll t).map (r :: ·)
def originW:Str:=[111,114,105,103,105,110,32]
def readLines:List Str→Option (Str×List Rec)
 | []=>none
 | f :: t=>if Lib.hasPrefix f originW && Sp.plain (Lib.trimPrefix f originW) then (readAll t).map (fun rs=>(Lib.trimPrefix f originW,rs)) else none
def readZ (l:Str):Option (Str×List Rec) :=
 if Lib.hasSuffix l [10] then readLines (Sp.spl 10 (Lib.trimSuffix l [10])) else none
def encs (rs:List Rec):List Value:=rs.flatMap Rec.enc
theorem encs_snoc (rs:List Rec) (r:Rec):encs (rs++[r])=encs rs++r.enc:=by simp [encs]
def RecsOwn (w:World) (base:Nat) (v:Value) (rs:List Rec):Prop:=w.ownsRow base 47 4 v rs.length (encs rs)∧(v=.slice none 0 0 ↔ rs = [])
theorem own_below {w w':World} {B e size n:Nat} {v:Value} {xs:List Value} (h:w.ownsRow B e size v n xs) (hb:Below w.heap.size w w'):w'.ownsRow B e size v n xs :=
 h.kept (row:=none) ⟨hb.os,hb.tape,hb.output,hb.size,fun k hk _=>hb.block k hk⟩ (Classical.em _)
theorem own_base {w:World} {B B' e size n:Nat} {v:Value} {xs:List Value} (h:w.ownsRow B e size v n xs) (hb:B'≤B):w.ownsRow B' e size v n xs:=by
 obtain ⟨hl,h | ⟨g,cap,cur,hv,hg,h1,h2,h3,h4,h5⟩⟩:=h
 ·exact ⟨hl,.inl h⟩
 ·exact ⟨hl,.inr ⟨g,cap,cur,hv,Nat.le_trans hb hg,h1,h2,h3,h4,h5⟩⟩
theorem RecsOwn.below {w w':World} {B:Nat} {v:Value} {rs:List Rec} (h:RecsOwn w B v rs) (hb:Below w.heap.size w w'):RecsOwn w' B v rs:=⟨own_below h.1 hb,h.2⟩
theorem RecsOwn.base {w:World} {B B':Nat} {v:Value} {rs:List Rec} (h:RecsOwn w B v rs) (hb:B'≤B):RecsOwn w B' v rs:=⟨own_base h.1 hb,h.2⟩
namespace Re
open Ka Kb Kd Ke Kf Rc Rd
theorem readRecord_no (s:ByteArray) (w:World) (hg:G w) (hs:s.size≤3000) (h:readRec s.data.toList=none) :
  Calls Tryz.prog 99 #[.string s] w fun e w'=>e=.returned (.tuple #[.agg #[.string ⟨#[]⟩,.int .i64 0,.int .i64 0,.string ⟨#[]⟩],.bool false])∧Below w.heap.size w w':=by
 have:=readRecord_any s w hg hs
 rw [h] at this
 exact this
theorem readRecord_yes (s:ByteArray) (r:Rec) (w:World) (hg:G w) (hs:s.size≤3000) (h:readRec s.data.toList=some r) :
  Calls Tryz.prog 99 #[.string s] w fun e w'=>e=.returned (.tuple #[.agg #[.string (B r.owner),.int .i64 r.ttl,.int .i64 r.type,.string (B r.data)],.bool true])∧Below w.heap.size w w':=by
 have:=readRecord_any s w hg hs
 rw [h] at this
 exact this
theorem infoR:(Tryz.prog.info? 47).map (fun i=>(i.zero,i.size,i.bytes))=some (some (.agg #[.string ⟨#[]⟩,.int .i64 0,.int .i64 0,.string ⟨#[]⟩]),4,48):=by kernel_rfl
theorem underR:Tryz.prog.underlying 41=some (.slice 47):=by kernel_rfl
def noneV:Value:=.tuple #[.string ⟨#[]⟩,.slice none 0 0,.bool false]
def zoneR (o:Option (Str×List Rec)) (base:Nat) (e:Ending) (w':World):Prop :=
 match o with
 | none=>e=.returned noneV
 | some (o,rs)=>∃ v,e=.returned (.tuple #[.string (B o),v,.bool true])∧RecsOwn w' base v rs
theorem zoneR_none {base:Nat} {e:Ending} {w':World} (h:e=.returned noneV):zoneR none base e w':=h
theorem readZone_noend (s:ByteArray) (w:World) (hs:s.size≤3000) (h:Lib.hasSuffix s.data.toList [10]=false) :
  Calls Tryz.prog 56 #[.string s] w fun e w'=>e=.returned noneV∧Below w.heap.size w w':=by
 go_enter Tryz.func56,Tryz.ntmps56
 go_wp2_with (go_at_call 96; refine (Tryz.strings_CutSuffix s _ _ (by omega)).mono ?_; rintro e w' ⟨rfl,rfl⟩)
 go_ret3
 exact ⟨rfl,Below.refl _ _⟩
theorem trimSuffix_len (l p:Str):(Lib.trimSuffix l p).length≤l.length:=by
 unfold Lib.trimSuffix; split
 ·simp
 ·exact Nat.le_refl _
theorem trimPrefix_len (l p:Str):(Lib.trimPrefix l p).length≤l.length:=by
 unfold Lib.trimPrefix; split
 ·simp
 ·exact Nat.le_refl _
theorem readZone_end (s:ByteArray) (w:World) (hg:G w) (hs:s.size≤3000) (h:Lib.hasSuffix s.data.toList [10]=true) :
  Calls Tryz.prog 56 #[.string s] w fun e w' =>
   zoneR (readZ s.data.toList) w.heap.size e w'∧Below w.heap.size w w':=by
 have hz:Hid (readZ s.data.toList=readLines (Sp.spl 10 (Lib.trimSuffix s.data.toList [10]))):=by unfold readZ; rw [Hid,if_pos h]
 have hcut:=Tryz.strings_CutSuffix s ⟨#[10]⟩ w (by omega)
 rw [h] at hcut
 obtain ⟨body,hbody⟩ : ∃ body:ByteArray,⟨(Lib.trimSuffix s.data.toList [10]).toArray⟩=body:=⟨_,rfl⟩
 have hbd:body.data.toList=Lib.trimSuffix s.data.toList [10]:=by rw [← hbody]
 have hbs:body.size≤3000:=by
  have:=trimSuffix_len s.data.toList [10]
  rw [← hbd,Pu.len_eq,Pu.len_eq] at this
  omega
 have hcut':Calls Tryz.prog 96 #[.string s,.string ⟨#[10]⟩] w fun e w'=>e=.returned (.tuple #[.string body,.bool true])∧w'=w:=by rw [← hbody]; exact hcut
 rw [← hbd,← Sp.pieces_data] at hz
 have hps:=aH (Sp.piece_size 10 body)
 have hlen:(Sp.pieces 10 body).length≤3001:=by
  have:=Sp.spl_len_le 10 body.data.toList
  rw [← Sp.pieces_data,List.length_map,Pu.len_eq] at this
  omega
 have hat:=strsAt_alloc w (Sp.pieces 10 body)
 have hcall:=split_any body 10 w hg (by omega)
 have hb0:Below w.heap.size w (w.alloc (.cells ((Sp.pieces 10 body).map Value.string).toArray 9)):=(Below.refl _ _).alloc (Nat.le_refl _) _
 have hne':1≤(Sp.pieces 10 body).length:=by have:=Sp.pieces_len 10 body; omega
 clear hbody hbd hcut
 generalize Sp.pieces 10 body=L at *
 cases L with
 | nil=>simp at hne'
 | cons f t =>
 have hcf:_:=hat.2 0 (by simp)
 have hsf:f.size≤3000:=Nat.le_trans (aU hps f (by simp)) hbs
 have hst : ∀ x∈t,x.size≤3000:=fun x hx=>Nat.le_trans (aU hps x (by simp [hx])) hbs
 have HST:=aH hst
 clear hst hps
 generalize w.alloc (.cells ((f :: t).map Value.string).toArray 9)=W at *
 have hcf':W.cell? ⟨w.heap.size,0,none⟩=some (.string f):=hcf
 have hgW:=hg.below hb0
 have hlt:(t.length:Int)≤3000:=by simp at hlen; omega
 rw [List.length_cons] at hcall
 have HC0:=aH hcut'
 have HC:=aH hcall
 have HB:=aH hb0
 have HA:=aH hat
 clear hcall hb0 hat hcut' hcf hlen hne'
 have hcp:=Tryz.strings_CutPrefix f ⟨#[111,114,105,103,105,110,32]⟩ W
 obtain ⟨org,horg⟩ : ∃ org:ByteArray,⟨(Lib.trimPrefix f.data.toList originW).toArray⟩=org:=⟨_,rfl⟩
 have hod:org.data.toList=Lib.trimPrefix f.data.toList originW:=by rw [← horg]
 have hos:org.size≤maxLen:=by
  have:=trimPrefix_len f.data.toList originW
  rw [← hod,Pu.len_eq,Pu.len_eq] at this
  unfold maxLen
  omega
 obtain ⟨hp,hhp⟩ : ∃ hp,hp=Lib.hasPrefix f.data.toList originW:=⟨_,rfl⟩
 have hcp':Calls Tryz.prog 98 #[.string f,.string ⟨#[111,114,105,103,105,110,32]⟩] W fun e w'=>e=.returned (.tuple #[.string org,.bool hp])∧w'=W:=by rw [← horg,hhp]; exact hcp
 have HP:=aH hcp'
 clear hcp hcp'
 have hrl:Hid (readZ s.data.toList=if hp && Sp.plain org.data.toList then (readAll (t.map (·.data.toList))).map (fun rs=>(org.data.toList,rs)) else none):=by
  rw [Hid,aU hz,List.map_cons,readLines,hhp,hod]
 clear hz horg hod hhp
 cases hp
 ·go_enter Tryz.func56,Tryz.ntmps56
  go_wp2_with fail
  refine (aU HC0).mono ?_
  rintro e w ⟨rfl,rfl⟩
  go_wp2_with fail
  refine (aU HC).mono ?_
  rintro e W ⟨rfl,rfl⟩
  go_wp2_with fail
  refine (aU HP).mono ?_
  rintro e W ⟨rfl,rfl⟩
  go_wp2_with fail
  go_ret3
  rw [aU hrl]
  exact ⟨zoneR_none rfl,aU HB⟩
 cases hpl:Sp.plain org.data.toList
 ·go_enter Tryz.func56,Tryz.ntmps56
  go_wp2_with fail
  refine (aU HC0).mono ?_
  rintro e w ⟨rfl,rfl⟩
  go_wp2_with fail
  refine (aU HC).mono ?_
  rintro e W ⟨rfl,rfl⟩
  go_wp2_with fail
  refine (aU HP).mono ?_
  rintro e W ⟨rfl,rfl⟩
  go_wp2_with fail
  refine (plain_any org _ hgW hos).mono ?_
  rintro e w1 ⟨rfl,hb1⟩
  go_wp2_with fail
  go_ret3
  rw [aU hrl,hpl]
  exact ⟨zoneR_none rfl,(aU HB).trans (hb1.mono (aU HB).size)⟩
 have hrl':Hid (readZ s.data.toList=(readAll (t.map (·.data.toList))).map (fun rs=>(org.data.toList,rs))):=by
  rw [Hid,aU hrl,hpl]; rfl
 clear hrl
 have hrl:=hrl'
 clear hrl'
 cases t with
 | nil =>
  go_enter Tryz.func56,Tryz.ntmps56
  go_wp2_with fail
  refine (aU HC0).mono ?_
  rintro e w ⟨rfl,rfl⟩
  go_wp2_with fail
  refine (aU HC).mono ?_
  rintro e W ⟨rfl,rfl⟩
  go_wp2_with fail
  refine (aU HP).mono ?_
  rintro e W ⟨rfl,rfl⟩
  go_wp2_with fail
  refine (plain_any org _ hgW hos).mono ?_
  rintro e w1 ⟨rfl,hb1⟩
  go_wp2_with fail
  go_loop [10,41] (fun v i=>v=.slice none 0 0∧i=.int .i64 0) (fun _ _=>0)
  case atStart=>exact ⟨rfl,rfl⟩
  case round =>
   obtain ⟨rfl,rfl⟩:=hrel
   go_wp2
   go_ret3
   rw [aU hrl]
   exact ⟨⟨_,by rw [B_data]; rfl,World.ownsRow_nil _ _ _ _,by simp⟩,(aU HB).trans (hb1.mono (aU HB).size)⟩
 | cons t0 ts =>
  generalize hT:t0 :: ts=t at *
  have htn : ¬ t = []:=by rw [← hT]; simp
  have htl:0<t.length:=by rw [← hT]; simp
  clear hT
  go_enter Tryz.func56,Tryz.ntmps56
  go_wp2_with fail
  refine (aU HC0).mono ?_
  rintro e w ⟨rfl,rfl⟩
  go_wp2_with fail
  refine (aU HC).mono ?_
  rintro e W ⟨rfl,rfl⟩
  go_wp2_with fail
  refine (aU HP).mono ?_
  rintro e W ⟨rfl,rfl⟩
  go_wp2_with fail
  refine (plain_any org _ hgW hos).mono ?_
  rintro e w1 ⟨rfl,hb1⟩
  go_wp2_with fail
  have hgw1:=hgW.below hb1
  have hbA:Below w.heap.size w w1:=(aU HB).trans (hb1.mono (aU HB).size)
  have hs1:=hbA.size
  have HBA:=aH hbA
  clear hbA
  have hat1:=(aU HA).below hb1
  have HA1:=aH hat1
  clear hat1 HC HC0 HP
  go_loopw [10,41] (fun v i wr=>∃ (k:Nat) (rs:List Rec),k≤t.length∧i=.int .i64 k∧rs.length=k∧RecsOwn wr w1.heap.size v rs∧readAll (t.map (·.data.toList))=(readAll ((t.map (·.data.toList)).drop k)).map (rs++·)∧Below w1.heap.size w1 wr) (fun _ i _=>t.length - (intOf i).toNat)
  case atStart=>exact ⟨0,[],Nat.zero_le _,rfl,rfl,⟨World.ownsRow_nil _ _ _ _,by simp⟩,by simp,Below.refl _ _⟩
  case round =>
   obtain ⟨k,rs,hk,rfl,hrs,hown,hread,hbr⟩:=hrel
   have HR:=aH hread
   have HO:=aH hown
   clear hread hown
   have hgr:=hgw1.below hbr
   have hsz1:=hbr.size
   by_cases hlk:k<t.length
   ·have hck:wr.cell? ⟨w.heap.size,1+k,none⟩=some (.string t[k]):=by
     have:=((aU HA1).below hbr).2 (k+1) (by simpa using hlk)
     rw [show 0+(k+1)=1+k from by omega] at this
     simpa using this
    have hdr:Hid ((t.map (·.data.toList)).drop k=t[k].data.toList :: (t.map (·.data.toList)).drop (k+1)):=by
     rw [Hid,List.drop_eq_getElem_cons (by simpa using hlk),List.getElem_map]
    have hxs:=aU HST t[k] (List.getElem_mem hlk)
    generalize t[k]=x at *
    cases hr:readRec x.data.toList with
    | none =>
     have hfin:Hid (readZ s.data.toList=none):=by
      rw [Hid,aU hrl,aU HR,aU hdr,readAll,hr]; rfl
     go_wp2_with fail
     refine (readRecord_no x _ hgr hxs hr).mono ?_
     rintro e w2 ⟨rfl,hb2⟩
     go_wp2_with fail
     go_ret3
     rw [aU hfin]
     exact ⟨zoneR_none rfl,((aU HBA).trans ((hbr.mono hs1).trans (hb2.mono (by omega)))).alloc (by have:=hb2.size; omega) _⟩
    | some r =>
     obtain ⟨i0,hi,hz0,hz1,hz2⟩:=info_parts infoR
     have hfin:Hid (readAll (t.map (·.data.toList))=(readAll ((t.map (·.data.toList)).drop (k+1))).map ((rs++[r])++·)):=by
      rw [Hid,aU HR,aU hdr,readAll,hr]
      simp [Option.map_map,Function.comp_def]
     go_wp2_with fail
     refine (readRecord_yes x r _ hgr hxs hr).mono ?_
     rintro e w2 ⟨rfl,hb2⟩
     have hown2:=(aU HO).below hb2
     have HO2:=aH hown2
     clear hown2
     have hsz2:=hb2.size
     go_wp2_with (at_builtin; refine wpList_append_own _ rfl (.tmp 52) (.tmp 54) 41 rfl w1.heap.size 47 i0 (.agg #[.string ⟨#[]⟩,.int .i64 0,.int .i64 0,.string ⟨#[]⟩]) 4 48 underR hi hz0 hz1 hz2 rfl (by decide) _ rs.length (encs rs) rfl (((aU HO2).1.alloc _).alloc _) ⟨w2.heap.size+1,0,none⟩ 1 1 r.enc rfl rfl ?c1 ?c2 ?c3 ?c4 ?c5 ?_)
     case c1 =>
      intro j u hj
      match j,hj with
      | 0,hj=>simp [Rec.enc] at hj; subst hj; simp [Addr.add]
      | 1,hj=>simp [Rec.enc] at hj; subst hj; simp [Addr.add]
      | 2,hj=>simp [Rec.enc] at hj; subst hj; simp [Addr.add]
      | 3,hj=>simp [Rec.enc] at hj; subst hj; simp [Addr.add]
      | n+4,hj=>simp [Rec.enc] at hj
     case c2=>intro u hu; simp [Rec.enc] at hu; rcases hu with rfl | rfl | rfl | rfl <;> rfl
     case c3=>unfold maxLen; omega
     case c4=>omega
     case c5=>simp; omega
     intro v' w3 hown' hgrow hnil
     have hO3:RecsOwn w3 w1.heap.size v' (rs++[r]):=by
      refine ⟨?_,?_⟩
      ·rw [encs_snoc,List.length_append,hrs]; exact hown'
      ·exact ⟨fun h=>absurd h hnil,fun h=>by simp at h⟩
     have hB3:Below w1.heap.size w1 w3:=by
      refine ((((hbr.trans (hb2.mono (by omega))).alloc (by omega) _).alloc (by simp; omega) _)).grown hgrow (by simp; omega) ?_
      intro k' hk'
      exact ((aU HO2).1.lt k' hk').1
     have HO3:=aH hO3
     have HB3:=aH hB3
     clear hO3 hB3 hown' hgrow hnil
     go_wp2
     go_roundw
     case rel=>exact ⟨k+1,rs++[r],by omega,by go_num,by simp [hrs],aU HO3,aU hfin,aU HB3⟩
     case measure=>simp [intOf]; omega
   ·have hfin:Hid (readZ s.data.toList=some (org.data.toList,rs)):=by
     rw [Hid,aU hrl,aU HR,List.drop_of_length_le (by simp; omega)]
     simp [readAll]
    go_wp2
    go_ret3
    rw [aU hfin]
    exact ⟨⟨_,by rw [B_data]; rfl,(aU HO).base (aU HBA).size⟩,(aU HBA).trans (hbr.mono hs1)⟩
theorem readZone_any (s:ByteArray) (w:World) (hg:G w) (hs:s.size≤3000) :
  Calls Tryz.prog 56 #[.string s] w fun e w'=>zoneR (readZ s.data.toList) w.heap.size e w'∧Below w.heap.size w w':=by
 cases h:Lib.hasSuffix s.data.toList [10]
 ·have e:readZ s.data.toList=none:=by unfold readZ; rw [h]; rfl
  rw [e]
  exact readZone_noend s w hs h
 ·exact readZone_end s w hg hs h
end Re
def StrsOwn (w:World) (base:Nat) (v:Value) (ls:List Str):Prop:=w.ownsRow base 9 1 v ls.length (ls.map fun l=>.string (B l))∧(v=.slice none 0 0 ↔ ls = [])
namespace Wb
open Ka Re Wa
theorem infoS:(Tryz.prog.info? 9).map (fun i=>(i.zero,i.size,i.bytes))=some (some (.string ⟨#[]⟩),1,16):=by kernel_rfl
theorem underS:Tryz.prog.underlying 49=some (.slice 9):=by kernel_rfl
def takP (s:Str) (br:Bool) (n:Nat):Str×Str×Bool:=if n≤s.length then (s.take n,s.drop n,br) else ([],[],true)
theorem takP_len (s:Str) (br:Bool) (n:Nat):(takP s br n).2.1.length≤s.length:=by unfold takP; split <;> simp
theorem take_any (b n:Nat) (s:Str) (br:Bool) (w:World) (h:RdAt w b s br) (hn:n≤1000000000) (hl:s.length≤1000000000) :
  Calls Tryz.prog 148 #[.pointer (some ⟨b,0,none⟩),.int .i64 n] w fun e w' =>
   e=.returned (.string (B (takP s br n).1))∧RdAt w' b (takP s br n).2.1 (takP s br n).2.2∧It.Keeps b w w'∧w'.heap.size=w.heap.size:=by
 by_cases hc:n≤s.length
 ·unfold takP; rw [if_pos hc]; exact take_ok b n s br w h hc hl
 ·unfold takP; rw [if_neg hc]; exact take_no b n s br w h (by omega) hn
end Wb
end Go.Proofs.YtkkpahmoljiepaaGreatDoor

namespace Go.Proofs
open Go.Shelf
def Tryz.lContainsFunc_ren : Go.Shelf.Ren := ⟨fun | 8 => 171 | 6 => 230 | n => n, fun | 22 => 41 | 23 => 47 | 25 => 258 | 4 => 4 | 3 => 3 | 0 => 0 | n => n, fun | n => n⟩
theorem Tryz.lContainsFunc : Go.Proofs.SlLaysH0.n8 Tryz.prog Tryz.lContainsFunc_ren := {
  mixed := by kernel_rfl
  f6 := ⟨Tryz.f230.name, by decide, Tryz.func230.trans (congrArg some (by kernel_rfl))⟩
  f8 := ⟨Tryz.f171.name, by decide, Tryz.func171.trans (congrArg some (by kernel_rfl))⟩
  t0 := Tryz.underlying0
  a0 := Tryz.isAgg0
  z0 := Tryz.sizeOf0
  v0 := Tryz.zeroValue0
  t3 := Tryz.underlying3
  a3 := Tryz.isAgg3
  z3 := Tryz.sizeOf3
  v3 := Tryz.zeroValue3
  t4 := Tryz.underlying4
  a4 := Tryz.isAgg4
  z4 := Tryz.sizeOf4
  v4 := Tryz.zeroValue4
  t22 := Tryz.underlying41
  a22 := Tryz.isAgg41
  z22 := Tryz.sizeOf41
  v22 := Tryz.zeroValue41
  t25 := Tryz.underlying258
  a25 := Tryz.isAgg258
  z25 := Tryz.sizeOf258
  v25 := Tryz.zeroValue258 }
def Tryz.lContains_ren : Go.Shelf.Ren := ⟨fun | 7 => 178 | 6 => 234 | n => n, fun | 22 => 41 | 24 => 47 | 4 => 4 | 0 => 0 | 3 => 3 | n => n, fun | n => n⟩
theorem Tryz.lContains : Go.Proofs.SlLaysQ.n7 Tryz.prog Tryz.lContains_ren := {
  mixed := by kernel_rfl
  f6 := ⟨Tryz.f234.name, by decide, Tryz.func234.trans (congrArg some (by kernel_rfl))⟩
  f7 := ⟨Tryz.f178.name, by decide, Tryz.func178.trans (congrArg some (by kernel_rfl))⟩
  t0 := Tryz.underlying0
  a0 := Tryz.isAgg0
  z0 := Tryz.sizeOf0
  v0 := Tryz.zeroValue0
  t3 := Tryz.underlying3
  a3 := Tryz.isAgg3
  z3 := Tryz.sizeOf3
  v3 := Tryz.zeroValue3
  t4 := Tryz.underlying4
  a4 := Tryz.isAgg4
  z4 := Tryz.sizeOf4
  v4 := Tryz.zeroValue4
  t22 := Tryz.underlying41
  a22 := Tryz.isAgg41
  z22 := Tryz.sizeOf41
  v22 := Tryz.zeroValue41 }
def Tryz.lClone_ren : Go.Shelf.Ren := ⟨fun | 41 => 243 | n => n, fun | 22 => 41 | 23 => 47 | 4 => 4 | n => n, fun | n => n⟩
theorem Tryz.lClone : Go.Proofs.SlLaysE0.n41 Tryz.prog Tryz.lClone_ren := {
  mixed := by kernel_rfl
  f41 := ⟨Tryz.f243.name, by decide, Tryz.func243.trans (congrArg some (by kernel_rfl))⟩
  t4 := Tryz.underlying4
  a4 := Tryz.isAgg4
  z4 := Tryz.sizeOf4
  v4 := Tryz.zeroValue4
  t22 := Tryz.underlying41
  a22 := Tryz.isAgg41
  z22 := Tryz.sizeOf41
  v22 := Tryz.zeroValue41 }
def Tryz.lInsertion_ren : Go.Shelf.Ren := ⟨fun | 20 => 231 | n => n, fun | 24 => 47 | 22 => 41 | 3 => 3 | 25 => 186 | 4 => 4 | 0 => 0 | n => n, fun | n => n⟩
theorem Tryz.lInsertion : Go.Proofs.SlLaysF0.n20 Tryz.prog Tryz.lInsertion_ren := {
  mixed := by kernel_rfl
  f20 := ⟨Tryz.f231.name, by decide, Tryz.func231.trans (congrArg some (by kernel_rfl))⟩
  t0 := Tryz.underlying0
  a0 := Tryz.isAgg0
  z0 := Tryz.sizeOf0
  v0 := Tryz.zeroValue0
  t3 := Tryz.underlying3
  a3 := Tryz.isAgg3
  z3 := Tryz.sizeOf3
  v3 := Tryz.zeroValue3
  t4 := Tryz.underlying4
  a4 := Tryz.isAgg4
  z4 := Tryz.sizeOf4
  v4 := Tryz.zeroValue4
  t22 := Tryz.underlying41
  a22 := Tryz.isAgg41
  z22 := Tryz.sizeOf41
  v22 := Tryz.zeroValue41
  t25 := Tryz.underlying186
  a25 := Tryz.isAgg186
  z25 := Tryz.sizeOf186
  v25 := Tryz.zeroValue186 }
end Go.Proofs
