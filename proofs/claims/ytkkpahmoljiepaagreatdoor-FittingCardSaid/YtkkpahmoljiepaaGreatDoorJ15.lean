/- Contracts: wire's reader: take, octet, short. -/
import Derived.Test.YtkkpahmoljiepaaGreatDoorJ02
import Derived.Test.YtkkpahmoljiepaaGreatDoorJ06
import Derived.Laws.BitsAllLaws
import Derived.Test.YtkkpahmoljiepaaGreatDoorJ07
import Derived.Laws.IdiomStrings
import Derived.Test.YtkkpahmoljiepaaGreatDoorShelf
import Derived.Laws.MakeOwn
import Derived.Test.YtkkpahmoljiepaaGreatDoorJ08
set_option linter.unusedSimpArgs false
set_option linter.unusedVariables false
set_option maxRecDepth 1000000
set_option maxHeartbeats 12800000
namespace Go.Proofs.YtkkpahmoljiepaaGreatDoor
open Go.RowKit
open Pu (Str aH aU)
theorem Keeps_refl (d:Nat) (A:World):It.Keeps d A A:=⟨rfl,rfl,rfl,Nat.le_refl _,fun _ _ _=>rfl⟩
theorem Keeps_trans {d:Nat} {A B C:World} (h:It.Keeps d A B) (k:It.Keeps d B C):It.Keeps d A C :=
 ⟨k.os.trans h.os,k.tape.trans h.tape,k.output.trans h.output,Nat.le_trans h.size k.size,fun i hi hd=>(k.block i (Nat.lt_of_lt_of_le hi h.size) hd).trans (h.block i hi hd)⟩
theorem Keeps_set {d:Nat} {A B:World} (h:It.Keeps d A B) (o:Nat) (v:Value):It.Keeps d A (B.setCell ⟨d,o,none⟩ v) :=
 Keeps_trans h ⟨rfl,rfl,rfl,by simp [World.setCell],fun k _ hk=>Below.heap_setCell _ _ _ _ hk⟩
def RdAt (w:World) (b:Nat) (s:Str) (br:Bool):Prop:=w.heap[b]? = some (.cells #[.string (B s),.bool br] 215)
section
variable {w:World} {b:Nat} {s:Str} {br:Bool}
theorem RdAt.lt (h:RdAt w b s br):b<w.heap.size:=(Array.getElem?_eq_some_iff.1 h).1
theorem RdAt.cells (h:RdAt w b s br):w.cell? ⟨b,0,none⟩=some (.string (B s))∧w.cell? ⟨b,1,none⟩=some (.bool br):=by
 unfold RdAt at h
 constructor <;> simp [World.cell?,h]
theorem RdAt.frozen (h:RdAt w b s br) (i:Nat):w.frozen? ⟨b,i,none⟩=false:=by
 unfold RdAt at h; simp [World.frozen?,h]
theorem RdAt.set0 (h:RdAt w b s br) (t:Str):RdAt (w.setCell ⟨b,0,none⟩ (.string (B t))) b t br:=by
 unfold RdAt at *; simp only [World.setCell]; rw [Array.getElem?_modify,if_pos rfl,h]; rfl
theorem RdAt.set1 (h:RdAt w b s br) (t:Bool):RdAt (w.setCell ⟨b,1,none⟩ (.bool t)) b s t:=by
 unfold RdAt at *; simp only [World.setCell]; rw [Array.getElem?_modify,if_pos rfl,h]; rfl
end
namespace Wa
open Ka
theorem B_take (s:Str) (n:Nat) (h:n≤s.length):(B s).extract 0 n=B (s.take n):=by
 apply ByteArray.ext
 simp [B,ByteArray.data_extract]
theorem B_drop (s:Str) (n m:Nat) (h:m=s.length):(B s).extract n m=B (s.drop n):=by
 subst h
 apply ByteArray.ext
 simp [B,ByteArray.data_extract]
 exact List.take_of_length_le (by simp)
theorem take_ok (b n:Nat) (s:Str) (br:Bool) (w:World) (h:RdAt w b s br) (hn:n≤s.length) (hl:s.length≤1000000000) :
  Calls Tryz.prog 148 #[.pointer (some ⟨b,0,none⟩),.int .i64 n] w fun e w' =>
   e=.returned (.string (B (s.take n)))∧RdAt w' b (s.drop n) br∧It.Keeps b w w'∧w'.heap.size=w.heap.size:=by
 obtain ⟨h0,h1⟩:=h.cells
 have hf:=h.frozen
 have HR:=aH h
 clear h
 have hs:(B s).size=s.length:=size_B s
 have HT:=aH (B_take s n hn)
 have HD:=aH (B_drop s n _ rfl)
 have hd : ¬ s.length<n:=by omega
 go_enter Tryz.func148,Tryz.ntmps148
 go_wp2
 go_ret
 rw [aU HD]
 refine ⟨?_,(aU HR).set0 _,Keeps_set (Keeps_refl _ _) _ _,by simp [World.setCell]⟩
 show Ending.returned (.string ((B s).extract 0 n))=_
 rw [aU HT]
theorem take_no (b n:Nat) (s:Str) (br:Bool) (w:World) (h:RdAt w b s br) (hn:s.length<n) (hl:n≤1000000000) :
  Calls Tryz.prog 148 #[.pointer (some ⟨b,0,none⟩),.int .i64 n] w fun e w' =>
   e=.returned (.string (B []))∧RdAt w' b [] true∧It.Keeps b w w'∧w'.heap.size=w.heap.size:=by
 obtain ⟨h0,h1⟩:=h.cells
 have hf:=h.frozen
 have HR:=aH h
 clear h
 have hs:(B s).size=s.length:=size_B s
 go_enter Tryz.func148,Tryz.ntmps148
 go_wp2
 go_ret
 exact ⟨rfl,((aU HR).set1 _).set0 [],Keeps_set (Keeps_set (Keeps_refl _ _) _ _) _ _,by simp [World.setCell]⟩
theorem octet_ok (b:Nat) (c:UInt8) (s:Str) (br:Bool) (w:World) (h:RdAt w b (c :: s) br) (hl:s.length<1000000000) :
  Calls Tryz.prog 198 #[.pointer (some ⟨b,0,none⟩)] w fun e w' =>
   e=.returned (.int .i64 c.toNat)∧RdAt w' b s br∧It.Keeps b w w'∧w'.heap.size=w.heap.size:=by
 have HC:=aH (take_ok b 1 (c :: s) br w h (by simp) (by simp; omega))
 clear h
 go_enter Tryz.func198,Tryz.ntmps198
 go_wp2_with fail
 refine (aU HC).mono ?_
 rintro e w1 ⟨rfl,hr,hk,hz⟩
 have HF:=aH (And.intro hr (And.intro hk hz))
 clear hr hk hz HC
 have e1:B (List.take 1 (c :: s))=⟨#[c]⟩:=rfl
 rw [e1]
 have HW:Hid (wrap64 (c.toNat:Int)=c.toNat):=by
  have:=UInt8.toNat_lt c
  show wrap64 _=_
  unfold wrap64; omega
 go_wp2_with fail
 go_ret
 refine ⟨?_,aU HF⟩
 show Ending.returned (.int .i64 (wrap64 (c.toNat:Int)))=_
 rw [aU HW]
theorem octet_no (b:Nat) (br:Bool) (w:World) (h:RdAt w b [] br) :
  Calls Tryz.prog 198 #[.pointer (some ⟨b,0,none⟩)] w fun e w' =>
   e=.returned (.int .i64 0)∧RdAt w' b [] true∧It.Keeps b w w'∧w'.heap.size=w.heap.size:=by
 have HC:=aH (take_no b 1 [] br w h (by simp) (by omega))
 clear h
 go_enter Tryz.func198,Tryz.ntmps198
 go_wp2_with fail
 refine (aU HC).mono ?_
 rintro e w1 ⟨rfl,hr,hk,hz⟩
 have HF:=aH (And.intro hr (And.intro hk hz))
 clear hr hk hz HC
 have e1:B []=⟨#[]⟩:=rfl
 rw [e1]
 go_wp2_with fail
 go_ret
 exact ⟨rfl,aU HF⟩
def octP:Str→Bool→Nat×Str×Bool
 | [],_=>(0,[],true)
 | c :: s,br=>(c.toNat,s,br)
theorem octP_lt (s:Str) (br:Bool):(octP s br).1<256:=by cases s <;> simp [octP]; exact UInt8.toNat_lt _
theorem octP_len (s:Str) (br:Bool):(octP s br).2.1.length≤s.length:=by cases s <;> simp [octP]
theorem octet_any (b:Nat) (s:Str) (br:Bool) (w:World) (h:RdAt w b s br) (hl:s.length≤1000000000) :
  Calls Tryz.prog 198 #[.pointer (some ⟨b,0,none⟩)] w fun e w' =>
   e=.returned (.int .i64 (octP s br).1)∧RdAt w' b (octP s br).2.1 (octP s br).2.2∧It.Keeps b w w'∧w'.heap.size=w.heap.size:=by
 cases s with
 | nil=>exact octet_no b br w h
 | cons c s=>exact octet_ok b c s br w h (by simp at hl; omega)
theorem i64_or_nat (a b:Nat) (ha:a<9223372036854775808) (hb:b<9223372036854775808):bits .or .i64 (a:Int) (b:Int)=((a ||| b:Nat):Int):=by
 have hx:a ||| b<2 ^ 63:=Nat.or_lt_two_pow (by omega) (by omega)
 show IntKind.i64.wrap ((BitVec.ofInt 64 (a:Int) ||| BitVec.ofInt 64 (b:Int)).toNat:Int)=_
 rw [BitVec.toNat_or,ofInt_u64 a (by omega),ofInt_u64 b (by omega)]
 generalize a ||| b=x at *
 rw [IntKind.wrap_i64]
 first | omega | (unfold wrap64; omega)
theorem or_byte (a b:Nat) (ha:a<256) (hb:b<256):bits .or .i64 ((a:Int)*256) b=((a*256+b:Nat):Int):=by
 have e:((a:Int)*256)=((a*256:Nat):Int):=by omega
 rw [e,i64_or_nat _ _ (by omega) (by omega),← Nat.shiftLeft_eq a 8,Nat.shiftLeft_add_eq_or_of_lt (by omega)]
def shortP (s:Str) (br:Bool):Nat×Str×Bool :=
 let x:=octP s br
 let y:=octP x.2.1 x.2.2
 (x.1*256+y.1,y.2.1,y.2.2)
theorem short_any (b:Nat) (s:Str) (br:Bool) (w:World) (h:RdAt w b s br) (hl:s.length≤1000000000) :
  Calls Tryz.prog 129 #[.pointer (some ⟨b,0,none⟩)] w fun e w' =>
   e=.returned (.int .i64 (shortP s br).1)∧RdAt w' b (shortP s br).2.1 (shortP s br).2.2∧It.Keeps b w w'∧w'.heap.size=w.heap.size:=by
 have HC:=aH (octet_any b s br w h hl)
 have HL:=aH (octP_len s br)
 have h1:=octP_lt s br
 have HE:Hid (shortP s br=((octP s br).1*256+(octP (octP s br).2.1 (octP s br).2.2).1,(octP (octP s br).2.1 (octP s br).2.2).2.1,(octP (octP s br).2.1 (octP s br).2.2).2.2)):=rfl
 generalize octP s br=x at *
 obtain ⟨n1,s1,b1⟩:=x
 simp only at HC HL h1 HE
 clear h
 go_enter Tryz.func129,Tryz.ntmps129
 go_wp2_with fail
 refine (aU HC).mono ?_
 rintro e w1 ⟨rfl,hr,hk,hz⟩
 have HD:=aH (octet_any b s1 b1 w1 hr (Nat.le_trans (aU HL) hl))
 have HF:=aH (And.intro hk hz)
 have h2:=octP_lt s1 b1
 generalize octP s1 b1=y at *
 obtain ⟨n2,s2,b2⟩:=y
 simp only at HD h2 HE
 clear hr hk hz HC
 go_wp2_with fail
 refine (aU HD).mono ?_
 rintro e w2 ⟨rfl,hr,hk,hz⟩
 have HG:=aH (And.intro hr (And.intro (Keeps_trans (aU HF).1 hk) (hz.trans (aU HF).2)))
 clear hr hk hz HD HF
 go_wp2_with fail
 go_ret
 rw [aU HE]
 refine ⟨?_,aU HG⟩
 show Ending.returned (.int .i64 (bits .or .i64 ((n1:Int)*256) n2))=.returned (.int .i64 ((n1*256+n2:Nat):Int))
 rw [or_byte n1 n2 h1 h2]
end Wa
def StrsOwn (w:World) (base:Nat) (v:Value) (ls:List Str):Prop:=w.ownsRow base 9 1 v ls.length (ls.map fun l=>.string (B l))∧(v=.slice none 0 0 ↔ ls = [])
namespace Wb
open Ka Re Wa
theorem infoS:(Tryz.prog.info? 9).map (fun i=>(i.zero,i.size,i.bytes))=some (some (.string ⟨#[]⟩),1,16):=by kernel_rfl
theorem underS:Tryz.prog.underlying 49=some (.slice 9):=by kernel_rfl
def takP (s:Str) (br:Bool) (n:Nat):Str×Str×Bool:=if n≤s.length then (s.take n,s.drop n,br) else ([],[],true)
theorem takP_len (s:Str) (br:Bool) (n:Nat):(takP s br n).2.1.length≤s.length:=by unfold takP; split <;> simp
theorem take_any (b n:Nat) (s:Str) (br:Bool) (w:World) (h:RdAt w b s br) (hn:n≤1000000000) (hl:s.length≤1000000000) :
  Calls Tryz.prog 148 #[.pointer (some ⟨b,0,none⟩),.int .i64 n] w fun e w' =>
   e=.returned (.string (B (takP s br n).1))∧RdAt w' b (takP s br n).2.1 (takP s br n).2.2∧It.Keeps b w w'∧w'.heap.size=w.heap.size:=by
 by_cases hc:n≤s.length
 ·unfold takP; rw [if_pos hc]; exact take_ok b n s br w h hc hl
 ·unfold takP; rw [if_neg hc]; exact take_no b n s br w h (by omega) hn
def labGo:Nat→Nat→Str→Bool→Nat→List Str→List Str×Str×Bool
 | 0,_,s,br,_,acc=>(acc,s,br)
 | f+1,n,s,br,size,acc =>
  if n=0 then (acc,s,br)
  else if 63<n∨255<size+1+n then ([],s,true)
  else labGo f (octP (takP s br n).2.1 (takP s br n).2.2).1 (octP (takP s br n).2.1 (takP s br n).2.2).2.1 (octP (takP s br n).2.1 (takP s br n).2.2).2.2 (size+1+n) (acc++[(takP s br n).1])
def labP (s:Str) (br:Bool):List Str×Str×Bool:=labGo 256 (octP s br).1 (octP s br).2.1 (octP s br).2.2 1 []
theorem Keeps_grown {d:Nat} {w A C:World} {row:Option Nat} (h:It.Keeps d w A) (hg:A.grownBy C row) (hr : ∀ k,row=some k→w.heap.size≤k):It.Keeps d w C :=
 ⟨hg.os.trans h.os,hg.tape.trans h.tape,hg.output.trans h.output,Nat.le_trans h.size hg.size,
  fun k hk hd=>(hg.block k (Nat.lt_of_lt_of_le hk h.size) (fun e=>by have:=hr k e.symm; omega)).trans (h.block k hk hd)⟩
theorem Keeps_alloc {d:Nat} {w A:World} (h:It.Keeps d w A) (o:Obj):It.Keeps d w (A.alloc o) :=
 ⟨h.os,h.tape,h.output,Nat.le_trans h.size (by simp),fun k hk hd=>(Below.heap_alloc _ _ _ (Nat.lt_of_lt_of_le hk h.size)).trans (h.block k hk hd)⟩
theorem own_keeps {w w':World} {base d:Nat} {t:TypeId} {sz n:Nat} {v:Value} {xs:List Value} (h:w.ownsRow base t sz v n xs) (hk:It.Keeps d w w') (hd:d<base):w'.ownsRow base t sz v n xs:=by
 obtain ⟨h1,h2⟩:=h
 refine ⟨h1,?_⟩
 rcases h2 with h2 | ⟨g,cap,cur,rfl,hb,hcur,hr⟩
 ·exact .inl h2
 ·exact .inr ⟨g,cap,cur,rfl,hb,(hk.block g (Array.getElem?_eq_some_iff.1 hcur).1 (by omega)).trans hcur,hr⟩
theorem labels_any (b:Nat) (s:Str) (br:Bool) (w:World) (h:RdAt w b s br) (hl:s.length≤1000000000) :
  Calls Tryz.prog 201 #[.pointer (some ⟨b,0,none⟩)] w fun e w' =>
   ∃ v,e=.returned v∧StrsOwn w' w.heap.size v (labP s br).1∧RdAt w' b (labP s br).2.1 (labP s br).2.2∧It.Keeps b w w':=by
 have hbw:=h.lt
 have HC:=aH (octet_any b s br w h hl)
 have HL:=aH (Nat.le_trans (octP_len s br) hl)
 have HN:=aH (octP_lt s br)
 have HE:Hid (labP s br=labGo 256 (octP s br).1 (octP s br).2.1 (octP s br).2.2 1 []):=rfl
 generalize octP s br=x at *
 obtain ⟨n0,s0,br0⟩:=x
 simp only at HC HL HN HE
 clear h hl
 generalize labP s br=R at *
 go_enter Tryz.func201,Tryz.ntmps201
 go_wp2_with fail
 refine (aU HC).mono ?_
 rintro e w1 ⟨rfl,hr1,hk1,hz1⟩
 have HR1:=aH hr1
 have HK1:=aH hk1
 clear hr1 hk1 HC
 go_wp2_with fail
 go_loopw [3,4,5] (fun v sz n wr=>∃ (f size k:Nat) (t:Str) (bt:Bool) (acc:List Str),sz=.int .i64 size∧n=.int .i64 k∧k<256∧size≤255∧256≤f+size∧0<f∧t.length≤1000000000∧acc.length≤size∧RdAt wr b t bt∧StrsOwn wr w.heap.size v acc∧It.Keeps b w wr∧R=labGo f k t bt size acc) (fun _ sz _ _=>256 - (intOf sz).toNat)
 case atStart=>exact ⟨256,1,n0,s0,br0,[],rfl,rfl,aU HN,by omega,by omega,by omega,aU HL,by simp,aU HR1,⟨World.ownsRow_nil _ _ _ _,by simp⟩,aU HK1,aU HE⟩
 case round =>
  obtain ⟨f,size,k,t,bt,acc,rfl,rfl,hk,hsize,hf,hf0,htl,hal,hrd,hown,hkp,hR⟩:=hrel
  have HRD:=aH hrd
  have HO:=aH hown
  have HKP:=aH hkp
  have HR:=aH hR
  have hfz:=hrd.frozen
  have hc1:=hrd.cells.2
  have hsz:=hkp.size
  clear hrd hown hkp hR
  obtain ⟨f,rfl⟩ : ∃ g,f=g+1:=⟨f - 1,by omega⟩
  by_cases h0:k=0
  ·subst h0
   have HF:Hid (R=(acc,t,bt)):=by rw [Hid,aU HR]; simp [labGo]
   clear HR
   go_wp2
   go_ret
   rw [aU HF]
   exact ⟨_,rfl,aU HO,aU HRD,aU HKP⟩
  ·by_cases hbad:63<k∨255<size+1+k
   ·have HF:Hid (R=([],t,true)):=by rw [Hid,aU HR,labGo,if_neg h0,if_pos hbad]
    clear HR
    have hpos:0<k:=by omega
    by_cases h63:63<k
    ·go_wp2
     go_ret
     rw [aU HF]
     exact ⟨_,rfl,⟨World.ownsRow_nil _ _ _ _,by simp⟩,(aU HRD).set1 _,Keeps_set (aU HKP) _ _⟩
    ·have h255:255<size+1+k:=by omega
     go_wp2
     go_ret
     rw [aU HF]
     exact ⟨_,rfl,⟨World.ownsRow_nil _ _ _ _,by simp⟩,(aU HRD).set1 _,Keeps_set (aU HKP) _ _⟩
   ·have hpos:0<k:=by omega
    have h63 : ¬ 63<k:=by omega
    have h255 : ¬ 255<size+1+k:=by omega
    have HF:Hid (R=labGo f (octP (takP t bt k).2.1 (takP t bt k).2.2).1 (octP (takP t bt k).2.1 (takP t bt k).2.2).2.1 (octP (takP t bt k).2.1 (takP t bt k).2.2).2.2 (size+1+k) (acc++[(takP t bt k).1])):=by
     rw [Hid,aU HR,labGo,if_neg h0,if_neg hbad]
    have HT:=aH (take_any b k t bt wr (aU HRD) (by omega) htl)
    have HTL:=aH (Nat.le_trans (takP_len t bt k) htl)
    generalize takP t bt k=y at *
    obtain ⟨t1,t2,bt1⟩:=y
    simp only at HF HT HTL
    obtain ⟨i0,hi,hz0,hz1',hz2⟩:=info_parts infoS
    clear HR
    go_wp2_with fail
    refine (aU HT).mono ?_
    rintro e w2 ⟨rfl,hr2,hk2,hs2⟩
    have HO2:=aH (own_keeps (aU HO).1 hk2 hbw)
    have HRD2:=aH hr2
    have HK2:=aH (Keeps_trans (aU HKP) hk2)
    have HS2:=aH hs2
    clear hr2 hk2 hs2 HT
    go_wp2_with (at_builtin; go_loud (refine wpList_append_own _ rfl (.tmp 25) (.tmp 29) 49 rfl w.heap.size 9 i0 (.string ⟨#[]⟩) 1 16 underS hi hz0 hz1' hz2 rfl (by decide) _ acc.length _ rfl ((aU HO2).alloc _) ⟨w2.heap.size,0,none⟩ 1 1 [.string (B t1)] rfl rfl ?c1 ?c2 ?c3 ?c4 ?c5 ?_))
    case c1 =>
     intro j u hj
     match j,hj with
     | 0,hj=>simp at hj; subst hj; simp [Addr.add]
     | n+1,hj=>simp at hj
    case c2=>intro u hu; simp at hu; subst hu; rfl
    case c3=>unfold maxLen; omega
    case c4=>omega
    case c5=>have:=aU HS2; simp; omega
    intro v' w3 hown' hgrow hnil
    have HO3:Hid (StrsOwn w3 w.heap.size v' (acc++[t1])):=by
     refine ⟨?_,fun h=>absurd h hnil,fun h=>by simp at h⟩
     rw [List.length_append,List.map_append]; exact hown'
    have HK3:Hid (It.Keeps b w w3):=Keeps_grown (Keeps_alloc (aU HK2) _) hgrow fun k' hk'=>((aU HO2).lt k' hk').1
    have HRD3:Hid (RdAt w3 b t2 bt1):=by
     have hlt:=(aU HRD2).lt
     refine (hgrow.block b (by simp; omega) ?_).trans ((Below.heap_alloc _ _ _ hlt).trans (aU HRD2))
     intro e
     have:=((aU HO2).lt b e.symm).1
     omega
    have HC:=aH (octet_any b t2 bt1 w3 (aU HRD3) (aU HTL))
    have HL3:=aH (Nat.le_trans (octP_len t2 bt1) (aU HTL))
    have HN3:=aH (octP_lt t2 bt1)
    generalize octP t2 bt1=z at *
    obtain ⟨n4,t4,bt4⟩:=z
    simp only at HC HL3 HN3 HF
    clear hown' hgrow hnil HRD3 HRD2 HO2 HK2
    go_wp2_with fail
    refine (aU HC).mono ?_
    rintro e w4 ⟨rfl,hr4,hk4,hs4⟩
    have HR4:=aH hr4
    have HK4:=aH (Keeps_trans (aU HK3) hk4)
    have HO4:Hid (StrsOwn w4 w.heap.size v' (acc++[t1])):=⟨own_keeps (aU HO3).1 hk4 hbw,(aU HO3).2⟩
    clear hr4 hk4 hs4 HC
    go_wp2_with fail
    go_roundw
    case rel=>exact ⟨f,size+1+k,n4,t4,bt4,acc++[t1],by go_num,rfl,aU HN3,by omega,by omega,by omega,aU HL3,by simp; omega,aU HR4,aU HO4,aU HK4,aU HF⟩
    case measure=>simp [intOf]; omega
end Wb
def BytesAt (w:World) (b:Nat) (l:Str):Prop:=b<w.heap.size∧(∀ j (h:j<l.length),w.cell? ⟨b,j,none⟩=some (.int .u8 l[j].toNat))∧∀ j,j<l.length→w.frozen? ⟨b,j,none⟩=false
theorem BytesAt.set {w:World} {b:Nat} {l:Str} (h:BytesAt w b l) (k:Nat) (c:UInt8) (hk:k<l.length):BytesAt (w.setCell ⟨b,k,none⟩ (.int .u8 c.toNat)) b (l.set k c):=by
 obtain ⟨h1,h2,h3⟩:=h
 refine ⟨by simpa [World.setCell] using h1,fun j hj=>?_,fun j hj=>?_⟩
 ·rw [List.length_set] at hj
  by_cases e:k=j
  ·subst e
   rw [World.cell?_setCell_same _ _ _ (h2 k hj)]
   simp
  ·rw [World.cell?_setCell_other _ _ _ _ (fun x=>e (congrArg Addr.off x)),h2 j hj]
   simp [List.getElem_set,e]
 ·rw [List.length_set] at hj
  rw [World.frozen?_setCell]
  exact h3 j hj
namespace Wd
open Ka Wa Wb
theorem bytes_new (w:World) (l:Str) (cap:Nat):BytesAt (w.drew.alloc (.cells (bytesRow (B l) cap) 5 ((bytesRow (B l) cap).size,(bytesRow (B l) cap).size+1))) w.heap.size l:=by
 have hn:(w.drew.alloc (.cells (bytesRow (B l) cap) 5 ((bytesRow (B l) cap).size,(bytesRow (B l) cap).size+1))).heap[w.heap.size]? = some (.cells (bytesRow (B l) cap) 5 ((bytesRow (B l) cap).size,(bytesRow (B l) cap).size+1)):=World.alloc_heap_new w.drew _
 have hs:l.length≤(bytesRow (B l) cap).size:=by simp [bytesRow,B]
 refine ⟨by simp,fun j hj=>?_,fun j hj=>?_⟩
 ·have:=bytesRow_at (B l) cap j (by simpa [B] using hj)
  simp only [World.cell?,hn]
  rw [this]
  rfl
 ·simp only [World.frozen?,hn]
  simp; omega
def foldC (c:UInt8):UInt8:=if 65≤c.toNat∧c.toNat≤90 then UInt8.ofNat (c.toNat+32) else if c.toNat=46 then 80 else c
theorem map_step (l:Str) (k:Nat) (c:UInt8) (h:k<l.length):((l.take k).map foldC++l.drop k).set k (foldC l[k])=(l.take (k+1)).map foldC++l.drop (k+1):=by
 have e1:((l.take k).map foldC).length=k:=by simp; omega
 rw [List.drop_eq_getElem_cons h,List.take_succ_eq_append_getElem h,List.set_append,if_neg (by omega),e1,Nat.sub_self,List.map_append,List.append_assoc,List.set_cons_zero]
 rfl
theorem map_same (l:Str) (k:Nat) (h:k<l.length) (hc:foldC l[k]=l[k]):(l.take (k+1)).map foldC++l.drop (k+1)=(l.take k).map foldC++l.drop k:=by
 rw [List.drop_eq_getElem_cons h,List.take_succ_eq_append_getElem h,List.map_append,List.append_assoc]
 simp only [List.map_cons,List.map_nil,hc,List.singleton_append]
theorem fold_any (l:Str) (w:World) (hl:l.length≤1000) :
  Calls Tryz.prog 252 #[.string (B l)] w fun e w'=>e=.returned (.string (B (l.map foldC)))∧Below w.heap.size w w':=by
 have kb:=run_bytes_of_string (P:=Tryz.prog) w 9 58 5 (B l) Tryz.underlying9 Tryz.underlying58 Tryz.underlying5
 have HA:=aH (bytes_new w l (grownCap w (B l).size 0 5))
 have HB:=aH ((Below.refl w.heap.size w).drew.alloc (Nat.le_refl w.heap.size) (.cells (bytesRow (B l) (grownCap w (B l).size 0 5)) 5 ((bytesRow (B l) (grownCap w (B l).size 0 5)).size,(bytesRow (B l) (grownCap w (B l).size 0 5)).size+1)))
 have hcap:l.length≤grownCap w (B l).size 0 5:=by
  have:=grownCap_ge w (B l).size 0 5
  rw [size_B] at this ⊢
  exact this
 generalize grownCap w (B l).size 0 5=cap at *
 generalize w.drew.alloc (.cells (bytesRow (B l) cap) 5 ((bytesRow (B l) cap).size,(bytesRow (B l) cap).size+1))=W at *
 have hs:(B l).size=l.length:=size_B l
 go_enter Tryz.func252,Tryz.ntmps252
 go_wp2_with fail
 go_loopw [10] (fun i wr=>∃ k:Nat,i=.int .i64 k∧k≤l.length∧BytesAt wr w.heap.size ((l.take k).map foldC++l.drop k)∧Below w.heap.size w wr) (fun i _=>l.length - (intOf i).toNat)
 case atStart=>exact ⟨0,rfl,Nat.zero_le _,by simpa using aU HA,aU HB⟩
 case round =>
  obtain ⟨k,rfl,hk,hba,hb⟩:=hrel
  have HBA:=aH hba
  have HBB:=aH hb
  clear hba hb
  by_cases hlk:k<l.length
  ·have hlen:((l.take k).map foldC++l.drop k).length=l.length:=by simp; omega
   have hcell:wr.cell? ⟨w.heap.size,k,none⟩=some (.int .u8 l[k].toNat):=by
    rw [(aU HBA).2.1 k (by omega)]
    rw [List.getElem_append_right (by simp; omega),List.getElem_drop]
    simp [Nat.min_eq_left hk]
   have hfz:wr.frozen? ⟨w.heap.size,k,none⟩=false:=(aU HBA).2.2 k (by omega)
   have HM:=aH (map_step l k 0 hlk)
   have HS:=aH ((aU HBA).set k (foldC l[k]) (by omega))
   have HX:=aH (map_same l k hlk)
   generalize l[k]=c at *
   have hc:=UInt8.toNat_lt c
   have HV:Hid (((foldC c).toNat:Int)=if 65≤c.toNat∧c.toNat≤90 then (c.toNat:Int)+32 else if c.toNat=46 then 80 else c.toNat):=by
    unfold Hid foldC
    split
    ·simp [UInt8.toNat_ofNat']; omega
    ·split <;> rfl
   have HC:Hid (foldC c=c→BytesAt wr w.heap.size ((l.take (k+1)).map foldC++l.drop (k+1))):=fun h=>by rw [aU HX h]; exact aU HBA
   rw [aU HM] at HS
   have HI:Hid (¬ (65≤c.toNat∧c.toNat≤90)→¬ c.toNat=46→foldC c=c):=fun h1 h2=>by unfold foldC; rw [if_neg h1,if_neg h2]
   generalize hn:c.toNat=n at *
   clear hlen
   by_cases h1:65≤n∧n≤90
   ·have hv:((foldC c).toNat:Int)=(n:Int) - 65+97:=by rw [aU HV,if_pos h1]; omega
    rw [hv] at HS
    clear hv
    obtain ⟨h1,h2⟩:=h1
    go_wp2
    exact ⟨⟨k+1,by go_num,by omega,aU HS,(aU HBB).setCell (Nat.le_refl _) _⟩,by simp [intOf]; omega⟩
   ·by_cases h2:n=46
    ·have hv:((foldC c).toNat:Int)=80:=by rw [aU HV,if_neg h1,if_pos h2]
     rw [hv] at HS
     clear hv
     subst h2
     go_wp2
     exact ⟨⟨k+1,by go_num,by omega,aU HS,(aU HBB).setCell (Nat.le_refl _) _⟩,by simp [intOf]; omega⟩
    ·have HF:=aH (aU HC (aU HI h1 h2))
     have h3:((n:Int) == 46)=false:=by simp; omega
     by_cases h4:65≤n
     ·have h5 : ¬ n≤90:=by omega
      clear h1
      go_wp2
      exact ⟨⟨k+1,by go_num,by omega,aU HF,aU HBB⟩,by simp [intOf]; omega⟩
     ·clear h1
      go_wp2
      exact ⟨⟨k+1,by go_num,by omega,aU HF,aU HBB⟩,by simp [intOf]; omega⟩
  ·have hkl:k=l.length:=by omega
   have hend:Hid ((l.take k).map foldC++l.drop k=l.map foldC):=by rw [Hid,hkl]; simp
   have hba:=aU HBA
   rw [aU hend] at hba
   have hlm:(l.map foldC).length=l.length:=by simp
   have kc:=run_convert_bytes_back (P:=Tryz.prog) wr 58 9 5 ⟨w.heap.size,0,none⟩ cap (l.map foldC) Tryz.underlying58 Tryz.underlying5 Tryz.underlying9 (fun j hj=>by
    have e:(⟨w.heap.size,0,none⟩:Addr).add j=⟨w.heap.size,j,none⟩:=by unfold Addr.add; by_cases h:j=0 <;> simp [h]
    rw [e]
    exact hba.2.1 j hj)
   rw [hlm] at kc
   clear hba hlm
   subst hkl
   go_wp2
   go_ret
   exact ⟨rfl,aU HBB⟩
theorem first_any (l:Str) (w:World) (hg:G w) (hl:l.length≤3000) :
  Calls Tryz.prog 340 #[.string (B l)] w fun e w'=>e=.returned (.string (B (Lib.cut l [46]).1))∧Below w.heap.size w w':=by
 obtain ⟨_,m,hm⟩:=hg
 have HC:=aH (Tryz.strings_Cut (B l) ⟨#[46]⟩ m w (by rw [size_B]; omega) hm)
 clear hm
 go_enter Tryz.func340,Tryz.ntmps340
 go_wp2_with fail
 refine (aU HC).mono ?_
 rintro e w1 ⟨rfl,n,rfl⟩
 go_wp2_with fail
 go_ret
 exact ⟨rfl,Rg.below_drewN (Below.refl _ w) n⟩
end Wd
def TextsAt (w:World) (g:Nat) (l:List Str):Prop:=w.heap[g]? = some (.cells ((l.map fun x=>Value.string (B x)).toArray) 9)
section
variable {w:World} {g:Nat} {l:List Str}
theorem TextsAt.lt (h:TextsAt w g l):g<w.heap.size:=(Array.getElem?_eq_some_iff.1 h).1
theorem TextsAt.cell (h:TextsAt w g l) (i:Nat) (hi:i<l.length):w.cell? ⟨g,i,none⟩=some (.string (B l[i])):=by
 unfold TextsAt at h; simp [World.cell?,h,hi]
theorem TextsAt.frozen (h:TextsAt w g l) (i:Nat):w.frozen? ⟨g,i,none⟩=false:=by
 unfold TextsAt at h; simp [World.frozen?,h]
theorem TextsAt.set (h:TextsAt w g l) (i:Nat) (x:Str):TextsAt (w.setCell ⟨g,i,none⟩ (.string (B x))) g (l.set i x):=by
 unfold TextsAt at *; simp only [World.setCell]; rw [Array.getElem?_modify,if_pos rfl,h]
 simp
theorem TextsAt.below {w':World} (h:TextsAt w g l) (hb:Below w.heap.size w w'):TextsAt w' g l:=(hb.block g h.lt).trans h
end
def StrsV (w:World) (v:Value) (ls:List Str):Prop:=(v=.slice none 0 0∧ls = [])∨∃ g c,v=.slice (some ⟨g,0,none⟩) ls.length c∧ls.length≤c∧g<w.heap.size∧∀ j (h:j<ls.length),w.cell? ⟨g,j,none⟩=some (.string (B ls[j]))
namespace We
open Ka Wa Wb Wd Re
def foldL (l:Str):Str:=l.map foldC
theorem foldL_len (l:Str):(foldL l).length=l.length:=by simp [foldL]
def nameP (ls:List Str):Str:=Lib.join (ls.map foldL) [46]
theorem made_texts (w:World) (n:Nat):TextsAt (w.alloc (.cells (madeCells (Value.string ⟨#[]⟩).cells n) 9)) w.heap.size (List.replicate n []):=by
 have e:madeCells (Value.string ⟨#[]⟩).cells n=((List.replicate n ([]:Str)).map fun x=>Value.string (B x)).toArray:=by
  apply Array.ext'
  simp only [madeCells,Value.cells,Array.toList_map,Array.toList_range]
  apply List.ext_getElem
  ·simp
  ·intro i h1 h2
   simp [B,Nat.mod_one]
 rw [e]
 exact World.alloc_heap_new w _
theorem step_set (ls:List Str) (k:Nat) (h:k<ls.length):(((ls.take k).map foldL)++List.replicate (ls.length - k) []).set k (foldL ls[k])=((ls.take (k+1)).map foldL)++List.replicate (ls.length - (k+1)) []:=by
 have e1:((ls.take k).map foldL).length=k:=by simp; omega
 rw [List.set_append,if_neg (by omega),e1,Nat.sub_self,List.take_succ_eq_append_getElem h,show ls.length - k=(ls.length - (k+1))+1 from by omega,List.replicate_succ,List.set_cons_zero,List.map_append,List.append_assoc]
 rfl
theorem data_Bs (l:List Str):(l.map B).map (·.data.toList)=l:=by
 rw [List.map_map]
 exact List.map_id' l
theorem join_len (M:Nat) : ∀ xs:List Str,(∀ x∈xs,x.length≤M)→(Lib.join xs [46]).length≤xs.length*(M+1)
 | [],_=>by simp [Lib.join,List.intercalate]
 | [x],h=>by
  have:=h x (by simp)
  simp [Lib.join,List.intercalate]; omega
 | x :: y :: t,h=>by
  have ih:=join_len M (y :: t) (fun z hz=>h z (List.mem_cons_of_mem _ hz))
  have hx:=h x (by simp)
  simp only [Lib.join,List.intercalate] at ih ⊢
  rw [List.intersperse]
  simp only [List.flatten_cons,List.length_append,List.length_cons,List.length_nil] at ih ⊢
  ·rw [Nat.succ_mul]
   omega
  ·intro e; cases e
theorem fromLabels_any (v:Value) (ls:List Str) (w:World) (hv:StrsV w v ls) (hn:ls.length≤1000) (hl : ∀ l∈ls,l.length≤1000) :
  Calls Tryz.prog 200 #[v] w fun e w'=>e=.returned (.string (B (nameP ls)))∧Below w.heap.size w w':=by
 obtain ⟨i0,hi,hz0,hz1,hz2⟩:=info_parts infoS
 have km:=run_make (P:=Tryz.prog) w 49 9 i0 (.string ⟨#[]⟩) underS hi hz0 .i64 .i64 ls.length ls.length (by omega) (Int.le_refl _) (by rw [hz2]; omega) (by omega)
 rw [hz1] at km
 simp only [Int.toNat_natCast,Nat.mul_one] at km
 have HT:=aH (made_texts w ls.length)
 have HB:=aH ((Below.refl w.heap.size w).alloc (Nat.le_refl _) (.cells (madeCells (Value.string ⟨#[]⟩).cells ls.length) 9))
 have HJ:=aH (Any.strings_Join Tryz.lays156 Tryz.Builder_Extra_156)
 have HV:=aH hv
 have HL:=aH hl
 generalize w.alloc (.cells (madeCells (Value.string ⟨#[]⟩).cells ls.length) 9)=W at *
 clear hi hz0 hz1 hz2 i0 hl
 rcases hv with ⟨rfl,rfl⟩ | ⟨g,c,rfl,hc,hg,hcells⟩
 ·have HN:=aH (fun W:World=>Any.strings_Join_none Tryz.lays156 Tryz.Builder_Extra_156 (some ⟨w.heap.size,0,none⟩) 0 ⟨#[46]⟩ W)
  clear HJ
  simp only [List.length_nil] at km HT HB
  have km0:(Instr.makeSlice 49 (.int .i64 0) (.int .i64 0)).run Tryz.prog w=.ok (.slice (some ⟨w.heap.size,0,none⟩) 0 0) W:=km
  clear km
  go_enter Tryz.func200,Tryz.ntmps200
  go_wp2_with fail
  go_loopw [11] (fun i wr=>i=.int .i64 0∧wr=W) (fun _ _=>0)
  case atStart=>exact ⟨rfl,rfl⟩
  case round =>
   obtain ⟨rfl,rfl⟩:=hrel
   go_wp2_with fail
   refine (aU HN _).mono ?_
   rintro e w2 ⟨rfl,rfl⟩
   go_wp2_with fail
   go_ret
   exact ⟨rfl,aU HB⟩
 ·have HC:=aH hcells
  clear hcells
  go_enter Tryz.func200,Tryz.ntmps200
  go_wp2_with fail
  go_loopw [11] (fun i wr=>∃ k:Nat,i=.int .i64 k∧k≤ls.length∧TextsAt wr w.heap.size (((ls.take k).map foldL)++List.replicate (ls.length - k) [])∧Below w.heap.size w wr) (fun i _=>ls.length - (intOf i).toNat)
  case atStart=>exact ⟨0,rfl,Nat.zero_le _,by simpa using aU HT,aU HB⟩
  case round =>
   obtain ⟨k,rfl,hk,hta,hb⟩:=hrel
   have HTA:=aH hta
   have HBB:=aH hb
   clear hta hb
   by_cases hlk:k<ls.length
   ·have hcell:wr.cell? ⟨g,k,none⟩=some (.string (B ls[k])):=((aU HBB).cell (p:=⟨g,k,none⟩) hg).trans (aU HC k hlk)
    have HS:=aH (step_set ls k hlk)
    have hlk':=aU HL ls[k] (List.getElem_mem hlk)
    have hlen:(((ls.take k).map foldL)++List.replicate (ls.length - k) []).length=ls.length:=by simp; omega
    generalize ls[k]=x at *
    have HF:=aH (show Calls Tryz.prog 252 #[.string (B x)] wr fun e w'=>e=.returned (.string (B (foldL x)))∧Below wr.heap.size wr w' from fold_any x wr hlk')
    go_wp2_with fail
    refine (aU HF).mono ?_
    rintro e w2 ⟨rfl,hb2⟩
    have hT2:=(aU HTA).below hb2
    have hcell2:=hT2.cell k (by omega)
    have hfz2:=hT2.frozen k
    have HT2:=aH (hT2.set k (foldL x))
    have HB2:=aH (((aU HBB).trans (hb2.mono (aU HBB).size)).setCell (p:=⟨w.heap.size,k,none⟩) (Nat.le_refl _) (.string (B (foldL x))))
    rw [aU HS] at HT2
    clear hb2 hT2
    go_wp2_with fail
    exact ⟨⟨k+1,by go_num,by omega,aU HT2,aU HB2⟩,by simp [intOf]; omega⟩
   ·have hkl:k=ls.length:=by omega
    subst hkl
    have HTE:Hid (TextsAt wr w.heap.size (ls.map foldL)):=by
     have:=aU HTA
     rw [List.take_length,Nat.sub_self,List.replicate_zero,List.append_nil] at this
     exact this
    have HJ2:=aH (aU HJ w.heap.size 0 ls.length ((ls.map foldL).map B) ⟨#[46]⟩ wr ?c1 (aU HTE).lt ?c2 ?c3 ?c4)
    case c1 =>
     intro j x hx
     rw [Nat.zero_add]
     rw [List.getElem?_map,Option.map_eq_some_iff] at hx
     obtain ⟨y,hy,rfl⟩:=hx
     obtain ⟨hj,rfl⟩:=List.getElem?_eq_some_iff.1 hy
     exact (aU HTE).cell j hj
    case c2=>simp; omega
    case c3=>simp
    case c4 =>
     rw [data_Bs]
     refine Nat.le_trans (join_len 1000 _ ?_) ?_
     ·intro x hx
      obtain ⟨y,hy,rfl⟩:=List.mem_map.1 hx
      rw [foldL_len]; exact aU HL y hy
     ·rw [List.length_map]; omega
    rw [data_Bs,List.length_map,List.length_map] at HJ2
    go_wp2_with fail
    refine (aU HJ2).mono ?_
    rintro e w2 ⟨rfl,hb2⟩
    go_wp2_with fail
    go_ret
    exact ⟨rfl,(aU HBB).trans (hb2.mono (aU HBB).size)⟩
end We
def NumsAt (w:World) (b:Nat) (xs:List Int) (t:TypeId):Prop:=w.heap[b]? = some (.cells (xs.map (Value.int .i64)).toArray t)
section
variable {w:World} {b:Nat} {xs:List Int} {t:TypeId}
theorem NumsAt.lt (h:NumsAt w b xs t):b<w.heap.size:=(Array.getElem?_eq_some_iff.1 h).1
theorem NumsAt.cell (h:NumsAt w b xs t) (i:Nat) (hi:i<xs.length):w.cell? ⟨b,i,none⟩=some (.int .i64 xs[i]):=by
 unfold NumsAt at h; simp [World.cell?,h,hi]
theorem NumsAt.frozen (h:NumsAt w b xs t) (i:Nat):w.frozen? ⟨b,i,none⟩=false:=by
 unfold NumsAt at h; simp [World.frozen?,h]
theorem NumsAt.set (h:NumsAt w b xs t) (i:Nat) (x:Int):NumsAt (w.setCell ⟨b,i,none⟩ (.int .i64 x)) b (xs.set i x) t:=by
 unfold NumsAt at *; simp only [World.setCell]; rw [Array.getElem?_modify,if_pos rfl,h]
 simp
theorem NumsAt.kept {w':World} {d:Nat} (h:NumsAt w b xs t) (hk:It.Keeps d w w') (hd:b≠d):NumsAt w' b xs t:=(hk.block b h.lt hd).trans h
end
namespace Wc
open Ka Re Wa Wb
def cntP:Nat→Str→Bool→List Nat×Str×Bool
 | 0,s,br=>([],s,br)
 | k+1,s,br=>((shortP s br).1 :: (cntP k (shortP s br).2.1 (shortP s br).2.2).1,(cntP k (shortP s br).2.1 (shortP s br).2.2).2)
theorem shortP_len (s:Str) (br:Bool):(shortP s br).2.1.length≤s.length:=Nat.le_trans (octP_len _ _) (octP_len _ _)
def hdrP (s:Str):List Nat×Bool:=((cntP 6 s false).1,!(cntP 6 s false).2.2)
theorem readHeader_any (s:Str) (w:World) (hl:s.length≤1000000000) :
  Calls Tryz.prog 70 #[.string (B s)] w fun e w' =>
   e=.returned (.tuple #[.agg ((hdrP s).1.map fun n:Nat=>Value.int .i64 n).toArray,.bool (hdrP s).2])∧Below w.heap.size w w':=by
 have hr0:RdAt ((w.alloc (.cells #[.int .i64 0,.int .i64 0,.int .i64 0,.int .i64 0,.int .i64 0,.int .i64 0] 133)).alloc (.cells #[.string (B s),.bool false] 215)) (w.heap.size+1) s false:=by
  have:=World.alloc_heap_new (w.alloc (.cells #[.int .i64 0,.int .i64 0,.int .i64 0,.int .i64 0,.int .i64 0,.int .i64 0] 133)) (.cells #[.string (B s),.bool false] 215)
  simpa [RdAt] using this
 have hn0:NumsAt ((w.alloc (.cells #[.int .i64 0,.int .i64 0,.int .i64 0,.int .i64 0,.int .i64 0,.int .i64 0] 133)).alloc (.cells #[.string (B s),.bool false] 215)) w.heap.size [0,0,0,0,0,0] 133 :=
  (Below.heap_alloc _ _ _ (by simp)).trans (World.alloc_heap_new w _)
 have HB0:=aH (((Below.refl w.heap.size w).alloc (Nat.le_refl _) (.cells #[.int .i64 0,.int .i64 0,.int .i64 0,.int .i64 0,.int .i64 0,.int .i64 0] 133)).alloc (by simp) (.cells #[.string (B s),.bool false] 215))
 have hc0:=short_any _ s false _ hr0 hl
 have HN0:=aH hn0
 have HC0:=aH hc0
 have HE:Hid (hdrP s=((shortP s false).1 :: (shortP (shortP s false).2.1 (shortP s false).2.2).1 :: (cntP 4 (shortP (shortP s false).2.1 (shortP s false).2.2).2.1 (shortP (shortP s false).2.1 (shortP s false).2.2).2.2).1,!(cntP 4 (shortP (shortP s false).2.1 (shortP s false).2.2).2.1 (shortP (shortP s false).2.1 (shortP s false).2.2).2.2).2.2)):=rfl
 have HL1:=aH (Nat.le_trans (shortP_len s false) hl)
 generalize hdrP s=R at *
 generalize shortP s false=x at *
 obtain ⟨n1,s1,b1⟩:=x
 simp only at HC0 HE HL1
 clear hr0 hn0 hc0
 go_enter Tryz.func70,Tryz.ntmps70
 go_wp2_with fail
 refine (aU HC0).mono ?_
 rintro e w1 ⟨rfl,hr1,hk1,hs1⟩
 have HC1:=aH (short_any _ s1 b1 w1 hr1 (aU HL1))
 have HL2:=aH (Nat.le_trans (shortP_len s1 b1) (aU HL1))
 generalize shortP s1 b1=y at *
 obtain ⟨n2,s2,b2⟩:=y
 simp only at HC1 HE HL2
 have HN1:=aH ((aU HN0).kept hk1 (by omega))
 have HB1:=aH ((aU HB0).trans (hk1.below (by omega) (by simp; omega)))
 have HS1:Hid (w1.heap.size=w.heap.size+2):=by rw [Hid,hs1]; simp
 clear hr1 hk1 hs1 HC0 HN0 HB0
 go_wp2_with fail
 refine (aU HC1).mono ?_
 rintro e w2 ⟨rfl,hr2,hk2,hs2⟩
 have HR2:=aH hr2
 have HN2:=aH ((aU HN1).kept hk2 (by omega))
 have HB2:=aH ((aU HB1).trans (hk2.below (by omega) (by have:=aU HS1; omega)))
 have HS2:Hid (w2.heap.size=w.heap.size+2):=by rw [Hid,hs2]; exact aU HS1
 clear hr2 hk2 hs2 HC1 HN1 HB1 HS1
 go_wp2_with fail
 go_loopw [15] (fun i wr=>∃ (k m:Nat) (done zs:List Nat) (t:Str) (bt:Bool),i=.int .i64 k∧done.length=k∧zs.length=m∧k+m=4∧t.length≤1000000000∧RdAt wr (w.heap.size+1) t bt∧NumsAt wr w.heap.size [0,0,0,0,0,0] 133∧NumsAt wr w2.heap.size ((n1 :: n2 :: (done++zs)).map Int.ofNat) 133∧Below w.heap.size w wr∧R=(n1 :: n2 :: (done++(cntP m t bt).1),!(cntP m t bt).2.2)) (fun i _=>4 - (intOf i).toNat)
 case atStart =>
  refine ⟨0,4,[],[0,0,0,0],s2,b2,rfl,rfl,rfl,rfl,aU HL2,?_,?_,?_,?_,aU HE⟩
  ·exact (Below.heap_alloc _ _ _ (aU HR2).lt).trans (aU HR2)
  ·exact (Below.heap_alloc _ _ _ (aU HN2).lt).trans (aU HN2)
  ·exact World.alloc_heap_new _ _
  ·exact (aU HB2).alloc (by have:=aU HS2; omega) _
 case round =>
  obtain ⟨k,m,done,zs,t,bt,rfl,hdone,hzs,hkm,htl,hrd,hn0,hnh,hb,hR⟩:=hrel
  have HRD:=aH hrd
  have HN0:=aH hn0
  have HNH:=aH hnh
  have HB:=aH hb
  have HR:=aH hR
  clear hrd hn0 hnh hb hR
  cases m with
  | zero =>
   obtain rfl:zs = []:=List.eq_nil_of_length_eq_zero hzs
   have hk4:k=4:=by omega
   subst hk4
   obtain ⟨c0,c1,c2,c3,rfl⟩ : ∃ a b c d,done = [a,b,c,d]:=by
    match done,hdone with
    | [a,b,c,d],_=>exact ⟨a,b,c,d,rfl⟩
   have q0:=(aU HNH).cell 0 (by simp)
   have q1:=(aU HNH).cell 1 (by simp)
   have q2:=(aU HNH).cell 2 (by simp)
   have q3:=(aU HNH).cell 3 (by simp)
   have q4:=(aU HNH).cell 4 (by simp)
   have q5:=(aU HNH).cell 5 (by simp)
   simp at q0 q1 q2 q3 q4 q5
   have hc1:=(aU HRD).cells.2
   have z0:=(aU HN0).cell 0 (by simp)
   have z1:=(aU HN0).cell 1 (by simp)
   have z2:=(aU HN0).cell 2 (by simp)
   have z3:=(aU HN0).cell 3 (by simp)
   have z4:=(aU HN0).cell 4 (by simp)
   have z5:=(aU HN0).cell 5 (by simp)
   simp at z0 z1 z2 z3 z4 z5
   have hfz:=(aU HN0).frozen
   have hne:w.heap.size≠w2.heap.size:=by have:=aU HS2; omega
   clear hkm hdone hzs
   go_wp2_with fail
   go_region
   all_goals
    go_wp2
    refine bodyPost_ret (v:=.tuple #[.agg #[.int .i64 n1,.int .i64 n2,.int .i64 c0,.int .i64 c1,.int .i64 c2,.int .i64 c3],.bool (!bt)]) (by simp [results,Tryz.results70,go_sem,z0,z1,z2,z3,z4,z5]) rfl ⟨?_,?_⟩
    ·rw [aU HR]; simp [cntP]
    ·exact (((((((aU HB).setCell (Nat.le_refl _) _).setCell (Nat.le_refl _) _).setCell (Nat.le_refl _) _).setCell (Nat.le_refl _) _).setCell (Nat.le_refl _) _).setCell (Nat.le_refl _) _).drew
  | succ m =>
   obtain ⟨z,zs,rfl⟩ : ∃ z zs',zs=z :: zs':=by
    cases zs with
    | nil=>simp at hzs
    | cons z zs=>exact ⟨z,zs,rfl⟩
   have hk4:k<4:=by omega
   have HF:Hid (R=(n1 :: n2 :: ((done++[(shortP t bt).1])++(cntP m (shortP t bt).2.1 (shortP t bt).2.2).1),!(cntP m (shortP t bt).2.1 (shortP t bt).2.2).2.2)):=by
    rw [Hid,aU HR]; simp [cntP]
   have HC:=aH (short_any _ t bt wr (aU HRD) htl)
   have HTL:=aH (Nat.le_trans (shortP_len t bt) htl)
   generalize shortP t bt=y at *
   obtain ⟨n3,t3,b3⟩:=y
   simp only at HC HTL HF
   clear HR
   go_wp2_with fail
   refine (aU HC).mono ?_
   rintro e w3 ⟨rfl,hr3,hk3,hs3⟩
   have HRD3:=aH hr3
   have HN03:=aH ((aU HN0).kept hk3 (by omega))
   have HNH3:=aH ((aU HNH).kept hk3 (by have:=aU HS2; omega))
   have HB3:=aH ((aU HB).trans (hk3.below (by omega) (by have:=(aU HB).size; omega)))
   have hcell:=(aU HNH3).cell (2+k) (by simp; omega)
   have hfz:=(aU HNH3).frozen
   clear hr3 hk3 hs3 HC HRD HN0 HNH HB
   go_wp2_with fail
   have hbS:w.heap.size<w2.heap.size:=by have:=aU HS2; omega
   have hbS1:w.heap.size+1<w2.heap.size:=by have:=aU HS2; omega
   have hset:=(aU HNH3).set (2+k) (n3:Int)
   refine ⟨⟨k+1,m,done++[n3],zs,t3,b3,by go_num,by simp [hdone],by simpa using hzs,by omega,aU HTL,?_,?_,?_,(aU HB3).setCell (by show w.heap.size≤w2.heap.size; omega) _,aU HF⟩,by simp [intOf]; omega⟩
   ·exact (Below.heap_setCell _ _ _ _ (by show w.heap.size+1≠w2.heap.size; omega)).trans (aU HRD3)
   ·exact (Below.heap_setCell _ _ _ _ (by show w.heap.size≠w2.heap.size; omega)).trans (aU HN03)
   ·have e:((n1 :: n2 :: (done++z :: zs)).map Int.ofNat).set (2+k) (n3:Int)=(n1 :: n2 :: ((done++[n3])++zs)).map Int.ofNat:=by
     subst hdone
     rw [show 2+done.length=done.length+1+1 from by omega]
     simp [List.set_append]
    rw [← e]
    exact hset
end Wc
end Go.Proofs.YtkkpahmoljiepaaGreatDoor
