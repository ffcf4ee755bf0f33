/- Contract: zone.isData. -/
import Derived.Test.YtkkpahmoljiepaaGreatDoorJ01
import Derived.RangeFuncLeaves
import Derived.RangeFuncOwn
import Derived.Below
import Derived.RangeFuncKeeps
set_option linter.unusedSimpArgs false
set_option linter.unusedVariables false
set_option maxRecDepth 1000000
set_option maxHeartbeats 12800000
namespace Go.Proofs.YtkkpahmoljiepaaGreatDoor
open Go.RowKit
open Pu (aH aU)
namespace Kf
open Ka Kb Kd Ke
def dat (ws:List ByteArray):List Pu.Str:=ws.map (·.data.toList)
theorem d6_len (ws:List Pu.Str) (h:ws.length≠4):isData 6 ws=false:=by
 unfold isData; rw [if_pos rfl]; split
 ·exact absurd rfl h
 ·rfl
theorem d2_len (k:Int) (hk:k=2∨k=5) (ws:List Pu.Str) (h:ws.length≠1):isData k ws=false:=by
 unfold isData; rw [if_neg (by omega),if_pos hk]; split
 ·exact absurd rfl h
 ·rfl
theorem d1_len (ws:List Pu.Str) (h:ws.length≠1):isData 1 ws=false:=by
 unfold isData; rw [if_neg (by omega),if_neg (by omega),if_pos rfl]; split
 ·exact absurd rfl h
 ·rfl
theorem d16_len (ws:List Pu.Str) (h:ws.length≠1):isData 16 ws=false:=by
 unfold isData; rw [if_neg (by omega),if_neg (by omega),if_neg (by omega),if_pos rfl]; split
 ·exact absurd rfl h
 ·rfl
theorem d15_len (ws:List Pu.Str) (h:ws.length≠2):isData 15 ws=false:=by
 unfold isData; rw [if_neg (by omega),if_neg (by omega),if_neg (by omega),if_neg (by omega),if_pos rfl]; split
 ·exact absurd rfl h
 ·rfl
theorem d0 (k:Int) (ws:List Pu.Str) (h6:k≠6) (h2:k≠2) (h5:k≠5) (h1:k≠1) (h16:k≠16) (h15:k≠15):isData k ws=false:=by
 unfold isData; rw [if_neg h6,if_neg (by omega),if_neg h1,if_neg h16,if_neg h15]
theorem isData_soa (b cap:Nat) (ws:List ByteArray) (w:World) (hg:G w) (hat:StrsAt w b 0 ws) (hsz : ∀ x∈ws,x.size≤3000) (hl:ws.length≤3001) :
  Calls Tryz.prog 170 #[.int .i64 6,.slice (some ⟨b,0,none⟩) ws.length cap] w fun e w'=>e=.returned (.bool (isData 6 (dat ws)))∧Below w.heap.size w w':=by
 by_cases h4:ws.length=4
 ·match ws,h4 with
  | [x0,x1,x2,x3],_ =>
  have hfin:Hid (isData 6 (dat [x0,x1,x2,x3])=(Sp.plain x0.data.toList && Sp.plain x1.data.toList && numB 4294967295 x2.data.toList && numB 86400 x3.data.toList)):=rfl
  have s0:x0.size≤maxLen:=by have:=hsz x0 (by simp); unfold maxLen; omega
  have s1:x1.size≤maxLen:=by have:=hsz x1 (by simp); unfold maxLen; omega
  have s2:x2.size≤maxLen:=by have:=hsz x2 (by simp); unfold maxLen; omega
  have s3:x3.size≤maxLen:=by have:=hsz x3 (by simp); unfold maxLen; omega
  have c0:w.cell? ⟨b,0,none⟩=some (.string x0):=hat.2 0 (by simp)
  have HA:=aH hat
  clear hat hl hsz
  cases v0:Sp.plain x0.data.toList
  ·go_enter Tryz.func170,Tryz.ntmps170
   go_wp2_with (go_at_call 68; refine (plain_any x0 _ hg s0).mono ?_; rintro e w1 ⟨rfl,hb1⟩)
   go_ret
   exact ⟨ret_bool (by rw [aU hfin,v0]; rfl),hb1⟩
  cases v1:Sp.plain x1.data.toList
  ·go_enter Tryz.func170,Tryz.ntmps170
   go_wp2_with fail
   refine (plain_any x0 _ hg s0).mono ?_
   rintro e w1 ⟨rfl,hb1⟩
   have g1:=hg.below hb1
   have a1:=(aU HA).below hb1
   have c1:w1.cell? ⟨b,1,none⟩=some (.string x1):=a1.2 1 (by simp)
   have HA1:=aH a1
   clear a1
   go_wp2_with (go_at_call 68; refine (plain_any x1 _ g1 s1).mono ?_; rintro e w2 ⟨rfl,hb2⟩)
   go_ret
   exact ⟨ret_bool (by rw [aU hfin,v0,v1]; rfl),hb1.trans (hb2.mono hb1.size)⟩
  cases v2:numB 4294967295 x2.data.toList
  all_goals
   go_enter Tryz.func170,Tryz.ntmps170
   go_wp2_with fail
   refine (plain_any x0 _ hg s0).mono ?_
   rintro e w1 ⟨rfl,hb1⟩
   have g1:=hg.below hb1
   have a1:=(aU HA).below hb1
   have c1:w1.cell? ⟨b,1,none⟩=some (.string x1):=a1.2 1 (by simp)
   have HA1:=aH a1
   clear a1
   go_wp2_with fail
   refine (plain_any x1 _ g1 s1).mono ?_
   rintro e w2 ⟨rfl,hb2⟩
   have a2:=(aU HA1).below hb2
   have c2:w2.cell? ⟨b,2,none⟩=some (.string x2):=a2.2 2 (by simp)
   have c3:w2.cell? ⟨b,3,none⟩=some (.string x3):=a2.2 3 (by simp)
   clear a2
   go_wp2_with fail
   refine (isNumber_any x2 4294967295 _ s2 (by omega)).mono ?_
   rintro e w3 ⟨rfl,rfl⟩
   go_wp2_with (go_at_call 227; refine (isNumber_any x3 86400 _ s3 (by omega)).mono ?_; rintro e w4 ⟨rfl,rfl⟩)
   go_ret
   exact ⟨ret_bool (by rw [aU hfin,v0,v1,v2]; rfl),hb1.trans (hb2.mono hb1.size)⟩
 ·have hfin:Hid (isData 6 (dat ws)=false):=by
   exact d6_len _ (by simpa [dat] using h4)
  have h4':((ws.length:Int) == 4)=false:=by rw [beq_eq_false_iff_ne]; omega
  clear h4 hat hsz
  go_enter Tryz.func170,Tryz.ntmps170
  go_wp2
  go_ret
  exact ⟨ret_bool (aU hfin).symm,Below.refl _ _⟩
theorem isData_ns (b cap:Nat) (ws:List ByteArray) (w:World) (hg:G w) (hat:StrsAt w b 0 ws) (hsz : ∀ x∈ws,x.size≤3000) (hl:ws.length≤3001) :
  Calls Tryz.prog 170 #[.int .i64 2,.slice (some ⟨b,0,none⟩) ws.length cap] w fun e w'=>e=.returned (.bool (isData 2 (dat ws)))∧Below w.heap.size w w':=by
 by_cases h4:ws.length=1
 ·match ws,h4 with
  | [x0],_ =>
  have s0:x0.size≤maxLen:=by have:=hsz x0 (by simp); unfold maxLen; omega
  have s0':x0.size≤3000:=hsz x0 (by simp)
  have c0:w.cell? ⟨b,0,none⟩=some (.string x0):=hat.2 0 (by simp)
  clear hat hl hsz
  go_enter Tryz.func170,Tryz.ntmps170
  go_wp2_with (go_at_call 68; refine (plain_any x0 _ hg s0).mono ?_; rintro e w1 ⟨rfl,hb1⟩)
  go_ret
  exact ⟨rfl,hb1⟩
 ·have hfin:Hid (isData 2 (dat ws)=false):=d2_len 2 (.inl rfl) _ (by simpa [dat] using h4)
  have h4':((ws.length:Int) == 1)=false:=by rw [beq_eq_false_iff_ne]; omega
  clear h4 hat hsz
  go_enter Tryz.func170,Tryz.ntmps170
  go_wp2
  go_ret
  exact ⟨ret_bool (aU hfin).symm,Below.refl _ _⟩
theorem isData_cname (b cap:Nat) (ws:List ByteArray) (w:World) (hg:G w) (hat:StrsAt w b 0 ws) (hsz : ∀ x∈ws,x.size≤3000) (hl:ws.length≤3001) :
  Calls Tryz.prog 170 #[.int .i64 5,.slice (some ⟨b,0,none⟩) ws.length cap] w fun e w'=>e=.returned (.bool (isData 5 (dat ws)))∧Below w.heap.size w w':=by
 by_cases h4:ws.length=1
 ·match ws,h4 with
  | [x0],_ =>
  have s0:x0.size≤maxLen:=by have:=hsz x0 (by simp); unfold maxLen; omega
  have s0':x0.size≤3000:=hsz x0 (by simp)
  have c0:w.cell? ⟨b,0,none⟩=some (.string x0):=hat.2 0 (by simp)
  clear hat hl hsz
  go_enter Tryz.func170,Tryz.ntmps170
  go_wp2_with (go_at_call 68; refine (plain_any x0 _ hg s0).mono ?_; rintro e w1 ⟨rfl,hb1⟩)
  go_ret
  exact ⟨rfl,hb1⟩
 ·have hfin:Hid (isData 5 (dat ws)=false):=d2_len 5 (.inr rfl) _ (by simpa [dat] using h4)
  have h4':((ws.length:Int) == 1)=false:=by rw [beq_eq_false_iff_ne]; omega
  clear h4 hat hsz
  go_enter Tryz.func170,Tryz.ntmps170
  go_wp2
  go_ret
  exact ⟨ret_bool (aU hfin).symm,Below.refl _ _⟩
theorem isData_a (b cap:Nat) (ws:List ByteArray) (w:World) (hg:G w) (hat:StrsAt w b 0 ws) (hsz : ∀ x∈ws,x.size≤3000) (hl:ws.length≤3001) :
  Calls Tryz.prog 170 #[.int .i64 1,.slice (some ⟨b,0,none⟩) ws.length cap] w fun e w'=>e=.returned (.bool (isData 1 (dat ws)))∧Below w.heap.size w w':=by
 by_cases h4:ws.length=1
 ·match ws,h4 with
  | [x0],_ =>
  have s0:x0.size≤maxLen:=by have:=hsz x0 (by simp); unfold maxLen; omega
  have s0':x0.size≤3000:=hsz x0 (by simp)
  have c0:w.cell? ⟨b,0,none⟩=some (.string x0):=hat.2 0 (by simp)
  clear hat hl hsz
  go_enter Tryz.func170,Tryz.ntmps170
  go_wp2_with (go_at_call 228; refine (isAddress_any x0 _ hg s0').mono ?_; rintro e w1 ⟨rfl,hb1⟩)
  go_ret
  exact ⟨rfl,hb1⟩
 ·have hfin:Hid (isData 1 (dat ws)=false):=d1_len _ (by simpa [dat] using h4)
  have h4':((ws.length:Int) == 1)=false:=by rw [beq_eq_false_iff_ne]; omega
  clear h4 hat hsz
  go_enter Tryz.func170,Tryz.ntmps170
  go_wp2
  go_ret
  exact ⟨ret_bool (aU hfin).symm,Below.refl _ _⟩
theorem isData_txt (b cap:Nat) (ws:List ByteArray) (w:World) (hg:G w) (hat:StrsAt w b 0 ws) (hsz : ∀ x∈ws,x.size≤3000) (hl:ws.length≤3001) :
  Calls Tryz.prog 170 #[.int .i64 16,.slice (some ⟨b,0,none⟩) ws.length cap] w fun e w'=>e=.returned (.bool (isData 16 (dat ws)))∧Below w.heap.size w w':=by
 by_cases h4:ws.length=1
 ·match ws,h4 with
  | [x0],_ =>
  have s0:x0.size≤maxLen:=by have:=hsz x0 (by simp); unfold maxLen; omega
  have s0':x0.size≤3000:=hsz x0 (by simp)
  have c0:w.cell? ⟨b,0,none⟩=some (.string x0):=hat.2 0 (by simp)
  clear hat hl hsz
  go_enter Tryz.func170,Tryz.ntmps170
  go_wp2_with (go_at_call 229; refine (isWord_any x0 _ s0).mono ?_; rintro e w1 ⟨rfl,rfl⟩)
  go_ret
  exact ⟨rfl,Below.refl _ _⟩
 ·have hfin:Hid (isData 16 (dat ws)=false):=d16_len _ (by simpa [dat] using h4)
  have h4':((ws.length:Int) == 1)=false:=by rw [beq_eq_false_iff_ne]; omega
  clear h4 hat hsz
  go_enter Tryz.func170,Tryz.ntmps170
  go_wp2
  go_ret
  exact ⟨ret_bool (aU hfin).symm,Below.refl _ _⟩
theorem isData_mx (b cap:Nat) (ws:List ByteArray) (w:World) (hg:G w) (hat:StrsAt w b 0 ws) (hsz : ∀ x∈ws,x.size≤3000) (hl:ws.length≤3001) :
  Calls Tryz.prog 170 #[.int .i64 15,.slice (some ⟨b,0,none⟩) ws.length cap] w fun e w'=>e=.returned (.bool (isData 15 (dat ws)))∧Below w.heap.size w w':=by
 by_cases h4:ws.length=2
 ·match ws,h4 with
  | [x0,x1],_ =>
  have hfin:Hid (isData 15 (dat [x0,x1])=(numB 65535 x0.data.toList && Sp.plain x1.data.toList)):=rfl
  have s0:x0.size≤maxLen:=by have:=hsz x0 (by simp); unfold maxLen; omega
  have s1:x1.size≤maxLen:=by have:=hsz x1 (by simp); unfold maxLen; omega
  have c0:w.cell? ⟨b,0,none⟩=some (.string x0):=hat.2 0 (by simp)
  have c1:w.cell? ⟨b,1,none⟩=some (.string x1):=hat.2 1 (by simp)
  clear hat hl hsz
  cases v0:numB 65535 x0.data.toList
  ·go_enter Tryz.func170,Tryz.ntmps170
   go_wp2_with (go_at_call 227; refine (isNumber_any x0 65535 _ s0 (by omega)).mono ?_; rintro e w1 ⟨rfl,rfl⟩)
   go_ret
   exact ⟨ret_bool (by rw [aU hfin,v0]; rfl),Below.refl _ _⟩
  ·go_enter Tryz.func170,Tryz.ntmps170
   go_wp2_with (first
    | (go_at_call 227; refine (isNumber_any x0 65535 _ s0 (by omega)).mono ?_; rintro e w1 ⟨rfl,rfl⟩)
    | (go_at_call 68; refine (plain_any x1 _ hg s1).mono ?_; rintro e w1 ⟨rfl,hb1⟩))
   go_ret
   exact ⟨ret_bool (by rw [aU hfin,v0]; rfl),hb1⟩
 ·have hfin:Hid (isData 15 (dat ws)=false):=d15_len _ (by simpa [dat] using h4)
  have h4':((ws.length:Int) == 2)=false:=by rw [beq_eq_false_iff_ne]; omega
  clear h4 hat hsz
  go_enter Tryz.func170,Tryz.ntmps170
  go_wp2
  go_ret
  exact ⟨ret_bool (aU hfin).symm,Below.refl _ _⟩
theorem isData_none (k:Int) (b cap:Nat) (ws:List ByteArray) (w:World) (h6:k≠6) (h2:k≠2) (h5:k≠5) (h1:k≠1) (h16:k≠16) (h15:k≠15) :
  Calls Tryz.prog 170 #[.int .i64 k,.slice (some ⟨b,0,none⟩) ws.length cap] w fun e w'=>e=.returned (.bool (isData k (dat ws)))∧Below w.heap.size w w':=by
 have hfin:=aH (d0 k (dat ws) h6 h2 h5 h1 h16 h15)
 have k6:(k == 6)=false:=beq_eq_false_iff_ne.2 h6
 have k2:(k == 2)=false:=beq_eq_false_iff_ne.2 h2
 have k5:(k == 5)=false:=beq_eq_false_iff_ne.2 h5
 have k1:(k == 1)=false:=beq_eq_false_iff_ne.2 h1
 have k16:(k == 16)=false:=beq_eq_false_iff_ne.2 h16
 have k15:(k == 15)=false:=beq_eq_false_iff_ne.2 h15
 clear h6 h2 h5 h1 h16 h15
 go_enter Tryz.func170,Tryz.ntmps170
 go_wp2
 go_ret
 exact ⟨ret_bool (aU hfin).symm,Below.refl _ _⟩
theorem isData_any (k:Int) (b cap:Nat) (ws:List ByteArray) (w:World) (hg:G w) (hat:StrsAt w b 0 ws) (hsz : ∀ x∈ws,x.size≤3000) (hl:ws.length≤3001) :
  Calls Tryz.prog 170 #[.int .i64 k,.slice (some ⟨b,0,none⟩) ws.length cap] w fun e w'=>e=.returned (.bool (isData k (dat ws)))∧Below w.heap.size w w':=by
 by_cases h6:k=6
 ·subst h6; exact isData_soa b cap ws w hg hat hsz hl
 by_cases h2:k=2
 ·subst h2; exact isData_ns b cap ws w hg hat hsz hl
 by_cases h5:k=5
 ·subst h5; exact isData_cname b cap ws w hg hat hsz hl
 by_cases h1:k=1
 ·subst h1; exact isData_a b cap ws w hg hat hsz hl
 by_cases h16:k=16
 ·subst h16; exact isData_txt b cap ws w hg hat hsz hl
 by_cases h15:k=15
 ·subst h15; exact isData_mx b cap ws w hg hat hsz hl
 exact isData_none k b cap ws w h6 h2 h5 h1 h16 h15
end Kf
end Go.Proofs.YtkkpahmoljiepaaGreatDoor

set_option maxRecDepth 1000000
set_option maxHeartbeats 12800000
namespace Go.Proofs.YtkkpahmoljiepaaGreatDoor
open Go.RowKit
open Pu (Str aH aU)
def B (l:Str):ByteArray:=⟨l.toArray⟩
theorem B_data (s:ByteArray):B s.data.toList=s:=by cases s; simp [B]
theorem data_B (l:Str):(B l).data.toList=l:=rfl
theorem size_B (l:Str):(B l).size=l.length:=by simp [B,ByteArray.size]
abbrev Rec:=Str×Nat×Int×Str
def Rec.owner (r:Rec):Str:=r.1
def Rec.ttl (r:Rec):Nat:=r.2.1
def Rec.type (r:Rec):Int:=r.2.2.1
def Rec.data (r:Rec):Str:=r.2.2.2
def Rec.zero:Rec:=([],0,0,[])
def Rec.enc (r:Rec):List Value:=[.string (B r.owner),.int .i64 r.ttl,.int .i64 r.type,.string (B r.data)]
def Rec.val (r:Rec):Value:=.agg #[.string (B r.owner),.int .i64 r.ttl,.int .i64 r.type,.string (B r.data)]
def readRec (l:Str):Option Rec :=
 match Lib.splitN l [32] 4 with
 | [a,b,c,d]=>if Sp.valid a && Ka.numB 86400 b && Ke.isData (Pu.kindOf c) (Sp.spl 32 d) then some (a,Ka.numV 86400 b,Pu.kindOf c,d) else none
 | _=>none
def recR (o:Option Rec):Value:=.tuple #[(o.getD Rec.zero).val,.bool o.isSome]
namespace Rc
theorem splitK_mem_len (c:UInt8) : ∀ (k:Nat) (l:Str),∀ x∈Lib.splitK [c] 0 k l,x.length≤l.length
 | 0,l,x,hx=>by simp [Lib.splitK] at hx; subst hx; exact Nat.le_refl _
 | k+1,l,x,hx=>by
  unfold Lib.splitK at hx
  split at hx
  ·simp at hx; subst hx; exact Nat.le_refl _
  ·rw [List.mem_cons] at hx
   rcases hx with rfl | hx
   ·simp; omega
   ·have:=splitK_mem_len c k _ x hx
    rw [List.length_drop] at this
    omega
def four (s:ByteArray):List ByteArray:=Lib.splitB ⟨#[32]⟩ 0 (min 4 (s.size+1) - 1) s
theorem four_data (s:ByteArray):(four s).map (·.data.toList)=Lib.splitN s.data.toList [32] 4:=by
 unfold four
 rw [Lib.splitB_data]
 unfold Lib.splitN
 rw [Pu.len_eq]
theorem four_len (s:ByteArray):(four s).length≤4:=by
 have:=Lib.splitB_length_le ⟨#[32]⟩ 0 (min 4 (s.size+1) - 1) s
 unfold four; omega
theorem four_size (s x:ByteArray) (hx:x∈four s):x.size≤s.size:=by
 have:x.data.toList∈Lib.splitN s.data.toList [32] 4:=by
  rw [← four_data]; exact List.mem_map_of_mem hx
 have:=splitK_mem_len 32 _ _ _ this
 rwa [Pu.len_eq,Pu.len_eq] at this
theorem strsAt_cellsOf (w:World) (L:List ByteArray) (N:Nat):StrsAt (w.alloc (.cells (Lib.cellsOf L N) 9)) w.heap.size 0 L:=by
 refine ⟨by simp,fun j hj=>?_⟩
 rw [Nat.zero_add]
 unfold Lib.cellsOf
 simp [hj,List.getElem?_append]
theorem splitN_any (s:ByteArray) (w:World) (hg:G w) (hs:s.size≤3000) :
  Calls Tryz.prog 167 #[.string s,.string ⟨#[32]⟩,.int .i64 4] w fun e w' =>
   e=.returned (.slice (some ⟨w.heap.size,0,none⟩) (four s).length (min 4 (s.size+1)))∧w'=w.alloc (.cells (Lib.cellsOf (four s) (min 4 (s.size+1))) 9):=by
 obtain ⟨_,m,hm⟩:=hg
 exact Tryz.strings_SplitN s ⟨#[32]⟩ 4 m w (by omega) hm (Nat.le_refl _) (by omega) (by omega)
theorem readRecord_short (s:ByteArray) (w:World) (hg:G w) (hs:s.size≤3000) (h4:(four s).length≠4) :
  Calls Tryz.prog 99 #[.string s] w fun e w'=>e=.returned (recR none)∧Below w.heap.size w w':=by
 have hlen:=four_len s
 have hcall2:=splitN_any s (w.alloc (.cells #[.string ⟨#[]⟩,.int .i64 0,.int .i64 0,.string ⟨#[]⟩] 47)) (hg.alloc _) hs
 generalize four s=L at *
 have h4':(L.length:Int)<4:=by omega
 have HC:=aH hcall2
 clear hcall2
 go_enter Tryz.func99,Tryz.ntmps99
 go_wp2_with (go_at_call 167; refine (aU HC).mono ?_; rintro e w' ⟨rfl,rfl⟩)
 refine bodyPost_ret (v:=recR none) (by simp [results,Tryz.results99,go_sem,recR,Rec.val,Rec.zero,Rec.owner,Rec.ttl,Rec.type,Rec.data,B]) rfl ⟨rfl,?_⟩
 exact ((Below.refl _ _).alloc (Nat.le_refl _) _).alloc (by simp) _
end Rc
end Go.Proofs.YtkkpahmoljiepaaGreatDoor

namespace Go.Proofs.YtkkpahmoljiepaaGreatDoor
open Go.RowKit
namespace It
variable {P:Program} {α:Type}
def Seq (P:Program) (g:Nat) (lb:Array Value) (encs:α→Array Value) (xs:List α) (St Kp Kx:World→World→Prop) (W0:World):Prop :=
 ∀ (l:Nat) (J:Nat→World→Prop) (Jx:World→Prop),
  (∀ i A B,J i A→St A B→J i B)→(∀ A B,Jx A→St A B→Jx B) →
  (∀ i x W,xs[i]? = some x→J i W→YieldAt Fence.wide 0 P l (encs x) W fun e W' =>
   (e=.returned (.bool true)∧J (i+1) W'∧Kp W W')∨(e=.returned (.bool false)∧Jx W'∧Kx W W')) →
  J 0 W0 →
  CallsIn Fence.wide 0 P g (#[.func (.yield l) #[] #[]]++lb) W0 fun e W'=>(∃ v,e=.returned v)∧(J xs.length W'∨Jx W')
def Loops (d:Nat) (A B:World):Prop:=A.heap.size≤B.heap.size∧B.heap[d]? = A.heap[d]?∧B.heap[d+1]? = A.heap[d+1]?
def post (d:Nat) (Kb Kbx:World→World→Prop) (I:World→Prop) (Ix:Code→World→Prop) (W:World):Exit→Act→World→Prop
 | .normal,_,W'=>Loops d W W'∧Kb W W'∧I W'
 | .ret,_,W'=>Loops d W W'∧Kbx W W'∧Ix .ret W'
 | .exit id,_,W'=>Loops d W W'∧Kbx W W'∧Ix (.exit id) W'
 | .goto t,_,W'=>Loops d W W'∧Kbx W W'∧Ix (.goto t) W'
 | .panic _,_,_=>False
 | .outgrown,_,_=>False
theorem rangeW {g:Operand} {ps:Array Tmp} {assign body:Code} {Q:Exit→Act→World→Prop} {a:Act} {w:World}
  {gf:Nat} {lb:Array Value} (hg:a.eval g=.func (.func gf) #[] lb) (eg : ∀ args w,(callFunc gf args).run P w=.ok (.enter gf args) w)
  {encs:α→Array Value} {xs:List α} {St Kp Kx:World→World→Prop} (hps : ∀ x,(encs x).size=ps.size)
  (hseq : ∀ r,Seq P gf lb encs xs St Kp Kx ((w.alloc (.deferred (some []))).alloc (.loop r)))
  (I:Nat→World→Prop) (Ix:Code→World→Prop)
  (hSt : ∀ A B,w.heap.size+2≤A.heap.size→St A B→Loops w.heap.size A B)
  (hI : ∀ i A B,I i A→St A B→I i B) (hIx : ∀ c A B,Ix c A→St A B→Ix c B)
  (hIp : ∀ i A r o,I i A→A.heap[w.heap.size+1]? = some (.loop r)→I i (A.putObj (w.heap.size+1) o))
  (hIxp : ∀ c A r o,Ix c A→A.heap[w.heap.size+1]? = some (.loop r)→Ix c (A.putObj (w.heap.size+1) o))
  (h0 : ∀ r,I 0 ((w.alloc (.deferred (some []))).alloc (.loop r)))
  (Kb:World→World→Prop)
  (hKp : ∀ W r r' r'' Wc,W.heap[w.heap.size+1]? = some (.loop r)→Kb (W.putObj (w.heap.size+1) (.loop r')) Wc→Loops w.heap.size (W.putObj (w.heap.size+1) (.loop r')) Wc→Kp W (Wc.putObj (w.heap.size+1) (.loop r'')))
  (Kbx:World→World→Prop)
  (hKx : ∀ W r r' r'' Wc,W.heap[w.heap.size+1]? = some (.loop r)→Kbx (W.putObj (w.heap.size+1) (.loop r')) Wc→Loops w.heap.size (W.putObj (w.heap.size+1) (.loop r')) Wc→Kx W (Wc.putObj (w.heap.size+1) (.loop r'')))
  (hround : ∀ (l i:Nat) (x:α) (V W:World),xs[i]? = some x→I i W→w.heap.size+2≤W.heap.size →
   assign.wpIn (Fence.wide.inRound l) 0 P (Exit.then (fun a₁ V'=>V'=V∧body.wpIn (Fence.wide.inRound l) 0 P (post w.heap.size Kb Kbx (I (i+1)) Ix W) a₁ W) (fun _ _ _=>False)) { tmps:=(ps.zip (encs x)).foldl (fun t (p,v)=>t.setIfInBounds p v) a.tmps,defers:=[] } V)
  (hdone : ∀ W,I xs.length W→W.heap[w.heap.size]? = some (.deferred (some []))→w.heap.size+2≤W.heap.size→Q .normal { a with defers:={ target:=.collected w.heap.size,args:=#[] } :: a.defers } W)
  (hstop : ∀ c W,Ix c W→W.heap[w.heap.size]? = some (.deferred (some []))→w.heap.size+2≤W.heap.size→c.wpIn Fence.wide 0 P Q { a with defers:={ target:=.collected w.heap.size,args:=#[] } :: a.defers } W) :
  (Code.rangeFunc g ps assign body).wpIn Fence.wide 0 P Q a w:=by
 refine wpIn_rangeFunc fun fn hfn=>?_
 obtain ⟨D,hD⟩ : ∃ D,D=w.heap.size:=⟨_,rfl⟩
 obtain ⟨rec,hrec⟩ : ∃ rec:LoopState→Option Code→Loop,rec=fun st pe=>{ state:=st,pending:=pe,fn,tmps:=a.tmps,params:=ps,assign,body,defers:=w.heap.size }:=⟨_,rfl⟩
 have henter:=run_enterLoop_outer (P:=P) (w:=w) fn a.tmps ps assign body
 refine ⟨w.heap.size+1,[{ target:=.collected w.heap.size,args:=#[] }],(w.alloc (.deferred (some []))).alloc (.loop (rec .ready none)),
  { target:=.fn (.func gf) lb,args:=#[.func (.yield (w.heap.size+1)) #[] #[]] },(w.alloc (.deferred (some []))).alloc (.loop (rec .ready none)),gf,
  #[.func (.yield (w.heap.size+1)) #[] #[]]++lb,(w.alloc (.deferred (some []))).alloc (.loop (rec .ready none)),?_,?_,fun _ _=>trivial,?_,fun h=>by simp [Fence.wide] at h,?_⟩
 ·rw [hrec]; exact henter
 ·simp only [resolve,hg]
  simp [go_sem]
 ·simp [invoke,go_sem,eg]
 ·obtain ⟨W1,hW1⟩ : ∃ W1,(w.alloc (.deferred (some []))).alloc (.loop (rec .ready none))=W1:=⟨_,rfl⟩
  have hl1:W1.heap[w.heap.size+1]? = some (.loop (rec .ready none)):=by
   rw [← hW1]; have:=World.alloc_heap_new (w.alloc (.deferred (some []))) (.loop (rec .ready none)); rwa [World.size_alloc] at this
  have hd1:W1.heap[w.heap.size]? = some (.deferred (some [])):=by
   rw [← hW1]; exact (Below.heap_alloc _ _ _ (by simp)).trans (World.alloc_heap_new w _)
  have hsz : ∀ W:World,(∃ o,W.heap[w.heap.size+1]? = some o)→w.heap.size+2≤W.heap.size:=fun W ⟨o,h⟩=>by
   have:=(Array.getElem?_eq_some_iff.1 h).1; omega
  have hs:=hseq (rec .ready none) (w.heap.size+1)
   (fun i W=>I i W∧W.heap[w.heap.size+1]? = some (.loop (rec .ready none))∧W.heap[w.heap.size]? = some (.deferred (some [])))
   (fun W=>∃ c,Ix c W∧W.heap[w.heap.size+1]? = some (.loop (rec .done (some c)))∧W.heap[w.heap.size]? = some (.deferred (some [])))
   (fun i A B hA hst=>by
    obtain ⟨h1,h2,h3⟩:=hA
    have hL:=hSt A B (hsz A ⟨_,h2⟩) hst
    exact ⟨hI i A B h1 hst,hL.2.2.trans h2,hL.2.1.trans h3⟩)
   (fun A B hA hst=>by
    obtain ⟨c,h1,h2,h3⟩:=hA
    have hL:=hSt A B (hsz A ⟨_,h2⟩) hst
    exact ⟨c,hIx c A B h1 hst,hL.2.2.trans h2,hL.2.1.trans h3⟩)
   (fun i x W hx hj=>by
    obtain ⟨h1,h2,h3⟩:=hj
    have hy:=run_yield (P:=P) (args:=encs x) h2 (by rw [hrec]; exact hps x)
    rw [hrec] at hy
    have hlt:w.heap.size+1<W.heap.size:=(Array.getElem?_eq_some_iff.1 h2).1
    have e2:(W.putObj (w.heap.size+1) (.loop { rec .ready none with state:=.busy })).heap[w.heap.size+1]? = some (.loop { rec .ready none with state:=.busy }):=World.putObj_heap_same hlt
    have e3:(W.putObj (w.heap.size+1) (.loop { rec .ready none with state:=.busy })).heap[w.heap.size]? = some (.deferred (some [])):=(World.putObj_heap_other (by omega)).trans h3
    refine ⟨fn,_,assign,body,hy,roundIn_of_wpIn hfn (wpIn_mono (hround _ i x W (W.putObj (w.heap.size+1) (.loop { rec .ready none with state:=.busy })) hx (hIp i W _ _ h1 h2) (by rw [World.putObj_size]; omega)) ?_)⟩
    rintro e0 a0 V0 hp0
    have hn0:e0=.normal:=by cases e0 <;> first | rfl | exact hp0.elim
    subst hn0
    obtain ⟨hV0,hbd⟩:=hp0
    replace hV0:=hV0.symm
    subst hV0
    refine ⟨_,run_beginRound h2 (by rw [hrec]),wpIn_mono hbd ?_⟩
    have fin : ∀ (jump:Option Code) (W3:World),Loops w.heap.size (W.putObj (w.heap.size+1) (.loop { rec .ready none with state:=.busy })) W3 →
      (Instr.endRound (w.heap.size+1) jump).run P W3=.ok (.bool jump.isNone) (W3.putObj (w.heap.size+1) (.loop (rec (if jump.isNone then .ready else .done) jump))) ∧
      W3.heap[w.heap.size+1]? = some (.loop { rec .ready none with state:=.busy }) ∧
      (W3.putObj (w.heap.size+1) (.loop (rec (if jump.isNone then .ready else .done) jump))).heap[w.heap.size+1]? = some (.loop (rec (if jump.isNone then .ready else .done) jump)) ∧
      (W3.putObj (w.heap.size+1) (.loop (rec (if jump.isNone then .ready else .done) jump))).heap[w.heap.size]? = some (.deferred (some [])):=fun jump W3 hL=>by
     have l3:=hL.2.2.trans e2
     have hr:=run_endRound (P:=P) jump l3
     refine ⟨?_,l3,World.putObj_heap_same (Array.getElem?_eq_some_iff.1 l3).1,(World.putObj_heap_other (by omega)).trans (hL.2.1.trans e3)⟩
     rw [hr,hrec]
    rintro e a3 W3 hp
    cases e with
    | normal =>
     obtain ⟨hL,hk,hi⟩:=hp
     obtain ⟨f1,f2,f3,f4⟩:=fin none W3 hL
     exact ⟨_,_,f1,.inl ⟨rfl,⟨hIp _ _ _ _ hi f2,f3,f4⟩,hKp W _ _ _ W3 h2 hk hL⟩⟩
    | ret =>
     obtain ⟨hL,hk,hi⟩:=hp
     obtain ⟨f1,f2,f3,f4⟩:=fin (some .ret) W3 hL
     exact ⟨_,_,f1,.inr ⟨rfl,⟨.ret,hIxp _ _ _ _ hi f2,f3,f4⟩,hKx W _ _ _ W3 h2 hk hL⟩⟩
    | exit id =>
     obtain ⟨hL,hk,hi⟩:=hp
     obtain ⟨f1,f2,f3,f4⟩:=fin (some (.exit id)) W3 hL
     exact ⟨_,_,f1,.inr ⟨rfl,⟨.exit id,hIxp _ _ _ _ hi f2,f3,f4⟩,hKx W _ _ _ W3 h2 hk hL⟩⟩
    | goto t =>
     obtain ⟨hL,hk,hi⟩:=hp
     obtain ⟨f1,f2,f3,f4⟩:=fin (some (.goto t)) W3 hL
     exact ⟨_,_,f1,.inr ⟨rfl,⟨.goto t,hIxp _ _ _ _ hi f2,f3,f4⟩,hKx W _ _ _ W3 h2 hk hL⟩⟩
    | panic ch=>exact hp.elim
    | outgrown=>exact hp.elim)
   (by rw [hW1]; exact ⟨by rw [← hW1]; exact h0 _,hl1,hd1⟩)
  refine hs.mono ?_
  rintro e W2 ⟨⟨v,rfl⟩,⟨hi,hl,hk⟩ | ⟨c,hi,hl,hk⟩⟩
  ·have:=run_endLoop (P:=P) hl (by rw [hrec]; simp)
   exact ⟨none,_,by rw [this,hrec],hdone _ (hIp _ _ _ _ hi hl) ((World.putObj_heap_other (by omega)).trans hk) (by rw [World.putObj_size]; exact hsz _ ⟨_,hl⟩)⟩
  ·have:=run_endLoop (P:=P) hl (by rw [hrec]; simp)
   exact ⟨some c,_,by rw [this,hrec],hstop c _ (hIxp _ _ _ _ hi hl) ((World.putObj_heap_other (by omega)).trans hk) (by rw [World.putObj_size]; exact hsz _ ⟨_,hl⟩)⟩
theorem range {g:Operand} {ps:Array Tmp} {assign body:Code} {Q:Exit→Act→World→Prop} {a:Act} {w:World}
  {gf:Nat} {lb:Array Value} (hg:a.eval g=.func (.func gf) #[] lb) (eg : ∀ args w,(callFunc gf args).run P w=.ok (.enter gf args) w)
  {encs:α→Array Value} {xs:List α} {St Kp Kx:World→World→Prop} (hps : ∀ x,(encs x).size=ps.size)
  (hseq : ∀ r,Seq P gf lb encs xs St Kp Kx ((w.alloc (.deferred (some []))).alloc (.loop r)))
  (I:Nat→World→Prop) (Ix:Code→World→Prop)
  (hSt : ∀ A B,w.heap.size+2≤A.heap.size→St A B→Loops w.heap.size A B)
  (hI : ∀ i A B,I i A→St A B→I i B) (hIx : ∀ c A B,Ix c A→St A B→Ix c B)
  (hIp : ∀ i A r o,I i A→A.heap[w.heap.size+1]? = some (.loop r)→I i (A.putObj (w.heap.size+1) o))
  (hIxp : ∀ c A r o,Ix c A→A.heap[w.heap.size+1]? = some (.loop r)→Ix c (A.putObj (w.heap.size+1) o))
  (h0 : ∀ r,I 0 ((w.alloc (.deferred (some []))).alloc (.loop r)))
  (Kb:World→World→Prop)
  (hKp : ∀ W r r' r'' Wc,W.heap[w.heap.size+1]? = some (.loop r)→Kb (W.putObj (w.heap.size+1) (.loop r')) Wc→Loops w.heap.size (W.putObj (w.heap.size+1) (.loop r')) Wc→Kp W (Wc.putObj (w.heap.size+1) (.loop r'')))
  (Kbx:World→World→Prop)
  (hKx : ∀ W r r' r'' Wc,W.heap[w.heap.size+1]? = some (.loop r)→Kbx (W.putObj (w.heap.size+1) (.loop r')) Wc→Loops w.heap.size (W.putObj (w.heap.size+1) (.loop r')) Wc→Kx W (Wc.putObj (w.heap.size+1) (.loop r'')))
  (a₁:α→Act)
  (hassign : ∀ (l:Nat) (x:α) (W:World) (K:Act→World→Prop),K (a₁ x) W →
   assign.wpIn (Fence.wide.inRound l) 0 P (Exit.then K (fun _ _ _=>False)) { tmps:=(ps.zip (encs x)).foldl (fun t (p,v)=>t.setIfInBounds p v) a.tmps,defers:=[] } W)
  (hbody : ∀ (l i:Nat) (x:α) (W:World),xs[i]? = some x→I i W→w.heap.size+2≤W.heap.size→body.wpIn (Fence.wide.inRound l) 0 P (post w.heap.size Kb Kbx (I (i+1)) Ix W) (a₁ x) W)
  (hdone : ∀ W,I xs.length W→W.heap[w.heap.size]? = some (.deferred (some []))→w.heap.size+2≤W.heap.size→Q .normal { a with defers:={ target:=.collected w.heap.size,args:=#[] } :: a.defers } W)
  (hstop : ∀ c W,Ix c W→W.heap[w.heap.size]? = some (.deferred (some []))→w.heap.size+2≤W.heap.size→c.wpIn Fence.wide 0 P Q { a with defers:={ target:=.collected w.heap.size,args:=#[] } :: a.defers } W) :
  (Code.rangeFunc g ps assign body).wpIn Fence.wide 0 P Q a w :=
 rangeW hg eg hps hseq I Ix hSt hI hIx hIp hIxp h0 Kb hKp Kbx hKx (fun l i x V W hx hi hs=>hassign l x V _ ⟨rfl,hbody l i x W hx hi hs⟩) hdone hstop
def Keep3 (x y z:Nat) (A B:World):Prop:=A.heap.size≤B.heap.size∧B.heap[x]? = A.heap[x]?∧B.heap[y]? = A.heap[y]?∧B.heap[z]? = A.heap[z]?
theorem Keep3.refl (x y z:Nat) (A:World):Keep3 x y z A A:=⟨Nat.le_refl _,rfl,rfl,rfl⟩
theorem Keep3.trans {x y z:Nat} {A B C:World} (h:Keep3 x y z A B) (k:Keep3 x y z B C):Keep3 x y z A C :=
 ⟨Nat.le_trans h.1 k.1,k.2.1.trans h.2.1,k.2.2.1.trans h.2.2.1,k.2.2.2.trans h.2.2.2⟩
theorem Keep3.of_below {x y z nb:Nat} {A B:World} (h:Below nb A B) (hx:x<nb) (hy:y<nb) (hz:z<nb):Keep3 x y z A B :=
 ⟨h.size,h.block x hx,h.block y hy,h.block z hz⟩
def Above (hs:Nat) (A B:World):Prop:=A.heap.size≤B.heap.size∧∀ k,hs≤k→k<A.heap.size→B.heap[k]? = A.heap[k]?
theorem Above.refl (hs:Nat) (A:World):Above hs A A:=⟨Nat.le_refl _,fun _ _ _=>rfl⟩
theorem Above.trans {hs:Nat} {A B C:World} (h:Above hs A B) (k:Above hs B C):Above hs A C :=
 ⟨Nat.le_trans h.1 k.1,fun i hi hl=>(k.2 i hi (Nat.lt_of_lt_of_le hl h.1)).trans (h.2 i hi hl)⟩
theorem Above.of_grown {hs:Nat} {A B:World} (h:Below A.heap.size A B):Above hs A B:=⟨h.size,fun k _ hl=>h.block k hl⟩
end It
end Go.Proofs.YtkkpahmoljiepaaGreatDoor

namespace Go.Proofs.YtkkpahmoljiepaaGreatDoor
open Go.RowKit
namespace It
variable {P:Program} {α:Type}
def postA (d:Nat) (ks:List Nat) (I:World→Prop) (Ix:Code→World→Prop) (W:World):Exit→Act→World→Prop
 | .normal,_,W'=>Above d W W'∧(∀ k∈ks,W'.heap[k]? = W.heap[k]?)∧I W'
 | .ret,_,W'=>Above d W W'∧Ix .ret W'
 | .exit id,_,W'=>Above d W W'∧Ix (.exit id) W'
 | .goto t,_,W'=>Above d W W'∧Ix (.goto t) W'
 | .panic _,_,_=>False
 | .outgrown,_,_=>False
structure Keeps (d:Nat) (A B:World):Prop where
 os:B.os=A.os
 tape:B.tape=A.tape
 output:B.output=A.output
 size:A.heap.size≤B.heap.size
 block : ∀ k,k<A.heap.size→k≠d→B.heap[k]? = A.heap[k]?
theorem Keeps.of_below {d:Nat} {A B:World} (h:Below A.heap.size A B):Keeps d A B:=⟨h.os,h.tape,h.output,h.size,fun k hk _=>h.block k hk⟩
theorem Keeps.below {d n:Nat} {A B:World} (h:Keeps d A B) (hn:n≤d) (hs:n≤A.heap.size):Below n A B:=⟨h.os,h.tape,h.output,h.size,fun k hk=>h.block k (by omega) (by omega)⟩
theorem rangeB {g:Operand} {ps:Array Tmp} {assign body:Code} {Q:Exit→Act→World→Prop} {a:Act} {w:World}
  {gf:Nat} {lb:Array Value} (hg:a.eval g=.func (.func gf) #[] lb) (eg : ∀ args w,(callFunc gf args).run P w=.ok (.enter gf args) w)
  {encs:α→Array Value} {xs:List α} {St Kp Kx:World→World→Prop} (hps : ∀ x,(encs x).size=ps.size)
  (hseq : ∀ r,Seq P gf lb encs xs St Kp Kx ((w.alloc (.deferred (some []))).alloc (.loop r)))
  (ks:List Nat) (hks : ∀ k∈ks,k<w.heap.size)
  (hSt : ∀ A B,w.heap.size+2≤A.heap.size→St A B→Below (w.heap.size+2) A B)
  (hKp : ∀ A B,(∀ k∈ks,B.heap[k]? = A.heap[k]?)→Above (w.heap.size+2) A B→Kp A B)
  (hKx : ∀ A B,Above (w.heap.size+2) A B→Kx A B)
  (I:Nat→World→Prop) (Ix:Code→World→Prop)
  (hI : ∀ i A B,I i A→Below w.heap.size A B→I i B) (hIx : ∀ c A B,Ix c A→Below w.heap.size A B→Ix c B)
  (h0:I 0 w)
  (hround : ∀ (l i:Nat) (x:α) (V W:World),xs[i]? = some x→I i W→w.heap.size+2≤W.heap.size →
   assign.wpIn (Fence.wide.inRound l) 0 P (Exit.then (fun a₁ V'=>V'=V∧body.wpIn (Fence.wide.inRound l) 0 P (postA w.heap.size ks (I (i+1)) Ix W) a₁ W) (fun _ _ _=>False)) { tmps:=(ps.zip (encs x)).foldl (fun t (p,v)=>t.setIfInBounds p v) a.tmps,defers:=[] } V)
  (hdone : ∀ W,I xs.length W→W.heap[w.heap.size]? = some (.deferred (some []))→w.heap.size+2≤W.heap.size→Q .normal { a with defers:={ target:=.collected w.heap.size,args:=#[] } :: a.defers } W)
  (hstop : ∀ c W,Ix c W→W.heap[w.heap.size]? = some (.deferred (some []))→w.heap.size+2≤W.heap.size→c.wpIn Fence.wide 0 P Q { a with defers:={ target:=.collected w.heap.size,args:=#[] } :: a.defers } W) :
  (Code.rangeFunc g ps assign body).wpIn Fence.wide 0 P Q a w:=by
 have hput : ∀ (A:World) (r:Loop) (o:Obj),A.heap[w.heap.size+1]? = some (.loop r)→Below w.heap.size A (A.putObj (w.heap.size+1) o):=fun A r o hrec =>
  belowK_b (w:=w) (Nat.le_refl _) A _ _ o (by omega) hrec rfl rfl
 have hab : ∀ (W:World) (r r' r'':Loop) (Wc:World),W.heap[w.heap.size+1]? = some (.loop r)→Above w.heap.size (W.putObj (w.heap.size+1) (.loop r')) Wc→Above (w.heap.size+2) W (Wc.putObj (w.heap.size+1) (.loop r'')):=by
  intro W r r' r'' Wc hrec hk
  have hs:=hk.1
  rw [World.putObj_size] at hs
  refine ⟨by rw [World.putObj_size]; exact hs,fun k hk1 hk2=>?_⟩
  rw [World.putObj_heap_other (by omega),hk.2 _ (by omega) (by rw [World.putObj_size]; omega),World.putObj_heap_other (by omega)]
 refine rangeW (Kb:=fun A B=>Above w.heap.size A B∧∀ k∈ks,B.heap[k]? = A.heap[k]?) (Kbx:=fun A B=>Above w.heap.size A B) hg eg hps hseq
  (fun i W=>I i W∧w.heap.size+2≤W.heap.size) (fun c W=>Ix c W∧w.heap.size+2≤W.heap.size) ?_ ?_ ?_ ?_ ?_ ?_ ?_ ?_ ?_ (fun W h=>hdone W h.1) (fun c W h=>hstop c W h.1)
 ·intro A B hA hst
  have:=hSt A B hA hst
  exact ⟨this.size,this.block _ (by omega),this.block _ (by omega)⟩
 ·intro i A B hA hst
  have:=hSt A B hA.2 hst
  exact ⟨hI i A B hA.1 (this.mono (by omega)),Nat.le_trans hA.2 this.size⟩
 ·intro c A B hA hst
  have:=hSt A B hA.2 hst
  exact ⟨hIx c A B hA.1 (this.mono (by omega)),Nat.le_trans hA.2 this.size⟩
 ·exact fun i A r o h hrec=>⟨hI i A _ h.1 (hput A r o hrec),by rw [World.putObj_size]; exact h.2⟩
 ·exact fun c A r o h hrec=>⟨hIx c A _ h.1 (hput A r o hrec),by rw [World.putObj_size]; exact h.2⟩
 ·exact fun r=>⟨hI 0 w _ h0 (((Below.refl _ _).alloc (Nat.le_refl _) _).alloc (by simp) _),by simp⟩
 ·intro W r r' r'' Wc hrec hk hL
  refine hKp _ _ (fun k hk'=>?_) (hab W r r' r'' Wc hrec hk.1)
  have:=hks k hk'
  rw [World.putObj_heap_other (by omega),hk.2 k hk',World.putObj_heap_other (by omega)]
 ·intro W r r' r'' Wc hrec hk hL
  exact hKx _ _ (hab W r r' r'' Wc hrec hk)
 ·intro l i x V W hx hi hsz
  refine wpIn_mono (hround l i x V W hx hi.1 hsz) ?_
  rintro e0 a0 V0 hp0
  have hn0:e0=.normal:=by cases e0 <;> first | rfl | exact hp0.elim
  subst hn0
  obtain ⟨hV0,hbd⟩:=hp0
  refine ⟨hV0,wpIn_mono hbd ?_⟩
  rintro e a3 W3 hp
  cases e with
  | normal=>exact ⟨⟨hp.1.1,hp.1.2 _ (Nat.le_refl _) (by omega),hp.1.2 _ (by omega) (by omega)⟩,⟨hp.1,hp.2.1⟩,hp.2.2,Nat.le_trans hsz hp.1.1⟩
  | ret=>exact ⟨⟨hp.1.1,hp.1.2 _ (Nat.le_refl _) (by omega),hp.1.2 _ (by omega) (by omega)⟩,hp.1,hp.2,Nat.le_trans hsz hp.1.1⟩
  | exit id=>exact ⟨⟨hp.1.1,hp.1.2 _ (Nat.le_refl _) (by omega),hp.1.2 _ (by omega) (by omega)⟩,hp.1,hp.2,Nat.le_trans hsz hp.1.1⟩
  | goto t=>exact ⟨⟨hp.1.1,hp.1.2 _ (Nat.le_refl _) (by omega),hp.1.2 _ (by omega) (by omega)⟩,hp.1,hp.2,Nat.le_trans hsz hp.1.1⟩
  | panic ch=>exact hp.elim
  | outgrown=>exact hp.elim
/-! ### a block of one cell -/
def Box (W:World) (k:Nat) (v:Value) (t:TypeId):Prop:=W.heap[k]? = some (.cells #[v] t)
theorem Box.cell {W:World} {k:Nat} {v:Value} {t:TypeId} (h:Box W k v t):W.cell? ⟨k,0,none⟩=some v:=by
 unfold Box at h; simp [World.cell?,h]
theorem Box.frozen {W:World} {k:Nat} {v:Value} {t:TypeId} (h:Box W k v t):W.frozen? ⟨k,0,none⟩=false:=by
 unfold Box at h; simp [World.frozen?,h]
theorem Box.lt {W:World} {k:Nat} {v:Value} {t:TypeId} (h:Box W k v t):k<W.heap.size:=(Array.getElem?_eq_some_iff.1 h).1
theorem Box.set {W:World} {k:Nat} {v:Value} {t:TypeId} (h:Box W k v t) (u:Value):Box (W.setCell ⟨k,0,none⟩ u) k u t:=by
 unfold Box at *
 simp only [World.setCell]
 rw [Array.getElem?_modify,if_pos rfl,h]
 rfl
theorem Box.below {W W':World} {k n:Nat} {v:Value} {t:TypeId} (h:Box W k v t) (hb:Below n W W') (hk:k<n):Box W' k v t:=(hb.block k hk).trans h
theorem Box.put {W:World} {k d:Nat} {v:Value} {t:TypeId} {o:Obj} (h:Box W k v t) (hk:k≠d):Box (W.putObj d o) k v t:=(World.putObj_heap_other hk).trans h
theorem Box.new (W:World) (v:Value) (t:TypeId):Box (W.alloc (.cells #[v] t)) W.heap.size v t:=World.alloc_heap_new W _
theorem Box.alloc {W:World} {k:Nat} {v:Value} {t:TypeId} (h:Box W k v t) (o:Obj):Box (W.alloc o) k v t:=(Below.heap_alloc W o k h.lt).trans h
theorem Above.setCell {d:Nat} (W:World) (k:Nat) (v:Value) (hk:k<d):Above d W (W.setCell ⟨k,0,none⟩ v) :=
 ⟨by simp [World.setCell],fun j hj _=>Below.heap_setCell _ _ _ _ (by show j≠k; omega)⟩
end It
end Go.Proofs.YtkkpahmoljiepaaGreatDoor
