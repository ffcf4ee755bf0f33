/- Contract: zone.isData. -/
import Derived.Test.YtkkpahmoljiepaaGreatDoorJ01
import Derived.RegionTactic
import Derived.ChangeAlike
set_option linter.unusedSimpArgs false
set_option linter.unusedVariables false
set_option maxRecDepth 1000000
set_option maxHeartbeats 12800000
namespace Go.Proofs.YtkkpahmoljiepaaGreatDoor
open Go.RowKit
open Pu (aH aU)
namespace Kf
open Ka Kb Kd Ke
def dat (ws:List ByteArray):List Pu.Str:=ws.map (·.data.toList)
theorem d6_len (ws:List Pu.Str) (h:ws.length≠4):isData 6 ws=false:=by
 unfold isData; rw [if_pos rfl]; split
 ·exact absurd rfl h
 ·rfl
theorem d2_len (k:Int) (hk:k=2∨k=5) (ws:List Pu.Str) (h:ws.length≠1):isData k ws=false:=by
 unfold isData; rw [if_neg (by omega),if_pos hk]; split
 ·exact absurd rfl h
 ·rfl
theorem d1_len (ws:List Pu.Str) (h:ws.length≠1):isData 1 ws=false:=by
 unfold isData; rw [if_neg (by omega),if_neg (by omega),if_pos rfl]; split
 ·exact absurd rfl h
 ·rfl
theorem d16_len (ws:List Pu.Str) (h:ws.length≠1):isData 16 ws=false:=by
 unfold isData; rw [if_neg (by omega),if_neg (by omega),if_neg (by omega),if_pos rfl]; split
 ·exact absurd rfl h
 ·rfl
theorem d15_len (ws:List Pu.Str) (h:ws.length≠2):isData 15 ws=false:=by
 unfold isData; rw [if_neg (by omega),if_neg (by omega),if_neg (by omega),if_neg (by omega),if_pos rfl]; split
 ·exact absurd rfl h
 ·rfl
theorem d0 (k:Int) (ws:List Pu.Str) (h6:k≠6) (h2:k≠2) (h5:k≠5) (h1:k≠1) (h16:k≠16) (h15:k≠15):isData k ws=false:=by
 unfold isData; rw [if_neg h6,if_neg (by omega),if_neg h1,if_neg h16,if_neg h15]
theorem isData_soa (b cap:Nat) (ws:List ByteArray) (w:World) (hg:G w) (hat:StrsAt w b 0 ws) (hsz : ∀ x∈ws,x.size≤3000) (hl:ws.length≤3001) :
  Calls Tryz.prog 170 #[.int .i64 6,.slice (some ⟨b,0,none⟩) ws.length cap] w fun e w'=>e=.returned (.bool (isData 6 (dat ws)))∧Below w.heap.size w w':=by
 by_cases h4:ws.length=4
 ·match ws,h4 with
  | [x0,x1,x2,x3],_ =>
  have hfin:Hid (isData 6 (dat [x0,x1,x2,x3])=(Sp.plain x0.data.toList && Sp.plain x1.data.toList && numB 4294967295 x2.data.toList && numB 86400 x3.data.toList)):=rfl
  have s0:x0.size≤maxLen:=by have:=hsz x0 (by simp); unfold maxLen; omega
  have s1:x1.size≤maxLen:=by have:=hsz x1 (by simp); unfold maxLen; omega
  have s2:x2.size≤maxLen:=by have:=hsz x2 (by simp); unfold maxLen; omega
  have s3:x3.size≤maxLen:=by have:=hsz x3 (by simp); unfold maxLen; omega
  have c0:w.cell? ⟨b,0,none⟩=some (.string x0):=hat.2 0 (by simp)
  have HA:=aH hat
  clear hat hl hsz
  cases v0:Sp.plain x0.data.toList
  ·go_enter Tryz.func170,Tryz.ntmps170
   go_wp2_with (go_at_call 68; refine (plain_any x0 _ hg s0).mono ?_; rintro e w1 ⟨rfl,hb1⟩)
   go_ret
   exact ⟨ret_bool (by rw [aU hfin,v0]; rfl),hb1⟩
  cases v1:Sp.plain x1.data.toList
  ·go_enter Tryz.func170,Tryz.ntmps170
   go_wp2_with fail
   refine (plain_any x0 _ hg s0).mono ?_
   rintro e w1 ⟨rfl,hb1⟩
   have g1:=hg.below hb1
   have a1:=(aU HA).below hb1
   have c1:w1.cell? ⟨b,1,none⟩=some (.string x1):=a1.2 1 (by simp)
   have HA1:=aH a1
   clear a1
   go_wp2_with (go_at_call 68; refine (plain_any x1 _ g1 s1).mono ?_; rintro e w2 ⟨rfl,hb2⟩)
   go_ret
   exact ⟨ret_bool (by rw [aU hfin,v0,v1]; rfl),hb1.trans (hb2.mono hb1.size)⟩
  cases v2:numB 4294967295 x2.data.toList
  all_goals
   go_enter Tryz.func170,Tryz.ntmps170
   go_wp2_with fail
   refine (plain_any x0 _ hg s0).mono ?_
   rintro e w1 ⟨rfl,hb1⟩
   have g1:=hg.below hb1
   have a1:=(aU HA).below hb1
   have c1:w1.cell? ⟨b,1,none⟩=some (.string x1):=a1.2 1 (by simp)
   have HA1:=aH a1
   clear a1
   go_wp2_with fail
   refine (plain_any x1 _ g1 s1).mono ?_
   rintro e w2 ⟨rfl,hb2⟩
   have a2:=(aU HA1).below hb2
   have c2:w2.cell? ⟨b,2,none⟩=some (.string x2):=a2.2 2 (by simp)
   have c3:w2.cell? ⟨b,3,none⟩=some (.string x3):=a2.2 3 (by simp)
   clear a2
   go_wp2_with fail
   refine (isNumber_any x2 4294967295 _ s2 (by omega)).mono ?_
   rintro e w3 ⟨rfl,rfl⟩
   go_wp2_with (go_at_call 227; refine (isNumber_any x3 86400 _ s3 (by omega)).mono ?_; rintro e w4 ⟨rfl,rfl⟩)
   go_ret
   exact ⟨ret_bool (by rw [aU hfin,v0,v1,v2]; rfl),hb1.trans (hb2.mono hb1.size)⟩
 ·have hfin:Hid (isData 6 (dat ws)=false):=by
   exact d6_len _ (by simpa [dat] using h4)
  have h4':((ws.length:Int) == 4)=false:=by rw [beq_eq_false_iff_ne]; omega
  clear h4 hat hsz
  go_enter Tryz.func170,Tryz.ntmps170
  go_wp2
  go_ret
  exact ⟨ret_bool (aU hfin).symm,Below.refl _ _⟩
theorem isData_ns (b cap:Nat) (ws:List ByteArray) (w:World) (hg:G w) (hat:StrsAt w b 0 ws) (hsz : ∀ x∈ws,x.size≤3000) (hl:ws.length≤3001) :
  Calls Tryz.prog 170 #[.int .i64 2,.slice (some ⟨b,0,none⟩) ws.length cap] w fun e w'=>e=.returned (.bool (isData 2 (dat ws)))∧Below w.heap.size w w':=by
 by_cases h4:ws.length=1
 ·match ws,h4 with
  | [x0],_ =>
  have s0:x0.size≤maxLen:=by have:=hsz x0 (by simp); unfold maxLen; omega
  have s0':x0.size≤3000:=hsz x0 (by simp)
  have c0:w.cell? ⟨b,0,none⟩=some (.string x0):=hat.2 0 (by simp)
  clear hat hl hsz
  go_enter Tryz.func170,Tryz.ntmps170
  go_wp2_with (go_at_call 68; refine (plain_any x0 _ hg s0).mono ?_; rintro e w1 ⟨rfl,hb1⟩)
  go_ret
  exact ⟨rfl,hb1⟩
 ·have hfin:Hid (isData 2 (dat ws)=false):=d2_len 2 (.inl rfl) _ (by simpa [dat] using h4)
  have h4':((ws.length:Int) == 1)=false:=by rw [beq_eq_false_iff_ne]; omega
  clear h4 hat hsz
  go_enter Tryz.func170,Tryz.ntmps170
  go_wp2
  go_ret
  exact ⟨ret_bool (aU hfin).symm,Below.refl _ _⟩
theorem isData_cname (b cap:Nat) (ws:List ByteArray) (w:World) (hg:G w) (hat:StrsAt w b 0 ws) (hsz : ∀ x∈ws,x.size≤3000) (hl:ws.length≤3001) :
  Calls Tryz.prog 170 #[.int .i64 5,.slice (some ⟨b,0,none⟩) ws.length cap] w fun e w'=>e=.returned (.bool (isData 5 (dat ws)))∧Below w.heap.size w w':=by
 by_cases h4:ws.length=1
 ·match ws,h4 with
  | [x0],_ =>
  have s0:x0.size≤maxLen:=by have:=hsz x0 (by simp); unfold maxLen; omega
  have s0':x0.size≤3000:=hsz x0 (by simp)
  have c0:w.cell? ⟨b,0,none⟩=some (.string x0):=hat.2 0 (by simp)
  clear hat hl hsz
  go_enter Tryz.func170,Tryz.ntmps170
  go_wp2_with (go_at_call 68; refine (plain_any x0 _ hg s0).mono ?_; rintro e w1 ⟨rfl,hb1⟩)
  go_ret
  exact ⟨rfl,hb1⟩
 ·have hfin:Hid (isData 5 (dat ws)=false):=d2_len 5 (.inr rfl) _ (by simpa [dat] using h4)
  have h4':((ws.length:Int) == 1)=false:=by rw [beq_eq_false_iff_ne]; omega
  clear h4 hat hsz
  go_enter Tryz.func170,Tryz.ntmps170
  go_wp2
  go_ret
  exact ⟨ret_bool (aU hfin).symm,Below.refl _ _⟩
theorem isData_a (b cap:Nat) (ws:List ByteArray) (w:World) (hg:G w) (hat:StrsAt w b 0 ws) (hsz : ∀ x∈ws,x.size≤3000) (hl:ws.length≤3001) :
  Calls Tryz.prog 170 #[.int .i64 1,.slice (some ⟨b,0,none⟩) ws.length cap] w fun e w'=>e=.returned (.bool (isData 1 (dat ws)))∧Below w.heap.size w w':=by
 by_cases h4:ws.length=1
 ·match ws,h4 with
  | [x0],_ =>
  have s0:x0.size≤maxLen:=by have:=hsz x0 (by simp); unfold maxLen; omega
  have s0':x0.size≤3000:=hsz x0 (by simp)
  have c0:w.cell? ⟨b,0,none⟩=some (.string x0):=hat.2 0 (by simp)
  clear hat hl hsz
  go_enter Tryz.func170,Tryz.ntmps170
  go_wp2_with (go_at_call 228; refine (isAddress_any x0 _ hg s0').mono ?_; rintro e w1 ⟨rfl,hb1⟩)
  go_ret
  exact ⟨rfl,hb1⟩
 ·have hfin:Hid (isData 1 (dat ws)=false):=d1_len _ (by simpa [dat] using h4)
  have h4':((ws.length:Int) == 1)=false:=by rw [beq_eq_false_iff_ne]; omega
  clear h4 hat hsz
  go_enter Tryz.func170,Tryz.ntmps170
  go_wp2
  go_ret
  exact ⟨ret_bool (aU hfin).symm,Below.refl _ _⟩
theorem isData_txt (b cap:Nat) (ws:List ByteArray) (w:World) (hg:G w) (hat:StrsAt w b 0 ws) (hsz : ∀ x∈ws,x.size≤3000) (hl:ws.length≤3001) :
  Calls Tryz.prog 170 #[.int .i64 16,.slice (some ⟨b,0,none⟩) ws.length cap] w fun e w'=>e=.returned (.bool (isData 16 (dat ws)))∧Below w.heap.size w w':=by
 by_cases h4:ws.length=1
 ·match ws,h4 with
  | [x0],_ =>
  have s0:x0.size≤maxLen:=by have:=hsz x0 (by simp); unfold maxLen; omega
  have s0':x0.size≤3000:=hsz x0 (by simp)
  have c0:w.cell? ⟨b,0,none⟩=some (.string x0):=hat.2 0 (by simp)
  clear hat hl hsz
  go_enter Tryz.func170,Tryz.ntmps170
  go_wp2_with (go_at_call 229; refine (isWord_any x0 _ s0).mono ?_; rintro e w1 ⟨rfl,rfl⟩)
  go_ret
  exact ⟨rfl,Below.refl _ _⟩
 ·have hfin:Hid (isData 16 (dat ws)=false):=d16_len _ (by simpa [dat] using h4)
  have h4':((ws.length:Int) == 1)=false:=by rw [beq_eq_false_iff_ne]; omega
  clear h4 hat hsz
  go_enter Tryz.func170,Tryz.ntmps170
  go_wp2
  go_ret
  exact ⟨ret_bool (aU hfin).symm,Below.refl _ _⟩
theorem isData_mx (b cap:Nat) (ws:List ByteArray) (w:World) (hg:G w) (hat:StrsAt w b 0 ws) (hsz : ∀ x∈ws,x.size≤3000) (hl:ws.length≤3001) :
  Calls Tryz.prog 170 #[.int .i64 15,.slice (some ⟨b,0,none⟩) ws.length cap] w fun e w'=>e=.returned (.bool (isData 15 (dat ws)))∧Below w.heap.size w w':=by
 by_cases h4:ws.length=2
 ·match ws,h4 with
  | [x0,x1],_ =>
  have hfin:Hid (isData 15 (dat [x0,x1])=(numB 65535 x0.data.toList && Sp.plain x1.data.toList)):=rfl
  have s0:x0.size≤maxLen:=by have:=hsz x0 (by simp); unfold maxLen; omega
  have s1:x1.size≤maxLen:=by have:=hsz x1 (by simp); unfold maxLen; omega
  have c0:w.cell? ⟨b,0,none⟩=some (.string x0):=hat.2 0 (by simp)
  have c1:w.cell? ⟨b,1,none⟩=some (.string x1):=hat.2 1 (by simp)
  clear hat hl hsz
  cases v0:numB 65535 x0.data.toList
  ·go_enter Tryz.func170,Tryz.ntmps170
   go_wp2_with (go_at_call 227; refine (isNumber_any x0 65535 _ s0 (by omega)).mono ?_; rintro e w1 ⟨rfl,rfl⟩)
   go_ret
   exact ⟨ret_bool (by rw [aU hfin,v0]; rfl),Below.refl _ _⟩
  ·go_enter Tryz.func170,Tryz.ntmps170
   go_wp2_with (first
    | (go_at_call 227; refine (isNumber_any x0 65535 _ s0 (by omega)).mono ?_; rintro e w1 ⟨rfl,rfl⟩)
    | (go_at_call 68; refine (plain_any x1 _ hg s1).mono ?_; rintro e w1 ⟨rfl,hb1⟩))
   go_ret
   exact ⟨ret_bool (by rw [aU hfin,v0]; rfl),hb1⟩
 ·have hfin:Hid (isData 15 (dat ws)=false):=d15_len _ (by simpa [dat] using h4)
  have h4':((ws.length:Int) == 2)=false:=by rw [beq_eq_false_iff_ne]; omega
  clear h4 hat hsz
  go_enter Tryz.func170,Tryz.ntmps170
  go_wp2
  go_ret
  exact ⟨ret_bool (aU hfin).symm,Below.refl _ _⟩
theorem isData_none (k:Int) (b cap:Nat) (ws:List ByteArray) (w:World) (h6:k≠6) (h2:k≠2) (h5:k≠5) (h1:k≠1) (h16:k≠16) (h15:k≠15) :
  Calls Tryz.prog 170 #[.int .i64 k,.slice (some ⟨b,0,none⟩) ws.length cap] w fun e w'=>e=.returned (.bool (isData k (dat ws)))∧Below w.heap.size w w':=by
 have hfin:=aH (d0 k (dat ws) h6 h2 h5 h1 h16 h15)
 have k6:(k == 6)=false:=beq_eq_false_iff_ne.2 h6
 have k2:(k == 2)=false:=beq_eq_false_iff_ne.2 h2
 have k5:(k == 5)=false:=beq_eq_false_iff_ne.2 h5
 have k1:(k == 1)=false:=beq_eq_false_iff_ne.2 h1
 have k16:(k == 16)=false:=beq_eq_false_iff_ne.2 h16
 have k15:(k == 15)=false:=beq_eq_false_iff_ne.2 h15
 clear h6 h2 h5 h1 h16 h15
 go_enter Tryz.func170,Tryz.ntmps170
 go_wp2
 go_ret
 exact ⟨ret_bool (aU hfin).symm,Below.refl _ _⟩
theorem isData_any (k:Int) (b cap:Nat) (ws:List ByteArray) (w:World) (hg:G w) (hat:StrsAt w b 0 ws) (hsz : ∀ x∈ws,x.size≤3000) (hl:ws.length≤3001) :
  Calls Tryz.prog 170 #[.int .i64 k,.slice (some ⟨b,0,none⟩) ws.length cap] w fun e w'=>e=.returned (.bool (isData k (dat ws)))∧Below w.heap.size w w':=by
 by_cases h6:k=6
 ·subst h6; exact isData_soa b cap ws w hg hat hsz hl
 by_cases h2:k=2
 ·subst h2; exact isData_ns b cap ws w hg hat hsz hl
 by_cases h5:k=5
 ·subst h5; exact isData_cname b cap ws w hg hat hsz hl
 by_cases h1:k=1
 ·subst h1; exact isData_a b cap ws w hg hat hsz hl
 by_cases h16:k=16
 ·subst h16; exact isData_txt b cap ws w hg hat hsz hl
 by_cases h15:k=15
 ·subst h15; exact isData_mx b cap ws w hg hat hsz hl
 exact isData_none k b cap ws w h6 h2 h5 h1 h16 h15
end Kf
end Go.Proofs.YtkkpahmoljiepaaGreatDoor

set_option maxRecDepth 1000000
set_option maxHeartbeats 12800000
namespace Go.Proofs.YtkkpahmoljiepaaGreatDoor
open Go.RowKit
open Pu (Str aH aU)
def B (l:Str):ByteArray:=⟨l.toArray⟩
theorem B_data (s:ByteArray):B s.data.toList=s:=by cases s; simp [B]
theorem data_B (l:Str):(B l).data.toList=l:=rfl
theorem size_B (l:Str):(B l).size=l.length:=by simp [B,ByteArray.size]
abbrev Rec:=Str×Nat×Int×Str
def Rec.owner (r:Rec):Str:=r.1
def Rec.ttl (r:Rec):Nat:=r.2.1
def Rec.type (r:Rec):Int:=r.2.2.1
def Rec.data (r:Rec):Str:=r.2.2.2
def Rec.zero:Rec:=([],0,0,[])
def Rec.enc (r:Rec):List Value:=[.string (B r.owner),.int .i64 r.ttl,.int .i64 r.type,.string (B r.data)]
def Rec.val (r:Rec):Value:=.agg #[.string (B r.owner),.int .i64 r.ttl,.int .i64 r.type,.string (B r.data)]
def readRec (l:Str):Option Rec :=
 match Lib.splitN l [32] 4 with
 | [a,b,c,d]=>if Sp.valid a && Ka.numB 86400 b && Ke.isData (Pu.kindOf c) (Sp.spl 32 d) then some (a,Ka.numV 86400 b,Pu.kindOf c,d) else none
 | _=>none
def recR (o:Option Rec):Value:=.tuple #[(o.getD Rec.zero).val,.bool o.isSome]
namespace Rc
theorem splitK_mem_len (c:UInt8) : ∀ (k:Nat) (l:Str),∀ x∈Lib.splitK [c] 0 k l,x.length≤l.length
 | 0,l,x,hx=>by simp [Lib.splitK] at hx; subst hx; exact Nat.le_refl _
 | k+1,l,x,hx=>by
  unfold Lib.splitK at hx
  split at hx
  ·simp at hx; subst hx; exact Nat.le_refl _
  ·rw [List.mem_cons] at hx
   rcases hx with rfl | hx
   ·simp; omega
   ·have:=splitK_mem_len c k _ x hx
    rw [List.length_drop] at this
    omega
def four (s:ByteArray):List ByteArray:=Lib.splitB ⟨#[32]⟩ 0 (min 4 (s.size+1) - 1) s
theorem four_data (s:ByteArray):(four s).map (·.data.toList)=Lib.splitN s.data.toList [32] 4:=by
 unfold four
 rw [Lib.splitB_data]
 unfold Lib.splitN
 rw [Pu.len_eq]
theorem four_len (s:ByteArray):(four s).length≤4:=by
 have:=Lib.splitB_length_le ⟨#[32]⟩ 0 (min 4 (s.size+1) - 1) s
 unfold four; omega
theorem four_size (s x:ByteArray) (hx:x∈four s):x.size≤s.size:=by
 have:x.data.toList∈Lib.splitN s.data.toList [32] 4:=by
  rw [← four_data]; exact List.mem_map_of_mem hx
 have:=splitK_mem_len 32 _ _ _ this
 rwa [Pu.len_eq,Pu.len_eq] at this
theorem strsAt_cellsOf (w:World) (L:List ByteArray) (N:Nat):StrsAt (w.alloc (.cells (Lib.cellsOf L N) 9)) w.heap.size 0 L:=by
 refine ⟨by simp,fun j hj=>?_⟩
 rw [Nat.zero_add]
 unfold Lib.cellsOf
 simp [hj,List.getElem?_append]
theorem splitN_any (s:ByteArray) (w:World) (hg:G w) (hs:s.size≤3000) :
  Calls Tryz.prog 167 #[.string s,.string ⟨#[32]⟩,.int .i64 4] w fun e w' =>
   e=.returned (.slice (some ⟨w.heap.size,0,none⟩) (four s).length (min 4 (s.size+1)))∧w'=w.alloc (.cells (Lib.cellsOf (four s) (min 4 (s.size+1))) 9):=by
 obtain ⟨_,m,hm⟩:=hg
 exact Tryz.strings_SplitN s ⟨#[32]⟩ 4 m w (by omega) hm (Nat.le_refl _) (by omega) (by omega)
theorem readRecord_short (s:ByteArray) (w:World) (hg:G w) (hs:s.size≤3000) (h4:(four s).length≠4) :
  Calls Tryz.prog 99 #[.string s] w fun e w'=>e=.returned (recR none)∧Below w.heap.size w w':=by
 have hlen:=four_len s
 have hcall2:=splitN_any s (w.alloc (.cells #[.string ⟨#[]⟩,.int .i64 0,.int .i64 0,.string ⟨#[]⟩] 47)) (hg.alloc _) hs
 generalize four s=L at *
 have h4':(L.length:Int)<4:=by omega
 have HC:=aH hcall2
 clear hcall2
 go_enter Tryz.func99,Tryz.ntmps99
 go_wp2_with (go_at_call 167; refine (aU HC).mono ?_; rintro e w' ⟨rfl,rfl⟩)
 refine bodyPost_ret (v:=recR none) (by simp [results,Tryz.results99,go_sem,recR,Rec.val,Rec.zero,Rec.owner,Rec.ttl,Rec.type,Rec.data,B]) rfl ⟨rfl,?_⟩
 exact ((Below.refl _ _).alloc (Nat.le_refl _) _).alloc (by simp) _
end Rc
namespace Rd
open Ka Kb Kd Ke Kf Rc
theorem numV_le (most:Nat) (l:Str):numV most l≤most:=by
 unfold numV Pu.num
 cases l with
 | nil=>simp
 | cons c r =>
  simp only []
  split
  ·simp
  ·cases h:Pu.numFrom most 0 (c :: r) with
   | none=>simp
   | some m=>simpa using numFrom_le _ _ _ h (Nat.zero_le _)
theorem isData_pieces (k:Int) (b:Nat) (x:ByteArray) (w:World) (hg:G w) (hat:StrsAt w b 0 (Sp.pieces 32 x)) (hx:x.size≤3000) :
  Calls Tryz.prog 170 #[.int .i64 k,.slice (some ⟨b,0,none⟩) (Sp.pieces 32 x).length (Sp.pieces 32 x).length] w fun e w'=>e=.returned (.bool (isData k (Sp.spl 32 x.data.toList)))∧Below w.heap.size w w':=by
 rw [← Sp.pieces_data]
 refine isData_any k b _ _ w hg hat (fun y hy=>Nat.le_trans (Sp.piece_size 32 x y hy) hx) ?_
 have:=Sp.spl_len_le 32 x.data.toList
 rw [← Sp.pieces_data,List.length_map,Pu.len_eq] at this
 omega
theorem readRecord_four (s x0 x1 x2 x3:ByteArray) (w:World) (hg:G w) (hs:s.size≤3000) (h4:four s = [x0,x1,x2,x3]) :
  Calls Tryz.prog 99 #[.string s] w fun e w' =>
   e=.returned (recR (if Sp.valid x0.data.toList && numB 86400 x1.data.toList && isData (Pu.kindOf x2.data.toList) (Sp.spl 32 x3.data.toList) then some (x0.data.toList,numV 86400 x1.data.toList,Pu.kindOf x2.data.toList,x3.data.toList) else none))∧Below w.heap.size w w':=by
 have hcall2:=splitN_any s (w.alloc (.cells #[.string ⟨#[]⟩,.int .i64 0,.int .i64 0,.string ⟨#[]⟩] 47)) (hg.alloc _) hs
 have hsz:=four_size s
 have hat:=strsAt_cellsOf (w.alloc (.cells #[.string ⟨#[]⟩,.int .i64 0,.int .i64 0,.string ⟨#[]⟩] 47)) (four s) (min 4 (s.size+1))
 rw [h4] at hcall2 hsz hat
 have hgW:G ((w.alloc (.cells #[.string ⟨#[]⟩,.int .i64 0,.int .i64 0,.string ⟨#[]⟩] 47)).alloc (.cells (Lib.cellsOf [x0,x1,x2,x3] (min 4 (s.size+1))) 9)):=(hg.alloc _).alloc _
 have hbW:Below w.heap.size w ((w.alloc (.cells #[.string ⟨#[]⟩,.int .i64 0,.int .i64 0,.string ⟨#[]⟩] 47)).alloc (.cells (Lib.cellsOf [x0,x1,x2,x3] (min 4 (s.size+1))) 9)) :=
  ((Below.refl _ _).alloc (Nat.le_refl _) _).alloc (by simp) _
 have r0:((w.alloc (.cells #[.string ⟨#[]⟩,.int .i64 0,.int .i64 0,.string ⟨#[]⟩] 47)).alloc (.cells (Lib.cellsOf [x0,x1,x2,x3] (min 4 (s.size+1))) 9)).cell? ⟨w.heap.size,0,none⟩=some (.string ⟨#[]⟩):=by simp
 have r1:((w.alloc (.cells #[.string ⟨#[]⟩,.int .i64 0,.int .i64 0,.string ⟨#[]⟩] 47)).alloc (.cells (Lib.cellsOf [x0,x1,x2,x3] (min 4 (s.size+1))) 9)).cell? ⟨w.heap.size,1,none⟩=some (.int .i64 0):=by simp
 have r2:((w.alloc (.cells #[.string ⟨#[]⟩,.int .i64 0,.int .i64 0,.string ⟨#[]⟩] 47)).alloc (.cells (Lib.cellsOf [x0,x1,x2,x3] (min 4 (s.size+1))) 9)).cell? ⟨w.heap.size,2,none⟩=some (.int .i64 0):=by simp
 have r3:((w.alloc (.cells #[.string ⟨#[]⟩,.int .i64 0,.int .i64 0,.string ⟨#[]⟩] 47)).alloc (.cells (Lib.cellsOf [x0,x1,x2,x3] (min 4 (s.size+1))) 9)).cell? ⟨w.heap.size,3,none⟩=some (.string ⟨#[]⟩):=by simp
 have rf : ∀ i,((w.alloc (.cells #[.string ⟨#[]⟩,.int .i64 0,.int .i64 0,.string ⟨#[]⟩] 47)).alloc (.cells (Lib.cellsOf [x0,x1,x2,x3] (min 4 (s.size+1))) 9)).frozen? ⟨w.heap.size,i,none⟩=false:=by intro i; simp
 have hzz:w.heap.size+1<((w.alloc (.cells #[.string ⟨#[]⟩,.int .i64 0,.int .i64 0,.string ⟨#[]⟩] 47)).alloc (.cells (Lib.cellsOf [x0,x1,x2,x3] (min 4 (s.size+1))) 9)).heap.size:=by simp
 rw [World.size_alloc] at hat hcall2
 generalize (w.alloc (.cells #[.string ⟨#[]⟩,.int .i64 0,.int .i64 0,.string ⟨#[]⟩] 47)).alloc (.cells (Lib.cellsOf [x0,x1,x2,x3] (min 4 (s.size+1))) 9)=W at *
 have c0:W.cell? ⟨w.heap.size+1,0,none⟩=some (.string x0):=hat.2 0 (by simp)
 have c1:W.cell? ⟨w.heap.size+1,1,none⟩=some (.string x1):=hat.2 1 (by simp)
 have c2:W.cell? ⟨w.heap.size+1,2,none⟩=some (.string x2):=hat.2 2 (by simp)
 have c3:W.cell? ⟨w.heap.size+1,3,none⟩=some (.string x3):=hat.2 3 (by simp)
 have t0:x0.size≤3000:=by have:=hsz x0 (by simp); omega
 have t1:x1.size≤3000:=by have:=hsz x1 (by simp); omega
 have t3:x3.size≤3000:=by have:=hsz x3 (by simp); omega
 have s0:x0.size≤maxLen:=by unfold maxLen; omega
 have s1:x1.size≤maxLen:=by unfold maxLen; omega
 simp only [List.length_cons,List.length_nil,Nat.zero_add,Nat.reduceAdd] at hcall2
 have hz0:w.heap.size<W.heap.size:=by omega
 have HC:=aH hcall2
 have HB:=aH hbW
 clear hcall2 hbW hat hsz h4
 cases v0:Sp.valid x0.data.toList
 ·go_enter Tryz.func99,Tryz.ntmps99
  go_wp2_with fail
  refine (aU HC).mono ?_
  rintro e w' ⟨rfl,rfl⟩
  go_wp2_with fail
  refine (valid_any x0 _ hgW s0).mono ?_
  rintro e w1 ⟨rfl,hb1⟩
  obtain ⟨bc,bf⟩:=bcell hb1
  go_wp2_with fail
  refine bodyPost_ret (v:=recR none) (by simp [results,Tryz.results99,go_sem,recR,Rec.val,Rec.zero,Rec.owner,Rec.ttl,Rec.type,Rec.data,B,bc,r0,r1,r2,r3,hz0]) rfl ⟨by simp,?_⟩
  exact (((((aU HB).trans (hb1.mono (by omega))).setCell (Nat.le_refl _) _).setCell (Nat.le_refl _) _).setCell (Nat.le_refl _) _).setCell (Nat.le_refl _) _
 cases v1:numB 86400 x1.data.toList
 ·go_enter Tryz.func99,Tryz.ntmps99
  go_wp2_with fail
  refine (aU HC).mono ?_
  rintro e w' ⟨rfl,rfl⟩
  go_wp2_with fail
  refine (valid_any x0 _ hgW s0).mono ?_
  rintro e w1 ⟨rfl,hb1⟩
  obtain ⟨bc,bf⟩:=bcell hb1
  go_wp2_with fail
  refine (readNumber_any x1 86400 _ s1 (by omega)).mono ?_
  rintro e w2 ⟨rfl,rfl⟩
  go_wp2_with fail
  refine (kindOf_any x2 _).mono ?_
  rintro e w2 ⟨rfl,rfl⟩
  go_wp2_with fail
  refine bodyPost_ret (v:=recR none) (by simp [results,Tryz.results99,go_sem,recR,Rec.val,Rec.zero,Rec.owner,Rec.ttl,Rec.type,Rec.data,B, bc,r0,r1,r2,r3,hz0]) rfl ⟨by simp,?_⟩
  exact (((((aU HB).trans (hb1.mono (by omega))).setCell (Nat.le_refl _) _).setCell (Nat.le_refl _) _).setCell (Nat.le_refl _) _).setCell (Nat.le_refl _) _
 cases v2:isData (Pu.kindOf x2.data.toList) (Sp.spl 32 x3.data.toList)
 all_goals
  go_enter Tryz.func99,Tryz.ntmps99
  go_wp2_with fail
  refine (aU HC).mono ?_
  rintro e w' ⟨rfl,rfl⟩
  go_wp2_with fail
  refine (valid_any x0 _ hgW s0).mono ?_
  rintro e w1 ⟨rfl,hb1⟩
  obtain ⟨bc,bf⟩:=bcell hb1
  have hg1:=hgW.below hb1
  go_wp2_with fail
  refine (readNumber_any x1 86400 _ s1 (by omega)).mono ?_
  rintro e w2 ⟨rfl,rfl⟩
  go_wp2_with fail
  refine (kindOf_any x2 _).mono ?_
  rintro e w2 ⟨rfl,rfl⟩
  go_wp2_with fail
  refine (split_any x3 32 _ hg1 (by omega)).mono ?_
  rintro e w3 ⟨rfl,hw3⟩
  have hb3:Below w2.heap.size w2 w3:=by rw [hw3]; exact (Below.refl _ _).alloc (Nat.le_refl _) _
  have hat3:StrsAt w3 w2.heap.size 0 (Sp.pieces 32 x3):=by rw [hw3]; exact strsAt_alloc _ _
  have hg3:=hg1.below hb3
  clear hw3
  have hnv:(numV 86400 x1.data.toList:Int)≤86400:=by have:=numV_le 86400 x1.data.toList; omega
  go_wp2_with fail
  refine (isData_pieces _ _ x3 _ hg3 hat3 t3).mono ?_
  rintro e w4 ⟨rfl,hb4⟩
  have hb14:Below w'.heap.size w' w4:=hb1.trans ((hb3.trans (hb4.mono hb3.size)).mono hb1.size)
  clear bc bf hat3 hg3 hb3 hb4 hb1 hg1
  obtain ⟨bc,bf⟩:=bcell hb14
  go_wp2_with fail
 ·refine bodyPost_ret (v:=recR none) (by simp [results,Tryz.results99,go_sem,recR,Rec.val,Rec.zero,Rec.owner,Rec.ttl,Rec.type,Rec.data,B, bc,r0,r1,r2,r3,hz0]) rfl ⟨by simp,?_⟩
  exact (((((aU HB).trans (hb14.mono (by omega))).setCell (Nat.le_refl _) _).setCell (Nat.le_refl _) _).setCell (Nat.le_refl _) _).setCell (Nat.le_refl _) _
 ·go_region
  all_goals
   go_wp2
   refine bodyPost_ret (v:=recR (some (x0.data.toList,numV 86400 x1.data.toList,Pu.kindOf x2.data.toList,x3.data.toList))) (by simp [results,Tryz.results99,go_sem,recR,Rec.val,Rec.owner,Rec.ttl,Rec.type,Rec.data,B_data,bc,r0,r1,r2,r3,hz0]) rfl ⟨by simp,?_⟩
   exact ((((((aU HB).trans (hb14.mono (by omega))).setCell (Nat.le_refl _) _).setCell (Nat.le_refl _) _).setCell (Nat.le_refl _) _).setCell (Nat.le_refl _) _).drew
theorem readRecord_any (s:ByteArray) (w:World) (hg:G w) (hs:s.size≤3000) :
  Calls Tryz.prog 99 #[.string s] w fun e w'=>e=.returned (recR (readRec s.data.toList))∧Below w.heap.size w w':=by
 by_cases h4:(four s).length=4
 ·match h:four s,h4 with
  | [x0,x1,x2,x3],_ =>
  have e:readRec s.data.toList=if Sp.valid x0.data.toList && numB 86400 x1.data.toList && isData (Pu.kindOf x2.data.toList) (Sp.spl 32 x3.data.toList) then some (x0.data.toList,numV 86400 x1.data.toList,Pu.kindOf x2.data.toList,x3.data.toList) else none:=by
   unfold readRec
   rw [← four_data,h]
   rfl
  rw [e]
  exact readRecord_four s x0 x1 x2 x3 w hg hs h
 ·have e:readRec s.data.toList=none:=by
   unfold readRec
   split
   ·rename_i he
    rw [← four_data] at he
    exact absurd (by have:=congrArg List.length he; simpa using this) h4
   ·rfl
  rw [e]
  exact readRecord_short s w hg hs h4
end Rd
def readAll:List Str→Option (List Rec)
 | []=>some []
 | l :: t=>(readRec l).bind fun r=>(readAll t).map (r :: ·)
def originW:Str:=[111,114,105,103,105,110,32]
def readLines:List Str→Option (Str×List Rec)
 | []=>none
 | f :: t=>if Lib.hasPrefix f originW && Sp.plain (Lib.trimPrefix f originW) then (readAll t).map (fun rs=>(Lib.trimPrefix f originW,rs)) else none
def readZ (l:Str):Option (Str×List Rec) :=
 if Lib.hasSuffix l [10] then readLines (Sp.spl 10 (Lib.trimSuffix l [10])) else none
def encs (rs:List Rec):List Value:=rs.flatMap Rec.enc
theorem encs_snoc (rs:List Rec) (r:Rec):encs (rs++[r])=encs rs++r.enc:=by simp [encs]
theorem encs_len (rs:List Rec):(encs rs).length=rs.length*4:=by
 induction rs with
 | nil=>rfl
 | cons r t ih=>simp only [encs,List.flatMap_cons,List.length_append] at *; rw [ih]; simp [Rec.enc]; omega
def RecsOwn (w:World) (base:Nat) (v:Value) (rs:List Rec):Prop:=w.ownsRow base 47 4 v rs.length (encs rs)∧(v=.slice none 0 0 ↔ rs = [])
theorem own_below {w w':World} {B e size n:Nat} {v:Value} {xs:List Value} (h:w.ownsRow B e size v n xs) (hb:Below w.heap.size w w'):w'.ownsRow B e size v n xs :=
 h.kept (row:=none) ⟨hb.os,hb.tape,hb.output,hb.size,fun k hk _=>hb.block k hk⟩ (Classical.em _)
theorem own_base {w:World} {B B' e size n:Nat} {v:Value} {xs:List Value} (h:w.ownsRow B e size v n xs) (hb:B'≤B):w.ownsRow B' e size v n xs:=by
 obtain ⟨hl,h | ⟨g,cap,cur,hv,hg,h1,h2,h3,h4,h5⟩⟩:=h
 ·exact ⟨hl,.inl h⟩
 ·exact ⟨hl,.inr ⟨g,cap,cur,hv,Nat.le_trans hb hg,h1,h2,h3,h4,h5⟩⟩
theorem RecsOwn.below {w w':World} {B:Nat} {v:Value} {rs:List Rec} (h:RecsOwn w B v rs) (hb:Below w.heap.size w w'):RecsOwn w' B v rs:=⟨own_below h.1 hb,h.2⟩
theorem RecsOwn.base {w:World} {B B':Nat} {v:Value} {rs:List Rec} (h:RecsOwn w B v rs) (hb:B'≤B):RecsOwn w B' v rs:=⟨own_base h.1 hb,h.2⟩
namespace Re
open Ka Kb Kd Ke Kf Rc Rd
theorem readRecord_no (s:ByteArray) (w:World) (hg:G w) (hs:s.size≤3000) (h:readRec s.data.toList=none) :
  Calls Tryz.prog 99 #[.string s] w fun e w'=>e=.returned (.tuple #[.agg #[.string ⟨#[]⟩,.int .i64 0,.int .i64 0,.string ⟨#[]⟩],.bool false])∧Below w.heap.size w w':=by
 have:=readRecord_any s w hg hs
 rw [h] at this
 exact this
theorem readRecord_yes (s:ByteArray) (r:Rec) (w:World) (hg:G w) (hs:s.size≤3000) (h:readRec s.data.toList=some r) :
  Calls Tryz.prog 99 #[.string s] w fun e w'=>e=.returned (.tuple #[.agg #[.string (B r.owner),.int .i64 r.ttl,.int .i64 r.type,.string (B r.data)],.bool true])∧Below w.heap.size w w':=by
 have:=readRecord_any s w hg hs
 rw [h] at this
 exact this
theorem infoR:(Tryz.prog.info? 47).map (fun i=>(i.zero,i.size,i.bytes))=some (some (.agg #[.string ⟨#[]⟩,.int .i64 0,.int .i64 0,.string ⟨#[]⟩]),4,48):=by kernel_rfl
theorem underR:Tryz.prog.underlying 41=some (.slice 47):=by kernel_rfl
def noneV:Value:=.tuple #[.string ⟨#[]⟩,.slice none 0 0,.bool false]
def zoneR (o:Option (Str×List Rec)) (base:Nat) (e:Ending) (w':World):Prop :=
 match o with
 | none=>e=.returned noneV
 | some (o,rs)=>∃ v,e=.returned (.tuple #[.string (B o),v,.bool true])∧RecsOwn w' base v rs
theorem zoneR_none {base:Nat} {e:Ending} {w':World} (h:e=.returned noneV):zoneR none base e w':=h
theorem readZone_noend (s:ByteArray) (w:World) (hs:s.size≤3000) (h:Lib.hasSuffix s.data.toList [10]=false) :
  Calls Tryz.prog 56 #[.string s] w fun e w'=>e=.returned noneV∧Below w.heap.size w w':=by
 go_enter Tryz.func56,Tryz.ntmps56
 go_wp2_with (go_at_call 96; refine (Tryz.strings_CutSuffix s _ _ (by omega)).mono ?_; rintro e w' ⟨rfl,rfl⟩)
 go_ret3
 exact ⟨rfl,Below.refl _ _⟩
theorem trimSuffix_len (l p:Str):(Lib.trimSuffix l p).length≤l.length:=by
 unfold Lib.trimSuffix; split
 ·simp
 ·exact Nat.le_refl _
theorem trimPrefix_len (l p:Str):(Lib.trimPrefix l p).length≤l.length:=by
 unfold Lib.trimPrefix; split
 ·simp
 ·exact Nat.le_refl _
theorem readZone_end (s:ByteArray) (w:World) (hg:G w) (hs:s.size≤3000) (h:Lib.hasSuffix s.data.toList [10]=true) :
  Calls Tryz.prog 56 #[.string s] w fun e w' =>
   zoneR (readZ s.data.toList) w.heap.size e w'∧Below w.heap.size w w':=by
 have hz:Hid (readZ s.data.toList=readLines (Sp.spl 10 (Lib.trimSuffix s.data.toList [10]))):=by unfold readZ; rw [Hid,if_pos h]
 have hcut:=Tryz.strings_CutSuffix s ⟨#[10]⟩ w (by omega)
 rw [h] at hcut
 obtain ⟨body,hbody⟩ : ∃ body:ByteArray,⟨(Lib.trimSuffix s.data.toList [10]).toArray⟩=body:=⟨_,rfl⟩
 have hbd:body.data.toList=Lib.trimSuffix s.data.toList [10]:=by rw [← hbody]
 have hbs:body.size≤3000:=by
  have:=trimSuffix_len s.data.toList [10]
  rw [← hbd,Pu.len_eq,Pu.len_eq] at this
  omega
 have hcut':Calls Tryz.prog 96 #[.string s,.string ⟨#[10]⟩] w fun e w'=>e=.returned (.tuple #[.string body,.bool true])∧w'=w:=by rw [← hbody]; exact hcut
 rw [← hbd,← Sp.pieces_data] at hz
 have hps:=aH (Sp.piece_size 10 body)
 have hlen:(Sp.pieces 10 body).length≤3001:=by
  have:=Sp.spl_len_le 10 body.data.toList
  rw [← Sp.pieces_data,List.length_map,Pu.len_eq] at this
  omega
 have hat:=strsAt_alloc w (Sp.pieces 10 body)
 have hcall:=split_any body 10 w hg (by omega)
 have hb0:Below w.heap.size w (w.alloc (.cells ((Sp.pieces 10 body).map Value.string).toArray 9)):=(Below.refl _ _).alloc (Nat.le_refl _) _
 have hne':1≤(Sp.pieces 10 body).length:=by have:=Sp.pieces_len 10 body; omega
 clear hbody hbd hcut
 generalize Sp.pieces 10 body=L at *
 cases L with
 | nil=>simp at hne'
 | cons f t =>
 have hcf:_:=hat.2 0 (by simp)
 have hsf:f.size≤3000:=Nat.le_trans (aU hps f (by simp)) hbs
 have hst : ∀ x∈t,x.size≤3000:=fun x hx=>Nat.le_trans (aU hps x (by simp [hx])) hbs
 have HST:=aH hst
 clear hst hps
 generalize w.alloc (.cells ((f :: t).map Value.string).toArray 9)=W at *
 have hcf':W.cell? ⟨w.heap.size,0,none⟩=some (.string f):=hcf
 have hgW:=hg.below hb0
 have hlt:(t.length:Int)≤3000:=by simp at hlen; omega
 rw [List.length_cons] at hcall
 have HC0:=aH hcut'
 have HC:=aH hcall
 have HB:=aH hb0
 have HA:=aH hat
 clear hcall hb0 hat hcut' hcf hlen hne'
 have hcp:=Tryz.strings_CutPrefix f ⟨#[111,114,105,103,105,110,32]⟩ W
 obtain ⟨org,horg⟩ : ∃ org:ByteArray,⟨(Lib.trimPrefix f.data.toList originW).toArray⟩=org:=⟨_,rfl⟩
 have hod:org.data.toList=Lib.trimPrefix f.data.toList originW:=by rw [← horg]
 have hos:org.size≤maxLen:=by
  have:=trimPrefix_len f.data.toList originW
  rw [← hod,Pu.len_eq,Pu.len_eq] at this
  unfold maxLen
  omega
 obtain ⟨hp,hhp⟩ : ∃ hp,hp=Lib.hasPrefix f.data.toList originW:=⟨_,rfl⟩
 have hcp':Calls Tryz.prog 98 #[.string f,.string ⟨#[111,114,105,103,105,110,32]⟩] W fun e w'=>e=.returned (.tuple #[.string org,.bool hp])∧w'=W:=by rw [← horg,hhp]; exact hcp
 have HP:=aH hcp'
 clear hcp hcp'
 have hrl:Hid (readZ s.data.toList=if hp && Sp.plain org.data.toList then (readAll (t.map (·.data.toList))).map (fun rs=>(org.data.toList,rs)) else none):=by
  rw [Hid,aU hz,List.map_cons,readLines,hhp,hod]
 clear hz horg hod hhp
 cases hp
 ·go_enter Tryz.func56,Tryz.ntmps56
  go_wp2_with fail
  refine (aU HC0).mono ?_
  rintro e w ⟨rfl,rfl⟩
  go_wp2_with fail
  refine (aU HC).mono ?_
  rintro e W ⟨rfl,rfl⟩
  go_wp2_with fail
  refine (aU HP).mono ?_
  rintro e W ⟨rfl,rfl⟩
  go_wp2_with fail
  go_ret3
  rw [aU hrl]
  exact ⟨zoneR_none rfl,aU HB⟩
 cases hpl:Sp.plain org.data.toList
 ·go_enter Tryz.func56,Tryz.ntmps56
  go_wp2_with fail
  refine (aU HC0).mono ?_
  rintro e w ⟨rfl,rfl⟩
  go_wp2_with fail
  refine (aU HC).mono ?_
  rintro e W ⟨rfl,rfl⟩
  go_wp2_with fail
  refine (aU HP).mono ?_
  rintro e W ⟨rfl,rfl⟩
  go_wp2_with fail
  refine (plain_any org _ hgW hos).mono ?_
  rintro e w1 ⟨rfl,hb1⟩
  go_wp2_with fail
  go_ret3
  rw [aU hrl,hpl]
  exact ⟨zoneR_none rfl,(aU HB).trans (hb1.mono (aU HB).size)⟩
 have hrl':Hid (readZ s.data.toList=(readAll (t.map (·.data.toList))).map (fun rs=>(org.data.toList,rs))):=by
  rw [Hid,aU hrl,hpl]; rfl
 clear hrl
 have hrl:=hrl'
 clear hrl'
 cases t with
 | nil =>
  go_enter Tryz.func56,Tryz.ntmps56
  go_wp2_with fail
  refine (aU HC0).mono ?_
  rintro e w ⟨rfl,rfl⟩
  go_wp2_with fail
  refine (aU HC).mono ?_
  rintro e W ⟨rfl,rfl⟩
  go_wp2_with fail
  refine (aU HP).mono ?_
  rintro e W ⟨rfl,rfl⟩
  go_wp2_with fail
  refine (plain_any org _ hgW hos).mono ?_
  rintro e w1 ⟨rfl,hb1⟩
  go_wp2_with fail
  go_loop [10,41] (fun v i=>v=.slice none 0 0∧i=.int .i64 0) (fun _ _=>0)
  case atStart=>exact ⟨rfl,rfl⟩
  case round =>
   obtain ⟨rfl,rfl⟩:=hrel
   go_wp2
   go_ret3
   rw [aU hrl]
   exact ⟨⟨_,by rw [B_data]; rfl,World.ownsRow_nil _ _ _ _,by simp⟩,(aU HB).trans (hb1.mono (aU HB).size)⟩
 | cons t0 ts =>
  generalize hT:t0 :: ts=t at *
  have htn : ¬ t = []:=by rw [← hT]; simp
  have htl:0<t.length:=by rw [← hT]; simp
  clear hT
  go_enter Tryz.func56,Tryz.ntmps56
  go_wp2_with fail
  refine (aU HC0).mono ?_
  rintro e w ⟨rfl,rfl⟩
  go_wp2_with fail
  refine (aU HC).mono ?_
  rintro e W ⟨rfl,rfl⟩
  go_wp2_with fail
  refine (aU HP).mono ?_
  rintro e W ⟨rfl,rfl⟩
  go_wp2_with fail
  refine (plain_any org _ hgW hos).mono ?_
  rintro e w1 ⟨rfl,hb1⟩
  go_wp2_with fail
  have hgw1:=hgW.below hb1
  have hbA:Below w.heap.size w w1:=(aU HB).trans (hb1.mono (aU HB).size)
  have hs1:=hbA.size
  have HBA:=aH hbA
  clear hbA
  have hat1:=(aU HA).below hb1
  have HA1:=aH hat1
  clear hat1 HC HC0 HP
  go_loopw [10,41] (fun v i wr=>∃ (k:Nat) (rs:List Rec),k≤t.length∧i=.int .i64 k∧rs.length=k∧RecsOwn wr w1.heap.size v rs∧readAll (t.map (·.data.toList))=(readAll ((t.map (·.data.toList)).drop k)).map (rs++·)∧Below w1.heap.size w1 wr) (fun _ i _=>t.length - (intOf i).toNat)
  case atStart=>exact ⟨0,[],Nat.zero_le _,rfl,rfl,⟨World.ownsRow_nil _ _ _ _,by simp⟩,by simp,Below.refl _ _⟩
  case round =>
   obtain ⟨k,rs,hk,rfl,hrs,hown,hread,hbr⟩:=hrel
   have HR:=aH hread
   have HO:=aH hown
   clear hread hown
   have hgr:=hgw1.below hbr
   have hsz1:=hbr.size
   by_cases hlk:k<t.length
   ·have hck:wr.cell? ⟨w.heap.size,1+k,none⟩=some (.string t[k]):=by
     have:=((aU HA1).below hbr).2 (k+1) (by simpa using hlk)
     rw [show 0+(k+1)=1+k from by omega] at this
     simpa using this
    have hdr:Hid ((t.map (·.data.toList)).drop k=t[k].data.toList :: (t.map (·.data.toList)).drop (k+1)):=by
     rw [Hid,List.drop_eq_getElem_cons (by simpa using hlk),List.getElem_map]
    have hxs:=aU HST t[k] (List.getElem_mem hlk)
    generalize t[k]=x at *
    cases hr:readRec x.data.toList with
    | none =>
     have hfin:Hid (readZ s.data.toList=none):=by
      rw [Hid,aU hrl,aU HR,aU hdr,readAll,hr]; rfl
     go_wp2_with fail
     refine (readRecord_no x _ hgr hxs hr).mono ?_
     rintro e w2 ⟨rfl,hb2⟩
     go_wp2_with fail
     go_ret3
     rw [aU hfin]
     exact ⟨zoneR_none rfl,((aU HBA).trans ((hbr.mono hs1).trans (hb2.mono (by omega)))).alloc (by have:=hb2.size; omega) _⟩
    | some r =>
     obtain ⟨i0,hi,hz0,hz1,hz2⟩:=info_parts infoR
     have hfin:Hid (readAll (t.map (·.data.toList))=(readAll ((t.map (·.data.toList)).drop (k+1))).map ((rs++[r])++·)):=by
      rw [Hid,aU HR,aU hdr,readAll,hr]
      simp [Option.map_map,Function.comp_def]
     go_wp2_with fail
     refine (readRecord_yes x r _ hgr hxs hr).mono ?_
     rintro e w2 ⟨rfl,hb2⟩
     have hown2:=(aU HO).below hb2
     have HO2:=aH hown2
     clear hown2
     have hsz2:=hb2.size
     go_wp2_with (at_builtin; refine wpList_append_own _ rfl (.tmp 52) (.tmp 54) 41 rfl w1.heap.size 47 i0 (.agg #[.string ⟨#[]⟩,.int .i64 0,.int .i64 0,.string ⟨#[]⟩]) 4 48 underR hi hz0 hz1 hz2 rfl (by decide) _ rs.length (encs rs) rfl (((aU HO2).1.alloc _).alloc _) ⟨w2.heap.size+1,0,none⟩ 1 1 r.enc rfl rfl ?c1 ?c2 ?c3 ?c4 ?c5 ?_)
     case c1 =>
      intro j u hj
      match j,hj with
      | 0,hj=>simp [Rec.enc] at hj; subst hj; simp [Addr.add]
      | 1,hj=>simp [Rec.enc] at hj; subst hj; simp [Addr.add]
      | 2,hj=>simp [Rec.enc] at hj; subst hj; simp [Addr.add]
      | 3,hj=>simp [Rec.enc] at hj; subst hj; simp [Addr.add]
      | n+4,hj=>simp [Rec.enc] at hj
     case c2=>intro u hu; simp [Rec.enc] at hu; rcases hu with rfl | rfl | rfl | rfl <;> rfl
     case c3=>unfold maxLen; omega
     case c4=>omega
     case c5=>simp; omega
     intro v' w3 hown' hgrow hnil
     have hO3:RecsOwn w3 w1.heap.size v' (rs++[r]):=by
      refine ⟨?_,?_⟩
      ·rw [encs_snoc,List.length_append,hrs]; exact hown'
      ·exact ⟨fun h=>absurd h hnil,fun h=>by simp at h⟩
     have hB3:Below w1.heap.size w1 w3:=by
      refine ((((hbr.trans (hb2.mono (by omega))).alloc (by omega) _).alloc (by simp; omega) _)).grown hgrow (by simp; omega) ?_
      intro k' hk'
      exact ((aU HO2).1.lt k' hk').1
     have HO3:=aH hO3
     have HB3:=aH hB3
     clear hO3 hB3 hown' hgrow hnil
     go_wp2
     go_roundw
     case rel=>exact ⟨k+1,rs++[r],by omega,by go_num,by simp [hrs],aU HO3,aU hfin,aU HB3⟩
     case measure=>simp [intOf]; omega
   ·have hfin:Hid (readZ s.data.toList=some (org.data.toList,rs)):=by
     rw [Hid,aU hrl,aU HR,List.drop_of_length_le (by simp; omega)]
     simp [readAll]
    go_wp2
    go_ret3
    rw [aU hfin]
    exact ⟨⟨_,by rw [B_data]; rfl,(aU HO).base (aU HBA).size⟩,(aU HBA).trans (hbr.mono hs1)⟩
theorem readZone_any (s:ByteArray) (w:World) (hg:G w) (hs:s.size≤3000) :
  Calls Tryz.prog 56 #[.string s] w fun e w'=>zoneR (readZ s.data.toList) w.heap.size e w'∧Below w.heap.size w w':=by
 cases h:Lib.hasSuffix s.data.toList [10]
 ·have e:readZ s.data.toList=none:=by unfold readZ; rw [h]; rfl
  rw [e]
  exact readZone_noend s w hs h
 ·exact readZone_end s w hg hs h
end Re
end Go.Proofs.YtkkpahmoljiepaaGreatDoor
