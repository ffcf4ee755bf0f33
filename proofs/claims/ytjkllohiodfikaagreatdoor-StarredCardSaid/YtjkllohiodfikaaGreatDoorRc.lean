/- Plain: records, and the line of a record. -/
import Derived.Test.YtjkllohiodfikaaGreatDoorKf
set_option linter.unusedSimpArgs false
set_option linter.unusedVariables false
namespace Go.Proofs.YtjkllohiodfikaaGreatDoor
open Go.RowKit
open Pu (Str hide unhide)

/-- a list of bytes as Go's string. -/
def B (l : Str) : ByteArray := ⟨l.toArray⟩
theorem B_data (s : ByteArray) : B s.data.toList = s := by cases s; simp [B]
theorem data_B (l : Str) : (B l).data.toList = l := rfl
theorem size_B (l : Str) : (B l).size = l.length := by simp [B, ByteArray.size]

/-- a record: its owner, TTL, type, data. -/
abbrev Rec := Str × Nat × Int × Str
def Rec.owner (r : Rec) : Str := r.1
def Rec.ttl (r : Rec) : Nat := r.2.1
def Rec.type (r : Rec) : Int := r.2.2.1
def Rec.data (r : Rec) : Str := r.2.2.2

def Rec.zero : Rec := ([], 0, 0, [])
def Rec.enc (r : Rec) : List Value := [.string (B r.owner), .int .i64 r.ttl, .int .i64 r.type, .string (B r.data)]
def Rec.val (r : Rec) : Value := .agg #[.string (B r.owner), .int .i64 r.ttl, .int .i64 r.type, .string (B r.data)]

def readRec (l : Str) : Option Rec :=
  match Lib.splitN l [32] 4 with
  | [a, b, c, d] => if Sp.valid a && Ka.numB 86400 b && Ke.isData (Pu.kindOf c) (Sp.spl 32 d) then some (a, Ka.numV 86400 b, Pu.kindOf c, d) else none
  | _ => none

/-- what readRecord hands back. -/
def recR (o : Option Rec) : Value := .tuple #[(o.getD Rec.zero).val, .bool o.isSome]

namespace Rc
theorem splitK_mem_len (c : UInt8) : ∀ (k : Nat) (l : Str), ∀ x ∈ Lib.splitK [c] 0 k l, x.length ≤ l.length
  | 0, l, x, hx => by simp [Lib.splitK] at hx; subst hx; exact Nat.le_refl _
  | k + 1, l, x, hx => by
    unfold Lib.splitK at hx
    split at hx
    · simp at hx; subst hx; exact Nat.le_refl _
    · rw [List.mem_cons] at hx
      rcases hx with rfl | hx
      · simp; omega
      · have := splitK_mem_len c k _ x hx
        rw [List.length_drop] at this
        omega

/-- what strings.SplitN(s, " ", 4) hands back. -/
def four (s : ByteArray) : List ByteArray := Lib.splitB ⟨#[32]⟩ 0 (min 4 (s.size + 1) - 1) s
theorem four_data (s : ByteArray) : (four s).map (·.data.toList) = Lib.splitN s.data.toList [32] 4 := by
  unfold four
  rw [Lib.splitB_data]
  unfold Lib.splitN
  rw [Pu.len_eq]
theorem four_len (s : ByteArray) : (four s).length ≤ 4 := by
  have := Lib.splitB_length_le ⟨#[32]⟩ 0 (min 4 (s.size + 1) - 1) s
  unfold four; omega
theorem four_len2 (s : ByteArray) : (four s).length ≤ min 4 (s.size + 1) := by
  have := Lib.splitB_length_le ⟨#[32]⟩ 0 (min 4 (s.size + 1) - 1) s
  unfold four; omega
theorem four_size (s x : ByteArray) (hx : x ∈ four s) : x.size ≤ s.size := by
  have : x.data.toList ∈ Lib.splitN s.data.toList [32] 4 := by
    rw [← four_data]; exact List.mem_map_of_mem hx
  have := splitK_mem_len 32 _ _ _ this
  rwa [Pu.len_eq, Pu.len_eq] at this

theorem strsAt_cellsOf (w : World) (L : List ByteArray) (N : Nat) : StrsAt (w.alloc (.cells (Lib.cellsOf L N) 9)) w.heap.size 0 L := by
  refine ⟨by simp, fun j hj => ?_⟩
  rw [Nat.zero_add]
  unfold Lib.cellsOf
  simp [hj, List.getElem?_append]

theorem splitN_any (s : ByteArray) (w : World) (hg : G w) (hs : s.size ≤ 3000) :
    Calls Tryz.prog 127 #[.string s, .string ⟨#[32]⟩, .int .i64 4] w fun e w' =>
      e = .returned (.slice (some ⟨w.heap.size, 0, none⟩) (four s).length (min 4 (s.size + 1))) ∧ w' = w.alloc (.cells (Lib.cellsOf (four s) (min 4 (s.size + 1))) 9) := by
  obtain ⟨_, m, hm⟩ := hg
  exact Tryz.strings_SplitN s ⟨#[32]⟩ 4 m w (by omega) hm (Nat.le_refl _) (by omega) (by omega)

set_option maxHeartbeats 1600000 in
theorem readRecord_short (s : ByteArray) (w : World) (hg : G w) (hs : s.size ≤ 3000) (h4 : (four s).length ≠ 4) :
    Calls Tryz.prog 72 #[.string s] w fun e w' => e = .returned (recR none) ∧ Below w.heap.size w w' := by
  have hlen := four_len s
  have hcall2 := splitN_any s (w.alloc (.cells #[.string ⟨#[]⟩, .int .i64 0, .int .i64 0, .string ⟨#[]⟩] 47)) (hg.alloc _) hs
  generalize four s = L at *
  have h4' : (L.length : Int) < 4 := by omega
  have HC := hide hcall2
  clear hcall2
  go_enter Tryz.func72, Tryz.ntmps72
  go_wp2_with (go_at_call 127; refine (unhide HC).mono ?_; rintro e w' ⟨rfl, rfl⟩)
  refine bodyPost_ret (v := recR none) (by simp [results, Tryz.results72, go_sem, recR, Rec.val, Rec.zero, Rec.owner, Rec.ttl, Rec.type, Rec.data, B]) rfl ⟨rfl, ?_⟩
  exact ((Below.refl _ _).alloc (Nat.le_refl _) _).alloc (by simp) _
end Rc
end Go.Proofs.YtjkllohiodfikaaGreatDoor
