/- Contracts: zone.isAddress, zone.isData. -/
import Derived.Test.YtjkllohiodfikaaGreatDoorKd
import Derived.Test.YtjkllohiodfikaaGreatDoorKb
set_option linter.unusedSimpArgs false
set_option linter.unusedVariables false
namespace Go.Proofs.YtjkllohiodfikaaGreatDoor
open Go.RowKit
open Pu (hide unhide)
namespace Ke
open Ka Kb Kd

def address (l : Pu.Str) : Bool := (Sp.spl 46 l).all (numB 255) && (Sp.spl 46 l).length == 4
def isData (k : Int) (ws : List Pu.Str) : Bool :=
  if k = 6 then (match ws with
    | [a, b, c, d] => Sp.plain a && Sp.plain b && numB 4294967295 c && numB 86400 d
    | _ => false)
  else if k = 2 ∨ k = 5 then (match ws with
    | [a] => Sp.plain a
    | _ => false)
  else if k = 1 then (match ws with
    | [a] => address a
    | _ => false)
  else if k = 16 then (match ws with
    | [a] => Pu.word a
    | _ => false)
  else if k = 15 then (match ws with
    | [a, b] => numB 65535 a && Sp.plain b
    | _ => false)
  else false

set_option maxHeartbeats 800000 in
theorem isAddress_any (s : ByteArray) (w : World) (hg : G w) (hs : s.size ≤ 3000) :
    Calls Tryz.prog 179 #[.string s] w fun e w' => e = .returned (.bool (address s.data.toList)) ∧ Below w.heap.size w w' := by
  have hpl : Hid (Sp.spl 46 s.data.toList = (Sp.pieces 46 s).map (·.data.toList)) := (Sp.pieces_data 46 s).symm
  have hps := hide (Sp.piece_size 46 s)
  have hat := strsAt_alloc w (Sp.pieces 46 s)
  have hcall := split_any s 46 w hg (by omega)
  have hb : Below w.heap.size w (w.alloc (.cells ((Sp.pieces 46 s).map Value.string).toArray 9)) := (Below.refl _ _).alloc (Nat.le_refl _) _
  have hlen : (Sp.pieces 46 s).length ≤ 3001 := by
    have := Sp.spl_len_le 46 s.data.toList
    rw [← Sp.pieces_data, List.length_map, Pu.len_eq] at this
    omega
  generalize Sp.pieces 46 s = L at *
  generalize w.alloc (.cells (L.map Value.string).toArray 9) = W at *
  have HC := hide hcall
  have HB := hide hb
  clear hcall hb
  obtain ⟨hsz, hcell⟩ := hat
  have HL := hide hcell
  clear hcell
  go_enter Tryz.func179, Tryz.ntmps179
  go_wp2_with (go_at_call 70; refine (unhide HC).mono ?_; rintro e w' ⟨rfl, rfl⟩)
  go_loop [10] (fun i => ∃ k : Nat, k ≤ L.length ∧ i = .int .i64 k ∧ ((L.map (·.data.toList)).take k).all (numB 255) = true) (fun i => L.length - (intOf i).toNat)
  case atStart => exact ⟨0, Nat.zero_le _, rfl, rfl⟩
  case round =>
    obtain ⟨k, hk, rfl, hall⟩ := hrel
    have H := hide hall
    clear hall
    by_cases hlt : k < L.length
    · have hck := (unhide HL) k hlt
      rw [Nat.zero_add] at hck
      have hst : Hid ((L.map (·.data.toList)).take (k + 1) = (L.map (·.data.toList)).take k ++ [L[k].data.toList]) := by
        rw [Hid, List.take_succ_eq_append_getElem (by simpa using hlt), List.getElem_map]
      have hmem : Hid (L[k].data.toList ∈ L.map (·.data.toList)) := List.mem_map_of_mem (List.getElem_mem hlt)
      have hsk : L[k].size ≤ maxLen := by
        have := unhide hps L[k] (List.getElem_mem hlt)
        unfold maxLen; omega
      generalize L[k] = x at *
      cases hb : numB 255 x.data.toList
      · have hfin : Hid (address s.data.toList = false) := by
          rw [Hid, address, unhide hpl, Bool.and_eq_false_iff, List.all_eq_false]
          exact .inl ⟨_, unhide hmem, by simp [hb]⟩
        go_wp2_with (go_at_call 178; refine (isNumber_any x 255 _ hsk (by omega)).mono ?_; rintro e w' ⟨rfl, rfl⟩)
        go_ret
        exact ⟨ret_bool (unhide hfin).symm, unhide HB⟩
      · go_wp2_with (go_at_call 178; refine (isNumber_any x 255 _ hsk (by omega)).mono ?_; rintro e w' ⟨rfl, rfl⟩)
        go_round
        case rel => exact ⟨k + 1, by omega, by go_num, by rw [unhide hst, List.all_append, unhide H]; simp [hb]⟩
        case measure => simp [intOf]; omega
    · have hfin : Hid (address s.data.toList = ((L.length : Int) == 4)) := by
        have := unhide H
        rw [List.take_of_length_le (by simp; omega)] at this
        rw [Hid, address, unhide hpl, this, Bool.true_and, List.length_map, Bool.eq_iff_iff, beq_iff_eq, beq_iff_eq]
        omega
      go_wp2
      go_ret
      exact ⟨ret_bool (unhide hfin).symm, unhide HB⟩
end Ke
end Go.Proofs.YtjkllohiodfikaaGreatDoor
