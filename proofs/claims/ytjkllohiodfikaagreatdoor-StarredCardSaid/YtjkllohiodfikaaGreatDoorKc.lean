/- Contracts: beaconkeep.digits, host. -/
import Derived.Test.YtjkllohiodfikaaGreatDoorKa
set_option linter.unusedSimpArgs false
set_option linter.unusedVariables false
namespace Go.Proofs.YtjkllohiodfikaaGreatDoor
open Go.RowKit
open Pu (hide unhide)
namespace Kc
open Ka

theorem conv1 (w : World) (c : Int) : Sem.run Tryz.prog (convert 58 9 (.slice (some ⟨w.heap.size, 0, none⟩) 1 1)) (w.alloc (.cells #[.int .u8 c] 5)) = .ok (.string (strOfNums [c])) (w.alloc (.cells #[.int .u8 c] 5)) :=
  run_convert_bytes_arg _ 58 5 (by kernel_rfl) (by kernel_rfl) w.heap.size 0 1 1 [c] rfl (fun i hi => by
    obtain rfl : i = 0 := by omega
    simp) 9 (by kernel_rfl)

/-- the digits so far, before the loop's next round: what is still to write stands ahead. -/
def digitsI (n : Nat) : Pu.Str := if h : n < 10 then [UInt8.ofNat (48 + n)] else digitsI (n / 10) ++ [UInt8.ofNat (48 + n % 10)]

theorem digitsI_small (n : Nat) (h : n < 10) : digitsI n = [UInt8.ofNat (48 + n)] := by rw [digitsI, dif_pos h]
theorem digitsI_great (n : Nat) (h : ¬ n < 10) : digitsI n = digitsI (n / 10) ++ [UInt8.ofNat (48 + n % 10)] := by rw [digitsI, dif_neg h]
theorem digitsI_len : ∀ (f n : Nat), n < 10 ^ f → (digitsI n).length ≤ f + 1
  | 0, n, h => by rw [digitsI_small n (by omega)]; simp
  | f + 1, n, h => by
    by_cases h1 : n < 10
    · rw [digitsI_small n h1]; simp
    · rw [digitsI_great n h1, List.length_append]
      have := digitsI_len f (n / 10) (by rw [Nat.pow_succ] at h; omega)
      simp; omega

def hd (k : Nat) : Pu.Str := if k < 10 then [] else digitsI (k / 10)
theorem digitsI_hd (k : Nat) : digitsI k = hd k ++ [UInt8.ofNat (48 + k % 10)] := by
  unfold hd
  split
  · rw [digitsI_small k (by assumption), Nat.mod_eq_of_lt (by assumption)]; rfl
  · rw [digitsI_great k (by assumption)]

theorem str1 (c : Nat) : strOfNums [48 + (c : Int) % 10] = ⟨[UInt8.ofNat (48 + c % 10)].toArray⟩ := by
  unfold strOfNums
  have : (48 + (c : Int) % 10).toNat = 48 + c % 10 := by omega
  simp [this]

set_option maxRecDepth 100000 in
set_option maxHeartbeats 800000 in
theorem digits_any (n : Nat) (w : World) (hn : n ≤ 1000000) :
    Calls Tryz.prog 17 #[.int .i64 n] w fun e w' => e = .returned (.string ⟨(digitsI n).toArray⟩) ∧ Below w.heap.size w w' := by
  have hcv := conv1
  have hlen := digitsI_len 7 n (by omega)
  have hsz : ∀ c : Int, (strOfNums [c]).size = 1 := fun _ => rfl
  go_enter Tryz.func17, Tryz.ntmps17
  go_wp2
  go_loopw [0, 3] (fun a s wr => ∃ (k : Nat) (t : ByteArray), a = .int .i64 k ∧ k ≤ 1000000 ∧ s = .string t ∧ digitsI n = hd k ++ t.data.toList ∧ Below w.heap.size w wr) (fun a _ _ => (intOf a).toNat)
  case atStart =>
    exact ⟨n, _, rfl, hn, rfl, by rw [str1, digitsI_hd n], (Below.refl _ _).alloc (Nat.le_refl _) _⟩
  case round =>
    obtain ⟨k, t, rfl, hk, rfl, hd1, hb⟩ := hrel
    have H := hide hd1
    have hts : t.size ≤ 8 := by
      have := congrArg List.length hd1
      rw [List.length_append, Pu.len_eq] at this
      omega
    clear hd1
    by_cases h10 : k < 10
    · have hfin : Hid (digitsI n = t.data.toList) := by
        rw [unhide H, hd, if_pos h10]; rfl
      go_wp2
      go_ret
      refine ⟨?_, hb⟩
      rw [unhide hfin]
      rfl
    · have hgt : (10 : Int) ≤ k := by omega
      have hstep : digitsI n = hd (k / 10) ++ (UInt8.ofNat (48 + k / 10 % 10) :: t.data.toList) := by
        rw [unhide H, hd, if_neg h10, digitsI_hd (k / 10)]; simp
      have Hs := hide hstep
      clear hstep
      go_wp2
      go_roundw
      case rel =>
        refine ⟨k / 10, _, by go_num, by omega, rfl, ?_, hb.trans ((Below.refl _ _).alloc hb.size _)⟩
        rw [unhide Hs, show ((k : Int) / 10) = ((k / 10 : Nat) : Int) from by omega, str1 (k / 10)]
        simp
      case measure => simp [intOf]; omega

set_option maxRecDepth 100000 in
set_option maxHeartbeats 800000 in
theorem host_any (n : Nat) (w : World) (hn : n ≤ 1000000) :
    Calls Tryz.prog 21 #[.int .i64 n] w fun e w' => e = .returned (.string ⟨(104 :: digitsI n).toArray⟩) ∧ Below w.heap.size w w' := by
  have hlen := digitsI_len 7 n (by omega)
  have hsz : (⟨(digitsI n).toArray⟩ : ByteArray).size ≤ 8 := by simpa [ByteArray.size] using hlen
  go_enter Tryz.func21, Tryz.ntmps21
  go_wp2_with (go_at_call 17; refine (digits_any n w hn).mono ?_; rintro e w' ⟨rfl, hb⟩)
  go_ret
  exact ⟨ret_str (by simp), hb⟩
end Kc
end Go.Proofs.YtjkllohiodfikaaGreatDoor
