/- Frames as they come and as they go: what their sums and their readers say of them. -/
import Derived.Test.YtkkpahmoljiepaaGreatDoorJ18
import Derived.Test.YtkkpahmoljiepaaGreatDoorJ25
import Derived.Test.YtkkpahmoljiepaaGreatDoorJ17
import Derived.Deep.RegionHeld
set_option linter.unusedSimpArgs false
set_option linter.unusedVariables false
namespace Go.Proofs.YtkkpahmoljiepaaGreatDoor
open Go.RowKit
open Pu (Str hide unhide)

namespace Hh
open Ka Kc Wa Wb Wc Wl Wm Ha He
open Xb (hilo)

def mine : Str := [2, 109, 121, 109, 97, 99]
def yours : Str := [2, 121, 111, 117, 114, 115]
def ipMe : Str := [10, 0, 0, 1]
def ipYou : Str := [10, 0, 0, 99]
/-- a packet's header as it comes, n bytes behind it. -/
def ipA (n : Nat) : Str := [69, 0, hi (20 + n), lo (20 + n), 0, 0, 0, 0, 9, 17]
def ipK (n : Nat) : Nat := 65535 - fold (ws true (ipA n ++ ipYou ++ ipMe))
def ipH (n : Nat) : Str := ipA n ++ [hi (ipK n), lo (ipK n)] ++ ipYou ++ ipMe
/-- a datagram as it comes: ahead of its sum; its sum. -/
def udI (p : Nat) (m : Str) : Str := [hi p, lo p, 0, 53, hi (8 + m.length), lo (8 + m.length)]
def ckI (ck : Bool) (p : Nat) (m : Str) : Nat :=
  if ck = true then (if 65535 - fold (ws true (ipYou ++ ipMe ++ [0, 17] ++ [hi (8 + m.length), lo (8 + m.length)] ++ udI p m ++ m)) = 0 then 65535 else 65535 - fold (ws true (ipYou ++ ipMe ++ [0, 17] ++ [hi (8 + m.length), lo (8 + m.length)] ++ udI p m ++ m))) else 0
def dgI (p : Nat) (m : Str) (k : Nat) : Str := udI p m ++ [hi k, lo k] ++ m
def frI (m : Str) (p : Nat) (ck : Bool) : Str := mine ++ yours ++ [8, 0] ++ ipH (8 + m.length) ++ dgI p m (ckI ck p m)
/-- a frame that goes back. -/
def frO (m : Str) (p : Nat) : Str := yours ++ mine ++ [8, 0] ++ ipO ipMe ipYou (udO ipMe ipYou 53 p m)

theorem ws_two (k : Nat) (h : k < 65536) : ws true [hi k, lo k] = k := by
  have := hilo k h
  simp [ws]; omega
theorem ckI_lt (ck : Bool) (p : Nat) (m : Str) : ckI ck p m < 65536 := by
  unfold ckI; split
  · split <;> omega
  · omega
theorem ws_pos (s t : Str) (h : 0 < s.length) (h0 : 0 < s[0].toNat) : 0 < ws true (s ++ t) := by
  cases s with
  | nil => simp at h
  | cons a s =>
    simp at h0
    simp [ws]; omega

/-- with its sum in it, it adds up to what is right. -/
theorem put_sum (x y : Str) (k : Nat) (hx : x.length % 2 = 0) (hk : k < 65536) (h0 : 0 < ws true (x ++ y)) (h : k = 65535 - fold (ws true (x ++ y)) ∨ (k = 65535 ∧ fold (ws true (x ++ y)) = 65535)) :
    fold (ws true (x ++ [hi k, lo k] ++ y)) = 65535 := by
  have e : ws true (x ++ [hi k, lo k] ++ y) = ws true (x ++ y) + k := by
    rw [List.append_assoc, ws_even _ _ _ hx, ws_even _ _ _ (by simp), ws_two k hk, ws_even _ _ _ hx]; omega
  rw [e]
  exact fold_check _ _ h0 h

theorem dgI_len (p : Nat) (m : Str) (k : Nat) : (dgI p m k).length = 8 + m.length := by simp [dgI, udI]; omega
theorem sum_in (ck : Bool) (p : Nat) (m : Str) : ckI ck p m = 0 ∨ uSum ipYou ipMe (dgI p m (ckI ck p m)) = 65535 := by
  cases ck with
  | false => exact .inl rfl
  | true =>
    right
    unfold uSum
    rw [dgI_len]
    have e : ipYou ++ ipMe ++ [0, 17, hi (8 + m.length), lo (8 + m.length)] ++ dgI p m (ckI true p m) = (ipYou ++ ipMe ++ [0, 17] ++ [hi (8 + m.length), lo (8 + m.length)] ++ udI p m) ++ [hi (ckI true p m), lo (ckI true p m)] ++ m := by
      simp [dgI]
    rw [e]
    refine put_sum _ _ _ (by simp [udI, ipYou, ipMe]) (ckI_lt _ _ _) ?_ ?_
    · simp only [List.append_assoc]
      exact ws_pos ipYou _ (by simp [ipYou]) (by decide)
    · unfold ckI
      rw [if_pos rfl]
      have := fold_le (ws true (ipYou ++ ipMe ++ [0, 17] ++ [hi (8 + m.length), lo (8 + m.length)] ++ udI p m ++ m))
      split
      · right; exact ⟨rfl, by omega⟩
      · left; rfl
theorem sum_ipH (n : Nat) : fold (ws true (ipH n)) = 65535 := by
  unfold ipH
  have e : ipA n ++ [hi (ipK n), lo (ipK n)] ++ ipYou ++ ipMe = ipA n ++ [hi (ipK n), lo (ipK n)] ++ (ipYou ++ ipMe) := by simp
  rw [e]
  refine put_sum _ _ _ (by simp [ipA]) (by unfold ipK; omega) (ws_pos _ _ (by simp [ipA]) (by simp [ipA])) (.inl ?_)
  unfold ipK
  rw [List.append_assoc]
theorem udC_lt (a b : Str) (sp dp : Nat) (m : Str) : udC a b sp dp m < 65536 ∧ 0 < udC a b sp dp m := by
  unfold udC; split <;> omega
theorem sum_ipO (r : Str) : fold (ws true (ipOA r.length ++ [hi (ipOC ipMe ipYou r.length), lo (ipOC ipMe ipYou r.length)] ++ ipMe ++ ipYou)) = 65535 := by
  rw [List.append_assoc]
  refine put_sum _ _ _ (by simp [ipOA]) (by unfold ipOC; omega) (ws_pos _ _ (by simp [ipOA]) (by simp [ipOA])) (.inl ?_)
  unfold ipOC
  rw [List.append_assoc]
theorem udO_len (a b : Str) (sp dp : Nat) (m : Str) : (udO a b sp dp m).length = 8 + m.length := by simp [udO, udA]; omega
theorem sum_udO (p : Nat) (m : Str) : fold (ws true (ipMe ++ ipYou ++ [0, 17] ++ [hi (8 + m.length), lo (8 + m.length)] ++ udO ipMe ipYou 53 p m)) = 65535 := by
  have e : ipMe ++ ipYou ++ [0, 17] ++ [hi (8 + m.length), lo (8 + m.length)] ++ udO ipMe ipYou 53 p m = (ipMe ++ ipYou ++ [0, 17] ++ [hi (8 + m.length), lo (8 + m.length)] ++ udA 53 p m) ++ [hi (udC ipMe ipYou 53 p m), lo (udC ipMe ipYou 53 p m)] ++ m := by simp [udO]
  rw [e]
  have e2 : ws true (ipMe ++ ipYou ++ [0, 17] ++ [hi (8 + m.length), lo (8 + m.length)] ++ udA 53 p m ++ m) = ws true (ipMe ++ ipYou ++ [0, 17, hi (udA 53 p m ++ [0, 0] ++ m).length, lo (udA 53 p m ++ [0, 0] ++ m).length] ++ (udA 53 p m ++ [0, 0] ++ m)) := by
    have l : (udA 53 p m ++ [0, 0] ++ m).length = 8 + m.length := by simp [udA]; omega
    rw [l]
    have a1 : ipMe ++ ipYou ++ [0, 17] ++ [hi (8 + m.length), lo (8 + m.length)] ++ udA 53 p m ++ m = (ipMe ++ ipYou ++ [0, 17, hi (8 + m.length), lo (8 + m.length)] ++ udA 53 p m) ++ m := by simp
    have a2 : ipMe ++ ipYou ++ [0, 17, hi (8 + m.length), lo (8 + m.length)] ++ (udA 53 p m ++ [0, 0] ++ m) = (ipMe ++ ipYou ++ [0, 17, hi (8 + m.length), lo (8 + m.length)] ++ udA 53 p m) ++ ([0, 0] ++ m) := by simp
    rw [a1, a2, ws_even _ _ _ (by simp [udA, ipMe, ipYou]), ws_even _ _ ([0, 0] ++ m) (by simp [udA, ipMe, ipYou]), ws_even _ [0, 0] _ (by simp)]
    simp [ws]
  refine put_sum _ _ _ (by simp [udA, ipYou, ipMe]) (udC_lt _ _ _ _ _).1 ?_ ?_
  · simp only [List.append_assoc]
    exact ws_pos ipMe _ (by simp [ipMe]) (by decide)
  · rw [e2]
    have := fold_le (ws true (ipMe ++ ipYou ++ [0, 17, hi (udA 53 p m ++ [0, 0] ++ m).length, lo (udA 53 p m ++ [0, 0] ++ m).length] ++ (udA 53 p m ++ [0, 0] ++ m)))
    unfold udC uSum
    split
    · right; exact ⟨rfl, by omega⟩
    · left; rfl

/-- a bit turned. -/
def flip (s : Str) (i b : Nat) : Str := s.take i ++ [s[i]! ^^^ UInt8.ofNat (1 <<< b)] ++ s.drop (i + 1)
theorem flips_ip : ∀ i, i < 20 → ∀ b, b < 8 → fold (ws true (flip (ipH 42) i b)) ≠ 65535 := by decide +kernel
theorem flips_to : ∀ i, i < 6 → ∀ b, b < 8 → flip mine i b ≠ mine ∧ flip mine i b ≠ [255, 255, 255, 255, 255, 255] := by decide +kernel
theorem flips_kind : ∀ i, i < 2 → ∀ b, b < 8 → (flip [8, 0] i b)[0]!.toNat * 256 + (flip [8, 0] i b)[1]!.toNat ≠ 2048 ∧ (flip [8, 0] i b)[0]!.toNat * 256 + (flip [8, 0] i b)[1]!.toNat ≠ 2054 := by decide +kernel
theorem flips_port : ∀ i, i < 2 → ∀ b, b < 8 → (flip [0, 53] i b)[0]!.toNat * 256 + (flip [0, 53] i b)[1]!.toNat ≠ 53 := by decide +kernel
theorem flip_len (s : Str) (i b : Nat) (h : i < s.length) : (flip s i b).length = s.length := by simp [flip]; omega
/-- a bit turned in the middle of three. -/
theorem flip_mid (x y z : Str) (i b : Nat) (h1 : x.length ≤ i) (h2 : i < x.length + y.length) : flip (x ++ y ++ z) i b = x ++ flip y (i - x.length) b ++ z := by
  obtain ⟨j, rfl⟩ : ∃ j, i = x.length + j := ⟨i - x.length, by omega⟩
  have hj : j < y.length := by omega
  unfold flip
  rw [Nat.add_sub_cancel_left]
  have e0 : (x ++ y ++ z)[x.length + j]! = y[j]! := by
    rw [getElem!_pos (x ++ y ++ z) (x.length + j) (by simp; omega), getElem!_pos y j hj]
    simp [hj]
  rw [e0, List.append_assoc x y z, List.take_append, List.drop_append]
  rw [List.take_of_length_le (by omega), show x.length + j - x.length = j by omega, show x.length + j + 1 - x.length = j + 1 by omega, List.drop_of_length_le (by omega), List.take_append_of_le_length (by omega), List.drop_append_of_le_length (by omega)]
  simp
end Hh
end Go.Proofs.YtkkpahmoljiepaaGreatDoor

/- Contracts: beaconkeep's sum, frame, right. -/
namespace Go.Proofs.YtkkpahmoljiepaaGreatDoor
open Go.RowKit
open Pu (Str hide unhide)

namespace Hk
open Ka Kc Kd Wa Wb Wd We Wi Wl Wm Vb Ha Hb He Hh

set_option maxRecDepth 100000 in
set_option maxHeartbeats 3200000 in
theorem sum_keep (l : Str) (w : World) (hl : l.length ≤ 100000) :
    Calls Tryz.prog 86 #[.string (B l)] w fun e w' => e = .returned (.int .i64 (fold (ws true l))) ∧ Below w.heap.size w w' := by
  have hs : (B l).size = l.length := size_B l
  go_enter Tryz.func86, Tryz.ntmps86
  by_cases he : l.length % 2 = 1
  · have he' : (l.length : Int) % 2 = 1 := by omega
    obtain ⟨L, hL⟩ : ∃ L, L = l ++ [0] := ⟨_, rfl⟩
    have hLl : L.length = l.length + 1 := by rw [hL]; simp
    have hLz : (B L).size = L.length := size_B L
    have hB : B l ++ ⟨#[0]⟩ = B L := by rw [hL]; exact ba_ext (by simp [B])
    have HW : Hid (ws true L = ws true l) := by rw [Hid, hL, ws_append]; cases par true l.length <;> simp [ws]
    have hLe : L.length % 2 = 0 := by omega
    have hLm : L.length ≤ 1000000 := by omega
    clear hL
    go_wp2_with fail
    have HLE := hide hLe
    clear he he' hLe
    go_loopw [3, 4] (fun t i wr => ∃ k : Nat, t = .int .i64 (fold (ws true (L.take k)) : Nat) ∧ i = .int .i64 k ∧ k % 2 = 0 ∧ k ≤ L.length ∧ Below w.heap.size w wr) (fun _ i _ => L.length - (intOf i).toNat)
    case atStart => exact ⟨0, rfl, rfl, rfl, Nat.zero_le _, Below.refl _ _⟩
    case round =>
      obtain ⟨k, rfl, rfl, hk2, hk, hb⟩ := hrel
      have HB := hide hb
      have hsz := hb.size
      clear hb
      by_cases hlk : k < L.length
      · have hk1 : k + 1 < L.length := by have := unhide HLE; omega
        have HA := hide (at_any L k wr hk1 (by omega))
        have HE := hide (ws_take2 L k hk1 hk2)
        have c1 := UInt8.toNat_lt L[k]
        have c2 := UInt8.toNat_lt L[k + 1]
        have hx : 256 * L[k].toNat + L[k + 1].toNat ≤ 65535 := by omega
        clear c1 c2
        generalize 256 * L[k].toNat + L[k + 1].toNat = x at *
        have HS := hide (fold_step (ws true (L.take k)) x hx)
        have hfl := fold_le (ws true (L.take k))
        rw [← unhide HE] at HS
        generalize fold (ws true (L.take k)) = f at *
        have HX : Hid (((f : Int) + (x : Int)) % 65536 + ((f : Int) + (x : Int)) / 65536 = ((fold (ws true (L.take (k + 2))) : Nat) : Int)) := by
          have := unhide HS
          rw [Hid]; omega
        go_wp2_with fail
        refine (unhide HA).mono ?_
        rintro e w2 ⟨rfl, hb2⟩
        have HB2 := hide ((unhide HB).trans (hb2.mono hsz))
        clear hb2 HA HB
        go_wp2_with fail
        rw [unhide HX]
        exact ⟨⟨k + 2, rfl, by go_num, by omega, by omega, unhide HB2⟩, by simp [intOf]; omega⟩
      · have hkl : k = L.length := by omega
        subst hkl
        have HE := hide (congrArg (fun x => fold (ws true x)) (List.take_length (l := L)))
        generalize fold (ws true (L.take L.length)) = f at *
        have HW2 : Hid (f = fold (ws true l)) := (unhide HE).trans (congrArg fold (unhide HW))
        clear HE HW
        go_wp2
        go_ret
        refine ⟨?_, unhide HB⟩
        rw [unhide HW2]; rfl
  · have he' : ¬ (l.length : Int) % 2 = 1 := by omega
    obtain ⟨L, hL⟩ : ∃ L, L = l := ⟨_, rfl⟩
    have HW : Hid (ws true L = ws true l) := by rw [Hid, hL]
    subst hL
    have hLe : L.length % 2 = 0 := by omega
    have hLm : L.length ≤ 1000000 := by omega
    go_wp2_with fail
    have HLE := hide hLe
    clear he he' hLe
    go_loopw [3, 4] (fun t i wr => ∃ k : Nat, t = .int .i64 (fold (ws true (L.take k)) : Nat) ∧ i = .int .i64 k ∧ k % 2 = 0 ∧ k ≤ L.length ∧ Below w.heap.size w wr) (fun _ i _ => L.length - (intOf i).toNat)
    case atStart => exact ⟨0, rfl, rfl, rfl, Nat.zero_le _, Below.refl _ _⟩
    case round =>
      obtain ⟨k, rfl, rfl, hk2, hk, hb⟩ := hrel
      have HB := hide hb
      have hsz := hb.size
      clear hb
      by_cases hlk : k < L.length
      · have hk1 : k + 1 < L.length := by have := unhide HLE; omega
        have HA := hide (at_any L k wr hk1 (by omega))
        have HE := hide (ws_take2 L k hk1 hk2)
        have c1 := UInt8.toNat_lt L[k]
        have c2 := UInt8.toNat_lt L[k + 1]
        have hx : 256 * L[k].toNat + L[k + 1].toNat ≤ 65535 := by omega
        clear c1 c2
        generalize 256 * L[k].toNat + L[k + 1].toNat = x at *
        have HS := hide (fold_step (ws true (L.take k)) x hx)
        have hfl := fold_le (ws true (L.take k))
        rw [← unhide HE] at HS
        generalize fold (ws true (L.take k)) = f at *
        have HX : Hid (((f : Int) + (x : Int)) % 65536 + ((f : Int) + (x : Int)) / 65536 = ((fold (ws true (L.take (k + 2))) : Nat) : Int)) := by
          have := unhide HS
          rw [Hid]; omega
        go_wp2_with fail
        refine (unhide HA).mono ?_
        rintro e w2 ⟨rfl, hb2⟩
        have HB2 := hide ((unhide HB).trans (hb2.mono hsz))
        clear hb2 HA HB
        go_wp2_with fail
        rw [unhide HX]
        exact ⟨⟨k + 2, rfl, by go_num, by omega, by omega, unhide HB2⟩, by simp [intOf]; omega⟩
      · have hkl : k = L.length := by omega
        subst hkl
        have HE := hide (congrArg (fun x => fold (ws true x)) (List.take_length (l := L)))
        generalize fold (ws true (L.take L.length)) = f at *
        have HW2 : Hid (f = fold (ws true L)) := unhide HE
        clear HE HW
        go_wp2
        go_ret
        refine ⟨?_, unhide HB⟩
        rw [unhide HW2]; rfl

/-- a part of a text. -/
theorem B_part (s : Str) (i j : Nat) : (B s).extract i j = B ((s.drop i).take (j - i)) := by
  apply ByteArray.ext
  simp [B, ByteArray.data_extract, List.extract_eq_take_drop]

set_option maxRecDepth 100000 in
set_option maxHeartbeats 3200000 in
theorem frame_any (m : Str) (p : Nat) (ck : Bool) (w : World) (hm : m.length ≤ 60000) (hp : p < 65536) :
    Calls Tryz.prog 39 #[.string (B m), .int .i64 p, .bool ck] w fun e w' => e = .returned (.string (B (frI m p ck))) ∧ Below w.heap.size w w' := by
  have hz : (B m).size = m.length := size_B m
  obtain ⟨n, hn⟩ : ∃ n, n = 8 + m.length := ⟨_, rfl⟩
  have kn : (8 : Int) + (m.length : Int) = (n : Int) := by omega
  obtain ⟨N, hN⟩ : ∃ N, N = 20 + n := ⟨_, rfl⟩
  have kn2 : (20 : Int) + (n : Int) = (N : Int) := by omega
  have HT20 := hide (fun W => two_any N W (by omega))
  have HTn := hide (fun W => two_any n W (by omega))
  have HTp := hide (fun W => two_any p W hp)
  have HTk := hide (fun W => two_any (ipK n) W (by unfold ipK; omega))
  have HTc := hide (fun W => two_any (ckI ck p m) W (ckI_lt _ _ _))
  have HS1 := hide (fun W => sum_keep (ipA n ++ ipYou ++ ipMe) W (by simp [ipA, ipYou, ipMe]))
  have HS2 := hide (fun W => sum_keep (ipYou ++ ipMe ++ [0, 17] ++ [hi n, lo n] ++ udI p m ++ m) W (by simp [udI, ipYou, ipMe]; omega))
  have HCK : Hid (ckI ck p m = if ck = true then (if 65535 - fold (ws true (ipYou ++ ipMe ++ [0, 17] ++ [hi n, lo n] ++ udI p m ++ m)) = 0 then 65535 else 65535 - fold (ws true (ipYou ++ ipMe ++ [0, 17] ++ [hi n, lo n] ++ udI p m ++ m))) else 0) := by rw [Hid, hn]; rfl
  have HFR : Hid (frI m p ck = mine ++ yours ++ [8, 0] ++ ipH n ++ dgI p m (ckI ck p m)) := by rw [Hid, hn]; rfl
  have HUD : Hid (udI p m = [hi p, lo p, 0, 53, hi n, lo n]) := by rw [Hid, hn]; rfl
  have hKn : ipK n = 65535 - fold (ws true (ipA n ++ ipYou ++ ipMe)) := rfl
  have hf1 := fold_le (ws true (ipA n ++ ipYou ++ ipMe))
  have hf2 := fold_le (ws true (ipYou ++ ipMe ++ [0, 17] ++ [hi n, lo n] ++ udI p m ++ m))
  generalize fold (ws true (ipA n ++ ipYou ++ ipMe)) = f1 at *
  generalize fold (ws true (ipYou ++ ipMe ++ [0, 17] ++ [hi n, lo n] ++ udI p m ++ m)) = f2 at *
  have kk : (65535 : Int) - (f1 : Int) = (ipK n : Nat) := by omega
  have s1 : (B [hi N, lo N]).size = 2 := rfl
  have s2 : (B [hi n, lo n]).size = 2 := rfl
  have s3 : (B [hi p, lo p]).size = 2 := rfl
  have s4 : (B [hi (ipK n), lo (ipK n)]).size = 2 := rfl
  have s5 : (B [hi (ckI ck p m), lo (ckI ck p m)]).size = 2 := rfl
  have E1 : (⟨#[69, 0]⟩ ++ B [hi N, lo N] ++ ⟨#[0, 0, 0, 0, 9, 17]⟩ : ByteArray) = B (ipA n) := by rw [hN]; exact ba_ext (by simp [B, ipA])
  have E2 : (B (ipA n) ++ ⟨#[10, 0, 0, 99]⟩ ++ ⟨#[10, 0, 0, 1]⟩ : ByteArray) = B (ipA n ++ ipYou ++ ipMe) := ba_ext (by simp [B, ipYou, ipMe])
  have E3 : (B (ipA n) ++ B [hi (ipK n), lo (ipK n)] ++ ⟨#[10, 0, 0, 99]⟩ ++ ⟨#[10, 0, 0, 1]⟩ : ByteArray) = B (ipH n) := ba_ext (by simp [B, ipH, ipYou, ipMe])
  have E4 : (B [hi p, lo p] ++ ⟨#[0, 53]⟩ ++ B [hi n, lo n] : ByteArray) = B (udI p m) := by rw [unhide HUD]; exact ba_ext (by simp [B])
  have E5 : (⟨#[10, 0, 0, 99, 10, 0, 0, 1, 0, 17]⟩ ++ B [hi n, lo n] ++ B (udI p m) ++ B m : ByteArray) = B (ipYou ++ ipMe ++ [0, 17] ++ [hi n, lo n] ++ udI p m ++ m) := ba_ext (by simp [B, ipYou, ipMe])
  have E6 : (⟨#[2, 109, 121, 109, 97, 99, 2, 121, 111, 117, 114, 115, 8, 0]⟩ ++ B (ipH n) ++ B (udI p m) ++ B [hi (ckI ck p m), lo (ckI ck p m)] ++ B m : ByteArray) = B (frI m p ck) := by rw [unhide HFR]; exact ba_ext (by simp [B, mine, yours, dgI])
  have z1 : (B (ipA n)).size = 10 := rfl
  have z2 : (B (ipH n)).size = 20 := rfl
  have z3 : (B (udI p m)).size = 6 := rfl
  generalize B [hi N, lo N] = t20 at *
  generalize B [hi n, lo n] = tn at *
  generalize B [hi p, lo p] = tp at *
  generalize B [hi (ipK n), lo (ipK n)] = tk at *
  generalize B [hi (ckI ck p m), lo (ckI ck p m)] = tc at *
  generalize B (ipA n ++ ipYou ++ ipMe) = x1 at *
  generalize B (ipYou ++ ipMe ++ [0, 17] ++ [hi n, lo n] ++ udI p m ++ m) = x2 at *
  generalize B (frI m p ck) = fr at *
  generalize B (ipA n) = bA at *
  generalize B (ipH n) = bH at *
  generalize B (udI p m) = bU at *
  generalize B m = bm at *
  generalize ckI ck p m = c at *
  generalize ipK n = kn' at *
  have hnb : n ≤ 60008 := by omega
  have hnB : N ≤ 60028 := by omega
  clear HFR HUD hKn hn hN
  go_enter Tryz.func39, Tryz.ntmps39
  go_wp2_with fail
  refine (unhide HT20 _).mono ?_
  rintro e w1 ⟨rfl, hB1⟩
  go_wp2_with fail
  refine (unhide HS1 _).mono ?_
  rintro e w2 ⟨rfl, hb⟩
  have hB2 := hB1.trans (hb.mono hB1.size)
  clear hb hB1
  go_wp2_with fail
  refine (unhide HTk _).mono ?_
  rintro e w3 ⟨rfl, hb⟩
  have hB3 := hB2.trans (hb.mono hB2.size)
  clear hb hB2
  go_wp2_with fail
  refine (unhide HTp _).mono ?_
  rintro e w4 ⟨rfl, hb⟩
  have hB4 := hB3.trans (hb.mono hB3.size)
  clear hb hB3
  go_wp2_with fail
  refine (unhide HTn _).mono ?_
  rintro e w5 ⟨rfl, hb⟩
  have hB5 := hB4.trans (hb.mono hB4.size)
  clear hb hB4
  have HB5 := hide hB5
  have hz5 := hB5.size
  clear hB5
  cases ck with
  | false =>
    obtain rfl : c = 0 := unhide HCK
    clear HCK
    go_wp2_with fail
    refine (unhide HTc _).mono ?_
    rintro e w6 ⟨rfl, hb⟩
    have HB6 := hide ((unhide HB5).trans (hb.mono hz5))
    clear hb
    go_wp2_with fail
    go_ret
    exact ⟨rfl, unhide HB6⟩
  | true =>
    go_wp2_with fail
    refine (unhide HTn _).mono ?_
    rintro e w6 ⟨rfl, hb⟩
    have HB6 := hide ((unhide HB5).trans (hb.mono hz5))
    have hz6 := (unhide HB6).size
    clear hb HB5 hz5
    go_wp2_with fail
    refine (unhide HS2 _).mono ?_
    rintro e w7 ⟨rfl, hb⟩
    have HB7 := hide ((unhide HB6).trans (hb.mono hz6))
    have hz7 := (unhide HB7).size
    clear hb HB6 hz6
    have hck : c = if 65535 - f2 = 0 then 65535 else 65535 - f2 := by simpa using unhide HCK
    by_cases h0 : f2 = 65535
    · subst h0
      obtain rfl : c = 65535 := hck
      clear HCK
      go_wp2_with fail
      refine (unhide HTc _).mono ?_
      rintro e w8 ⟨rfl, hb⟩
      have HB8 := hide ((unhide HB7).trans (hb.mono hz7))
      clear hb
      go_wp2_with fail
      go_ret
      exact ⟨rfl, unhide HB8⟩
    · rw [if_neg (by omega)] at hck
      have kc : (65535 : Int) - (f2 : Int) = (c : Int) := by omega
      have kc0 : ¬ (c : Int) = 0 := by omega
      clear hck HCK
      go_wp2_with fail
      refine (unhide HTc _).mono ?_
      rintro e w8 ⟨rfl, hb⟩
      have HB8 := hide ((unhide HB7).trans (hb.mono hz7))
      clear hb
      go_wp2_with fail
      go_ret
      exact ⟨rfl, unhide HB8⟩

/-- what right asks of a frame: it goes back to a port, and it carries a message. -/
structure RightP (s m : Str) (p : Nat) : Prop where
  len : s.length = 42 + m.length
  small : m.length ≤ 60000
  dst : s.take 14 = [2, 121, 111, 117, 114, 115, 2, 109, 121, 109, 97, 99, 8, 0]
  ip : fold (ws true ((s.drop 14).take 20)) = 65535
  ips : (s.drop 26).take 8 = [10, 0, 0, 1, 10, 0, 0, 99]
  size : ∀ (h : 17 < s.length), 256 * s[16].toNat + s[17].toNat = 28 + m.length
  sp : ∀ (h : 35 < s.length), 256 * s[34].toNat + s[35].toNat = 53
  dp : ∀ (h : 37 < s.length), 256 * s[36].toNat + s[37].toNat = p
  n : ∀ (h : 39 < s.length), 256 * s[38].toNat + s[39].toNat = 8 + m.length
  ck : ∀ (h : 41 < s.length), 256 * s[40].toNat + s[41].toNat ≠ 0
  msg : s.drop 42 = m
  udp : fold (ws true (ipMe ++ ipYou ++ [0, 17] ++ [hi (8 + m.length), lo (8 + m.length)] ++ s.drop 34)) = 65535

set_option maxRecDepth 100000 in
set_option maxHeartbeats 3200000 in
theorem right_any (s m : Str) (p : Nat) (w : World) (h : RightP s m p) (hp : p < 65536) :
    Calls Tryz.prog 40 #[.string (B s), .int .i64 p] w fun e w' => e = .returned (.tuple #[.string (B m), .bool true]) ∧ Below w.heap.size w w' := by
  have hz : (B s).size = s.length := size_B s
  have hlen := h.len
  have hsm := h.small
  have X1 : (B s).extract 0 14 = ⟨#[2, 121, 111, 117, 114, 115, 2, 109, 121, 109, 97, 99, 8, 0]⟩ := by rw [B_part, List.drop_zero, Nat.sub_zero, h.dst]; rfl
  have X2 : (B s).extract 14 34 = B ((s.drop 14).take 20) := B_part s 14 34
  have X3 : (B s).extract 26 34 = ⟨#[10, 0, 0, 1, 10, 0, 0, 99]⟩ := by rw [B_part, h.ips]; rfl
  have X4 : (B s).extract 42 s.length = B m := by rw [B_part, List.take_of_length_le (by simp), h.msg]
  have X5 : (B s).extract 34 s.length = B (s.drop 34) := by rw [B_part, List.take_of_length_le (by simp)]
  have l16 : 16 + 1 < s.length := by omega
  have l34 : 34 + 1 < s.length := by omega
  have l36 : 36 + 1 < s.length := by omega
  have l38 : 38 + 1 < s.length := by omega
  have l40 : 40 + 1 < s.length := by omega
  have lb : s.length ≤ 1000000 := by omega
  have H16 := hide (fun W => at_any s 16 W l16 lb)
  have H34 := hide (fun W => at_any s 34 W l34 lb)
  have H36 := hide (fun W => at_any s 36 W l36 lb)
  have H38 := hide (fun W => at_any s 38 W l38 lb)
  have H40 := hide (fun W => at_any s 40 W l40 lb)
  have c40 : 256 * s[40].toNat + s[40 + 1].toNat < 65536 := by have := UInt8.toNat_lt s[40]; have := UInt8.toNat_lt s[40 + 1]; omega
  have e16 := h.size l16
  have e34 := h.sp l34
  have e36 := h.dp l36
  have e38 := h.n l38
  have e40 := h.ck l40
  simp only [e16] at H16
  simp only [e34] at H34
  simp only [e36] at H36
  simp only [e38] at H38
  clear e16 e34 e36 e38
  change 256 * s[40].toNat + s[40 + 1].toNat ≠ 0 at e40
  generalize 256 * s[40].toNat + s[40 + 1].toNat = k at *
  obtain ⟨n, hn⟩ : ∃ n, n = 8 + m.length := ⟨_, rfl⟩
  obtain ⟨L, hL⟩ : ∃ L, L = s.length := ⟨_, rfl⟩
  have kn : (L : Int) - 34 = (n : Int) := by omega
  obtain ⟨N, hN⟩ : ∃ N, N = 20 + n := ⟨_, rfl⟩
  have kN : (20 : Int) + (n : Int) = (N : Int) := by omega
  rw [show 28 + m.length = N by omega] at H16
  rw [show 8 + m.length = n by omega] at H38
  have HS1 := hide (fun W => sum_keep ((s.drop 14).take 20) W (by simp; omega))
  rw [h.ip] at HS1
  have HT := hide (fun W => two_any n W (by omega))
  have X6 : (⟨#[10, 0, 0, 1, 10, 0, 0, 99, 0, 17]⟩ ++ B [hi n, lo n] ++ B (s.drop 34) : ByteArray) = B (ipMe ++ ipYou ++ [0, 17] ++ [hi n, lo n] ++ s.drop 34) := ba_ext (by simp [B, ipMe, ipYou])
  have HS2 := hide (fun W => sum_keep (ipMe ++ ipYou ++ [0, 17] ++ [hi n, lo n] ++ s.drop 34) W (by simp [ipMe, ipYou]; omega))
  have hu := h.udp
  rw [← hn] at hu
  rw [hu] at HS2
  have s2 : (B [hi n, lo n]).size = 2 := rfl
  have z5 : (B (s.drop 34)).size = n := by rw [size_B]; simp; omega
  generalize B (ipMe ++ ipYou ++ [0, 17] ++ [hi n, lo n] ++ s.drop 34) = x2 at *
  generalize B ((s.drop 14).take 20) = x1 at *
  generalize B (s.drop 34) = x3 at *
  generalize B [hi n, lo n] = tn at *
  rw [← hL] at hz X4 X5
  have hL42 : 42 ≤ L := by omega
  have hLb : L ≤ 70000 := by omega
  have hnb : n ≤ 60008 := by omega
  have hk0 : ¬ (k : Int) = 0 := by omega
  clear hu hlen hsm hn hN h hL e40 l16 l34 l36 l38 l40 lb
  generalize B s = bs at *
  generalize B m = bm at *
  go_enter Tryz.func40, Tryz.ntmps40
  go_wp2_with fail
  refine (unhide HS1 _).mono ?_
  rintro e w1 ⟨rfl, hB1⟩
  go_wp2_with fail
  refine (unhide H16 _).mono ?_
  rintro e w2 ⟨rfl, hb⟩
  have hB2 := hB1.trans (hb.mono hB1.size)
  clear hb hB1
  go_wp2_with fail
  refine (unhide H34 _).mono ?_
  rintro e w3 ⟨rfl, hb⟩
  have hB3 := hB2.trans (hb.mono hB2.size)
  clear hb hB2
  go_wp2_with fail
  refine (unhide H36 _).mono ?_
  rintro e w4 ⟨rfl, hb⟩
  have hB4 := hB3.trans (hb.mono hB3.size)
  clear hb hB3
  go_wp2_with fail
  refine (unhide H38 _).mono ?_
  rintro e w5 ⟨rfl, hb⟩
  have hB5 := hB4.trans (hb.mono hB4.size)
  clear hb hB4
  go_wp2_with fail
  refine (unhide H40 _).mono ?_
  rintro e w6 ⟨rfl, hb⟩
  have hB6 := hB5.trans (hb.mono hB5.size)
  clear hb hB5
  have HTH : Hid (∀ W, Below w.heap.size w W → Calls Tryz.prog 33 #[.int .i64 n] W fun e w' => e = .returned (.string tn) ∧ Below w.heap.size w w') := fun W hW => by
    refine (unhide HT W).mono ?_
    rintro e w' ⟨rfl, hb⟩
    exact ⟨rfl, hW.trans (hb.mono hW.size)⟩
  have HSH : Hid (∀ W, Below w.heap.size w W → Calls Tryz.prog 86 #[.string x2] W fun e w' => e = .returned (.int .i64 65535) ∧ Below w.heap.size w w') := fun W hW => by
    refine (unhide HS2 W).mono ?_
    rintro e w' ⟨rfl, hb⟩
    exact ⟨rfl, hW.trans (hb.mono hW.size)⟩
  have hB7 : Below w.heap.size w w6.drew := hB6.drew
  clear HT HS1 HS2 H16 H34 H36 H38 H40 hB6
  go_wp2_with fail
  go_region_held (fun w' => Below w.heap.size w w') (first | assumption | go_keep)
    (first
      | (go_at_call 33; go_loud (refine (unhide HTH _ ?_).mono ?_; assumption; rintro e w' ⟨rfl, hq⟩))
      | (go_at_call 86; go_loud (refine (unhide HSH _ ?_).mono ?_; assumption; rintro e w' ⟨rfl, hq⟩)))
  all_goals
    rename_i hH
    have HFIN := hide hH
    clear hH
    go_wp2_with fail
    refine bodyPost_ret (v := .tuple #[.string bm, .bool true]) ?_ rfl ?_
    · simp [results, Tryz.results40, go_sem]
    · exact ⟨rfl, unhide HFIN⟩
end Hk
end Go.Proofs.YtkkpahmoljiepaaGreatDoor
