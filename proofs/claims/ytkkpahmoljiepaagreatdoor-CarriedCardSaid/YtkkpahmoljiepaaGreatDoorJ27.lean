/- Frames: what Handle answers to one that is right, to one with a bit turned, to one that is cut short. -/
import Derived.Test.YtkkpahmoljiepaaGreatDoorJ20
import Derived.Test.YtkkpahmoljiepaaGreatDoorJ26
import Derived.Test.YtkkpahmoljiepaaGreatDoorJ17
import Derived.Test.YtkkpahmoljiepaaGreatDoorJ25
set_option linter.unusedSimpArgs false
set_option linter.unusedVariables false
namespace Go.Proofs.YtkkpahmoljiepaaGreatDoor
open Go.RowKit
open Pu (Str hide unhide)

namespace Hm
open Ka Kc Wa Wb Wc Wd We Wl Wm Ha Hb Hc Hd He Hf Hg Hh Hk
open Xb (hilo)

theorem takP_app (x y : Str) (br : Bool) (n : Nat) (h : n = x.length) : takP (x ++ y) br n = (x, y, br) := by
  subst h
  unfold takP
  rw [if_pos (by simp)]
  simp
theorem readFrame_at (x y : Str) (c d : UInt8) (r : Str) (w : World) (hx : x.length = 6) (hy : y.length = 6) (hr : r.length ≤ 1000000) :
    Calls Tryz.prog 79 #[.string (B (x ++ (y ++ (c :: d :: r))))] w fun e w' => e = .returned (.tuple #[frm x y (c.toNat * 256 + d.toNat) r, .bool true]) ∧ Below w.heap.size w w' :=
  readFrame_any _ w (by simp; omega) (takP_app x _ false 6 hx.symm) (takP_app y _ false 6 hy.symm) (shortP_cons c d r false)
theorem short_cut (s : Str) (br : Bool) (h : s.length < 2) : ∃ k s', shortP s br = (k, s', true) := by
  match s, h with
  | [], _ => exact ⟨0, [], by simp [shortP, octP]⟩
  | [x], _ => exact ⟨x.toNat * 256, [], by simp [shortP, octP]⟩
theorem readFrame_cut (s : Str) (h : s.length < 14) : ∃ a b k r, ∀ w, Calls Tryz.prog 79 #[.string (B s)] w fun e w' => e = .returned (.tuple #[frm a b k r, .bool false]) ∧ Below w.heap.size w w' := by
  by_cases h6 : 6 ≤ s.length
  · by_cases h12 : 6 ≤ (s.drop 6).length
    · obtain ⟨k, s', hk⟩ := short_cut ((s.drop 6).drop 6) false (by simp; omega)
      exact ⟨_, _, k, s', fun w => readFrame_any s w (by omega) (by unfold takP; rw [if_pos h6]) (by unfold takP; rw [if_pos h12]) hk⟩
    · obtain ⟨k, s', hk⟩ := short_cut [] true (by simp)
      exact ⟨_, _, k, s', fun w => readFrame_any s w (by omega) (by unfold takP; rw [if_pos h6]) (by unfold takP; rw [if_neg h12]) hk⟩
  · obtain ⟨k, s', hk⟩ := short_cut [] true (by simp)
    exact ⟨_, _, k, s', fun w => readFrame_any s w (by omega) (by unfold takP; rw [if_neg h6]) (by unfold takP; rw [if_neg (by simp)]) hk⟩

theorem len20 {h : Str} (hh : h.length = 20) : ∃ b0 b1 b2 b3 b4 b5 b6 b7 b8 b9 b10 b11 b12 b13 b14 b15 b16 b17 b18 b19, h = [b0, b1, b2, b3, b4, b5, b6, b7, b8, b9, b10, b11, b12, b13, b14, b15, b16, b17, b18, b19] := by
  match h, hh with
  | [b0, b1, b2, b3, b4, b5, b6, b7, b8, b9, b10, b11, b12, b13, b14, b15, b16, b17, b18, b19], _ => exact ⟨b0, b1, b2, b3, b4, b5, b6, b7, b8, b9, b10, b11, b12, b13, b14, b15, b16, b17, b18, b19, rfl⟩
/-- a header whose sum is not right. -/
theorem readPacket_sum (h t : Str) (w : World) (hh : h.length = 20) (ht : t.length ≤ 1000000) (hs : fold (ws true h) ≠ 65535) :
    Calls Tryz.prog 210 #[.string (B (h ++ t))] w fun e w' => (∃ x0 x1 x2 : Str, e = .returned (.tuple #[pkt x0 x1 x2, .bool false])) ∧ Below w.heap.size w w' := by
  obtain ⟨b0, b1, b2, b3, b4, b5, b6, b7, b8, b9, b10, b11, b12, b13, b14, b15, b16, b17, b18, b19, rfl⟩ := len20 hh
  refine (readPacket_20 b0 b1 b2 b3 b4 b5 b6 b7 b8 b9 b10 b11 b12 b13 b14 b15 b16 b17 b18 b19 t w ht _ _ _ rfl rfl rfl _ rfl).mono ?_
  rintro e w' ⟨hp, hb⟩
  refine ⟨?_, hb⟩
  unfold PkPost at hp
  rw [if_pos (.inr hs)] at hp
  exact ⟨[], [], [], hp⟩
theorem hi_lo (n : Nat) (h : n < 65536) : n = (hi n).toNat * 256 + (lo n).toNat := (hilo n h).symm
/-- a packet as it comes, whole. -/
theorem readPacket_in (n : Nat) (t : Str) (w : World) (hn : 8 ≤ n) (hn2 : n ≤ 60000) (ht : t.length = n) :
    Calls Tryz.prog 210 #[.string (B (ipH n ++ t))] w fun e w' => e = .returned (.tuple #[pkt ipYou ipMe t, .bool true]) ∧ Below w.heap.size w w' := by
  refine (readPacket_20 69 0 (hi (20 + n)) (lo (20 + n)) 0 0 0 0 9 17 (hi (ipK n)) (lo (ipK n)) 10 0 0 99 10 0 0 1 t w (by omega) (20 + n) 0 65535 (hi_lo _ (by omega)) rfl (sum_ipH n).symm true rfl).mono ?_
  rintro e w' ⟨hp, hb⟩
  refine ⟨?_, hb⟩
  unfold PkPost at hp
  rw [if_neg (by omega), if_pos (by omega), show 20 + n - 20 = t.length by omega, List.take_length] at hp
  exact hp
/-- a packet that is cut short. -/
theorem readPacket_cut (n : Nat) (t : Str) (w : World) (hn : 8 ≤ n) (hn2 : n ≤ 60000) (ht : t.length < n) :
    Calls Tryz.prog 210 #[.string (B (ipH n ++ t))] w fun e w' => (∃ x0 x1 x2 : Str, e = .returned (.tuple #[pkt x0 x1 x2, .bool false])) ∧ Below w.heap.size w w' := by
  refine (readPacket_20 69 0 (hi (20 + n)) (lo (20 + n)) 0 0 0 0 9 17 (hi (ipK n)) (lo (ipK n)) 10 0 0 99 10 0 0 1 t w (by omega) (20 + n) 0 65535 (hi_lo _ (by omega)) rfl (sum_ipH n).symm true rfl).mono ?_
  rintro e w' ⟨hp, hb⟩
  refine ⟨?_, hb⟩
  unfold PkPost at hp
  rw [if_neg (by omega), if_neg (by omega)] at hp
  obtain ⟨m, hm⟩ := hp
  exact ⟨_, _, m, hm⟩
/-- a datagram as it comes: to a port, its sum right or not. -/
theorem readDatagram_to (p dp k n : Nat) (m : Str) (a b : UInt8) (hp : p < 65536) (hd : dp = a.toNat * 256 + b.toNat) (hk : k < 65536) (hn : n = 8 + m.length) (hm : m.length ≤ 50000) :
    ∃ ok, ∀ w, Calls Tryz.prog 257 #[pkt ipYou ipMe (hi p :: lo p :: a :: b :: hi n :: lo n :: hi k :: lo k :: m)] w fun e w' => e = .returned (.tuple #[dgm p dp m, .bool ok]) ∧ Below w.heap.size w w' := by
  refine ⟨(k == 0 || uSum ipYou ipMe ((hi p :: lo p :: a :: b :: hi n :: lo n :: hi k :: lo k :: m : Str).take n) == 65535), fun w => ?_⟩
  refine (readDatagram_8 ipYou ipMe (hi p) (lo p) a b (hi n) (lo n) (hi k) (lo k) m w (by simp [ipYou]) (by simp [ipMe]) (by omega) p dp n k _ (hi_lo p hp) hd (hi_lo n (by omega)) (hi_lo k hk) rfl).mono ?_
  rintro e w' ⟨hq, hb⟩
  refine ⟨?_, hb⟩
  unfold DgPost at hq
  rw [if_neg (by omega), show n - 8 = m.length by omega, List.take_length] at hq
  exact hq
/-- a datagram as it comes, its sum right. -/
theorem readDatagram_in (p : Nat) (ck : Bool) (m : Str) (w : World) (hp : p < 65536) (hm : m.length ≤ 50000) :
    Calls Tryz.prog 257 #[pkt ipYou ipMe (dgI p m (ckI ck p m))] w fun e w' => e = .returned (.tuple #[dgm p 53 m, .bool true]) ∧ Below w.heap.size w w' := by
  have hs := sum_in ck p m
  refine (readDatagram_8 ipYou ipMe (hi p) (lo p) 0 53 (hi (8 + m.length)) (lo (8 + m.length)) (hi (ckI ck p m)) (lo (ckI ck p m)) m w (by simp [ipYou]) (by simp [ipMe]) (by omega) p 53 (8 + m.length) (ckI ck p m) _ (hi_lo p hp) rfl (hi_lo _ (by omega)) (hi_lo _ (ckI_lt _ _ _)) rfl).mono ?_
  rintro e w' ⟨hq, hb⟩
  refine ⟨?_, hb⟩
  unfold DgPost at hq
  rw [if_neg (by omega), show 8 + m.length - 8 = m.length by omega, List.take_length] at hq
  rw [hq]
  have e1 : ((hi p :: lo p :: 0 :: 53 :: hi (8 + m.length) :: lo (8 + m.length) :: hi (ckI ck p m) :: lo (ckI ck p m) :: m : Str).take (8 + m.length)) = dgI p m (ckI ck p m) := by
    rw [List.take_of_length_le (by simp; omega)]; rfl
  rw [e1]
  have e2 : (ckI ck p m == 0 || uSum ipYou ipMe (dgI p m (ckI ck p m)) == 65535) = true := by
    rcases hs with h | h
    · rw [h]; rfl
    · rw [h]; simp
  rw [e2]

theorem frI_eq (m : Str) (p : Nat) (ck : Bool) : frI m p ck = mine ++ (yours ++ (8 :: 0 :: (ipH (8 + m.length) ++ dgI p m (ckI ck p m)))) := by simp [frI]

/-- a right frame. -/
theorem handle_right (m o : Str) (p : Nat) (ck : Bool) (zv : Value) (w : World) (hm : m.length ≤ 50000) (hp : p < 65536) (ho : o ≠ []) (hol : o.length ≤ 50000)
    (hR : ∀ W, Below w.heap.size w W → Calls Tryz.prog 27 #[zv, .string (B m)] W fun e w' => e = .returned (.string (B o)) ∧ Below W.heap.size W w') :
    Calls Tryz.prog 37 #[zv, cfg mine ipMe, .string (B (frI m p ck))] w fun e w' => e = .returned (.string (B (frO o p))) ∧ Below w.heap.size w w' := by
  rw [frI_eq]
  have hl : (dgI p m (ckI ck p m)).length = 8 + m.length := dgI_len p m _
  have hu : (udO ipMe ipYou 53 p o).length = 8 + o.length := udO_len _ _ _ _ _
  refine handle_mine _ yours _ mine ipMe (frO o p) _ zv w (fun W => readFrame_at mine yours 8 0 _ W rfl rfl (by simp [ipH, ipA, ipYou, ipMe, hl]; omega)) fun W hb => ?_
  refine fanswer_ip mine yours _ mine ipMe (frO o p) zv W fun W2 hb2 => ?_
  have hb2' : Below w.heap.size w W2 := hb.trans (hb2.mono hb.size)
  have e : frO o p = yours ++ mine ++ [8, 0] ++ ipO ipMe ipYou (udO ipMe ipYou 53 p o) := rfl
  rw [e]
  exact answerPacket_some mine yours _ mine ipMe ipYou (dgI p m (ckI ck p m)) ipMe ipYou (udO ipMe ipYou 53 p o) 2048 zv W2 (by simp [yours]) (by simp [mine]) (by simp [ipMe]) (by simp [ipYou]) (by omega)
    (fun W3 => readPacket_in (8 + m.length) _ W3 (by omega) (by omega) hl)
    (fun W3 hb3 => panswer_some ipYou ipMe _ m o p zv W3 (by simp [ipYou]) (by simp [ipMe]) hp ho (by omega) (fun W4 => readDatagram_in p ck m W4 hp hm)
      (fun W4 hb4 => hR W4 ((hb2'.trans (hb3.mono hb2'.size)).trans (hb4.mono (Nat.le_trans hb2'.size hb3.size)))))

theorem frO_right (m : Str) (p : Nat) (hm : m.length ≤ 50000) (hp : p < 65536) : RightP (frO m p) m p where
  len := by simp [frO, ipO, ipOA, udO, udA, yours, mine, ipMe, ipYou]; omega
  small := by omega
  dst := rfl
  ip := sum_ipO (udO ipMe ipYou 53 p m)
  ips := rfl
  size := fun h => by
    have := hilo (20 + (udO ipMe ipYou 53 p m).length) (by rw [udO_len]; omega)
    show 256 * (hi (20 + (udO ipMe ipYou 53 p m).length)).toNat + (lo (20 + (udO ipMe ipYou 53 p m).length)).toNat = _
    rw [udO_len] at this ⊢
    omega
  sp := fun h => rfl
  dp := fun h => by
    have := hilo p hp
    show 256 * (hi p).toNat + (lo p).toNat = p
    omega
  n := fun h => by
    have := hilo (8 + m.length) (by omega)
    show 256 * (hi (8 + m.length)).toNat + (lo (8 + m.length)).toNat = _
    omega
  ck := fun h => by
    have := hilo (udC ipMe ipYou 53 p m) (udC_lt _ _ _ _ _).1
    have h0 := (udC_lt ipMe ipYou 53 p m).2
    show 256 * (hi (udC ipMe ipYou 53 p m)).toNat + (lo (udC ipMe ipYou 53 p m)).toNat ≠ 0
    omega
  msg := rfl
  udp := sum_udO p m

/-- nothing comes of a frame whose header's sum is not right. -/
theorem handle_sum (x h t : Str) (zv : Value) (w : World) (hx : x.length = 6) (hh : h.length = 20) (ht : t.length ≤ 500000) (hs : fold (ws true h) ≠ 65535) :
    Calls Tryz.prog 37 #[zv, cfg mine ipMe, .string (B (mine ++ (x ++ (8 :: 0 :: (h ++ t)))))] w fun e w' => e = .returned (.string ⟨#[]⟩) ∧ Below w.heap.size w w' :=
  handle_mine _ x _ mine ipMe [] _ zv w (fun W => readFrame_at mine x 8 0 _ W rfl hx (by simp; omega)) fun W _ =>
    fanswer_ip mine x _ mine ipMe [] zv W fun W2 _ => answerPacket_bad mine x _ mine ipMe 2048 zv W2 fun W3 => readPacket_sum h t W3 hh (by omega) hs

/-- a bit turned. -/
theorem handle_flip (m : Str) (p : Nat) (ck : Bool) (zv : Value) (w : World) (hm : m.length = 34) (hp : p < 65536) (i b : Nat) (hb : b < 8) (hi' : i < 6 ∨ (12 ≤ i ∧ i < 34) ∨ i = 36 ∨ i = 37) :
    Calls Tryz.prog 37 #[zv, cfg mine ipMe, .string (B (flip (frI m p ck) i b))] w fun e w' => e = .returned (.string ⟨#[]⟩) ∧ Below w.heap.size w w' := by
  obtain ⟨k, hk⟩ : ∃ k, k = ckI ck p m := ⟨_, rfl⟩
  have hkl : k < 65536 := by rw [hk]; exact ckI_lt _ _ _
  have hl : (dgI p m k).length = 42 := by rw [dgI_len, hm]
  rw [frI_eq, ← hk, show 8 + m.length = 42 by omega]
  clear hk
  by_cases h6 : i < 6
  · have e : flip (mine ++ (yours ++ (8 :: 0 :: (ipH 42 ++ dgI p m k)))) i b = flip mine i b ++ (yours ++ (8 :: 0 :: (ipH 42 ++ dgI p m k))) := by
      have := flip_mid [] mine (yours ++ (8 :: 0 :: (ipH 42 ++ dgI p m k))) i b (by simp) (by simpa [mine] using h6)
      simpa using this
    rw [e]
    have hf := flips_to i h6 b hb
    exact handle_other _ _ _ _ mine ipMe _ zv w hf.1 hf.2 fun W => readFrame_at (flip mine i b) yours 8 0 _ W (by rw [flip_len _ _ _ (by simpa [mine] using h6)]; rfl) rfl (by simp [ipH, ipA, ipYou, ipMe, hl])
  by_cases h14 : i < 14
  · obtain ⟨j, rfl⟩ : ∃ j, i = 12 + j := ⟨i - 12, by omega⟩
    have hj : j < 2 := by omega
    have e : flip (mine ++ (yours ++ (8 :: 0 :: (ipH 42 ++ dgI p m k)))) (12 + j) b = mine ++ (yours ++ ((flip [8, 0] j b)[0]! :: (flip [8, 0] j b)[1]! :: (ipH 42 ++ dgI p m k))) := by
      have := flip_mid (mine ++ yours) [8, 0] (ipH 42 ++ dgI p m k) (12 + j) b (by simp [mine, yours]) (by simp [mine, yours]; omega)
      rw [show 12 + j - (mine ++ yours).length = j by simp [mine, yours]] at this
      have e2 : flip [8, 0] j b = [(flip [8, 0] j b)[0]!, (flip [8, 0] j b)[1]!] := by
        have hl2 : (flip [8, 0] j b).length = 2 := flip_len _ _ _ (by simpa using hj)
        match flip [8, 0] j b, hl2 with
        | [x, y], _ => rfl
      rw [e2] at this
      simpa using this
    rw [e]
    have hf := flips_kind j hj b hb
    exact handle_mine _ yours _ mine ipMe [] _ zv w (fun W => readFrame_at mine yours _ _ _ W rfl rfl (by simp [ipH, ipA, ipYou, ipMe, hl])) fun W _ => fanswer_kind mine yours _ mine ipMe _ zv W hf.2 hf.1
  by_cases h34 : i < 34
  · obtain ⟨j, rfl⟩ : ∃ j, i = 14 + j := ⟨i - 14, by omega⟩
    have hj : j < 20 := by omega
    have e : flip (mine ++ (yours ++ (8 :: 0 :: (ipH 42 ++ dgI p m k)))) (14 + j) b = mine ++ (yours ++ (8 :: 0 :: (flip (ipH 42) j b ++ dgI p m k))) := by
      have := flip_mid (mine ++ yours ++ [8, 0]) (ipH 42) (dgI p m k) (14 + j) b (by simp [mine, yours]) (by simp [mine, yours, ipH, ipA, ipYou, ipMe]; omega)
      rw [show 14 + j - (mine ++ yours ++ ([8, 0] : Str)).length = j by simp [mine, yours]] at this
      simpa using this
    rw [e]
    exact handle_sum yours _ _ zv w rfl (by rw [flip_len _ _ _ (by simpa [ipH, ipA, ipYou, ipMe] using hj)]; rfl) (by omega) (flips_ip j hj b hb)
  · obtain ⟨j, rfl⟩ : ∃ j, i = 36 + j := ⟨i - 36, by omega⟩
    have hj : j < 2 := by omega
    obtain ⟨D, hD⟩ : ∃ D : Str, D = hi 42 :: lo 42 :: hi k :: lo k :: m := ⟨_, rfl⟩
    have e0 : dgI p m k = [hi p, lo p] ++ [0, 53] ++ D := by rw [hD]; unfold dgI udI; rw [hm]; rfl
    have e : flip (mine ++ (yours ++ (8 :: 0 :: (ipH 42 ++ dgI p m k)))) (36 + j) b = mine ++ (yours ++ ((8 : UInt8) :: 0 :: (ipH 42 ++ (hi p :: lo p :: (flip [0, 53] j b)[0]! :: (flip [0, 53] j b)[1]! :: D)))) := by
      have := flip_mid (mine ++ yours ++ [8, 0] ++ ipH 42 ++ [hi p, lo p]) [0, 53] D (36 + j) b (by simp [mine, yours, ipH, ipA, ipYou, ipMe]) (by simp [mine, yours, ipH, ipA, ipYou, ipMe]; omega)
      rw [show 36 + j - (mine ++ yours ++ ([8, 0] : Str) ++ ipH 42 ++ [hi p, lo p]).length = j by simp [mine, yours, ipH, ipA, ipYou, ipMe]] at this
      have e2 : flip [0, 53] j b = [(flip [0, 53] j b)[0]!, (flip [0, 53] j b)[1]!] := by
        have hl2 : (flip [0, 53] j b).length = 2 := flip_len _ _ _ (by simpa using hj)
        match flip [0, 53] j b, hl2 with
        | [x, y], _ => rfl
      rw [e2] at this
      rw [e0]
      simpa using this
    rw [e, hD]
    have hf := flips_port j hj b hb
    refine handle_mine _ yours _ mine ipMe [] _ zv w (fun W => readFrame_at mine yours 8 0 _ W rfl rfl (by simp [ipH, ipA, ipYou, ipMe, hm])) fun W _ => fanswer_ip mine yours _ mine ipMe [] zv W fun W2 _ => ?_
    obtain ⟨ok, hok⟩ : ∃ ok, ∀ W, Calls Tryz.prog 257 #[pkt ipYou ipMe (hi p :: lo p :: (flip [0, 53] j b)[0]! :: (flip [0, 53] j b)[1]! :: hi 42 :: lo 42 :: hi k :: lo k :: m)] W fun e w' => e = .returned (.tuple #[dgm p ((flip [0, 53] j b)[0]!.toNat * 256 + (flip [0, 53] j b)[1]!.toNat) m, .bool ok]) ∧ Below W.heap.size W w' :=
      readDatagram_to p _ k 42 m _ _ hp rfl hkl (by omega) (by omega)
    exact answerPacket_none mine yours _ mine ipMe ipYou _ 2048 zv W2 (fun W3 => readPacket_in 42 _ W3 (by omega) (by omega) (by simp [hm])) (fun W3 _ => panswer_none ipYou ipMe _ m p _ ok zv W3 (.inr hf) hok)

/-- an end cut off. -/
theorem handle_short (m : Str) (p : Nat) (ck : Bool) (zv : Value) (w : World) (hm : m.length ≤ 50000) (n : Nat) (hn : n < (frI m p ck).length) :
    Calls Tryz.prog 37 #[zv, cfg mine ipMe, .string (B ((frI m p ck).take n))] w fun e w' => e = .returned (.string ⟨#[]⟩) ∧ Below w.heap.size w w' := by
  rw [frI_eq] at hn ⊢
  obtain ⟨k, hk⟩ : ∃ k, k = ckI ck p m := ⟨_, rfl⟩
  rw [← hk] at hn ⊢
  clear hk
  have hl : (dgI p m k).length = 8 + m.length := dgI_len _ _ _
  by_cases h14 : n < 14
  · obtain ⟨a, b, k', r, hc⟩ : ∃ a b k' r, ∀ W, Calls Tryz.prog 79 #[.string (B ((mine ++ (yours ++ (8 :: 0 :: (ipH (8 + m.length) ++ dgI p m k)))).take n))] W fun e w' => e = .returned (.tuple #[frm a b k' r, .bool false]) ∧ Below W.heap.size W w' := readFrame_cut _ (by simp; omega)
    exact handle_cut _ a b r mine ipMe k' zv w hc
  · obtain ⟨j, rfl⟩ : ∃ j, n = 14 + j := ⟨n - 14, by omega⟩
    have e : (mine ++ (yours ++ (8 :: 0 :: (ipH (8 + m.length) ++ dgI p m k)))).take (14 + j) = mine ++ (yours ++ (8 :: 0 :: ((ipH (8 + m.length) ++ dgI p m k).take j))) := by
      rw [show mine ++ (yours ++ (8 :: 0 :: (ipH (8 + m.length) ++ dgI p m k))) = (mine ++ yours ++ [8, 0]) ++ (ipH (8 + m.length) ++ dgI p m k) by simp]
      rw [show 14 + j = (mine ++ yours ++ ([8, 0] : Str)).length + j by simp [mine, yours], List.take_length_add_append]
      simp
    rw [e]
    have hlen : (mine ++ (yours ++ (8 :: 0 :: (ipH (8 + m.length) ++ dgI p m k)))).length = 42 + m.length := by simp [mine, yours, ipH, ipA, ipYou, ipMe, hl]; omega
    refine handle_mine _ yours _ mine ipMe [] _ zv w (fun W => readFrame_at mine yours 8 0 _ W rfl rfl (by simp [ipH, ipA, ipYou, ipMe, hl]; omega)) fun W _ => fanswer_ip mine yours _ mine ipMe [] zv W fun W2 _ => ?_
    refine answerPacket_bad mine yours _ mine ipMe 2048 zv W2 fun W3 => ?_
    have hip : (ipH (8 + m.length)).length = 20 := rfl
    by_cases h20 : j < 20
    · refine (Hl.readPacket_short _ W3 (by simp; omega)).mono ?_
      rintro e w' ⟨rfl, hb⟩
      exact ⟨⟨[], [], [], rfl⟩, hb⟩
    · obtain ⟨i, rfl⟩ : ∃ i, j = 20 + i := ⟨j - 20, by omega⟩
      rw [show 20 + i = (ipH (8 + m.length)).length + i by rw [hip], List.take_length_add_append]
      exact readPacket_cut (8 + m.length) _ W3 (by omega) (by omega) (by simp; omega)
end Hm
end Go.Proofs.YtkkpahmoljiepaaGreatDoor

/- The zone of the statement Carried: what its text reads as, and what it answers; the name that is not there in Told's zone. -/
namespace Go.Proofs.YtkkpahmoljiepaaGreatDoor
open Go.RowKit
open Pu (Str hide unhide)

namespace Mo
open Go.Sort
open Ta (headS zz)
open Va (lineS hostN dataN recN)
def linesC : Str := lineS 49 ++ lineS 50
def recs0C : List Rec := [([122, 122], 50, 6, [97, 46, 122, 122, 32, 98, 46, 122, 122, 32, 57, 32, 52, 48]), ([122, 122], 50, 2, [97, 46, 122, 122]), ([104, 49, 46, 122, 122], 1, 1, [49, 48, 46, 48, 46, 49, 46, 55]), ([104, 50, 46, 122, 122], 2, 1, [49, 48, 46, 48, 46, 50, 46, 55])]
def recsC : List Rec := [([104, 49, 46, 122, 122], 1, 1, [49, 48, 46, 48, 46, 49, 46, 55]), ([104, 50, 46, 122, 122], 2, 1, [49, 48, 46, 48, 46, 50, 46, 55]), ([122, 122], 50, 2, [97, 46, 122, 122]), ([122, 122], 50, 6, [97, 46, 122, 122, 32, 98, 46, 122, 122, 32, 57, 32, 52, 48])]

theorem read1 : readZ (headS ++ linesC) = some (zz, recs0C) := by kernel_rfl
theorem read2 : readZ (headS ++ linesC ++ [10]) = none := by kernel_rfl
theorem sort1 : sortL recs0C = recsC := by
  unfold sortL Sort.insertionSort
  simp only [show recs0C.length = 4 from rfl]
  rw [insOuter_go _ _ _ _ _ (by decide), insOuter_go _ _ _ _ _ (by decide), insOuter_go _ _ _ _ _ (by decide), insOuter_stop _ _ _ _ _ (by decide)]
  kernel_rfl
theorem starts1 : Rf.startsR zz recs0C = true := by kernel_rfl
theorem right1 : rightP zz recsC = true := by kernel_rfl
theorem parse1 : parseP (headS ++ linesC) = some (zz, recsC) := by
  unfold parseP
  rw [read1]
  show (if Rf.startsR zz recs0C && rightP zz (sortL recs0C) then some (zz, sortL recs0C) else none) = _
  rw [sort1, starts1, right1]; rfl
theorem parse2 : parseP (headS ++ linesC ++ [10]) = none := by
  unfold parseP
  rw [read2]; rfl
theorem fit1 : Fit zz recsC := by
  refine ⟨by decide, by decide, ?_⟩
  intro r hr
  simp only [recsC, List.mem_cons, List.mem_nil_iff, or_false] at hr
  rcases hr with rfl | rfl | rfl | rfl <;> decide
theorem soa1 : ∀ r ∈ setP (ofP recsC zz) 6, soaOk r ∧ r.data.length ≤ 3000 ∧ r.ttl ≤ 1000000000 := by
  rw [show setP (ofP recsC zz) 6 = [([122, 122], 50, 6, [97, 46, 122, 122, 32, 98, 46, 122, 122, 32, 57, 32, 52, 48])] from by kernel_rfl]
  intro r hr
  simp only [List.mem_cons, List.mem_nil_iff, or_false] at hr
  subst hr
  refine ⟨⟨?_, 40, ?_, by omega⟩, by decide, by decide⟩
  · have : (lastW (Rec.data ([122, 122], 50, 6, [97, 46, 122, 122, 32, 98, 46, 122, 122, 32, 57, 32, 52, 48]))).length = 2 := by kernel_rfl
    omega
  · kernel_rfl

/-- what stands in the authority where a name is not there. -/
def soaR : Rec := ([122, 122], 40, 6, [97, 46, 122, 122, 32, 98, 46, 122, 122, 32, 57, 32, 52, 48])
theorem ansC1 : stepAns zz recsC 1 (hostN 49) = [recN 49] := by kernel_rfl
theorem authC1 : stepAuth zz recsC 1 (hostN 49) = [] := by kernel_rfl
theorem rcC1 : stepRc zz recsC (hostN 49) = 0 := by kernel_rfl
theorem cutC1 : cutP zz recsC (hostN 49) = [] := by kernel_rfl
theorem plainC1 : Plain zz (hostN 49) recsC 1 where
  fit := fit1
  len := by decide
  soa := soa1
  ne5 := rfl
  ne255 := rfl
  alias := by kernel_rfl
  mlen := by
    have : (matchP recsC (hostN 49)).1.length ≤ 1 := of_decide_eq_true (by kernel_rfl)
    omega
  under := by kernel_rfl
  names := by
    rw [ansC1, authC1]
    intro r hr
    simp only [List.append_nil, List.nil_append, List.mem_cons, List.mem_nil_iff, or_false] at hr
    subst hr
    exact ⟨rfl, rfl, by decide⟩
  alen := by rw [ansC1]; simp
  blen := by rw [authC1]; simp
theorem ansC2 : stepAns zz recsC 1 (hostN 50) = [recN 50] := by kernel_rfl
theorem authC2 : stepAuth zz recsC 1 (hostN 50) = [] := by kernel_rfl
theorem rcC2 : stepRc zz recsC (hostN 50) = 0 := by kernel_rfl
theorem cutC2 : cutP zz recsC (hostN 50) = [] := by kernel_rfl
theorem plainC2 : Plain zz (hostN 50) recsC 1 where
  fit := fit1
  len := by decide
  soa := soa1
  ne5 := rfl
  ne255 := rfl
  alias := by kernel_rfl
  mlen := by
    have : (matchP recsC (hostN 50)).1.length ≤ 1 := of_decide_eq_true (by kernel_rfl)
    omega
  under := by kernel_rfl
  names := by
    rw [ansC2, authC2]
    intro r hr
    simp only [List.append_nil, List.nil_append, List.mem_cons, List.mem_nil_iff, or_false] at hr
    subst hr
    exact ⟨rfl, rfl, by decide⟩
  alen := by rw [ansC2]; simp
  blen := by rw [authC2]; simp
theorem ansC3 : stepAns zz recsC 1 (hostN 51) = [] := by kernel_rfl
theorem authC3 : stepAuth zz recsC 1 (hostN 51) = [soaR] := by kernel_rfl
theorem rcC3 : stepRc zz recsC (hostN 51) = 3 := by kernel_rfl
theorem cutC3 : cutP zz recsC (hostN 51) = [] := by kernel_rfl
theorem plainC3 : Plain zz (hostN 51) recsC 1 where
  fit := fit1
  len := by decide
  soa := soa1
  ne5 := rfl
  ne255 := rfl
  alias := by kernel_rfl
  mlen := by
    have : (matchP recsC (hostN 51)).1.length ≤ 1 := of_decide_eq_true (by kernel_rfl)
    omega
  under := by kernel_rfl
  names := by
    rw [ansC3, authC3]
    intro r hr
    simp only [List.append_nil, List.nil_append, List.mem_cons, List.mem_nil_iff, or_false] at hr
    subst hr
    exact ⟨rfl, rfl, by decide⟩
  alen := by rw [ansC3]; simp
  blen := by rw [authC3]; simp
theorem ansT4 : stepAns zz Va.recs 1 (hostN 52) = [] := by kernel_rfl
theorem authT4 : stepAuth zz Va.recs 1 (hostN 52) = [soaR] := by kernel_rfl
theorem rcT4 : stepRc zz Va.recs (hostN 52) = 3 := by kernel_rfl
theorem cutT4 : cutP zz Va.recs (hostN 52) = [] := by kernel_rfl
theorem plainT4 : Plain zz (hostN 52) Va.recs 1 where
  fit := Va.fit1
  len := by decide
  soa := Va.soa1
  ne5 := rfl
  ne255 := rfl
  alias := by kernel_rfl
  mlen := by
    have : (matchP Va.recs (hostN 52)).1.length ≤ 1 := of_decide_eq_true (by kernel_rfl)
    omega
  under := by kernel_rfl
  names := by
    rw [ansT4, authT4]
    intro r hr
    simp only [List.append_nil, List.nil_append, List.mem_cons, List.mem_nil_iff, or_false] at hr
    subst hr
    exact ⟨rfl, rfl, by decide⟩
  alen := by rw [ansT4]; simp
  blen := by rw [authT4]; simp
end Mo
end Go.Proofs.YtkkpahmoljiepaaGreatDoor

/- Contract: wire.Reply to the question of the statement Told: the walk. -/
namespace Go.Proofs.YtkkpahmoljiepaaGreatDoor
open Go.RowKit
open Pu (Str hide unhide)

namespace Xc
open Ka Kd Rf Rg Ia Iow Ie Zb Zc Za La Lb Lc Lg Lj Wa Wb Wc Wd We Wf Wg Wh Wi Wj Wk Wl Wm Wn Wo Wp Wq Ws Wt Wu Wv Wx Wy Wz Xa Xb Va Vb Vd Re
open Ta (zz)

set_option maxRecDepth 100000 in
set_option maxHeartbeats 3200000 in
theorem reply_told (zb g cap i : Nat) (d : UInt8) (hd : IsK d) (t0 t1 : Str) (l0 : t0.length = 2) (l1 : t1.length = 2) (f0 : foldL t0 = [104, d]) (f1 : foldL t1 = [122, 122]) (hi' : i < 65536) (w : World) (hz : TableAt w zb zz g 0 cap recs) (hg : G w) :
    Calls Tryz.prog 27 #[.pointer (some ⟨zb, 0, none⟩), .string (B (asks i (quest t0 t1 1)))] w fun e w' => e = .returned (.string (B (tellS i (quest t0 t1 1) d))) ∧ Below w.heap.size w w' := by
  obtain ⟨qs, hqs⟩ : ∃ qs, qs = quest t0 t1 1 := ⟨_, rfl⟩
  have hql : qs.length = 11 := by rw [hqs]; obtain ⟨a, b, rfl⟩ := two_of l0; obtain ⟨c, e, rfl⟩ := two_of l1; rfl
  have hal : (asks i qs).length = 23 := by simp [asks, hql]
  have HRH := hide (readHeader_any (asks i qs) w (by omega))
  rw [hdr_asks i qs hi'] at HRH
  have e1 : labP ((asks i qs).drop 12) false = ([t0, t1], [0, 1, 0, 1], false) := by
    rw [show (asks i qs).drop 12 = qs from rfl, hqs]
    obtain ⟨a, b, rfl⟩ := two_of l0
    obtain ⟨c, e, rfl⟩ := two_of l1
    exact lab2 a b c e
  have HRQ := hide (fun W => readQuery_plain i 256 (asks i qs) W (by omega) (by omega) e1 sh1 sh2)
  rw [show (asks i qs).drop 12 = qs from rfl, show (qs.take (qs.length - ([] : Str).length)) = qs by simp, name2 f0 f1] at HRQ
  have HQA := hide (fun W (hb : Below w.heap.size w W) => qanswer_plain zb g 0 cap 1 zz (hostN d) qs i 256 1 0 0 0 recs W (hz.below hb) (hg.below hb) (plainK hd) (by decide) (by decide) (by decide))
  rw [rcK hd, ansK hd, authK hd, cutK hd] at HQA
  have HRP := hide (fun W va vb (hg : G W) (ha : RV W va [recN d]) (hb : RV W vb []) => by
    obtain ⟨ba, oa, La, Ra⟩ := rv_lies ha hg
    obtain ⟨bb, ob, Lb, Rb⟩ := rv_lies hb hg
    exact reply_plain i 34048 ba oa bb ob 256 1 0 0 0 1 0 qs (hostN d) va vb [recN d] [] pN (dfN d) W hg La Ra (by simp) Lb Rb (by simp) hi' (by omega) bitsT (by simp [hostN]) (by omega)
      (fun mb base vp h1 h2 r hr => by simp at hr; subst hr; exact rr_ok hd mb base vp h1 h2) (by
        rw [List.flatMap_nil, List.flatMap_cons, List.flatMap_nil, List.append_nil, ro_eq hd]
        simp; omega))
  have HTE := hide (tell_eq hd i qs)
  have HG := hide hg
  rw [← hqs]
  have hs : (B (asks i qs)).size = 23 := by rw [size_B]; exact hal
  have b1 : bits .and .i64 256 32768 = 0 := by kernel_rfl
  have b2 : bits .and .i64 256 30720 = 0 := by kernel_rfl
  unfold qVal at HRQ HQA HRP
  clear hz hg e1 hqs l0 l1 f0 f1 hal
  generalize asks i qs = m at *
  go_enter Tryz.func27, Tryz.ntmps27
  go_wp2_with fail
  refine (unhide HRH).mono ?_
  rintro e w1 ⟨rfl, hb1⟩
  simp only [List.map_cons, List.map_nil]
  have hB1 := hide hb1
  have hs1 := hb1.size
  clear hb1
  go_wp2_with fail
  refine (unhide HRQ _).mono ?_
  rintro e w2 ⟨rfl, hb2⟩
  have hB2 : Below w.heap.size w w2 := ((unhide hB1).alloc hs1 _).trans (hb2.mono (by simp; omega))
  have HB2 := hide hB2
  have hs2 := hB2.size
  clear hb2 hB2 hB1 HRQ HRH
  go_wp2_with fail
  have hQ : QAt (w2.alloc (.cells #[.int .i64 i, .int .i64 256, .int .i64 1, .int .i64 0, .int .i64 0, .int .i64 0, .string (B qs), .string (B (hostN d)), .int .i64 1, .int .i64 1, .bool false, .int .i64 0, .int .i64 0] 137)) w2.heap.size i 256 1 0 0 0 qs (hostN d) 1 1 false 0 0 := World.alloc_heap_new w2 _
  have hBX : Below w.heap.size w (w2.alloc (.cells #[.int .i64 i, .int .i64 256, .int .i64 1, .int .i64 0, .int .i64 0, .int .i64 0, .string (B qs), .string (B (hostN d)), .int .i64 1, .int .i64 1, .bool false, .int .i64 0, .int .i64 0] 137)) := (unhide HB2).alloc hs2 _
  clear HB2
  generalize (w2.alloc (.cells #[.int .i64 i, .int .i64 256, .int .i64 1, .int .i64 0, .int .i64 0, .int .i64 0, .string (B qs), .string (B (hostN d)), .int .i64 1, .int .i64 1, .bool false, .int .i64 0, .int .i64 0] 137)) = X at *
  have kS : ∀ W W' : World, Below W.heap.size W W' → (W.cell? ⟨w2.heap.size, 0, none⟩ = some (.int .i64 i) ∧ W.cell? ⟨w2.heap.size, 1, none⟩ = some (.int .i64 256) ∧ W.cell? ⟨w2.heap.size, 2, none⟩ = some (.int .i64 1) ∧ W.cell? ⟨w2.heap.size, 3, none⟩ = some (.int .i64 0) ∧ W.cell? ⟨w2.heap.size, 4, none⟩ = some (.int .i64 0) ∧ W.cell? ⟨w2.heap.size, 5, none⟩ = some (.int .i64 0) ∧ W.cell? ⟨w2.heap.size, 6, none⟩ = some (.string (B qs)) ∧ W.cell? ⟨w2.heap.size, 7, none⟩ = some (.string (B (hostN d))) ∧ W.cell? ⟨w2.heap.size, 8, none⟩ = some (.int .i64 1) ∧ W.cell? ⟨w2.heap.size, 9, none⟩ = some (.int .i64 1) ∧ W.cell? ⟨w2.heap.size, 10, none⟩ = some (.bool false) ∧ W.cell? ⟨w2.heap.size, 11, none⟩ = some (.int .i64 0) ∧ W.cell? ⟨w2.heap.size, 12, none⟩ = some (.int .i64 0)) → (W'.cell? ⟨w2.heap.size, 0, none⟩ = some (.int .i64 i) ∧ W'.cell? ⟨w2.heap.size, 1, none⟩ = some (.int .i64 256) ∧ W'.cell? ⟨w2.heap.size, 2, none⟩ = some (.int .i64 1) ∧ W'.cell? ⟨w2.heap.size, 3, none⟩ = some (.int .i64 0) ∧ W'.cell? ⟨w2.heap.size, 4, none⟩ = some (.int .i64 0) ∧ W'.cell? ⟨w2.heap.size, 5, none⟩ = some (.int .i64 0) ∧ W'.cell? ⟨w2.heap.size, 6, none⟩ = some (.string (B qs)) ∧ W'.cell? ⟨w2.heap.size, 7, none⟩ = some (.string (B (hostN d))) ∧ W'.cell? ⟨w2.heap.size, 8, none⟩ = some (.int .i64 1) ∧ W'.cell? ⟨w2.heap.size, 9, none⟩ = some (.int .i64 1) ∧ W'.cell? ⟨w2.heap.size, 10, none⟩ = some (.bool false) ∧ W'.cell? ⟨w2.heap.size, 11, none⟩ = some (.int .i64 0) ∧ W'.cell? ⟨w2.heap.size, 12, none⟩ = some (.int .i64 0)) := fun W W' hb h => by
    have kp : ∀ (a : Addr) (v : Value), W.cell? a = some v → W'.cell? a = some v := fun a v h => (hb.cell (World.block_lt_of_cell? W a h)).trans h
    obtain ⟨e0, e1, e2, e3, e4, e5, e6, e7, e8, e9, e10, e11, e12⟩ := h
    exact ⟨kp _ _ e0, kp _ _ e1, kp _ _ e2, kp _ _ e3, kp _ _ e4, kp _ _ e5, kp _ _ e6, kp _ _ e7, kp _ _ e8, kp _ _ e9, kp _ _ e10, kp _ _ e11, kp _ _ e12⟩
  have HQ2 : Hid (∀ W, Below w.heap.size w W → (W.cell? ⟨w2.heap.size, 0, none⟩ = some (.int .i64 i) ∧ W.cell? ⟨w2.heap.size, 1, none⟩ = some (.int .i64 256) ∧ W.cell? ⟨w2.heap.size, 2, none⟩ = some (.int .i64 1) ∧ W.cell? ⟨w2.heap.size, 3, none⟩ = some (.int .i64 0) ∧ W.cell? ⟨w2.heap.size, 4, none⟩ = some (.int .i64 0) ∧ W.cell? ⟨w2.heap.size, 5, none⟩ = some (.int .i64 0) ∧ W.cell? ⟨w2.heap.size, 6, none⟩ = some (.string (B qs)) ∧ W.cell? ⟨w2.heap.size, 7, none⟩ = some (.string (B (hostN d))) ∧ W.cell? ⟨w2.heap.size, 8, none⟩ = some (.int .i64 1) ∧ W.cell? ⟨w2.heap.size, 9, none⟩ = some (.int .i64 1) ∧ W.cell? ⟨w2.heap.size, 10, none⟩ = some (.bool false) ∧ W.cell? ⟨w2.heap.size, 11, none⟩ = some (.int .i64 0) ∧ W.cell? ⟨w2.heap.size, 12, none⟩ = some (.int .i64 0)) → Calls Tryz.prog 74 #[(.agg #[.int .i64 i, .int .i64 256, .int .i64 1, .int .i64 0, .int .i64 0, .int .i64 0, .string (B qs), .string (B (hostN d)), .int .i64 1, .int .i64 1, .bool false, .int .i64 0, .int .i64 0]), .pointer (some ⟨zb, 0, none⟩)] W fun e w' =>
      ∃ aa ca ab cb, e = .returned (.agg #[.int .i64 0, .bool true, .slice aa 1 ca, .slice ab 0 cb, .slice none 0 0]) ∧ (w'.cell? ⟨w2.heap.size, 0, none⟩ = some (.int .i64 i) ∧ w'.cell? ⟨w2.heap.size, 1, none⟩ = some (.int .i64 256) ∧ w'.cell? ⟨w2.heap.size, 2, none⟩ = some (.int .i64 1) ∧ w'.cell? ⟨w2.heap.size, 3, none⟩ = some (.int .i64 0) ∧ w'.cell? ⟨w2.heap.size, 4, none⟩ = some (.int .i64 0) ∧ w'.cell? ⟨w2.heap.size, 5, none⟩ = some (.int .i64 0) ∧ w'.cell? ⟨w2.heap.size, 6, none⟩ = some (.string (B qs)) ∧ w'.cell? ⟨w2.heap.size, 7, none⟩ = some (.string (B (hostN d))) ∧ w'.cell? ⟨w2.heap.size, 8, none⟩ = some (.int .i64 1) ∧ w'.cell? ⟨w2.heap.size, 9, none⟩ = some (.int .i64 1) ∧ w'.cell? ⟨w2.heap.size, 10, none⟩ = some (.bool false) ∧ w'.cell? ⟨w2.heap.size, 11, none⟩ = some (.int .i64 0) ∧ w'.cell? ⟨w2.heap.size, 12, none⟩ = some (.int .i64 0)) ∧ Hid (Below w.heap.size w w' ∧ G w' ∧ RV w' (.slice aa 1 ca) [recN d] ∧ RV w' (.slice ab 0 cb) [])) := by
    intro W hb hS
    refine (unhide HQA W hb).mono ?_
    rintro e w' ⟨⟨va, vb, rfl, ha, hv⟩, hb'⟩
    have hB' := hb.trans (hb'.mono hb.size)
    have ra := ha.rv
    have rb := hv.rv
    obtain ⟨aa, ca, rfl⟩ := ha.slice
    obtain ⟨ab, cb, rfl⟩ := hv.slice
    exact ⟨aa, ca, ab, cb, rfl, kS W w' hb' hS, hB', (unhide HG).below hB', ra, rb⟩
  have HR2 : Hid (∀ W aa ca ab cb, Hid (Below w.heap.size w W ∧ G W ∧ RV W (.slice aa 1 ca) [recN d] ∧ RV W (.slice ab 0 cb) []) → (W.cell? ⟨w2.heap.size, 0, none⟩ = some (.int .i64 i) ∧ W.cell? ⟨w2.heap.size, 1, none⟩ = some (.int .i64 256) ∧ W.cell? ⟨w2.heap.size, 2, none⟩ = some (.int .i64 1) ∧ W.cell? ⟨w2.heap.size, 3, none⟩ = some (.int .i64 0) ∧ W.cell? ⟨w2.heap.size, 4, none⟩ = some (.int .i64 0) ∧ W.cell? ⟨w2.heap.size, 5, none⟩ = some (.int .i64 0) ∧ W.cell? ⟨w2.heap.size, 6, none⟩ = some (.string (B qs)) ∧ W.cell? ⟨w2.heap.size, 7, none⟩ = some (.string (B (hostN d))) ∧ W.cell? ⟨w2.heap.size, 8, none⟩ = some (.int .i64 1) ∧ W.cell? ⟨w2.heap.size, 9, none⟩ = some (.int .i64 1) ∧ W.cell? ⟨w2.heap.size, 10, none⟩ = some (.bool false) ∧ W.cell? ⟨w2.heap.size, 11, none⟩ = some (.int .i64 0) ∧ W.cell? ⟨w2.heap.size, 12, none⟩ = some (.int .i64 0)) → Calls Tryz.prog 73 #[(.agg #[.int .i64 i, .int .i64 256, .int .i64 1, .int .i64 0, .int .i64 0, .int .i64 0, .string (B qs), .string (B (hostN d)), .int .i64 1, .int .i64 1, .bool false, .int .i64 0, .int .i64 0]), .agg #[.int .i64 0, .bool true, .slice aa 1 ca, .slice ab 0 cb, .slice none 0 0]] W fun e w' =>
      e = .returned (.string (B (tellS i qs d))) ∧ (w'.cell? ⟨w2.heap.size, 0, none⟩ = some (.int .i64 i) ∧ w'.cell? ⟨w2.heap.size, 1, none⟩ = some (.int .i64 256) ∧ w'.cell? ⟨w2.heap.size, 2, none⟩ = some (.int .i64 1) ∧ w'.cell? ⟨w2.heap.size, 3, none⟩ = some (.int .i64 0) ∧ w'.cell? ⟨w2.heap.size, 4, none⟩ = some (.int .i64 0) ∧ w'.cell? ⟨w2.heap.size, 5, none⟩ = some (.int .i64 0) ∧ w'.cell? ⟨w2.heap.size, 6, none⟩ = some (.string (B qs)) ∧ w'.cell? ⟨w2.heap.size, 7, none⟩ = some (.string (B (hostN d))) ∧ w'.cell? ⟨w2.heap.size, 8, none⟩ = some (.int .i64 1) ∧ w'.cell? ⟨w2.heap.size, 9, none⟩ = some (.int .i64 1) ∧ w'.cell? ⟨w2.heap.size, 10, none⟩ = some (.bool false) ∧ w'.cell? ⟨w2.heap.size, 11, none⟩ = some (.int .i64 0) ∧ w'.cell? ⟨w2.heap.size, 12, none⟩ = some (.int .i64 0)) ∧ Hid (Below w.heap.size w w')) := by
    intro W aa ca ab cb hB hS
    obtain ⟨hb, hgW, ra, rb⟩ := unhide hB
    refine (unhide HRP W _ _ hgW ra rb).mono ?_
    rintro e w' ⟨rfl, hb'⟩
    refine ⟨?_, kS W w' hb' hS, hb.trans (hb'.mono hb.size)⟩
    rw [← unhide HTE]
    rfl
  have hS : X.drew.cell? ⟨w2.heap.size, 0, none⟩ = some (.int .i64 i) ∧ X.drew.cell? ⟨w2.heap.size, 1, none⟩ = some (.int .i64 256) ∧ X.drew.cell? ⟨w2.heap.size, 2, none⟩ = some (.int .i64 1) ∧ X.drew.cell? ⟨w2.heap.size, 3, none⟩ = some (.int .i64 0) ∧ X.drew.cell? ⟨w2.heap.size, 4, none⟩ = some (.int .i64 0) ∧ X.drew.cell? ⟨w2.heap.size, 5, none⟩ = some (.int .i64 0) ∧ X.drew.cell? ⟨w2.heap.size, 6, none⟩ = some (.string (B qs)) ∧ X.drew.cell? ⟨w2.heap.size, 7, none⟩ = some (.string (B (hostN d))) ∧ X.drew.cell? ⟨w2.heap.size, 8, none⟩ = some (.int .i64 1) ∧ X.drew.cell? ⟨w2.heap.size, 9, none⟩ = some (.int .i64 1) ∧ X.drew.cell? ⟨w2.heap.size, 10, none⟩ = some (.bool false) ∧ X.drew.cell? ⟨w2.heap.size, 11, none⟩ = some (.int .i64 0) ∧ X.drew.cell? ⟨w2.heap.size, 12, none⟩ = some (.int .i64 0) := hQ.cells
  have hBD : Below w.heap.size w X.drew := hBX.drew
  have HBD := hide hBD
  clear hQ hBX hBD HQA HRP kS
  go_region_held (fun w' => w'.cell? ⟨w2.heap.size, 0, none⟩ = some (.int .i64 i) ∧ w'.cell? ⟨w2.heap.size, 1, none⟩ = some (.int .i64 256) ∧ w'.cell? ⟨w2.heap.size, 2, none⟩ = some (.int .i64 1) ∧ w'.cell? ⟨w2.heap.size, 3, none⟩ = some (.int .i64 0) ∧ w'.cell? ⟨w2.heap.size, 4, none⟩ = some (.int .i64 0) ∧ w'.cell? ⟨w2.heap.size, 5, none⟩ = some (.int .i64 0) ∧ w'.cell? ⟨w2.heap.size, 6, none⟩ = some (.string (B qs)) ∧ w'.cell? ⟨w2.heap.size, 7, none⟩ = some (.string (B (hostN d))) ∧ w'.cell? ⟨w2.heap.size, 8, none⟩ = some (.int .i64 1) ∧ w'.cell? ⟨w2.heap.size, 9, none⟩ = some (.int .i64 1) ∧ w'.cell? ⟨w2.heap.size, 10, none⟩ = some (.bool false) ∧ w'.cell? ⟨w2.heap.size, 11, none⟩ = some (.int .i64 0) ∧ w'.cell? ⟨w2.heap.size, 12, none⟩ = some (.int .i64 0)) (first | assumption | go_keep)
    (first
      | (go_at_call 74; go_loud (refine (unhide HQ2 _ (unhide HBD) ?_).mono ?_; assumption; rintro e w5 ⟨aa, ca, ab, cb, rfl, hS5, HB5⟩))
      | (go_at_call 73; go_loud (refine (unhide HR2 _ _ _ _ _ HB5 ?_).mono ?_; assumption; rintro e w6 ⟨rfl, hS6, HB6⟩)))
  rename_i hH
  clear hH hS hS5 hS6 HB5
  go_wp2_with fail
  go_ret
  exact ⟨rfl, unhide HB6⟩
end Xc
end Go.Proofs.YtkkpahmoljiepaaGreatDoor
