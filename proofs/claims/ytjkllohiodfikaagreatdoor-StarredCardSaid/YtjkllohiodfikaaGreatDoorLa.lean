/- Contracts: names.Ends and what it gives, names.Ancestors. -/
import Derived.Test.YtjkllohiodfikaaGreatDoorZa
set_option linter.unusedSimpArgs false
set_option linter.unusedVariables false
namespace Go.Proofs.YtjkllohiodfikaaGreatDoor
open Go.RowKit
open Pu (Str hide unhide)
attribute [local go_sem] Oper.semAt_some

/-- what stands behind a name's first point. -/
def after (l : Str) : Str := (Lib.cut l [46]).2.1
def endsF : Nat → Str → List Str
  | 0, _ => []
  | f + 1, l => if l = [] then [] else l :: endsF f (after l)
/-- all ends of a name. -/
def ends (l : Str) : List Str := endsF l.length l

theorem after_some (a b : Str) (h : (46 : UInt8) ∉ a) : after (a ++ 46 :: b) = b := by
  unfold after Lib.cut
  rw [Lib.index_one, Sp.indexByte_some 46 a b h, if_pos (by omega)]
  simp [Int.toNat_natCast]
theorem after_none (l : Str) (h : (46 : UInt8) ∉ l) : after l = [] := by
  unfold after Lib.cut
  rw [Lib.index_one, Sp.indexByte_none 46 l h, if_neg (by decide)]
theorem after_len (l : Str) (h : l ≠ []) : (after l).length < l.length := by
  by_cases hc : (46 : UInt8) ∈ l
  · obtain ⟨a, b, rfl, ha⟩ := List.eq_append_cons_of_mem hc
    rw [after_some a b ha]; simp; omega
  · rw [after_none l hc]
    cases l with
    | nil => exact absurd rfl h
    | cons x t => simp
theorem endsF_fuel : ∀ (f : Nat) (l : Str), l.length ≤ f → endsF f l = endsF l.length l
  | 0, l, h => by
    obtain rfl : l = [] := List.eq_nil_of_length_eq_zero (by omega)
    rfl
  | f + 1, l, h => by
    by_cases hl : l = []
    · subst hl; rfl
    · have h1 := after_len l hl
      obtain ⟨k, hk⟩ : ∃ k, l.length = k + 1 := ⟨l.length - 1, by cases l with | nil => exact absurd rfl hl | cons x t => simp⟩
      rw [hk, endsF, endsF, if_neg hl, if_neg hl, endsF_fuel f _ (by omega), endsF_fuel k _ (by omega)]
theorem ends_nil : ends [] = [] := rfl
theorem ends_cons (l : Str) (h : l ≠ []) : ends l = l :: ends (after l) := by
  have h1 := after_len l h
  unfold ends
  obtain ⟨k, hk⟩ : ∃ k, l.length = k + 1 := ⟨l.length - 1, by cases l with | nil => exact absurd rfl h | cons x t => simp⟩
  rw [hk, endsF, if_neg h, endsF_fuel k _ (by omega)]
theorem ends_len : ∀ (f : Nat) (l : Str), l.length ≤ f → ∀ x ∈ ends l, x.length ≤ l.length
  | 0, l, h, x, hx => by
    obtain rfl : l = [] := List.eq_nil_of_length_eq_zero (by omega)
    simp [ends_nil] at hx
  | f + 1, l, h, x, hx => by
    by_cases hl : l = []
    · subst hl; simp [ends_nil] at hx
    · rw [ends_cons l hl, List.mem_cons] at hx
      have h1 := after_len l hl
      rcases hx with rfl | hx
      · exact Nat.le_refl _
      · have := ends_len f (after l) (by omega) x hx; omega
theorem ends_mem_len {l x : Str} (hx : x ∈ ends l) : x.length ≤ l.length := ends_len _ _ (Nat.le_refl _) x hx

/-- the two values of a text's length. -/
def strLen : Value → Nat
  | .string s => s.size
  | _ => 0

namespace La
open Ka Kd Rg Ia Iow Ie Zb Zc Za

set_option maxHeartbeats 400000 in
theorem ends_o (n : Str) (w : World) :
    Calls Tryz.prog 151 #[.string (B n)] w fun e w' => e = .returned (.func (.func 192) #[] #[.pointer (some ⟨w.heap.size, 0, none⟩)]) ∧ w'.heap.size = w.heap.size + 1 ∧ Below w.heap.size w w' ∧ w'.cell? ⟨w.heap.size, 0, none⟩ = some (.string (B n)) := by
  go_enter Tryz.func151, Tryz.ntmps151
  go_wp2
  go_ret
  exact ⟨rfl, by simp, (Below.refl _ _).alloc (Nat.le_refl _) _, by go_simp⟩

theorem cut_any (e : Str) (w : World) (hg : G w) (he : e.length ≤ 3000) :
    Calls Tryz.prog 193 #[.string (B e), .string ⟨#[46]⟩] w fun x w' => (∃ b c, x = .returned (.tuple #[.string (B b), .string (B (after e)), .bool c])) ∧ Below w.heap.size w w' := by
  obtain ⟨_, m, hm⟩ := hg
  refine (Tryz.strings_Cut (B e) ⟨#[46]⟩ m w (by rw [size_B]; omega) hm).mono ?_
  rintro x w' ⟨rfl, k, rfl⟩
  exact ⟨⟨_, _, rfl⟩, Rg.below_drewN (Below.refl _ w) k⟩

set_option maxHeartbeats 400000 in
theorem ancestors_o (n : Str) (w : World) (hg : G w) (hn : n.length ≤ 3000) :
    Calls Tryz.prog 218 #[.string (B n)] w fun e w' => ∃ bn, e = .returned (.func (.func 192) #[] #[.pointer (some ⟨bn, 0, none⟩)]) ∧ bn < w'.heap.size ∧ w.heap.size ≤ bn ∧ Below w.heap.size w w' ∧ w'.cell? ⟨bn, 0, none⟩ = some (.string (B (after n))) := by
  have HC := hide (cut_any n w hg hn)
  clear hg
  go_enter Tryz.func218, Tryz.ntmps218
  go_wp2_with fail
  refine (unhide HC).mono ?_
  rintro e w1 ⟨⟨b, c, rfl⟩, hb1⟩
  go_wp2_with fail
  refine (ends_o (after n) w1).mono ?_
  rintro e w2 ⟨rfl, hs2, hb2, c2⟩
  have C2 := hide c2
  clear c2
  go_wp2_with fail
  go_ret
  have := hb1.size
  exact ⟨_, rfl, by omega, by omega, hb1.trans (hb2.mono hb1.size), unhide C2⟩

set_option maxHeartbeats 1600000 in
theorem ends_seq (bn : Nat) (n : Str) (W0 : World) (hc : W0.cell? ⟨bn, 0, none⟩ = some (.string (B n))) (hg : G W0) (hn : n.length ≤ 3000) :
    It.Seq Tryz.prog 192 #[.pointer (some ⟨bn, 0, none⟩)] (fun e : Str => #[.string (B e)]) (ends n)
      (fun A B => Below A.heap.size A B) (fun A B => A.heap.size ≤ B.heap.size ∧ B.heap[0]? = A.heap[0]?) (fun _ _ => True) W0 := by
  intro l J Jx hJ hJx hY h0
  have HY := hide hY
  have HJ := hide hJ
  have HG := hide hg
  clear hY hJ hJx hg
  refine callsIn_of_wp Tryz.func192 rfl trivial ?_
  simp only [Tryz.ntmps192, List.size_toArray, List.length_cons, List.length_nil, Nat.reduceAdd, Nat.reduceSub, Array.replicate_succ, Array.replicate_zero, List.push_toArray, List.append_toArray, List.nil_append, List.cons_append]
  gi_wp2
  gi_loopw [3] (fun s wr => ∃ (i : Nat) (e : Str), s = .string (B e) ∧ e.length ≤ n.length ∧ i ≤ (ends n).length ∧ (ends n).drop i = ends e ∧ J i wr ∧ (W0.heap.size ≤ wr.heap.size ∧ wr.heap[0]? = W0.heap[0]?)) (fun s _ => strLen s)
  case atStart => exact ⟨0, n, rfl, Nat.le_refl _, Nat.zero_le _, rfl, h0, Nat.le_refl _, rfl⟩
  case round =>
    obtain ⟨i, e, rfl, hel, hi, hdr, hJi, hB⟩ := hrel
    have HD := hide hdr
    have HJi := hide hJi
    clear hdr hJi
    by_cases he : e = []
    · have hne : ((B e).toList == []) = true := by rw [he, ByteArray.toList_eq]; rfl
      have hfin : Hid (i = (ends n).length) := by
        have := congrArg List.length (unhide HD)
        rw [List.length_drop, he, ends_nil, List.length_nil] at this
        rw [Hid]; omega
      clear hc HY HJ HG HD hel hi hB he
      gi_wp2
      go_end0
      exact ⟨⟨_, rfl⟩, .inl (by rw [← unhide hfin]; exact unhide HJi)⟩
    · have hne : ((B e).toList == []) = false := by
        rw [beq_eq_false_iff_ne, ByteArray.toList_eq]; exact he
      have HIX : Hid ((ends n)[i]? = some e) := by
        have := congrArg (fun l : List Str => l[0]?) (unhide HD)
        rw [ends_cons e he] at this
        rw [Hid]
        simpa using this
      have HNX : Hid ((ends n).drop (i + 1) = ends (after e)) := by
        rw [Hid, ← List.drop_drop, unhide HD, ends_cons e he]; rfl
      have HI1 : Hid (i + 1 ≤ (ends n).length) := (List.getElem?_eq_some_iff.1 (unhide HIX)).1
      have hal := after_len e he
      have hyi := unhide HY i e wr (unhide HIX) (unhide HJi)
      obtain ⟨fn, tmps, assign, body, hy, hR⟩ := hyi
      gi_wp2_with fail
      refine ⟨rfl, hR.mono ?_⟩
      rintro x W3 (⟨rfl, hJ4, hk4⟩ | ⟨rfl, hJx4, _⟩)
      · have HJ4 := hide hJ4
        have hB4 : W0.heap.size ≤ W3.heap.size ∧ W3.heap[0]? = W0.heap[0]? := ⟨Nat.le_trans hB.1 hk4.1, hk4.2.trans hB.2⟩
        have HG3 : G W3 := by
          obtain ⟨g0, m, hm⟩ := unhide HG
          exact ⟨Nat.lt_of_lt_of_le g0 hB4.1, m, (World.cell?_of_block hB4.2).trans hm⟩
        have HC := hide (cut_any e W3 HG3 (by omega))
        have h03 := HG3.1
        clear hJ4 hk4 HG3
        gi_wp2_with fail
        refine ⟨trivial, rfl, ?_⟩
        refine (callsIn_wide.2 (unhide HC)).mono ?_
        rintro x W5 ⟨⟨b, c, rfl⟩, hb5⟩
        have HE := hide (unhide HJ _ _ _ (unhide HJ4) hb5)
        have hB5 : W0.heap.size ≤ W5.heap.size ∧ W5.heap[0]? = W0.heap[0]? := ⟨Nat.le_trans hB4.1 hb5.size, (hb5.block 0 h03).trans hB4.2⟩
        gi_wp2_with fail
        exact ⟨⟨i + 1, after e, rfl, by omega, unhide HI1, unhide HNX, unhide HE, hB5⟩, by simp only [strLen, size_B]; omega⟩
      · gi_wp2
        refine bodyPost_ret (results_none rfl _ _ _) rfl ?_
        exact ⟨⟨_, rfl⟩, .inr hJx4⟩
end La
end Go.Proofs.YtjkllohiodfikaaGreatDoor
