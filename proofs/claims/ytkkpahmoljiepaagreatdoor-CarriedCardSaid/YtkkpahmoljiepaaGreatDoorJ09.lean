/- Contracts: names.Ends and what it gives, names.Ancestors. -/
import Derived.Test.YtkkpahmoljiepaaGreatDoorJ08
import Derived.Test.YtkkpahmoljiepaaGreatDoorJ04
import Derived.Laws.IdiomStrings
import Derived.Test.YtkkpahmoljiepaaGreatDoorShelf
import Derived.Laws.MakeOwn
set_option linter.unusedSimpArgs false
set_option linter.unusedVariables false
namespace Go.Proofs.YtkkpahmoljiepaaGreatDoor
open Go.RowKit
open Pu (Str hide unhide)
attribute [local go_sem] Oper.semAt_some

/-- what stands behind a name's first point. -/
def after (l : Str) : Str := (Lib.cut l [46]).2.1
def endsF : Nat → Str → List Str
  | 0, _ => []
  | f + 1, l => if l = [] then [] else l :: endsF f (after l)
/-- all ends of a name. -/
def ends (l : Str) : List Str := endsF l.length l

theorem after_some (a b : Str) (h : (46 : UInt8) ∉ a) : after (a ++ 46 :: b) = b := by
  unfold after Lib.cut
  rw [Lib.index_one, Sp.indexByte_some 46 a b h, if_pos (by omega)]
  simp [Int.toNat_natCast]
theorem after_none (l : Str) (h : (46 : UInt8) ∉ l) : after l = [] := by
  unfold after Lib.cut
  rw [Lib.index_one, Sp.indexByte_none 46 l h, if_neg (by decide)]
theorem after_len (l : Str) (h : l ≠ []) : (after l).length < l.length := by
  by_cases hc : (46 : UInt8) ∈ l
  · obtain ⟨a, b, rfl, ha⟩ := List.eq_append_cons_of_mem hc
    rw [after_some a b ha]; simp; omega
  · rw [after_none l hc]
    cases l with
    | nil => exact absurd rfl h
    | cons x t => simp
theorem endsF_fuel : ∀ (f : Nat) (l : Str), l.length ≤ f → endsF f l = endsF l.length l
  | 0, l, h => by
    obtain rfl : l = [] := List.eq_nil_of_length_eq_zero (by omega)
    rfl
  | f + 1, l, h => by
    by_cases hl : l = []
    · subst hl; rfl
    · have h1 := after_len l hl
      obtain ⟨k, hk⟩ : ∃ k, l.length = k + 1 := ⟨l.length - 1, by cases l with | nil => exact absurd rfl hl | cons x t => simp⟩
      rw [hk, endsF, endsF, if_neg hl, if_neg hl, endsF_fuel f _ (by omega), endsF_fuel k _ (by omega)]
theorem ends_nil : ends [] = [] := rfl
theorem ends_cons (l : Str) (h : l ≠ []) : ends l = l :: ends (after l) := by
  have h1 := after_len l h
  unfold ends
  obtain ⟨k, hk⟩ : ∃ k, l.length = k + 1 := ⟨l.length - 1, by cases l with | nil => exact absurd rfl h | cons x t => simp⟩
  rw [hk, endsF, if_neg h, endsF_fuel k _ (by omega)]
theorem ends_len : ∀ (f : Nat) (l : Str), l.length ≤ f → ∀ x ∈ ends l, x.length ≤ l.length
  | 0, l, h, x, hx => by
    obtain rfl : l = [] := List.eq_nil_of_length_eq_zero (by omega)
    simp [ends_nil] at hx
  | f + 1, l, h, x, hx => by
    by_cases hl : l = []
    · subst hl; simp [ends_nil] at hx
    · rw [ends_cons l hl, List.mem_cons] at hx
      have h1 := after_len l hl
      rcases hx with rfl | hx
      · exact Nat.le_refl _
      · have := ends_len f (after l) (by omega) x hx; omega
theorem ends_mem_len {l x : Str} (hx : x ∈ ends l) : x.length ≤ l.length := ends_len _ _ (Nat.le_refl _) x hx

/-- the two values of a text's length. -/
def strLen : Value → Nat
  | .string s => s.size
  | _ => 0

namespace La
open Ka Kd Rg Ia Iow Ie Zb Zc Za

set_option maxHeartbeats 400000 in
theorem ends_o (n : Str) (w : World) :
    Calls Tryz.prog 191 #[.string (B n)] w fun e w' => e = .returned (.func (.func 241) #[] #[.pointer (some ⟨w.heap.size, 0, none⟩)]) ∧ w'.heap.size = w.heap.size + 1 ∧ Below w.heap.size w w' ∧ w'.cell? ⟨w.heap.size, 0, none⟩ = some (.string (B n)) := by
  go_enter Tryz.func191, Tryz.ntmps191
  go_wp2
  go_ret
  exact ⟨rfl, by simp, (Below.refl _ _).alloc (Nat.le_refl _) _, by go_simp⟩

theorem cut_any (e : Str) (w : World) (hg : G w) (he : e.length ≤ 3000) :
    Calls Tryz.prog 242 #[.string (B e), .string ⟨#[46]⟩] w fun x w' => (∃ b c, x = .returned (.tuple #[.string (B b), .string (B (after e)), .bool c])) ∧ Below w.heap.size w w' := by
  obtain ⟨_, m, hm⟩ := hg
  refine (Tryz.strings_Cut (B e) ⟨#[46]⟩ m w (by rw [size_B]; omega) hm).mono ?_
  rintro x w' ⟨rfl, k, rfl⟩
  exact ⟨⟨_, _, rfl⟩, Rg.below_drewN (Below.refl _ w) k⟩

set_option maxHeartbeats 400000 in
theorem ancestors_o (n : Str) (w : World) (hg : G w) (hn : n.length ≤ 3000) :
    Calls Tryz.prog 271 #[.string (B n)] w fun e w' => ∃ bn, e = .returned (.func (.func 241) #[] #[.pointer (some ⟨bn, 0, none⟩)]) ∧ bn < w'.heap.size ∧ w.heap.size ≤ bn ∧ Below w.heap.size w w' ∧ w'.cell? ⟨bn, 0, none⟩ = some (.string (B (after n))) := by
  have HC := hide (cut_any n w hg hn)
  clear hg
  go_enter Tryz.func271, Tryz.ntmps271
  go_wp2_with fail
  refine (unhide HC).mono ?_
  rintro e w1 ⟨⟨b, c, rfl⟩, hb1⟩
  go_wp2_with fail
  refine (ends_o (after n) w1).mono ?_
  rintro e w2 ⟨rfl, hs2, hb2, c2⟩
  have C2 := hide c2
  clear c2
  go_wp2_with fail
  go_ret
  have := hb1.size
  exact ⟨_, rfl, by omega, by omega, hb1.trans (hb2.mono hb1.size), unhide C2⟩

set_option maxHeartbeats 1600000 in
theorem ends_seq (bn : Nat) (n : Str) (W0 : World) (hc : W0.cell? ⟨bn, 0, none⟩ = some (.string (B n))) (hg : G W0) (hn : n.length ≤ 3000) :
    It.Seq Tryz.prog 241 #[.pointer (some ⟨bn, 0, none⟩)] (fun e : Str => #[.string (B e)]) (ends n)
      (fun A B => Below A.heap.size A B) (fun A B => A.heap.size ≤ B.heap.size ∧ B.heap[0]? = A.heap[0]?) (fun _ _ => True) W0 := by
  intro l J Jx hJ hJx hY h0
  have HY := hide hY
  have HJ := hide hJ
  have HG := hide hg
  clear hY hJ hJx hg
  refine callsIn_of_wp Tryz.func241 rfl trivial ?_
  simp only [Tryz.ntmps241, List.size_toArray, List.length_cons, List.length_nil, Nat.reduceAdd, Nat.reduceSub, Array.replicate_succ, Array.replicate_zero, List.push_toArray, List.append_toArray, List.nil_append, List.cons_append]
  gi_wp2
  gi_loopw [3] (fun s wr => ∃ (i : Nat) (e : Str), s = .string (B e) ∧ e.length ≤ n.length ∧ i ≤ (ends n).length ∧ (ends n).drop i = ends e ∧ J i wr ∧ (W0.heap.size ≤ wr.heap.size ∧ wr.heap[0]? = W0.heap[0]?)) (fun s _ => strLen s)
  case atStart => exact ⟨0, n, rfl, Nat.le_refl _, Nat.zero_le _, rfl, h0, Nat.le_refl _, rfl⟩
  case round =>
    obtain ⟨i, e, rfl, hel, hi, hdr, hJi, hB⟩ := hrel
    have HD := hide hdr
    have HJi := hide hJi
    clear hdr hJi
    by_cases he : e = []
    · have hne : ((B e).toList == []) = true := by rw [he, ByteArray.toList_eq]; rfl
      have hfin : Hid (i = (ends n).length) := by
        have := congrArg List.length (unhide HD)
        rw [List.length_drop, he, ends_nil, List.length_nil] at this
        rw [Hid]; omega
      clear hc HY HJ HG HD hel hi hB he
      gi_wp2
      go_end0
      exact ⟨⟨_, rfl⟩, .inl (by rw [← unhide hfin]; exact unhide HJi)⟩
    · have hne : ((B e).toList == []) = false := by
        rw [beq_eq_false_iff_ne, ByteArray.toList_eq]; exact he
      have HIX : Hid ((ends n)[i]? = some e) := by
        have := congrArg (fun l : List Str => l[0]?) (unhide HD)
        rw [ends_cons e he] at this
        rw [Hid]
        simpa using this
      have HNX : Hid ((ends n).drop (i + 1) = ends (after e)) := by
        rw [Hid, ← List.drop_drop, unhide HD, ends_cons e he]; rfl
      have HI1 : Hid (i + 1 ≤ (ends n).length) := (List.getElem?_eq_some_iff.1 (unhide HIX)).1
      have hal := after_len e he
      have hyi := unhide HY i e wr (unhide HIX) (unhide HJi)
      obtain ⟨fn, tmps, assign, body, hy, hR⟩ := hyi
      gi_wp2_with fail
      refine ⟨rfl, hR.mono ?_⟩
      rintro x W3 (⟨rfl, hJ4, hk4⟩ | ⟨rfl, hJx4, _⟩)
      · have HJ4 := hide hJ4
        have hB4 : W0.heap.size ≤ W3.heap.size ∧ W3.heap[0]? = W0.heap[0]? := ⟨Nat.le_trans hB.1 hk4.1, hk4.2.trans hB.2⟩
        have HG3 : G W3 := by
          obtain ⟨g0, m, hm⟩ := unhide HG
          exact ⟨Nat.lt_of_lt_of_le g0 hB4.1, m, (World.cell?_of_block hB4.2).trans hm⟩
        have HC := hide (cut_any e W3 HG3 (by omega))
        have h03 := HG3.1
        clear hJ4 hk4 HG3
        gi_wp2_with fail
        refine ⟨trivial, rfl, ?_⟩
        refine (callsIn_wide.2 (unhide HC)).mono ?_
        rintro x W5 ⟨⟨b, c, rfl⟩, hb5⟩
        have HE := hide (unhide HJ _ _ _ (unhide HJ4) hb5)
        have hB5 : W0.heap.size ≤ W5.heap.size ∧ W5.heap[0]? = W0.heap[0]? := ⟨Nat.le_trans hB4.1 hb5.size, (hb5.block 0 h03).trans hB4.2⟩
        gi_wp2_with fail
        exact ⟨⟨i + 1, after e, rfl, by omega, unhide HI1, unhide HNX, unhide HE, hB5⟩, by simp only [strLen, size_B]; omega⟩
      · gi_wp2
        refine bodyPost_ret (results_none rfl _ _ _) rfl ?_
        exact ⟨⟨_, rfl⟩, .inr hJx4⟩
end La
end Go.Proofs.YtkkpahmoljiepaaGreatDoor

/- Contracts: names' fold and First. -/
namespace Go.Proofs.YtkkpahmoljiepaaGreatDoor
open Go.RowKit
open Pu (Str hide unhide)

/-- bytes side by side, none of them frozen. -/
def BytesAt (w : World) (b : Nat) (l : Str) : Prop := b < w.heap.size ∧ (∀ j (h : j < l.length), w.cell? ⟨b, j, none⟩ = some (.int .u8 l[j].toNat)) ∧ ∀ j, j < l.length → w.frozen? ⟨b, j, none⟩ = false
theorem BytesAt.set {w : World} {b : Nat} {l : Str} (h : BytesAt w b l) (k : Nat) (c : UInt8) (hk : k < l.length) : BytesAt (w.setCell ⟨b, k, none⟩ (.int .u8 c.toNat)) b (l.set k c) := by
  obtain ⟨h1, h2, h3⟩ := h
  refine ⟨by simpa [World.setCell] using h1, fun j hj => ?_, fun j hj => ?_⟩
  · rw [List.length_set] at hj
    by_cases e : k = j
    · subst e
      rw [World.cell?_setCell_same _ _ _ (h2 k hj)]
      simp
    · rw [World.cell?_setCell_other _ _ _ _ (fun x => e (congrArg Addr.off x)), h2 j hj]
      simp [List.getElem_set, e]
  · rw [List.length_set] at hj
    rw [World.frozen?_setCell]
    exact h3 j hj

namespace Wd
open Ka Wa Wb

theorem bytes_new (w : World) (l : Str) (cap : Nat) : BytesAt (w.drew.alloc (.cells (bytesRow (B l) cap) 5 ((bytesRow (B l) cap).size, (bytesRow (B l) cap).size + 1))) w.heap.size l := by
  have hn : (w.drew.alloc (.cells (bytesRow (B l) cap) 5 ((bytesRow (B l) cap).size, (bytesRow (B l) cap).size + 1))).heap[w.heap.size]? = some (.cells (bytesRow (B l) cap) 5 ((bytesRow (B l) cap).size, (bytesRow (B l) cap).size + 1)) := World.alloc_heap_new w.drew _
  have hs : l.length ≤ (bytesRow (B l) cap).size := by simp [bytesRow, B]
  refine ⟨by simp, fun j hj => ?_, fun j hj => ?_⟩
  · have := bytesRow_at (B l) cap j (by simpa [B] using hj)
    simp only [World.cell?, hn]
    rw [this]
    rfl
  · simp only [World.frozen?, hn]
    simp; omega

def foldC (c : UInt8) : UInt8 := if 65 ≤ c.toNat ∧ c.toNat ≤ 90 then UInt8.ofNat (c.toNat + 32) else if c.toNat = 46 then 80 else c

theorem map_step (l : Str) (k : Nat) (c : UInt8) (h : k < l.length) : ((l.take k).map foldC ++ l.drop k).set k (foldC l[k]) = (l.take (k + 1)).map foldC ++ l.drop (k + 1) := by
  have e1 : ((l.take k).map foldC).length = k := by simp; omega
  rw [List.drop_eq_getElem_cons h, List.take_succ_eq_append_getElem h, List.set_append, if_neg (by omega), e1, Nat.sub_self, List.map_append, List.append_assoc, List.set_cons_zero]
  rfl
theorem map_same (l : Str) (k : Nat) (h : k < l.length) (hc : foldC l[k] = l[k]) : (l.take (k + 1)).map foldC ++ l.drop (k + 1) = (l.take k).map foldC ++ l.drop k := by
  rw [List.drop_eq_getElem_cons h, List.take_succ_eq_append_getElem h, List.map_append, List.append_assoc]
  simp only [List.map_cons, List.map_nil, hc, List.singleton_append]

set_option maxRecDepth 100000 in
set_option maxHeartbeats 1600000 in
theorem fold_any (l : Str) (w : World) (hl : l.length ≤ 1000) :
    Calls Tryz.prog 252 #[.string (B l)] w fun e w' => e = .returned (.string (B (l.map foldC))) ∧ Below w.heap.size w w' := by
  have kb := run_bytes_of_string (P := Tryz.prog) w 9 58 5 (B l) Tryz.underlying9 Tryz.underlying58 Tryz.underlying5
  have HA := hide (bytes_new w l (grownCap w (B l).size 0 5))
  have HB := hide ((Below.refl w.heap.size w).drew.alloc (Nat.le_refl w.heap.size) (.cells (bytesRow (B l) (grownCap w (B l).size 0 5)) 5 ((bytesRow (B l) (grownCap w (B l).size 0 5)).size, (bytesRow (B l) (grownCap w (B l).size 0 5)).size + 1)))
  have hcap : l.length ≤ grownCap w (B l).size 0 5 := by
    have := grownCap_ge w (B l).size 0 5
    rw [size_B] at this ⊢
    exact this
  generalize grownCap w (B l).size 0 5 = cap at *
  generalize w.drew.alloc (.cells (bytesRow (B l) cap) 5 ((bytesRow (B l) cap).size, (bytesRow (B l) cap).size + 1)) = W at *
  have hs : (B l).size = l.length := size_B l
  go_enter Tryz.func252, Tryz.ntmps252
  go_wp2_with fail
  go_loopw [10] (fun i wr => ∃ k : Nat, i = .int .i64 k ∧ k ≤ l.length ∧ BytesAt wr w.heap.size ((l.take k).map foldC ++ l.drop k) ∧ Below w.heap.size w wr) (fun i _ => l.length - (intOf i).toNat)
  case atStart => exact ⟨0, rfl, Nat.zero_le _, by simpa using unhide HA, unhide HB⟩
  case round =>
    obtain ⟨k, rfl, hk, hba, hb⟩ := hrel
    have HBA := hide hba
    have HBB := hide hb
    clear hba hb
    by_cases hlk : k < l.length
    · have hlen : ((l.take k).map foldC ++ l.drop k).length = l.length := by simp; omega
      have hcell : wr.cell? ⟨w.heap.size, k, none⟩ = some (.int .u8 l[k].toNat) := by
        rw [(unhide HBA).2.1 k (by omega)]
        rw [List.getElem_append_right (by simp; omega), List.getElem_drop]
        simp [Nat.min_eq_left hk]
      have hfz : wr.frozen? ⟨w.heap.size, k, none⟩ = false := (unhide HBA).2.2 k (by omega)
      have HM := hide (map_step l k 0 hlk)
      have HS := hide ((unhide HBA).set k (foldC l[k]) (by omega))
      have HX := hide (map_same l k hlk)
      generalize l[k] = c at *
      have hc := UInt8.toNat_lt c
      have HV : Hid (((foldC c).toNat : Int) = if 65 ≤ c.toNat ∧ c.toNat ≤ 90 then (c.toNat : Int) + 32 else if c.toNat = 46 then 80 else c.toNat) := by
        unfold Hid foldC
        split
        · simp [UInt8.toNat_ofNat']; omega
        · split <;> rfl
      have HC : Hid (foldC c = c → BytesAt wr w.heap.size ((l.take (k + 1)).map foldC ++ l.drop (k + 1))) := fun h => by rw [unhide HX h]; exact unhide HBA
      rw [unhide HM] at HS
      have HI : Hid (¬ (65 ≤ c.toNat ∧ c.toNat ≤ 90) → ¬ c.toNat = 46 → foldC c = c) := fun h1 h2 => by unfold foldC; rw [if_neg h1, if_neg h2]
      generalize hn : c.toNat = n at *
      clear hlen
      by_cases h1 : 65 ≤ n ∧ n ≤ 90
      · have hv : ((foldC c).toNat : Int) = (n : Int) - 65 + 97 := by rw [unhide HV, if_pos h1]; omega
        rw [hv] at HS
        clear hv
        obtain ⟨h1, h2⟩ := h1
        go_wp2
        exact ⟨⟨k + 1, by go_num, by omega, unhide HS, (unhide HBB).setCell (Nat.le_refl _) _⟩, by simp [intOf]; omega⟩
      · by_cases h2 : n = 46
        · have hv : ((foldC c).toNat : Int) = 80 := by rw [unhide HV, if_neg h1, if_pos h2]
          rw [hv] at HS
          clear hv
          subst h2
          go_wp2
          exact ⟨⟨k + 1, by go_num, by omega, unhide HS, (unhide HBB).setCell (Nat.le_refl _) _⟩, by simp [intOf]; omega⟩
        · have HF := hide (unhide HC (unhide HI h1 h2))
          have h3 : ((n : Int) == 46) = false := by simp; omega
          by_cases h4 : 65 ≤ n
          · have h5 : ¬ n ≤ 90 := by omega
            clear h1
            go_wp2
            exact ⟨⟨k + 1, by go_num, by omega, unhide HF, unhide HBB⟩, by simp [intOf]; omega⟩
          · clear h1
            go_wp2
            exact ⟨⟨k + 1, by go_num, by omega, unhide HF, unhide HBB⟩, by simp [intOf]; omega⟩
    · have hkl : k = l.length := by omega
      have hend : Hid ((l.take k).map foldC ++ l.drop k = l.map foldC) := by rw [Hid, hkl]; simp
      have hba := unhide HBA
      rw [unhide hend] at hba
      have hlm : (l.map foldC).length = l.length := by simp
      have kc := run_convert_bytes_back (P := Tryz.prog) wr 58 9 5 ⟨w.heap.size, 0, none⟩ cap (l.map foldC) Tryz.underlying58 Tryz.underlying5 Tryz.underlying9 (fun j hj => by
        have e : (⟨w.heap.size, 0, none⟩ : Addr).add j = ⟨w.heap.size, j, none⟩ := by unfold Addr.add; by_cases h : j = 0 <;> simp [h]
        rw [e]
        exact hba.2.1 j hj)
      rw [hlm] at kc
      clear hba hlm
      subst hkl
      go_wp2
      go_ret
      exact ⟨rfl, unhide HBB⟩

set_option maxHeartbeats 400000 in
theorem first_any (l : Str) (w : World) (hg : G w) (hl : l.length ≤ 3000) :
    Calls Tryz.prog 340 #[.string (B l)] w fun e w' => e = .returned (.string (B (Lib.cut l [46]).1)) ∧ Below w.heap.size w w' := by
  obtain ⟨_, m, hm⟩ := hg
  have HC := hide (Tryz.strings_Cut (B l) ⟨#[46]⟩ m w (by rw [size_B]; omega) hm)
  clear hm
  go_enter Tryz.func340, Tryz.ntmps340
  go_wp2_with fail
  refine (unhide HC).mono ?_
  rintro e w1 ⟨rfl, n, rfl⟩
  go_wp2_with fail
  go_ret
  exact ⟨rfl, Rg.below_drewN (Below.refl _ w) n⟩
end Wd
end Go.Proofs.YtkkpahmoljiepaaGreatDoor

/- Contracts: names' FromLabels. -/
namespace Go.Proofs.YtkkpahmoljiepaaGreatDoor
open Go.RowKit
open Pu (Str hide unhide)

/-- texts in a block of their own. -/
def TextsAt (w : World) (g : Nat) (l : List Str) : Prop := w.heap[g]? = some (.cells ((l.map fun x => Value.string (B x)).toArray) 9)
section
variable {w : World} {g : Nat} {l : List Str}
theorem TextsAt.lt (h : TextsAt w g l) : g < w.heap.size := (Array.getElem?_eq_some_iff.1 h).1
theorem TextsAt.cell (h : TextsAt w g l) (i : Nat) (hi : i < l.length) : w.cell? ⟨g, i, none⟩ = some (.string (B l[i])) := by
  unfold TextsAt at h; simp [World.cell?, h, hi]
theorem TextsAt.frozen (h : TextsAt w g l) (i : Nat) : w.frozen? ⟨g, i, none⟩ = false := by
  unfold TextsAt at h; simp [World.frozen?, h]
theorem TextsAt.set (h : TextsAt w g l) (i : Nat) (x : Str) : TextsAt (w.setCell ⟨g, i, none⟩ (.string (B x))) g (l.set i x) := by
  unfold TextsAt at *; simp only [World.setCell]; rw [Array.getElem?_modify, if_pos rfl, h]
  simp
theorem TextsAt.below {w' : World} (h : TextsAt w g l) (hb : Below w.heap.size w w') : TextsAt w' g l := (hb.block g h.lt).trans h
end

/-- texts that a value reads as. -/
def StrsV (w : World) (v : Value) (ls : List Str) : Prop := (v = .slice none 0 0 ∧ ls = []) ∨ ∃ g c, v = .slice (some ⟨g, 0, none⟩) ls.length c ∧ ls.length ≤ c ∧ g < w.heap.size ∧ ∀ j (h : j < ls.length), w.cell? ⟨g, j, none⟩ = some (.string (B ls[j]))

namespace We
open Ka Wa Wb Wd Re

def foldL (l : Str) : Str := l.map foldC
theorem foldL_len (l : Str) : (foldL l).length = l.length := by simp [foldL]
def nameP (ls : List Str) : Str := Lib.join (ls.map foldL) [46]

theorem made_texts (w : World) (n : Nat) : TextsAt (w.alloc (.cells (madeCells (Value.string ⟨#[]⟩).cells n) 9)) w.heap.size (List.replicate n []) := by
  have e : madeCells (Value.string ⟨#[]⟩).cells n = ((List.replicate n ([] : Str)).map fun x => Value.string (B x)).toArray := by
    apply Array.ext'
    simp only [madeCells, Value.cells, Array.toList_map, Array.toList_range]
    apply List.ext_getElem
    · simp
    · intro i h1 h2
      simp [B, Nat.mod_one]
  rw [e]
  exact World.alloc_heap_new w _

theorem step_set (ls : List Str) (k : Nat) (h : k < ls.length) : (((ls.take k).map foldL) ++ List.replicate (ls.length - k) []).set k (foldL ls[k]) = ((ls.take (k + 1)).map foldL) ++ List.replicate (ls.length - (k + 1)) [] := by
  have e1 : ((ls.take k).map foldL).length = k := by simp; omega
  rw [List.set_append, if_neg (by omega), e1, Nat.sub_self, List.take_succ_eq_append_getElem h, show ls.length - k = (ls.length - (k + 1)) + 1 from by omega, List.replicate_succ, List.set_cons_zero, List.map_append, List.append_assoc]
  rfl

theorem data_Bs (l : List Str) : (l.map B).map (·.data.toList) = l := by
  rw [List.map_map]
  exact List.map_id' l
theorem join_len (M : Nat) : ∀ xs : List Str, (∀ x ∈ xs, x.length ≤ M) → (Lib.join xs [46]).length ≤ xs.length * (M + 1)
  | [], _ => by simp [Lib.join, List.intercalate]
  | [x], h => by
    have := h x (by simp)
    simp [Lib.join, List.intercalate]; omega
  | x :: y :: t, h => by
    have ih := join_len M (y :: t) (fun z hz => h z (List.mem_cons_of_mem _ hz))
    have hx := h x (by simp)
    simp only [Lib.join, List.intercalate] at ih ⊢
    rw [List.intersperse]
    simp only [List.flatten_cons, List.length_append, List.length_cons, List.length_nil] at ih ⊢
    · rw [Nat.succ_mul]
      omega
    · intro e; cases e

set_option maxRecDepth 100000 in
set_option maxHeartbeats 1600000 in
theorem fromLabels_any (v : Value) (ls : List Str) (w : World) (hv : StrsV w v ls) (hn : ls.length ≤ 1000) (hl : ∀ l ∈ ls, l.length ≤ 1000) :
    Calls Tryz.prog 200 #[v] w fun e w' => e = .returned (.string (B (nameP ls))) ∧ Below w.heap.size w w' := by
  obtain ⟨i0, hi, hz0, hz1, hz2⟩ := info_parts infoS
  have km := run_make (P := Tryz.prog) w 49 9 i0 (.string ⟨#[]⟩) underS hi hz0 .i64 .i64 ls.length ls.length (by omega) (Int.le_refl _) (by rw [hz2]; omega) (by omega)
  rw [hz1] at km
  simp only [Int.toNat_natCast, Nat.mul_one] at km
  have HT := hide (made_texts w ls.length)
  have HB := hide ((Below.refl w.heap.size w).alloc (Nat.le_refl _) (.cells (madeCells (Value.string ⟨#[]⟩).cells ls.length) 9))
  have HJ := hide (Any.strings_Join Tryz.lays156 Tryz.Builder_Extra_156)
  have HV := hide hv
  have HL := hide hl
  generalize w.alloc (.cells (madeCells (Value.string ⟨#[]⟩).cells ls.length) 9) = W at *
  clear hi hz0 hz1 hz2 i0 hl
  rcases hv with ⟨rfl, rfl⟩ | ⟨g, c, rfl, hc, hg, hcells⟩
  · have HN := hide (fun W : World => Any.strings_Join_none Tryz.lays156 Tryz.Builder_Extra_156 (some ⟨w.heap.size, 0, none⟩) 0 ⟨#[46]⟩ W)
    clear HJ
    simp only [List.length_nil] at km HT HB
    have km0 : (Instr.makeSlice 49 (.int .i64 0) (.int .i64 0)).run Tryz.prog w = .ok (.slice (some ⟨w.heap.size, 0, none⟩) 0 0) W := km
    clear km
    go_enter Tryz.func200, Tryz.ntmps200
    go_wp2_with fail
    go_loopw [11] (fun i wr => i = .int .i64 0 ∧ wr = W) (fun _ _ => 0)
    case atStart => exact ⟨rfl, rfl⟩
    case round =>
      obtain ⟨rfl, rfl⟩ := hrel
      go_wp2_with fail
      refine (unhide HN _).mono ?_
      rintro e w2 ⟨rfl, rfl⟩
      go_wp2_with fail
      go_ret
      exact ⟨rfl, unhide HB⟩
  · have HC := hide hcells
    clear hcells
    go_enter Tryz.func200, Tryz.ntmps200
    go_wp2_with fail
    go_loopw [11] (fun i wr => ∃ k : Nat, i = .int .i64 k ∧ k ≤ ls.length ∧ TextsAt wr w.heap.size (((ls.take k).map foldL) ++ List.replicate (ls.length - k) []) ∧ Below w.heap.size w wr) (fun i _ => ls.length - (intOf i).toNat)
    case atStart => exact ⟨0, rfl, Nat.zero_le _, by simpa using unhide HT, unhide HB⟩
    case round =>
      obtain ⟨k, rfl, hk, hta, hb⟩ := hrel
      have HTA := hide hta
      have HBB := hide hb
      clear hta hb
      by_cases hlk : k < ls.length
      · have hcell : wr.cell? ⟨g, k, none⟩ = some (.string (B ls[k])) := ((unhide HBB).cell (p := ⟨g, k, none⟩) hg).trans (unhide HC k hlk)
        have HS := hide (step_set ls k hlk)
        have hlk' := unhide HL ls[k] (List.getElem_mem hlk)
        have hlen : (((ls.take k).map foldL) ++ List.replicate (ls.length - k) []).length = ls.length := by simp; omega
        generalize ls[k] = x at *
        have HF := hide (show Calls Tryz.prog 252 #[.string (B x)] wr fun e w' => e = .returned (.string (B (foldL x))) ∧ Below wr.heap.size wr w' from fold_any x wr hlk')
        go_wp2_with fail
        refine (unhide HF).mono ?_
        rintro e w2 ⟨rfl, hb2⟩
        have hT2 := (unhide HTA).below hb2
        have hcell2 := hT2.cell k (by omega)
        have hfz2 := hT2.frozen k
        have HT2 := hide (hT2.set k (foldL x))
        have HB2 := hide (((unhide HBB).trans (hb2.mono (unhide HBB).size)).setCell (p := ⟨w.heap.size, k, none⟩) (Nat.le_refl _) (.string (B (foldL x))))
        rw [unhide HS] at HT2
        clear hb2 hT2
        go_wp2_with fail
        exact ⟨⟨k + 1, by go_num, by omega, unhide HT2, unhide HB2⟩, by simp [intOf]; omega⟩
      · have hkl : k = ls.length := by omega
        subst hkl
        have HTE : Hid (TextsAt wr w.heap.size (ls.map foldL)) := by
          have := unhide HTA
          rw [List.take_length, Nat.sub_self, List.replicate_zero, List.append_nil] at this
          exact this
        have HJ2 := hide (unhide HJ w.heap.size 0 ls.length ((ls.map foldL).map B) ⟨#[46]⟩ wr ?c1 (unhide HTE).lt ?c2 ?c3 ?c4)
        case c1 =>
          intro j x hx
          rw [Nat.zero_add]
          rw [List.getElem?_map, Option.map_eq_some_iff] at hx
          obtain ⟨y, hy, rfl⟩ := hx
          obtain ⟨hj, rfl⟩ := List.getElem?_eq_some_iff.1 hy
          exact (unhide HTE).cell j hj
        case c2 => simp; omega
        case c3 => simp
        case c4 =>
          rw [data_Bs]
          refine Nat.le_trans (join_len 1000 _ ?_) ?_
          · intro x hx
            obtain ⟨y, hy, rfl⟩ := List.mem_map.1 hx
            rw [foldL_len]; exact unhide HL y hy
          · rw [List.length_map]; omega
        rw [data_Bs, List.length_map, List.length_map] at HJ2
        go_wp2_with fail
        refine (unhide HJ2).mono ?_
        rintro e w2 ⟨rfl, hb2⟩
        go_wp2_with fail
        go_ret
        exact ⟨rfl, (unhide HBB).trans (hb2.mono (unhide HBB).size)⟩
end We
end Go.Proofs.YtkkpahmoljiepaaGreatDoor

/- Contract: (*lookup.Table).cutOver. -/
namespace Go.Proofs.YtkkpahmoljiepaaGreatDoor
open Go.RowKit
open Pu (Str hide unhide)
attribute [local go_sem] Oper.semAt_some undef

def cutStep (rs : List Rec) (acc : List Rec) (e : Str) : List Rec := if (setP (ofP rs e) 2).length = 0 then acc else setP (ofP rs e) 2
/-- the NS of the cut that a name is under, the one nearest to the origin. -/
def cutP (o : Str) (rs : List Rec) (n : Str) : List Rec := ((ends n).takeWhile (fun e => !(e == o))).foldl (cutStep rs) []

namespace Lb
open Ka Kd Rg Ia Iow Ie Zb Zc Za La

theorem takeWhile_all {α : Type} (p : α → Bool) : ∀ (l : List α), l.all p = true → l.takeWhile p = l
  | [], _ => rfl
  | x :: t, h => by
    rw [List.all_cons, Bool.and_eq_true] at h
    rw [List.takeWhile_cons_of_pos h.1, takeWhile_all p t h.2]
theorem takeWhile_stop {α : Type} (p : α → Bool) : ∀ (l : List α) (i : Nat) (x : α), l[i]? = some x → (l.take i).all p = true → p x = false → l.takeWhile p = l.take i
  | [], i, x, h, _, _ => by simp at h
  | y :: t, 0, x, h, _, hp => by
    simp at h; subst h
    rw [List.takeWhile_cons_of_neg (by simp [hp])]; rfl
  | y :: t, i + 1, x, h, ha, hp => by
    rw [List.take_succ_cons, List.all_cons, Bool.and_eq_true] at ha
    rw [List.takeWhile_cons_of_pos ha.1, List.take_succ_cons, takeWhile_stop p t i x (by simpa using h) ha.2 hp]
theorem take_one {α : Type} {l : List α} {i : Nat} {x : α} (h : l[i]? = some x) : l.take (i + 1) = l.take i ++ [x] := by
  obtain ⟨hi, rfl⟩ := List.getElem?_eq_some_iff.1 h
  exact List.take_succ_eq_append_getElem hi

set_option maxRecDepth 100000 in
set_option maxHeartbeats 1600000 in
theorem cutOver_any (zb b off cap : Nat) (o n : Str) (rs : List Rec) (w : World) (hz : TableAt w zb o b off cap rs) (hg : G w) (hlen : rs.length ≤ 3001) (hn : n.length ≤ 3000) (hol : o.length ≤ 3000) :
    Calls Tryz.prog 126 #[.pointer (some ⟨zb, 0, none⟩), .string (B n)] w fun e w' => (∃ v, e = .returned v ∧ Piece b off rs v (cutP o rs n)) ∧ Below w.heap.size w w' := by
  refine (callsIn_wide (n := 0)).1 ?_
  refine callsIn_of_wp_marks Tryz.func126 rfl trivial ?_
  simp only [Tryz.ntmps126, List.size_toArray, List.length_cons, List.length_nil, Nat.reduceAdd, Nat.reduceSub, Array.replicate_succ, Array.replicate_zero, List.push_toArray, List.append_toArray, List.nil_append, List.cons_append]
  have HZ := hide hz
  have HG := hide hg
  have hzb := hz.1
  have hg0 := hg.1
  clear hz hg
  gi_wp2_with fail
  refine ⟨trivial, rfl, ?_⟩
  refine (callsIn_wide.2 (ends_o _ _)).mono ?_
  rintro e W2 ⟨rfl, e4, hb2, e2⟩
  have e0 : It.Box W2 w.heap.size (.pointer (some ⟨zb, 0, none⟩)) 110 := ((It.Box.new _ _ _).alloc _).below hb2 (by simp <;> omega)
  have e1 : It.Box W2 (w.heap.size + 1) (.slice none 0 0) 41 := by
    have := (It.Box.new (w.alloc (.cells #[.pointer (some ⟨zb, 0, none⟩)] 110)) (.slice none 0 0) 41).below hb2 (by simp <;> omega)
    rwa [World.size_alloc] at this
  have e5 : Below w.heap.size w W2 := (((Below.refl _ _).alloc (Nat.le_refl _) _).alloc (by simp) _).trans (hb2.mono (by simp <;> omega))
  simp only [World.size_alloc] at e4 e2
  gi_wp2_with fail
  have hgrow : ∀ r, Below W2.heap.size W2 ((W2.alloc (.deferred (some []))).alloc (.loop r)) := fun r => ((Below.refl _ _).alloc (Nat.le_refl _) _).alloc (by simp) _
  refine It.rangeB (xs := ends n) (encs := fun e : Str => #[.string (B e)]) (St := fun A B => Below A.heap.size A B) (Kp := fun A B => A.heap.size ≤ B.heap.size ∧ B.heap[0]? = A.heap[0]?) (Kx := fun _ _ => True)
    (gf := 241) (lb := #[.pointer (some ⟨w.heap.size + 1 + 1, 0, none⟩)]) rfl (enters_of Tryz.func241 (by kernel_rfl) rfl) (fun _ => rfl) ?seq
    [0] (by simp; omega) (fun A B hA h => h.mono hA) (fun A B h h' => ⟨h'.1, h _ (by simp)⟩) (fun _ _ _ => trivial)
    (fun i W => ((ends n).take i).all (fun e => !(e == o)) = true ∧ Below w.heap.size w W ∧ It.Box W w.heap.size (.pointer (some ⟨zb, 0, none⟩)) 110 ∧ ∃ v, Piece b off rs v (((ends n).take i).foldl (cutStep rs) []) ∧ It.Box W (w.heap.size + 1) v 41)
    (fun c W => c = .exit 0 ∧ Below w.heap.size w W ∧ ∃ v, Piece b off rs v (cutP o rs n) ∧ It.Box W (w.heap.size + 1) v 41)
    (fun i A B h hb => ⟨h.1, h.2.1.trans (hb.mono (by omega)), h.2.2.1.below hb (by omega), by obtain ⟨v, h1, h2⟩ := h.2.2.2; exact ⟨v, h1, h2.below hb (by omega)⟩⟩)
    (fun c A B h hb => ⟨h.1, h.2.1.trans (hb.mono (by omega)), by obtain ⟨v, h1, h2⟩ := h.2.2; exact ⟨v, h1, h2.below hb (by omega)⟩⟩)
    ⟨rfl, e5, e0, _, .inl ⟨rfl, rfl⟩, e1⟩
    ?round ?done ?stop
  case seq =>
    intro r
    have hg := hgrow r
    exact ends_seq _ n _ ((hg.cell (p := ⟨w.heap.size + 1 + 1, 0, none⟩) (by show w.heap.size + 1 + 1 < W2.heap.size; omega)).trans e2) (((unhide HG).below e5).below hg) hn
  case round =>
    intro l' i x V W hx hI hsz
    gi_wp2_with fail
    refine ⟨trivial, ?_⟩
    obtain ⟨hall, hB, hn0, v, hv, hc⟩ := hI
    have hxl := ends_mem_len (List.mem_of_getElem? hx)
    have hzW := (unhide HZ).below hB
    have z0 := hzW.2.1
    have HZW := hide hzW
    have cn := hn0.cell
    have hBB : ((B x).toList == (B o).toList) = (x == o) := B_inj
    have HN0 := hide hn0
    have HCB := hide hc
    have HX := hide hx
    have HALL := hide hall
    have HV := hide hv
    have hclt := hc.lt
    have hnlt := hn0.lt
    have hzlt := hzW.1
    clear hn0 hc hx hall hv hzW
    cases ho : x == o
    · rw [ho] at hBB
      have HA1 : Hid (((ends n).take (i + 1)).all (fun e => !(e == o)) = true) := by
        rw [Hid, take_one (unhide HX), List.all_append, unhide HALL]; simp [ho]
      have HF1 : Hid (((ends n).take (i + 1)).foldl (cutStep rs) [] = cutStep rs (((ends n).take i).foldl (cutStep rs) []) x) := by
        rw [Hid, take_one (unhide HX), List.foldl_append]; rfl
      have HCS := hide (set_t zb b off cap o x 2 rs W (unhide HZW) hlen)
      gi_wp2_with fail
      refine ⟨trivial, rfl, ?_⟩
      refine (CallsIn.inRound l' (callsIn_wide.2 (unhide HCS))).mono ?_
      rintro e W4 ⟨⟨v4, rfl, hv4⟩, hb4⟩
      obtain ⟨a4, c4, rfl⟩ := hv4.slice
      have HV4 := hide hv4
      have b4 := (unhide HCB).below hb4 hclt
      have cb4 := b4.cell
      have cf4 := b4.frozen
      have HB4 := hide b4
      have HN4 := hide ((unhide HN0).below hb4 hnlt)
      have hb4s := hb4.size
      clear hv4 b4
      by_cases hm : (setP (ofP rs x) 2).length = 0
      · have HE : Hid (((ends n).take (i + 1)).foldl (cutStep rs) [] = ((ends n).take i).foldl (cutStep rs) []) := by rw [Hid, unhide HF1, cutStep, if_pos hm]
        have hmI : ¬ (0 : Int) < ((setP (ofP rs x) 2).length : Int) := by omega
        gi_wp2_with fail
        exact ⟨It.Above.of_grown hb4, fun k hk => hb4.block k (by simp at hk; omega), unhide HA1, hB.trans (hb4.mono hB.size), unhide HN4, v, by rw [unhide HE]; exact unhide HV, unhide HB4⟩
      · have HE : Hid (((ends n).take (i + 1)).foldl (cutStep rs) [] = setP (ofP rs x) 2) := by rw [Hid, unhide HF1, cutStep, if_neg hm]
        have hmI : (0 : Int) < ((setP (ofP rs x) 2).length : Int) := by omega
        clear hm
        gi_wp2_with fail
        refine ⟨(It.Above.of_grown hb4).trans (It.Above.setCell W4 _ _ (by omega)), fun k hk => ?_, unhide HA1, (hB.trans (hb4.mono hB.size)).setCell (by show w.heap.size ≤ w.heap.size + 1; omega) _, ?_, _, by rw [unhide HE]; exact unhide HV4, (unhide HB4).set _⟩
        · obtain rfl : k = 0 := by simpa using hk
          exact (Below.heap_setCell _ _ _ _ (by show 0 ≠ w.heap.size + 1; omega)).trans (hb4.block 0 (by omega))
        · exact (Below.heap_setCell _ _ _ _ (by show w.heap.size ≠ w.heap.size + 1; omega)).trans (unhide HN4)
    · rw [ho] at hBB
      have HE : Hid (cutP o rs n = ((ends n).take i).foldl (cutStep rs) []) := by
        rw [Hid, cutP, takeWhile_stop _ _ i x (unhide HX) (unhide HALL) (by simp [ho])]
      gi_wp2_with fail
      exact ⟨It.Above.refl _ _, rfl, hB, v, by rw [unhide HE]; exact unhide HV, unhide HCB⟩
  case done =>
    intro W hI hdef hsz
    obtain ⟨hall, hB, hn0, v, hv, hc⟩ := hI
    rw [List.take_length] at hall hv
    have HE : Hid (cutP o rs n = (ends n).foldl (cutStep rs) []) := by rw [Hid, cutP, takeWhile_all _ _ hall]
    have HV := hide hv
    clear hall hv hn0
    have cb := hc.cell
    gi_wp2_with fail
    refine ⟨by simp, .inl ⟨_, _, rfl, run_takeDeferred hdef, ?_⟩⟩
    have hB' := hB.trans (belowK_b (w := W2) (show w.heap.size ≤ W2.heap.size by omega) W _ _ (.deferred none) (Nat.le_refl _) hdef rfl rfl)
    refine ⟨v, by simp [results, Tryz.results126, go_sem], ⟨v, rfl, ?_⟩, hB'⟩
    rw [unhide HE]; exact unhide HV
  case stop =>
    intro c W hI hdef hsz
    obtain ⟨rfl, hB, v, hv, hc⟩ := hI
    have HV := hide hv
    clear hv
    have cb := hc.cell
    gi_wp2_with fail
    refine ⟨by simp, .inl ⟨_, _, rfl, run_takeDeferred hdef, ?_⟩⟩
    have hB' := hB.trans (belowK_b (w := W2) (show w.heap.size ≤ W2.heap.size by omega) W _ _ (.deferred none) (Nat.le_refl _) hdef rfl rfl)
    exact ⟨v, by simp [results, Tryz.results126, go_sem], ⟨v, rfl, unhide HV⟩, hB'⟩
end Lb
end Go.Proofs.YtkkpahmoljiepaaGreatDoor
