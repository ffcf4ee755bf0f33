/- Contracts: wire's readHeader. -/
import Derived.Test.YtkkpahmoljiepaaGreatDoorJ04
import Derived.Test.YtkkpahmoljiepaaGreatDoorJ11
import Derived.Test.YtkkpahmoljiepaaGreatDoorJ09
import Derived.Test.YtkkpahmoljiepaaGreatDoorJLg
import Derived.Maps.AppendAt
set_option linter.unusedSimpArgs false
set_option linter.unusedVariables false
namespace Go.Proofs.YtkkpahmoljiepaaGreatDoor
open Go.RowKit
open Pu (Str hide unhide)

/-- numbers in a block of their own. -/
def NumsAt (w : World) (b : Nat) (xs : List Int) (t : TypeId) : Prop := w.heap[b]? = some (.cells (xs.map (Value.int .i64)).toArray t)
section
variable {w : World} {b : Nat} {xs : List Int} {t : TypeId}
theorem NumsAt.lt (h : NumsAt w b xs t) : b < w.heap.size := (Array.getElem?_eq_some_iff.1 h).1
theorem NumsAt.cell (h : NumsAt w b xs t) (i : Nat) (hi : i < xs.length) : w.cell? ⟨b, i, none⟩ = some (.int .i64 xs[i]) := by
  unfold NumsAt at h; simp [World.cell?, h, hi]
theorem NumsAt.frozen (h : NumsAt w b xs t) (i : Nat) : w.frozen? ⟨b, i, none⟩ = false := by
  unfold NumsAt at h; simp [World.frozen?, h]
theorem NumsAt.set (h : NumsAt w b xs t) (i : Nat) (x : Int) : NumsAt (w.setCell ⟨b, i, none⟩ (.int .i64 x)) b (xs.set i x) t := by
  unfold NumsAt at *; simp only [World.setCell]; rw [Array.getElem?_modify, if_pos rfl, h]
  simp
theorem NumsAt.kept {w' : World} {d : Nat} (h : NumsAt w b xs t) (hk : It.Keeps d w w') (hd : b ≠ d) : NumsAt w' b xs t := (hk.block b h.lt hd).trans h
end

namespace Wc
open Ka Re Wa Wb

/-- so many numbers of two bytes, one behind the other. -/
def cntP : Nat → Str → Bool → List Nat × Str × Bool
  | 0, s, br => ([], s, br)
  | k + 1, s, br => ((shortP s br).1 :: (cntP k (shortP s br).2.1 (shortP s br).2.2).1, (cntP k (shortP s br).2.1 (shortP s br).2.2).2)
theorem shortP_len (s : Str) (br : Bool) : (shortP s br).2.1.length ≤ s.length := Nat.le_trans (octP_len _ _) (octP_len _ _)
theorem shortP_lt (s : Str) (br : Bool) : (shortP s br).1 < 65536 := by
  have h1 := octP_lt s br
  have h2 := octP_lt (octP s br).2.1 (octP s br).2.2
  simp only [shortP]; omega

/-- a header as it is read: ID, bits, counts; was it whole. -/
def hdrP (s : Str) : List Nat × Bool := ((cntP 6 s false).1, !(cntP 6 s false).2.2)

set_option maxRecDepth 100000 in
set_option maxHeartbeats 1600000 in
theorem readHeader_any (s : Str) (w : World) (hl : s.length ≤ 1000000000) :
    Calls Tryz.prog 70 #[.string (B s)] w fun e w' =>
      e = .returned (.tuple #[.agg ((hdrP s).1.map fun n : Nat => Value.int .i64 n).toArray, .bool (hdrP s).2]) ∧ Below w.heap.size w w' := by
  have hr0 : RdAt ((w.alloc (.cells #[.int .i64 0, .int .i64 0, .int .i64 0, .int .i64 0, .int .i64 0, .int .i64 0] 133)).alloc (.cells #[.string (B s), .bool false] 215)) (w.heap.size + 1) s false := by
    have := World.alloc_heap_new (w.alloc (.cells #[.int .i64 0, .int .i64 0, .int .i64 0, .int .i64 0, .int .i64 0, .int .i64 0] 133)) (.cells #[.string (B s), .bool false] 215)
    simpa [RdAt] using this
  have hn0 : NumsAt ((w.alloc (.cells #[.int .i64 0, .int .i64 0, .int .i64 0, .int .i64 0, .int .i64 0, .int .i64 0] 133)).alloc (.cells #[.string (B s), .bool false] 215)) w.heap.size [0, 0, 0, 0, 0, 0] 133 :=
    (Below.heap_alloc _ _ _ (by simp)).trans (World.alloc_heap_new w _)
  have HB0 := hide (((Below.refl w.heap.size w).alloc (Nat.le_refl _) (.cells #[.int .i64 0, .int .i64 0, .int .i64 0, .int .i64 0, .int .i64 0, .int .i64 0] 133)).alloc (by simp) (.cells #[.string (B s), .bool false] 215))
  have hc0 := short_any _ s false _ hr0 hl
  have HN0 := hide hn0
  have HC0 := hide hc0
  have HE : Hid (hdrP s = ((shortP s false).1 :: (shortP (shortP s false).2.1 (shortP s false).2.2).1 :: (cntP 4 (shortP (shortP s false).2.1 (shortP s false).2.2).2.1 (shortP (shortP s false).2.1 (shortP s false).2.2).2.2).1, !(cntP 4 (shortP (shortP s false).2.1 (shortP s false).2.2).2.1 (shortP (shortP s false).2.1 (shortP s false).2.2).2.2).2.2)) := rfl
  have HL1 := hide (Nat.le_trans (shortP_len s false) hl)
  generalize hdrP s = R at *
  generalize shortP s false = x at *
  obtain ⟨n1, s1, b1⟩ := x
  simp only at HC0 HE HL1
  clear hr0 hn0 hc0
  go_enter Tryz.func70, Tryz.ntmps70
  go_wp2_with fail
  refine (unhide HC0).mono ?_
  rintro e w1 ⟨rfl, hr1, hk1, hs1⟩
  have HC1 := hide (short_any _ s1 b1 w1 hr1 (unhide HL1))
  have HL2 := hide (Nat.le_trans (shortP_len s1 b1) (unhide HL1))
  generalize shortP s1 b1 = y at *
  obtain ⟨n2, s2, b2⟩ := y
  simp only at HC1 HE HL2
  have HN1 := hide ((unhide HN0).kept hk1 (by omega))
  have HB1 := hide ((unhide HB0).trans (hk1.below (by omega) (by simp; omega)))
  have HS1 : Hid (w1.heap.size = w.heap.size + 2) := by rw [Hid, hs1]; simp
  clear hr1 hk1 hs1 HC0 HN0 HB0
  go_wp2_with fail
  refine (unhide HC1).mono ?_
  rintro e w2 ⟨rfl, hr2, hk2, hs2⟩
  have HR2 := hide hr2
  have HN2 := hide ((unhide HN1).kept hk2 (by omega))
  have HB2 := hide ((unhide HB1).trans (hk2.below (by omega) (by have := unhide HS1; omega)))
  have HS2 : Hid (w2.heap.size = w.heap.size + 2) := by rw [Hid, hs2]; exact unhide HS1
  clear hr2 hk2 hs2 HC1 HN1 HB1 HS1
  go_wp2_with fail
  go_loopw [15] (fun i wr => ∃ (k m : Nat) (done zs : List Nat) (t : Str) (bt : Bool), i = .int .i64 k ∧ done.length = k ∧ zs.length = m ∧ k + m = 4 ∧ t.length ≤ 1000000000 ∧ RdAt wr (w.heap.size + 1) t bt ∧ NumsAt wr w.heap.size [0, 0, 0, 0, 0, 0] 133 ∧ NumsAt wr w2.heap.size ((n1 :: n2 :: (done ++ zs)).map Int.ofNat) 133 ∧ Below w.heap.size w wr ∧ R = (n1 :: n2 :: (done ++ (cntP m t bt).1), !(cntP m t bt).2.2)) (fun i _ => 4 - (intOf i).toNat)
  case atStart =>
    refine ⟨0, 4, [], [0, 0, 0, 0], s2, b2, rfl, rfl, rfl, rfl, unhide HL2, ?_, ?_, ?_, ?_, unhide HE⟩
    · exact (Below.heap_alloc _ _ _ (unhide HR2).lt).trans (unhide HR2)
    · exact (Below.heap_alloc _ _ _ (unhide HN2).lt).trans (unhide HN2)
    · exact World.alloc_heap_new _ _
    · exact (unhide HB2).alloc (by have := unhide HS2; omega) _
  case round =>
    obtain ⟨k, m, done, zs, t, bt, rfl, hdone, hzs, hkm, htl, hrd, hn0, hnh, hb, hR⟩ := hrel
    have HRD := hide hrd
    have HN0 := hide hn0
    have HNH := hide hnh
    have HB := hide hb
    have HR := hide hR
    clear hrd hn0 hnh hb hR
    cases m with
    | zero =>
      obtain rfl : zs = [] := List.eq_nil_of_length_eq_zero hzs
      have hk4 : k = 4 := by omega
      subst hk4
      obtain ⟨c0, c1, c2, c3, rfl⟩ : ∃ a b c d, done = [a, b, c, d] := by
        match done, hdone with
        | [a, b, c, d], _ => exact ⟨a, b, c, d, rfl⟩
      have q0 := (unhide HNH).cell 0 (by simp)
      have q1 := (unhide HNH).cell 1 (by simp)
      have q2 := (unhide HNH).cell 2 (by simp)
      have q3 := (unhide HNH).cell 3 (by simp)
      have q4 := (unhide HNH).cell 4 (by simp)
      have q5 := (unhide HNH).cell 5 (by simp)
      simp at q0 q1 q2 q3 q4 q5
      have hc1 := (unhide HRD).cells.2
      have z0 := (unhide HN0).cell 0 (by simp)
      have z1 := (unhide HN0).cell 1 (by simp)
      have z2 := (unhide HN0).cell 2 (by simp)
      have z3 := (unhide HN0).cell 3 (by simp)
      have z4 := (unhide HN0).cell 4 (by simp)
      have z5 := (unhide HN0).cell 5 (by simp)
      simp at z0 z1 z2 z3 z4 z5
      have hfz := (unhide HN0).frozen
      have hne : w.heap.size ≠ w2.heap.size := by have := unhide HS2; omega
      clear hkm hdone hzs
      go_wp2_with fail
      go_region
      all_goals
        go_wp2
        refine bodyPost_ret (v := .tuple #[.agg #[.int .i64 n1, .int .i64 n2, .int .i64 c0, .int .i64 c1, .int .i64 c2, .int .i64 c3], .bool (!bt)]) (by simp [results, Tryz.results70, go_sem, z0, z1, z2, z3, z4, z5]) rfl ⟨?_, ?_⟩
        · rw [unhide HR]; simp [cntP]
        · exact (((((((unhide HB).setCell (Nat.le_refl _) _).setCell (Nat.le_refl _) _).setCell (Nat.le_refl _) _).setCell (Nat.le_refl _) _).setCell (Nat.le_refl _) _).setCell (Nat.le_refl _) _).drew
    | succ m =>
      obtain ⟨z, zs, rfl⟩ : ∃ z zs', zs = z :: zs' := by
        cases zs with
        | nil => simp at hzs
        | cons z zs => exact ⟨z, zs, rfl⟩
      have hk4 : k < 4 := by omega
      have HF : Hid (R = (n1 :: n2 :: ((done ++ [(shortP t bt).1]) ++ (cntP m (shortP t bt).2.1 (shortP t bt).2.2).1), !(cntP m (shortP t bt).2.1 (shortP t bt).2.2).2.2)) := by
        rw [Hid, unhide HR]; simp [cntP]
      have HC := hide (short_any _ t bt wr (unhide HRD) htl)
      have HTL := hide (Nat.le_trans (shortP_len t bt) htl)
      generalize shortP t bt = y at *
      obtain ⟨n3, t3, b3⟩ := y
      simp only at HC HTL HF
      clear HR
      go_wp2_with fail
      refine (unhide HC).mono ?_
      rintro e w3 ⟨rfl, hr3, hk3, hs3⟩
      have HRD3 := hide hr3
      have HN03 := hide ((unhide HN0).kept hk3 (by omega))
      have HNH3 := hide ((unhide HNH).kept hk3 (by have := unhide HS2; omega))
      have HB3 := hide ((unhide HB).trans (hk3.below (by omega) (by have := (unhide HB).size; omega)))
      have hcell := (unhide HNH3).cell (2 + k) (by simp; omega)
      have hfz := (unhide HNH3).frozen
      clear hr3 hk3 hs3 HC HRD HN0 HNH HB
      go_wp2_with fail
      have hbS : w.heap.size < w2.heap.size := by have := unhide HS2; omega
      have hbS1 : w.heap.size + 1 < w2.heap.size := by have := unhide HS2; omega
      have hset := (unhide HNH3).set (2 + k) (n3 : Int)
      refine ⟨⟨k + 1, m, done ++ [n3], zs, t3, b3, by go_num, by simp [hdone], by simpa using hzs, by omega, unhide HTL, ?_, ?_, ?_, (unhide HB3).setCell (by show w.heap.size ≤ w2.heap.size; omega) _, unhide HF⟩, by simp [intOf]; omega⟩
      · exact (Below.heap_setCell _ _ _ _ (by show w.heap.size + 1 ≠ w2.heap.size; omega)).trans (unhide HRD3)
      · exact (Below.heap_setCell _ _ _ _ (by show w.heap.size ≠ w2.heap.size; omega)).trans (unhide HN03)
      · have e : ((n1 :: n2 :: (done ++ z :: zs)).map Int.ofNat).set (2 + k) (n3 : Int) = (n1 :: n2 :: ((done ++ [n3]) ++ zs)).map Int.ofNat := by
          subst hdone
          rw [show 2 + done.length = done.length + 1 + 1 from by omega]
          simp [List.set_append]
        rw [← e]
        exact hset
end Wc
end Go.Proofs.YtkkpahmoljiepaaGreatDoor

/- Contracts: wire's readQuestion. -/
namespace Go.Proofs.YtkkpahmoljiepaaGreatDoor
open Go.RowKit
open Pu (Str hide unhide)

/-- a query in memory: its header's numbers, the question as it came, the name, type, class, what an OPT told. -/
def QAt (w : World) (b : Nat) (h0 h1 h2 h3 h4 h5 : Int) (q n : Str) (k c : Int) (opt : Bool) (sz ver : Int) : Prop :=
  w.heap[b]? = some (.cells #[.int .i64 h0, .int .i64 h1, .int .i64 h2, .int .i64 h3, .int .i64 h4, .int .i64 h5, .string (B q), .string (B n), .int .i64 k, .int .i64 c, .bool opt, .int .i64 sz, .int .i64 ver] 137)
section
variable {w : World} {b : Nat} {h0 h1 h2 h3 h4 h5 : Int} {q n : Str} {k c : Int} {opt : Bool} {sz ver : Int}
theorem QAt.lt (h : QAt w b h0 h1 h2 h3 h4 h5 q n k c opt sz ver) : b < w.heap.size := (Array.getElem?_eq_some_iff.1 h).1
theorem QAt.frozen (h : QAt w b h0 h1 h2 h3 h4 h5 q n k c opt sz ver) (i : Nat) : w.frozen? ⟨b, i, none⟩ = false := by
  unfold QAt at h; simp [World.frozen?, h]
theorem QAt.cells (h : QAt w b h0 h1 h2 h3 h4 h5 q n k c opt sz ver) :
    w.cell? ⟨b, 0, none⟩ = some (.int .i64 h0) ∧ w.cell? ⟨b, 1, none⟩ = some (.int .i64 h1) ∧ w.cell? ⟨b, 2, none⟩ = some (.int .i64 h2) ∧ w.cell? ⟨b, 3, none⟩ = some (.int .i64 h3) ∧ w.cell? ⟨b, 4, none⟩ = some (.int .i64 h4) ∧ w.cell? ⟨b, 5, none⟩ = some (.int .i64 h5) ∧
    w.cell? ⟨b, 6, none⟩ = some (.string (B q)) ∧ w.cell? ⟨b, 7, none⟩ = some (.string (B n)) ∧ w.cell? ⟨b, 8, none⟩ = some (.int .i64 k) ∧ w.cell? ⟨b, 9, none⟩ = some (.int .i64 c) ∧ w.cell? ⟨b, 10, none⟩ = some (.bool opt) ∧ w.cell? ⟨b, 11, none⟩ = some (.int .i64 sz) ∧ w.cell? ⟨b, 12, none⟩ = some (.int .i64 ver) := by
  unfold QAt at h
  refine ⟨?_, ?_, ?_, ?_, ?_, ?_, ?_, ?_, ?_, ?_, ?_, ?_, ?_⟩ <;> simp [World.cell?, h]
theorem QAt.set6 (h : QAt w b h0 h1 h2 h3 h4 h5 q n k c opt sz ver) (x : Str) : QAt (w.setCell ⟨b, 6, none⟩ (.string (B x))) b h0 h1 h2 h3 h4 h5 x n k c opt sz ver := by
  unfold QAt at *; simp only [World.setCell]; rw [Array.getElem?_modify, if_pos rfl, h]; rfl
theorem QAt.set7 (h : QAt w b h0 h1 h2 h3 h4 h5 q n k c opt sz ver) (x : Str) : QAt (w.setCell ⟨b, 7, none⟩ (.string (B x))) b h0 h1 h2 h3 h4 h5 q x k c opt sz ver := by
  unfold QAt at *; simp only [World.setCell]; rw [Array.getElem?_modify, if_pos rfl, h]; rfl
theorem QAt.set8 (h : QAt w b h0 h1 h2 h3 h4 h5 q n k c opt sz ver) (x : Int) : QAt (w.setCell ⟨b, 8, none⟩ (.int .i64 x)) b h0 h1 h2 h3 h4 h5 q n x c opt sz ver := by
  unfold QAt at *; simp only [World.setCell]; rw [Array.getElem?_modify, if_pos rfl, h]; rfl
theorem QAt.set9 (h : QAt w b h0 h1 h2 h3 h4 h5 q n k c opt sz ver) (x : Int) : QAt (w.setCell ⟨b, 9, none⟩ (.int .i64 x)) b h0 h1 h2 h3 h4 h5 q n k x opt sz ver := by
  unfold QAt at *; simp only [World.setCell]; rw [Array.getElem?_modify, if_pos rfl, h]; rfl
theorem QAt.kept {w' : World} (h : QAt w b h0 h1 h2 h3 h4 h5 q n k c opt sz ver) (hb : w'.heap[b]? = w.heap[b]?) : QAt w' b h0 h1 h2 h3 h4 h5 q n k c opt sz ver := hb.trans h
end

namespace Wf
open Ka Wa Wb Wc Wd We Re

theorem strsV_of_own {w : World} {base : Nat} {v : Value} {ls : List Str} (h : StrsOwn w base v ls) : StrsV w v ls := by
  obtain ⟨⟨h1, h2⟩, h3⟩ := h
  rcases h2 with ⟨hv, _⟩ | ⟨g, cap, cur, hv, hb, hcur, hn, hm, hs, ht⟩
  · exact .inl ⟨hv, h3.1 hv⟩
  · refine .inr ⟨g, cap, hv, hn, (Array.getElem?_eq_some_iff.1 hcur).1, fun j hj => ?_⟩
    have e : cur.toList[j]? = (ls.map fun l => Value.string (B l))[j]? := by
      rw [← ht, List.getElem?_take]
      rw [if_pos (by omega)]
    simp only [World.cell?, hcur]
    rw [← Array.getElem?_toList, e]
    simp [hj]

theorem takP_le (s : Str) (br : Bool) (n : Nat) : (takP s br n).1.length ≤ n := by unfold takP; split <;> simp; omega
theorem labGo_ok : ∀ (f n : Nat) (s : Str) (br : Bool) (size : Nat) (acc : List Str), (∀ l ∈ acc, l.length ≤ 63) → acc.length ≤ size → size ≤ 255 →
    (∀ l ∈ (labGo f n s br size acc).1, l.length ≤ 63) ∧ (labGo f n s br size acc).1.length ≤ 255 ∧ (labGo f n s br size acc).2.1.length ≤ s.length
  | 0, n, s, br, size, acc, h1, h2, h3 => ⟨h1, by simp only [labGo]; omega, Nat.le_refl _⟩
  | f + 1, n, s, br, size, acc, h1, h2, h3 => by
    rw [labGo]
    split
    · exact ⟨h1, by simp only; omega, Nat.le_refl _⟩
    · split
      · exact ⟨by simp, by simp, Nat.le_refl _⟩
      · rename_i hn hb
        have := labGo_ok f (octP (takP s br n).2.1 (takP s br n).2.2).1 (octP (takP s br n).2.1 (takP s br n).2.2).2.1 (octP (takP s br n).2.1 (takP s br n).2.2).2.2 (size + 1 + n) (acc ++ [(takP s br n).1]) ?_ (by simp; omega) (by omega)
        · exact ⟨this.1, this.2.1, Nat.le_trans this.2.2 (Nat.le_trans (octP_len _ _) (takP_len _ _ _))⟩
        · intro l hl
          rcases List.mem_append.1 hl with hl | hl
          · exact h1 l hl
          · rw [List.mem_singleton.1 hl]
            have := takP_le s br n
            omega
theorem labP_ok (s : Str) (br : Bool) : (∀ l ∈ (labP s br).1, l.length ≤ 63) ∧ (labP s br).1.length ≤ 255 ∧ (labP s br).2.1.length ≤ s.length := by
  have := labGo_ok 256 (octP s br).1 (octP s br).2.1 (octP s br).2.2 1 [] (by simp) (by simp) (by omega)
  exact ⟨this.1, this.2.1, Nat.le_trans this.2.2 (octP_len _ _)⟩

set_option maxRecDepth 100000 in
set_option maxHeartbeats 1600000 in
theorem readQuestion_any (qb rb : Nat) (s : Str) (br : Bool) (w : World) {h0 h1 h2 h3 h4 h5 : Int} {q n : Str} {k c : Int} {opt : Bool} {sz ver : Int}
    (hq : QAt w qb h0 h1 h2 h3 h4 h5 q n k c opt sz ver) (hr : RdAt w rb s br) (hne : qb ≠ rb) (hl : s.length ≤ 1000000000)
    {ls : List Str} {k' c' : Nat} {s1 s2 s3 : Str} {br1 br2 br3 : Bool} (e1 : labP s br = (ls, s1, br1)) (e2 : shortP s1 br1 = (k', s2, br2)) (e3 : shortP s2 br2 = (c', s3, br3)) :
    Calls Tryz.prog 133 #[.pointer (some ⟨qb, 0, none⟩), .pointer (some ⟨rb, 0, none⟩)] w fun e w' =>
      e = .returned (.tuple #[]) ∧ QAt w' qb h0 h1 h2 h3 h4 h5 (s.take (s.length - s3.length)) (nameP ls) k' c' opt sz ver ∧ RdAt w' rb s3 br3 ∧ Fr (fun i => i ≠ qb ∧ i ≠ rb) w w' := by
  have HC1 := hide (labels_any rb s br w hr hl)
  have hok := labP_ok s br
  rw [e1] at hok
  rw [Hid, e1] at HC1
  obtain ⟨ok1, ok2, ok3⟩ := hok
  simp only at HC1 ok1 ok2 ok3
  have l2 := shortP_len s1 br1
  have l3 := shortP_len s2 br2
  rw [e2] at l2
  rw [e3] at l3
  simp only at l2 l3
  have hc0 := hr.cells.1
  have HQ := hide hq
  have HE2 := hide e2
  have HE3 := hide e3
  have HOK := hide ok1
  have hlt := hq.lt
  clear hq hr e1 e2 e3 ok1
  go_enter Tryz.func133, Tryz.ntmps133
  go_wp2_with fail
  refine HC1.mono ?_
  rintro e w1 ⟨v, rfl, hv, hr1, hk1⟩
  have HC2 := hide (fromLabels_any v ls w1 (strsV_of_own hv) (by omega) (fun l hl => by have := unhide HOK l hl; omega))
  have HQ1 := hide ((unhide HQ).kept (hk1.block qb hlt hne))
  have HR1 := hide hr1
  have HF1 : Hid (Fr (fun i => i ≠ qb ∧ i ≠ rb) w w1) := (Fr.of_keeps hk1).mono fun i _ h => h.2
  clear hv hr1 hk1 HC1
  go_wp2_with fail
  refine (unhide HC2).mono ?_
  rintro e w2 ⟨rfl, hb2⟩
  have HQ2 := hide ((unhide HQ1).kept (hb2.block qb (unhide HQ1).lt))
  have HR2 : Hid (RdAt w2 rb s1 br1) := (hb2.block rb (unhide HR1).lt).trans (unhide HR1)
  have HF2 : Hid (Fr (fun i => i ≠ qb ∧ i ≠ rb) w w2) := (unhide HF1).trans (Fr.of_below hb2)
  have hfz := (unhide HQ2).frozen
  have hc7 := (unhide HQ2).cells.2.2.2.2.2.2.2.1
  clear hb2 HC2 HQ1 HR1 HF1
  go_wp2_with fail
  have HQ3 := hide ((unhide HQ2).set7 (nameP ls))
  have HR3 : Hid (RdAt (w2.setCell ⟨qb, 7, none⟩ (.string (B (nameP ls)))) rb s1 br1) := (Below.heap_setCell _ _ _ _ (by show rb ≠ qb; omega)).trans (unhide HR2)
  have HF3 : Hid (Fr (fun i => i ≠ qb ∧ i ≠ rb) w (w2.setCell ⟨qb, 7, none⟩ (.string (B (nameP ls))))) := (unhide HF2).trans (Fr.of_set _ fun i h => h.1)
  clear HQ2 HR2 HF2 hc7 hfz
  generalize w2.setCell ⟨qb, 7, none⟩ (.string (B (nameP ls))) = w3 at *
  have HC3 := short_any rb s1 br1 w3 (unhide HR3) (by omega)
  rw [unhide HE2] at HC3
  refine HC3.mono ?_
  rintro e w4 ⟨rfl, hr4, hk4, hs4⟩
  have HQ4 := hide ((unhide HQ3).kept (hk4.block qb (unhide HQ3).lt hne))
  have HR4 := hide hr4
  have HF4 : Hid (Fr (fun i => i ≠ qb ∧ i ≠ rb) w w4) := (unhide HF3).trans ((Fr.of_keeps hk4).mono fun i _ h => h.2)
  clear hr4 hk4 hs4 HC3 HQ3 HR3 HF3
  go_wp2_with fail
  have HC4 := short_any rb s2 br2 w4 (unhide HR4) (by omega)
  rw [unhide HE3] at HC4
  refine HC4.mono ?_
  rintro e w5 ⟨rfl, hr5, hk5, hs5⟩
  have HQ5 := hide ((unhide HQ4).kept (hk5.block qb (unhide HQ4).lt hne))
  have HR5 : Hid (RdAt w5 rb s3 br3) := hr5
  have HF5 : Hid (Fr (fun i => i ≠ qb ∧ i ≠ rb) w w5) := (unhide HF4).trans ((Fr.of_keeps hk5).mono fun i _ h => h.2)
  clear hr5 hk5 hs5 HC4 HQ4 HR4 HF4
  have hfz := (unhide HQ5).frozen
  obtain ⟨-, -, -, -, -, -, hc6, -, hc8, hc9, -, -, -⟩ := (unhide HQ5).cells
  have hcr := (unhide HR5).cells.1
  have hs : (B s).size = s.length := size_B s
  have hs3 : (B s3).size = s3.length := size_B s3
  have hsub : (s.length : Int) - s3.length = ((s.length - s3.length : Nat) : Int) := by omega
  have hle : s.length - s3.length ≤ s.length := by omega
  have HT := hide (B_take s (s.length - s3.length) hle)
  have hne' : rb ≠ qb := fun e => hne e.symm
  generalize hd : s.length - s3.length = d at *
  go_wp2_with fail
  refine bodyPost_end (v := .tuple #[]) (by simp [results, Tryz.results133]) rfl ?_
  rw [unhide HT, hd]
  refine ⟨rfl, (((unhide HQ5).set8 _).set9 _).set6 _, ?_, (((unhide HF5).trans (Fr.of_set _ fun i h => h.1)).trans (Fr.of_set _ fun i h => h.1)).trans (Fr.of_set _ fun i h => h.1)⟩
  exact (Below.heap_setCell _ _ _ _ (by show rb ≠ qb; omega)).trans ((Below.heap_setCell _ _ _ _ (by show rb ≠ qb; omega)).trans ((Below.heap_setCell _ _ _ _ (by show rb ≠ qb; omega)).trans (unhide HR5)))
end Wf
end Go.Proofs.YtkkpahmoljiepaaGreatDoor

/- Contracts: wire's readQuery, where nothing but a question is told of. -/
namespace Go.Proofs.YtkkpahmoljiepaaGreatDoor
open Go.RowKit
open Pu (Str hide unhide)

/-- a query as a value. -/
def qVal (h0 h1 h2 h3 h4 h5 : Int) (q n : Str) (k c : Int) (opt : Bool) (sz ver : Int) : Value :=
  .agg #[.int .i64 h0, .int .i64 h1, .int .i64 h2, .int .i64 h3, .int .i64 h4, .int .i64 h5, .string (B q), .string (B n), .int .i64 k, .int .i64 c, .bool opt, .int .i64 sz, .int .i64 ver]

namespace Wg
open Ka Wa Wb Wc Wd We Wf Re

theorem equal4 (W : World) : (Op.equalIn 10000 131 (.agg #[.int .i64 1, .int .i64 0, .int .i64 0, .int .i64 0]) (.agg #[.int .i64 1, .int .i64 0, .int .i64 0, .int .i64 0])).run Tryz.prog W = .ok true W := by kernel_rfl

/-- the world in which the question is read. -/
def qW (w : World) (id bits : Int) (s : Str) : World :=
  (((w.alloc (.cells #[.int .i64 id, .int .i64 bits, .int .i64 1, .int .i64 0, .int .i64 0, .int .i64 0] 133)).alloc
    (.cells #[.int .i64 0, .int .i64 0, .int .i64 0, .int .i64 0, .int .i64 0, .int .i64 0, .string ⟨#[]⟩, .string ⟨#[]⟩, .int .i64 0, .int .i64 0, .bool false, .int .i64 0, .int .i64 0] 137)).alloc
    (.cells #[.int .i64 id, .int .i64 bits, .int .i64 1, .int .i64 0, .int .i64 0, .int .i64 0, .string ⟨#[]⟩, .string ⟨#[]⟩, .int .i64 0, .int .i64 0, .bool false, .int .i64 0, .int .i64 0] 137)).alloc
    (.cells #[.string (B s), .bool false] 215)
theorem qW_ok (w : World) (id bits : Int) (s : Str) : QAt (qW w id bits s) (w.heap.size + 1 + 1) id bits 1 0 0 0 [] [] 0 0 false 0 0 ∧ QAt (qW w id bits s) (w.heap.size + 1) 0 0 0 0 0 0 [] [] 0 0 false 0 0 ∧ RdAt (qW w id bits s) (w.heap.size + 1 + 1 + 1) s false ∧ Below w.heap.size w (qW w id bits s) := by
  refine ⟨?_, ?_, ?_, ?_⟩
  · refine (Below.heap_alloc _ _ _ (by simp)).trans ?_
    have := World.alloc_heap_new ((w.alloc (.cells #[.int .i64 id, .int .i64 bits, .int .i64 1, .int .i64 0, .int .i64 0, .int .i64 0] 133)).alloc (.cells #[.int .i64 0, .int .i64 0, .int .i64 0, .int .i64 0, .int .i64 0, .int .i64 0, .string ⟨#[]⟩, .string ⟨#[]⟩, .int .i64 0, .int .i64 0, .bool false, .int .i64 0, .int .i64 0] 137)) (.cells #[.int .i64 id, .int .i64 bits, .int .i64 1, .int .i64 0, .int .i64 0, .int .i64 0, .string ⟨#[]⟩, .string ⟨#[]⟩, .int .i64 0, .int .i64 0, .bool false, .int .i64 0, .int .i64 0] 137)
    simpa [B] using this
  · refine (Below.heap_alloc _ _ _ (by simp)).trans ((Below.heap_alloc _ _ _ (by simp)).trans ?_)
    have := World.alloc_heap_new (w.alloc (.cells #[.int .i64 id, .int .i64 bits, .int .i64 1, .int .i64 0, .int .i64 0, .int .i64 0] 133)) (.cells #[.int .i64 0, .int .i64 0, .int .i64 0, .int .i64 0, .int .i64 0, .int .i64 0, .string ⟨#[]⟩, .string ⟨#[]⟩, .int .i64 0, .int .i64 0, .bool false, .int .i64 0, .int .i64 0] 137)
    simpa [B] using this
  · have := World.alloc_heap_new (((w.alloc (.cells #[.int .i64 id, .int .i64 bits, .int .i64 1, .int .i64 0, .int .i64 0, .int .i64 0] 133)).alloc (.cells #[.int .i64 0, .int .i64 0, .int .i64 0, .int .i64 0, .int .i64 0, .int .i64 0, .string ⟨#[]⟩, .string ⟨#[]⟩, .int .i64 0, .int .i64 0, .bool false, .int .i64 0, .int .i64 0] 137)).alloc (.cells #[.int .i64 id, .int .i64 bits, .int .i64 1, .int .i64 0, .int .i64 0, .int .i64 0, .string ⟨#[]⟩, .string ⟨#[]⟩, .int .i64 0, .int .i64 0, .bool false, .int .i64 0, .int .i64 0] 137)) (.cells #[.string (B s), .bool false] 215)
    simpa [RdAt, qW] using this
  · exact ((((Below.refl _ _).alloc (Nat.le_refl _) _).alloc (by simp) _).alloc (by simp; omega) _).alloc (by simp; omega) _

set_option maxRecDepth 100000 in
set_option maxHeartbeats 3200000 in
theorem readQuery_plain (id bits : Int) (m : Str) (w : World) (hm : 12 ≤ m.length) (hl : m.length ≤ 1000000000)
    {ls : List Str} {k' c' : Nat} {s1 s2 s3 : Str} {br1 br2 br3 : Bool} (e1 : labP (m.drop 12) false = (ls, s1, br1)) (e2 : shortP s1 br1 = (k', s2, br2)) (e3 : shortP s2 br2 = (c', s3, br3)) :
    Calls Tryz.prog 72 #[.agg #[.int .i64 id, .int .i64 bits, .int .i64 1, .int .i64 0, .int .i64 0, .int .i64 0], .string (B m)] w fun e w' =>
      e = .returned (.tuple #[qVal id bits 1 0 0 0 ((m.drop 12).take ((m.drop 12).length - s3.length)) (nameP ls) k' c' false 0 0, .bool (!br3 && s3.isEmpty)]) ∧ Below w.heap.size w w' := by
  have hs : (B m).size = m.length := size_B m
  have HD := hide (B_drop m 12 _ rfl)
  have kq : ∀ W : World, (Op.equalIn 10000 131 (.agg #[.int .i64 1, .int .i64 0, .int .i64 0, .int .i64 0]) (.agg #[.int .i64 1, .int .i64 0, .int .i64 0, .int .i64 0])).run Tryz.prog W = .ok true W := equal4
  have HE1 := hide e1
  have HE2 := hide e2
  have HE3 := hide e3
  clear e1 e2 e3
  obtain ⟨hq0, ht0, hr0, hb0⟩ := qW_ok w id bits (m.drop 12)
  have HC := hide (readQuestion_any (w.heap.size + 1 + 1) (w.heap.size + 1 + 1 + 1) (m.drop 12) false (qW w id bits (m.drop 12)) hq0 hr0 (by omega) (by simp; omega) (unhide HE1) (unhide HE2) (unhide HE3))
  have HT0 := hide ht0
  have HB0 := hide hb0
  clear hq0 ht0 hr0 hb0
  go_enter Tryz.func72, Tryz.ntmps72
  go_wp2_with fail
  rw [unhide HD]
  refine (unhide HC).mono ?_
  rintro e w1 ⟨rfl, hq1, hr1, hf1⟩
  have HT1 := hide ((unhide HT0).kept (hf1.block _ (unhide HT0).lt ⟨by omega, by omega⟩))
  have HB1 : Hid (Below w.heap.size w w1) := (unhide HB0).trans (hf1.below (fun i hi => ⟨by omega, by omega⟩) (unhide HB0).size)
  have HQ1 := hide hq1
  have HR1 := hide hr1
  clear hq1 hr1 hf1 HC HT0 HB0 kq
  generalize hqe : (m.drop 12).take ((m.drop 12).length - s3.length) = q at *
  generalize hnm : nameP ls = nm at *
  have HQE := hide hqe
  have HNM := hide hnm
  clear hqe hnm
  obtain ⟨c0, c1, c2, c3, c4, c5, c6, c7, c8, c9, c10, c11, c12⟩ := (unhide HQ1).cells
  obtain ⟨d0, d1, d2, d3, d4, d5, d6, d7, d8, d9, d10, d11, d12⟩ := (unhide HT1).cells
  have hfz := (unhide HT1).frozen
  obtain ⟨r0, r1⟩ := (unhide HR1).cells
  go_wp2_with fail
  clear HE1 HE2 HE3 HD hm hl hs HQ1 HR1 HT1
  have ret : ∀ b : Bool, (!br3 && s3.isEmpty) = b → Ending.returned (.tuple #[qVal id bits 1 0 0 0 q nm k' c' false 0 0, .bool b]) = .returned (.tuple #[qVal id bits 1 0 0 0 ((m.drop 12).take ((m.drop 12).length - s3.length)) (nameP ls) k' c' false 0 0, .bool (!br3 && s3.isEmpty)]) := fun b hb => by
    rw [unhide HQE, unhide HNM, hb]
  have RET := hide ret
  clear ret HQE HNM
  have HBS := hide fun (W : World) (hW : Below w.heap.size w W) (o : Nat) (v : Value) => hW.setCell (p := ⟨w.heap.size + 1, o, none⟩) (by show w.heap.size ≤ w.heap.size + 1; omega) v
  cases br3
  · cases s3 with
    | nil =>
      have e1 : B [] = ⟨#[]⟩ := rfl
      rw [e1] at r0
      go_region
      all_goals
        go_wp2
        refine bodyPost_ret (v := .tuple #[qVal id bits 1 0 0 0 q nm k' c' false 0 0, .bool true]) (by simp [results, Tryz.results72, go_sem, qVal, d0, d1, d2, d3, d4, d5, d6, d7, d8, d9, d10, d11, d12]) rfl ⟨unhide RET true rfl, ?_⟩
        first | exact (unhide HBS _ (unhide HBS _ (unhide HBS _ (unhide HBS _ (unhide HBS _ (unhide HBS _ (unhide HBS _ (unhide HBS _ (unhide HBS _ (unhide HBS _ (unhide HBS _ (unhide HBS _ (unhide HBS _ (unhide HB1) _ _) _ _) _ _) _ _) _ _) _ _) _ _) _ _) _ _) _ _) _ _) _ _) _ _).drew | exact (unhide HBS _ (unhide HBS _ (unhide HBS _ (unhide HBS _ (unhide HBS _ (unhide HBS _ (unhide HBS _ (unhide HBS _ (unhide HBS _ (unhide HBS _ (unhide HBS _ (unhide HBS _ (unhide HBS _ (unhide HB1).drew _ _) _ _) _ _) _ _) _ _) _ _) _ _) _ _) _ _) _ _) _ _) _ _) _ _)
    | cons x t =>
      have e1 : ((B (x :: t)).toList == (⟨#[]⟩ : ByteArray).toList) = false := by rw [Kd.str_eq]; rfl
      have e2 : (B (x :: t)).toList.isEmpty = false := by rw [ByteArray.toList_eq]; rfl
      have e3 : ¬ (B (x :: t)).size = 0 := by rw [size_B]; simp
      generalize B (x :: t) = bt at *
      go_region
      all_goals
        go_wp2
        refine bodyPost_ret (v := .tuple #[qVal id bits 1 0 0 0 q nm k' c' false 0 0, .bool false]) (by simp [results, Tryz.results72, go_sem, qVal, d0, d1, d2, d3, d4, d5, d6, d7, d8, d9, d10, d11, d12]) rfl ⟨unhide RET false rfl, ?_⟩
        first | exact (unhide HBS _ (unhide HBS _ (unhide HBS _ (unhide HBS _ (unhide HBS _ (unhide HBS _ (unhide HBS _ (unhide HBS _ (unhide HBS _ (unhide HBS _ (unhide HBS _ (unhide HBS _ (unhide HBS _ (unhide HB1) _ _) _ _) _ _) _ _) _ _) _ _) _ _) _ _) _ _) _ _) _ _) _ _) _ _).drew | exact (unhide HBS _ (unhide HBS _ (unhide HBS _ (unhide HBS _ (unhide HBS _ (unhide HBS _ (unhide HBS _ (unhide HBS _ (unhide HBS _ (unhide HBS _ (unhide HBS _ (unhide HBS _ (unhide HBS _ (unhide HB1).drew _ _) _ _) _ _) _ _) _ _) _ _) _ _) _ _) _ _) _ _) _ _) _ _) _ _)
  · go_region
    all_goals
      go_wp2
      refine bodyPost_ret (v := .tuple #[qVal id bits 1 0 0 0 q nm k' c' false 0 0, .bool false]) (by simp [results, Tryz.results72, go_sem, qVal, d0, d1, d2, d3, d4, d5, d6, d7, d8, d9, d10, d11, d12]) rfl ⟨unhide RET false rfl, ?_⟩
      first | exact (unhide HBS _ (unhide HBS _ (unhide HBS _ (unhide HBS _ (unhide HBS _ (unhide HBS _ (unhide HBS _ (unhide HBS _ (unhide HBS _ (unhide HBS _ (unhide HBS _ (unhide HBS _ (unhide HBS _ (unhide HB1) _ _) _ _) _ _) _ _) _ _) _ _) _ _) _ _) _ _) _ _) _ _) _ _) _ _).drew | exact (unhide HBS _ (unhide HBS _ (unhide HBS _ (unhide HBS _ (unhide HBS _ (unhide HBS _ (unhide HBS _ (unhide HBS _ (unhide HBS _ (unhide HBS _ (unhide HBS _ (unhide HBS _ (unhide HBS _ (unhide HB1).drew _ _) _ _) _ _) _ _) _ _) _ _) _ _) _ _) _ _) _ _) _ _) _ _) _ _)
end Wg
end Go.Proofs.YtkkpahmoljiepaaGreatDoor

/- Contracts: wire's isAskable, turned, limit and last (no OPT), newMessage. -/
namespace Go.Proofs.YtkkpahmoljiepaaGreatDoor
open Go.RowKit
open Pu (Str hide unhide)

namespace Wh
open Ka Wa Wb Wc Wd We Wf Wg Re

/-- may be asked for. -/
def askP (k : Int) : Bool := k != 0 && k != 41 && (decide (k < 249) || decide (254 < k))

set_option maxHeartbeats 400000 in
theorem isAskable_yes (k : Int) (w : World) (h1 : (k != 0) = true) (h2 : (k != 41) = true) (h3 : k < 249) :
    Calls Tryz.prog 140 #[.int .i64 k] w fun e w' => e = .returned (.bool true) ∧ w' = w := by
  go_enter Tryz.func140, Tryz.ntmps140
  go_wp2
  go_ret
  exact ⟨rfl, rfl⟩

/-- the bits of a reply. -/
def turnedP (b rc : Int) : Int := bits .or .i64 (bits .or .i64 32768 (bits .and .i64 b 30976)) (bits .and .i64 rc 15)

set_option maxHeartbeats 400000 in
theorem turned_any (i b c0 c1 c2 c3 rc : Int) (w : World) :
    Calls Tryz.prog 132 #[.agg #[.int .i64 i, .int .i64 b, .int .i64 c0, .int .i64 c1, .int .i64 c2, .int .i64 c3], .int .i64 rc] w fun e w' =>
      e = .returned (.agg #[.int .i64 i, .int .i64 (turnedP b rc), .int .i64 0, .int .i64 0, .int .i64 0, .int .i64 0]) ∧ Below w.heap.size w w' := by
  go_enter Tryz.func132, Tryz.ntmps132
  go_wp2
  refine bodyPost_ret (v := .agg #[.int .i64 i, .int .i64 (turnedP b rc), .int .i64 0, .int .i64 0, .int .i64 0, .int .i64 0]) (by simp [results, Tryz.results132, go_sem, turnedP]) rfl ⟨rfl, ?_⟩
  first | exact ((Below.refl _ _).alloc (Nat.le_refl _) _).alloc (by simp) _ | exact (((((((((Below.refl _ _).alloc (Nat.le_refl _) _).alloc (by simp) _).setCell (by show w.heap.size ≤ w.heap.size + 1; omega) _).setCell (by show w.heap.size ≤ w.heap.size + 1; omega) _).setCell (by show w.heap.size ≤ w.heap.size + 1; omega) _).setCell (by show w.heap.size ≤ w.heap.size + 1; omega) _).setCell (by show w.heap.size ≤ w.heap.size + 1; omega) _).setCell (by show w.heap.size ≤ w.heap.size + 1; omega) _)

set_option maxHeartbeats 400000 in
theorem limit_plain (h0 h1 h2 h3 h4 h5 : Int) (q n : Str) (k c sz ver : Int) (w : World) :
    Calls Tryz.prog 138 #[qVal h0 h1 h2 h3 h4 h5 q n k c false sz ver] w fun e w' => e = .returned (.int .i64 512) ∧ Below w.heap.size w w' := by
  unfold qVal
  go_enter Tryz.func138, Tryz.ntmps138
  go_wp2
  go_ret
  exact ⟨rfl, (Below.refl _ _).alloc (Nat.le_refl _) _⟩

set_option maxHeartbeats 400000 in
theorem last_plain (h0 h1 h2 h3 h4 h5 : Int) (q n : Str) (k c sz ver rc : Int) (w : World) :
    Calls Tryz.prog 136 #[qVal h0 h1 h2 h3 h4 h5 q n k c false sz ver, .int .i64 rc] w fun e w' => e = .returned (.string ⟨#[]⟩) ∧ Below w.heap.size w w' := by
  unfold qVal
  go_enter Tryz.func136, Tryz.ntmps136
  go_wp2
  go_ret
  exact ⟨rfl, (Below.refl _ _).alloc (Nat.le_refl _) _⟩
end Wh
end Go.Proofs.YtkkpahmoljiepaaGreatDoor

/- Contracts: wire's message: newMessage, learn, and what octets and raw texts write. -/
namespace Go.Proofs.YtkkpahmoljiepaaGreatDoor
open Go.RowKit
open Pu (Str hide unhide)

/-- a message in memory: the values of its two lists. -/
def MsgAt (w : World) (b : Nat) (vb vp : Value) : Prop := w.heap[b]? = some (.cells #[vb, vp] 283)
section
variable {w : World} {b : Nat} {vb vp : Value}
theorem MsgAt.lt (h : MsgAt w b vb vp) : b < w.heap.size := (Array.getElem?_eq_some_iff.1 h).1
theorem MsgAt.cells (h : MsgAt w b vb vp) : w.cell? ⟨b, 0, none⟩ = some vb ∧ w.cell? ⟨b, 1, none⟩ = some vp := by
  unfold MsgAt at h
  constructor <;> simp [World.cell?, h]
theorem MsgAt.frozen (h : MsgAt w b vb vp) (i : Nat) : w.frozen? ⟨b, i, none⟩ = false := by
  unfold MsgAt at h; simp [World.frozen?, h]
theorem MsgAt.set0 (h : MsgAt w b vb vp) (v : Value) : MsgAt (w.setCell ⟨b, 0, none⟩ v) b v vp := by
  unfold MsgAt at *; simp only [World.setCell]; rw [Array.getElem?_modify, if_pos rfl, h]; rfl
theorem MsgAt.set1 (h : MsgAt w b vb vp) (v : Value) : MsgAt (w.setCell ⟨b, 1, none⟩ v) b vb v := by
  unfold MsgAt at *; simp only [World.setCell]; rw [Array.getElem?_modify, if_pos rfl, h]; rfl
theorem MsgAt.kept {w' : World} (h : MsgAt w b vb vp) (hb : w'.heap[b]? = w.heap[b]?) : MsgAt w' b vb vp := hb.trans h
end
/-- bytes that a call owns. -/
def OwnB (w : World) (base : Nat) (v : Value) (l : Str) : Prop := w.ownsRow base 5 1 v l.length (l.map fun c => .int .u8 c.toNat)

namespace Wi
open Ka Wa Wb Wc Wd We Wf Wg Wh Re

theorem infoB : (Tryz.prog.info? 5).map (fun i => (i.zero, i.size, i.bytes)) = some (some (.int .u8 0), 1, 1) := by kernel_rfl
theorem underB : Tryz.prog.underlying 58 = some (.slice 5) := by kernel_rfl

theorem own_set_low {w : World} {base d : Nat} {t : TypeId} {sz n : Nat} {v : Value} {xs : List Value} (h : w.ownsRow base t sz v n xs) (hd : some d ≠ v.ownBlock) (o : Nat) (u : Value) : (w.setCell ⟨d, o, none⟩ u).ownsRow base t sz v n xs := by
  obtain ⟨h1, h2⟩ := h
  refine ⟨h1, ?_⟩
  rcases h2 with h2 | ⟨g, cap, cur, rfl, hb, hcur, hr⟩
  · exact .inl h2
  · exact .inr ⟨g, cap, cur, rfl, hb, (Below.heap_setCell _ _ _ _ (by show g ≠ d; intro e; subst e; exact hd rfl)).trans hcur, hr⟩

theorem msg_ne {w : World} {mb base : Nat} {vb vp v : Value} {l : Str} (hm : MsgAt w mb vb vp) (ho : OwnB w base v l) : some mb ≠ v.ownBlock := fun e => by
  obtain ⟨_, ⟨rfl, _⟩ | ⟨g, cap, cur, rfl, _, hcur, _⟩⟩ := ho
  · simp [Value.ownBlock] at e
  · simp only [Value.ownBlock, Option.some.injEq] at e
    subst e
    rw [hm] at hcur
    simp at hcur

theorem own_slice {w : World} {base : Nat} {t : TypeId} {sz n : Nat} {v : Value} {xs : List Value} (h : w.ownsRow base t sz v n xs) : ∃ a m c, v = .slice a m c := by
  obtain ⟨_, ⟨rfl, _⟩ | ⟨g, cap, cur, rfl, _⟩⟩ := h
  · exact ⟨_, _, _, rfl⟩
  · exact ⟨_, _, _, rfl⟩

set_option maxRecDepth 100000 in
set_option maxHeartbeats 800000 in
theorem octet_w (mb base : Nat) (c : UInt8) (vb vp : Value) (l : Str) (w : World) (hm : MsgAt w mb vb vp) (ho : OwnB w base vb l) (hbs : base ≤ w.heap.size) (hl : l.length ≤ 1000000) :
    Calls Tryz.prog 341 #[.int .u8 c.toNat, .pointer (some ⟨mb, 0, none⟩)] w fun e w' =>
      e = .returned (.tuple #[]) ∧ ∃ vb', MsgAt w' mb vb' vp ∧ OwnB w' base vb' (l ++ [c]) ∧ (vb'.ownBlock = vb.ownBlock ∨ ∃ g, vb'.ownBlock = some g ∧ w.heap.size ≤ g) ∧ Fr (fun i => i ≠ mb ∧ some i ≠ vb.ownBlock) w w' := by
  obtain ⟨i0, hi, hz0, hz1, hz2⟩ := info_parts infoB
  have hc0 := hm.cells.1
  have HM := hide hm
  have HO := hide ho
  have hlt := hm.lt
  clear hm ho
  go_enter Tryz.func341, Tryz.ntmps341
  go_wp2_with (at_builtin; go_loud (refine wpList_append_own_at _ rfl (.tmp 8) (.tmp 10) 58 rfl base 5 i0 (.int .u8 0) 1 1 underB hi hz0 hz1 hz2 rfl (by decide) _ l.length _ rfl ((unhide HO).alloc _) ⟨w.heap.size, 0, none⟩ 1 1 [.int .u8 c.toNat] rfl rfl ?c1 ?c2 ?c3 ?c4 ?c5 ?_))
  case c1 =>
    intro j u hj
    match j, hj with
    | 0, hj => simp at hj; subst hj; simp [Addr.add]
    | n + 1, hj => simp at hj
  case c2 => intro u hu; simp at hu; subst hu; rfl
  case c3 => unfold maxLen; omega
  case c4 => omega
  case c5 => simp; omega
  intro v' w3 hown' hgrow _ hat
  obtain ⟨va, vn, vc, rfl⟩ := own_slice hown'
  have HO3 : Hid (OwnB w3 base (.slice va vn vc) (l ++ [c])) := by
    unfold Hid OwnB
    rw [List.length_append, List.map_append]
    exact hown'
  have hblk : ∀ i, i < w.heap.size → some i ≠ vb.ownBlock → w3.heap[i]? = w.heap[i]? := fun i hi hne =>
    (hgrow.block i (by simp; omega) hne).trans (Below.heap_alloc _ _ _ hi)
  have hne : some mb ≠ vb.ownBlock := msg_ne (unhide HM) (unhide HO)
  have HM3 := hide ((unhide HM).kept (hblk mb hlt hne))
  have HF3 : Hid (Fr (fun i => i ≠ mb ∧ some i ≠ vb.ownBlock) w w3) :=
    ⟨hgrow.os, hgrow.tape, hgrow.output, Nat.le_trans (by simp) hgrow.size, fun i hi hp => hblk i hi hp.2⟩
  have HA : Hid ((Value.slice va vn vc).ownBlock = vb.ownBlock ∨ ∃ g, (Value.slice va vn vc).ownBlock = some g ∧ w.heap.size ≤ g) := by
    rcases hat with h | h
    · exact .inl h
    · exact .inr ⟨_, h, by simp⟩
  have hfz := (unhide HM3).frozen
  have hc := (unhide HM3).cells.1
  clear hown' hgrow hat hblk hne HM HO
  go_wp2_with fail
  refine bodyPost_end (v := .tuple #[]) (by simp [results, Tryz.results341]) rfl ?_
  refine ⟨rfl, _, (unhide HM3).set0 _, ?_, unhide HA, (unhide HF3).trans (Fr.of_set _ fun i h => h.1)⟩
  exact own_set_low (unhide HO3) (msg_ne (unhide HM3) (unhide HO3)) _ _
end Wi
end Go.Proofs.YtkkpahmoljiepaaGreatDoor
