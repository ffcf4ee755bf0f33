/- Records in memory; contracts: zone.has. -/
import Derived.Test.YtjkllohiodfikaaGreatDoorRe
import Derived.Test.YtjkllohiodfikaaGreatDoorShQ
import Derived.Laws.StructEq
set_option linter.unusedSimpArgs false
set_option linter.unusedVariables false
namespace Go.Proofs.YtjkllohiodfikaaGreatDoor
open Go.RowKit
open Pu (Str hide unhide)

/-- records that lie side by side. -/
def RecsAt (w : World) (b off : Nat) (rs : List Rec) : Prop := b < w.heap.size ∧ ∀ j, j < rs.length → ∀ i u, (Rec.enc rs[j]!)[i]? = some u → w.cell? ⟨b, off + j * 4 + i, none⟩ = some u
theorem RecsAt.below {w w' : World} {b off : Nat} {rs : List Rec} (h : RecsAt w b off rs) (hb : Below w.heap.size w w') : RecsAt w' b off rs :=
  ⟨Nat.lt_of_lt_of_le h.1 hb.size, fun j hj i u hu => (hb.cell (p := ⟨b, off + j * 4 + i, none⟩) h.1).trans (h.2 j hj i u hu)⟩
/-- a slice value that holds records: nil, or a piece of memory. -/
def RV (w : World) (v : Value) (rs : List Rec) : Prop := (v = .slice none 0 0 ∧ rs = []) ∨ ∃ b off cap, v = .slice (some ⟨b, off, none⟩) rs.length cap ∧ rs.length ≤ cap ∧ RecsAt w b off rs
theorem RV.below {w w' : World} {v : Value} {rs : List Rec} (h : RV w v rs) (hb : Below w.heap.size w w') : RV w' v rs := by
  rcases h with h | ⟨b, off, cap, hv, hc, hr⟩
  · exact .inl h
  · exact .inr ⟨b, off, cap, hv, hc, hr.below hb⟩

theorem encs_get (rs : List Rec) (j i : Nat) (hj : j < rs.length) (hi : i < 4) : (encs rs)[j * 4 + i]? = (Rec.enc rs[j]!)[i]? := by
  induction rs generalizing j with
  | nil => simp at hj
  | cons r t ih =>
    have e : encs (r :: t) = r.enc ++ encs t := by simp [encs]
    have hl : r.enc.length = 4 := rfl
    rw [e]
    cases j with
    | zero => rw [List.getElem?_append_left (by omega)]; simp
    | succ j =>
      rw [List.getElem?_append_right (by omega), hl, show (j + 1) * 4 + i - 4 = j * 4 + i from by omega, ih j (by simpa using hj)]
      simp

theorem recsAt_of_encs {w : World} {b off : Nat} {rs : List Rec} (hb : b < w.heap.size) (h : ∀ j u, (encs rs)[j]? = some u → w.cell? ⟨b, off + j, none⟩ = some u) : RecsAt w b off rs := by
  refine ⟨hb, fun j hj i u hu => ?_⟩
  have hi : i < 4 := by
    rcases Nat.lt_or_ge i 4 with h | h
    · exact h
    · rw [List.getElem?_eq_none (by simpa [Rec.enc] using h)] at hu; cases hu
  have := h (j * 4 + i) u (by rw [encs_get rs j i hj hi]; exact hu)
  rwa [← Nat.add_assoc] at this

theorem RecsOwn.rv {w : World} {B : Nat} {v : Value} {rs : List Rec} (h : RecsOwn w B v rs) : RV w v rs := by
  obtain ⟨⟨hl, h | ⟨g, cap, cur, hv, hg, h1, h2, h3, h4, h5⟩⟩, hn⟩ := h
  · exact .inl ⟨h.1, hn.1 h.1⟩
  · refine .inr ⟨g, 0, cap, hv, h2, recsAt_of_encs (Array.getElem?_eq_some_iff.1 h1).1 fun j u hu => ?_⟩
    have hj : cur[j]? = some u := by
      rw [← h5] at hu
      have hjl : j < (cur.toList.take (rs.length * 4)).length := (List.getElem?_eq_some_iff.1 hu).1
      rw [List.getElem?_take] at hu
      split at hu
      · simpa using hu
      · cases hu
    simp [World.cell?, h1, hj]

theorem RecsAt.drop {w : World} {b off : Nat} {rs : List Rec} (h : RecsAt w b off rs) (k : Nat) : RecsAt w b (off + k * 4) (rs.drop k) := by
  refine ⟨h.1, fun j hj i u hu => ?_⟩
  rw [List.length_drop] at hj
  have e : (rs.drop k)[j]! = rs[k + j]! := by simp
  rw [e] at hu
  have := h.2 (k + j) (by omega) i u hu
  rwa [show off + (k + j) * 4 + i = off + k * 4 + j * 4 + i from by omega] at this
theorem RecsAt.take {w : World} {b off : Nat} {rs : List Rec} (h : RecsAt w b off rs) (k : Nat) : RecsAt w b off (rs.take k) := by
  refine ⟨h.1, fun j hj i u hu => ?_⟩
  rw [List.length_take] at hj
  have e : (rs.take k)[j]! = rs[j]! := by
    rw [List.getElem!_eq_getElem?_getD, List.getElem!_eq_getElem?_getD, List.getElem?_take, if_pos (by omega)]
  rw [e] at hu
  exact h.2 j (by omega) i u hu

/-- a record's four cells. -/
theorem RecsAt.four {w : World} {b off : Nat} {rs : List Rec} (h : RecsAt w b off rs) (j : Nat) (hj : j < rs.length) :
    w.cell? ⟨b, off + j * 4, none⟩ = some (.string (B rs[j].owner)) ∧ w.cell? ⟨b, off + j * 4 + 1, none⟩ = some (.int .i64 rs[j].ttl) ∧
    w.cell? ⟨b, off + j * 4 + 2, none⟩ = some (.int .i64 rs[j].type) ∧ w.cell? ⟨b, off + j * 4 + 3, none⟩ = some (.string (B rs[j].data)) := by
  have e : rs[j]! = rs[j] := getElem!_pos rs j hj
  have := h.2 j hj
  rw [e] at this
  exact ⟨this 0 _ rfl, this 1 _ rfl, this 2 _ rfl, this 3 _ rfl⟩

namespace Rf
open Ka Kb Kd Ke Kf Rc Rd Re

def hasP (k : Int) (r : Rec) : Bool := r.type == k

set_option maxHeartbeats 400000 in
theorem has1_any (r : Rec) (k : Int) (bk : Nat) (W : World) (hc : W.cell? ⟨bk, 0, none⟩ = some (.int .i64 k)) (hb : bk < W.heap.size) :
    Calls Tryz.prog 132 #[.agg #[.string (B r.owner), .int .i64 r.ttl, .int .i64 r.type, .string (B r.data)], .pointer (some ⟨bk, 0, none⟩)] W fun e w' => e = .returned (.bool (hasP k r)) ∧ Below W.heap.size W w' := by
  go_enter Tryz.func132, Tryz.ntmps132
  go_wp2
  go_ret
  exact ⟨rfl, (Below.refl _ _).alloc (Nat.le_refl _) _⟩

theorem hasPred (k : Int) (bk : Nat) (w : World) (hc : w.cell? ⟨bk, 0, none⟩ = some (.int .i64 k)) (hb : bk < w.heap.size) :
    PredBelow Tryz.prog 132 #[.pointer (some ⟨bk, 0, none⟩)] (fun x => .agg (Rec.enc x).toArray) (hasP k) w := by
  intro W r hB
  refine (has1_any r k bk W ((hB.cell (p := ⟨bk, 0, none⟩) hb).trans hc) (Nat.lt_of_lt_of_le hb hB.size)).mono ?_
  rintro e w' ⟨rfl, hb'⟩
  exact ⟨rfl, hB.trans (hb'.mono hB.size)⟩

theorem containsFunc_some (k : Int) (bk b off cap : Nat) (rs : List Rec) (w : World) (hc : w.cell? ⟨bk, 0, none⟩ = some (.int .i64 k)) (hb : bk < w.heap.size) (hr : RecsAt w b off rs) (hl : rs.length ≤ 3001) :
    Calls Tryz.prog 131 #[.slice (some ⟨b, off, none⟩) rs.length cap, .func (.func 132) #[] #[.pointer (some ⟨bk, 0, none⟩)]] w fun e w' =>
      e = .returned (.bool (rs.any (hasP k))) ∧ Below w.heap.size w w' := by
  have := AnyQ.slices_ContainsFunc Tryz.lContainsFunc 4 Tryz.isAgg47 Tryz.sizeOf47 Rec.enc (fun _ => rfl) (hasP k) 132 #[.pointer (some ⟨bk, 0, none⟩)] (enters_of Tryz.func132 (by kernel_rfl) rfl) b off rs.length cap rs w (hasPred k bk w hc hb) (Nat.le_refl _) (by omega) hr.1 hr.2
  rw [List.take_length] at this
  exact this

set_option maxHeartbeats 400000 in
theorem has_some (k : Int) (b off cap : Nat) (rs : List Rec) (w : World) (hr : RecsAt w b off rs) (hl : rs.length ≤ 3001) :
    Calls Tryz.prog 74 #[.slice (some ⟨b, off, none⟩) rs.length cap, .int .i64 k] w fun e w' => e = .returned (.bool (rs.any (hasP k))) ∧ Below w.heap.size w w' := by
  have hb0 : Below w.heap.size w (w.alloc (.cells #[.int .i64 k] 3)) := (Below.refl _ _).alloc (Nat.le_refl _) _
  have HC := hide (containsFunc_some k w.heap.size b off cap rs (w.alloc (.cells #[.int .i64 k] 3)) (by simp) (by simp) (hr.below hb0) hl)
  clear hr
  go_enter Tryz.func74, Tryz.ntmps74
  go_wp2_with fail
  refine (unhide HC).mono ?_
  rintro e w' ⟨rfl, hb'⟩
  go_wp2_with fail
  go_ret
  exact ⟨rfl, hb0.trans (hb'.mono (by simp))⟩

set_option maxHeartbeats 400000 in
theorem indexFunc_nil (f : Value) (w : World) :
    Calls Tryz.prog 181 #[.slice none 0 0, f] w fun e w' => e = .returned (.int .i64 (-1)) ∧ w' = w := by
  go_enter Tryz.func181, Tryz.ntmps181
  go_wp2_with fail
  go_loop [8] (fun i => i = .int .i64 0) (fun _ => 0)
  case atStart => rfl
  case round =>
    obtain rfl := hrel
    go_wp2
    go_ret
    exact ⟨rfl, rfl⟩

set_option maxHeartbeats 400000 in
theorem has_nil (k : Int) (w : World) :
    Calls Tryz.prog 74 #[.slice none 0 0, .int .i64 k] w fun e w' => e = .returned (.bool false) ∧ Below w.heap.size w w' := by
  have HC : Hid (∀ f w, Calls Tryz.prog 131 #[.slice none 0 0, f] w fun e w' => e = .returned (.bool false) ∧ w' = w) := by
    intro f w
    go_enter Tryz.func131, Tryz.ntmps131
    go_wp2_with (go_at_call 181; refine (indexFunc_nil _ _).mono ?_; rintro e w' ⟨rfl, rfl⟩)
    go_ret
    exact ⟨rfl, rfl⟩
  go_enter Tryz.func74, Tryz.ntmps74
  go_wp2_with fail
  refine (unhide HC _ _).mono ?_
  rintro e w' ⟨rfl, rfl⟩
  go_wp2_with fail
  go_ret
  exact ⟨rfl, (Below.refl _ _).alloc (Nat.le_refl _) _⟩

theorem has_any (k : Int) (v : Value) (rs : List Rec) (w : World) (hv : RV w v rs) (hl : rs.length ≤ 3001) :
    Calls Tryz.prog 74 #[v, .int .i64 k] w fun e w' => e = .returned (.bool (rs.any (hasP k))) ∧ Below w.heap.size w w' := by
  rcases hv with ⟨rfl, rfl⟩ | ⟨b, off, cap, rfl, _, hr⟩
  · exact has_nil k w
  · exact has_some k b off cap rs w hr hl

/-- what startsRight tells. -/
def startsR (o : Str) (rs : List Rec) : Bool :=
  match rs with
  | [] => false
  | r :: t => decide (rs.length ≤ 60) && (r.owner == o && r.type == 6 && !t.any (hasP 6))

set_option maxHeartbeats 800000 in
theorem startsRight_any (o : Str) (v : Value) (rs : List Rec) (w : World) (hv : RV w v rs) (hl : rs.length ≤ 3001) :
    Calls Tryz.prog 39 #[.string (B o), v] w fun e w' => e = .returned (.bool (startsR o rs)) ∧ Below w.heap.size w w' := by
  rcases hv with ⟨rfl, rfl⟩ | ⟨b, off, cap, rfl, hcap, hr⟩
  · go_enter Tryz.func39, Tryz.ntmps39
    go_wp2
    go_ret
    exact ⟨rfl, Below.refl _ _⟩
  cases rs with
  | nil =>
    go_enter Tryz.func39, Tryz.ntmps39
    go_wp2
    go_ret
    exact ⟨rfl, Below.refl _ _⟩
  | cons r t =>
    rw [List.length_cons] at hcap hl ⊢
    obtain ⟨c0, _, c2, _⟩ := hr.four 0 (by simp)
    have hd := hr.drop 1
    have he : RecsAt w b off [] := ⟨hr.1, fun j hj => by simp at hj⟩
    simp only [Nat.zero_mul, Nat.add_zero, List.getElem_cons_zero, Nat.one_mul, List.drop_succ_cons, List.drop_zero] at c0 c2 hd
    have HD := hide hd
    have HE := hide he
    have hb := hr.1
    clear hd he hr
    by_cases h60 : (60 : Int) < (t.length : Int) + 1
    · have hfin : Hid (startsR o (r :: t) = false) := by
        unfold startsR; rw [Hid, List.length_cons, decide_eq_false (by omega)]; rfl
      go_enter Tryz.func39, Tryz.ntmps39
      go_wp2
      go_ret
      exact ⟨ret_bool (unhide hfin).symm, Below.refl _ _⟩
    have hfin : Hid (startsR o (r :: t) = (r.owner == o && r.type == 6 && !t.any (hasP 6))) := by
      unfold startsR; rw [Hid, List.length_cons, decide_eq_true (by omega)]; rfl
    have hBB : ((B r.owner).toList == (B o).toList) = (r.owner == o) := by rw [str_eq]; rfl
    cases ho : r.owner == o
    · rw [ho] at hBB
      go_enter Tryz.func39, Tryz.ntmps39
      go_wp2
      go_ret
      exact ⟨ret_bool (by rw [unhide hfin, ho]; rfl), Below.refl _ _⟩
    rw [ho] at hBB
    cases ht : r.type == 6
    · go_enter Tryz.func39, Tryz.ntmps39
      go_wp2
      go_ret
      exact ⟨ret_bool (by rw [unhide hfin, ho, ht]; rfl), Below.refl _ _⟩
    by_cases hc1 : cap = 1
    · subst hc1
      obtain rfl : t = [] := List.eq_nil_of_length_eq_zero (by omega)
      go_enter Tryz.func39, Tryz.ntmps39
      go_wp2_with fail
      refine (has_some 6 b off 0 [] w (unhide HE) (by simp)).mono ?_
      rintro e w' ⟨rfl, hb'⟩
      go_wp2_with fail
      go_ret
      exact ⟨ret_bool (by rw [unhide hfin, ho, ht]; rfl), hb'⟩
    · have hcap2 : 2 ≤ cap := by omega
      go_enter Tryz.func39, Tryz.ntmps39
      go_wp2_with fail
      refine (has_some 6 b (off + 4) _ t w (unhide HD) (by omega)).mono ?_
      rintro e w' ⟨rfl, hb'⟩
      go_wp2_with fail
      go_ret
      exact ⟨ret_bool (by rw [unhide hfin, ho, ht]; rfl), hb'⟩
end Rf
end Go.Proofs.YtjkllohiodfikaaGreatDoor
