/- Records in memory; contracts: zone.has. -/
import Derived.Test.YtkkpahmoljiepaaGreatDoorJ04
import Derived.Laws.StructEq
import Derived.Deep.RegionWith
import Derived.Deep.QuietTactic
import Derived.BigQuiet
import Derived.Test.YtkkpahmoljiepaaGreatDoorJ02
import Derived.RangeFuncNested
import Derived.RangeFuncBound
import Derived.RangeFuncCalls
import Derived.Shelf.RegionOpen
import Derived.OwnWalkIn
import Derived.TacticsInMore
import Derived.LoopNIn
import Derived.LoopIn
import Derived.Shelf.SlSortCmp.QuietGrown
set_option linter.unusedSimpArgs false
set_option linter.unusedVariables false
namespace Go.Proofs.YtkkpahmoljiepaaGreatDoor
open Go.RowKit
open Pu (Str hide unhide)

/-- records that lie side by side. -/
def RecsAt (w : World) (b off : Nat) (rs : List Rec) : Prop := b < w.heap.size ∧ ∀ j, j < rs.length → ∀ i u, (Rec.enc rs[j]!)[i]? = some u → w.cell? ⟨b, off + j * 4 + i, none⟩ = some u
theorem RecsAt.below {w w' : World} {b off : Nat} {rs : List Rec} (h : RecsAt w b off rs) (hb : Below w.heap.size w w') : RecsAt w' b off rs :=
  ⟨Nat.lt_of_lt_of_le h.1 hb.size, fun j hj i u hu => (hb.cell (p := ⟨b, off + j * 4 + i, none⟩) h.1).trans (h.2 j hj i u hu)⟩
/-- a slice value that holds records: nil, or a piece of memory. -/
def RV (w : World) (v : Value) (rs : List Rec) : Prop := (v = .slice none 0 0 ∧ rs = []) ∨ ∃ b off cap, v = .slice (some ⟨b, off, none⟩) rs.length cap ∧ rs.length ≤ cap ∧ RecsAt w b off rs
theorem RV.below {w w' : World} {v : Value} {rs : List Rec} (h : RV w v rs) (hb : Below w.heap.size w w') : RV w' v rs := by
  rcases h with h | ⟨b, off, cap, hv, hc, hr⟩
  · exact .inl h
  · exact .inr ⟨b, off, cap, hv, hc, hr.below hb⟩

theorem encs_get (rs : List Rec) (j i : Nat) (hj : j < rs.length) (hi : i < 4) : (encs rs)[j * 4 + i]? = (Rec.enc rs[j]!)[i]? := by
  induction rs generalizing j with
  | nil => simp at hj
  | cons r t ih =>
    have e : encs (r :: t) = r.enc ++ encs t := by simp [encs]
    have hl : r.enc.length = 4 := rfl
    rw [e]
    cases j with
    | zero => rw [List.getElem?_append_left (by omega)]; simp
    | succ j =>
      rw [List.getElem?_append_right (by omega), hl, show (j + 1) * 4 + i - 4 = j * 4 + i from by omega, ih j (by simpa using hj)]
      simp

theorem recsAt_of_encs {w : World} {b off : Nat} {rs : List Rec} (hb : b < w.heap.size) (h : ∀ j u, (encs rs)[j]? = some u → w.cell? ⟨b, off + j, none⟩ = some u) : RecsAt w b off rs := by
  refine ⟨hb, fun j hj i u hu => ?_⟩
  have hi : i < 4 := by
    rcases Nat.lt_or_ge i 4 with h | h
    · exact h
    · rw [List.getElem?_eq_none (by simpa [Rec.enc] using h)] at hu; cases hu
  have := h (j * 4 + i) u (by rw [encs_get rs j i hj hi]; exact hu)
  rwa [← Nat.add_assoc] at this

theorem RecsOwn.rv {w : World} {B : Nat} {v : Value} {rs : List Rec} (h : RecsOwn w B v rs) : RV w v rs := by
  obtain ⟨⟨hl, h | ⟨g, cap, cur, hv, hg, h1, h2, h3, h4, h5⟩⟩, hn⟩ := h
  · exact .inl ⟨h.1, hn.1 h.1⟩
  · refine .inr ⟨g, 0, cap, hv, h2, recsAt_of_encs (Array.getElem?_eq_some_iff.1 h1).1 fun j u hu => ?_⟩
    have hj : cur[j]? = some u := by
      rw [← h5] at hu
      have hjl : j < (cur.toList.take (rs.length * 4)).length := (List.getElem?_eq_some_iff.1 hu).1
      rw [List.getElem?_take] at hu
      split at hu
      · simpa using hu
      · cases hu
    simp [World.cell?, h1, hj]

theorem RecsAt.drop {w : World} {b off : Nat} {rs : List Rec} (h : RecsAt w b off rs) (k : Nat) : RecsAt w b (off + k * 4) (rs.drop k) := by
  refine ⟨h.1, fun j hj i u hu => ?_⟩
  rw [List.length_drop] at hj
  have e : (rs.drop k)[j]! = rs[k + j]! := by simp
  rw [e] at hu
  have := h.2 (k + j) (by omega) i u hu
  rwa [show off + (k + j) * 4 + i = off + k * 4 + j * 4 + i from by omega] at this
theorem RecsAt.take {w : World} {b off : Nat} {rs : List Rec} (h : RecsAt w b off rs) (k : Nat) : RecsAt w b off (rs.take k) := by
  refine ⟨h.1, fun j hj i u hu => ?_⟩
  rw [List.length_take] at hj
  have e : (rs.take k)[j]! = rs[j]! := by
    rw [List.getElem!_eq_getElem?_getD, List.getElem!_eq_getElem?_getD, List.getElem?_take, if_pos (by omega)]
  rw [e] at hu
  exact h.2 j (by omega) i u hu

/-- a record's four cells. -/
theorem RecsAt.four {w : World} {b off : Nat} {rs : List Rec} (h : RecsAt w b off rs) (j : Nat) (hj : j < rs.length) :
    w.cell? ⟨b, off + j * 4, none⟩ = some (.string (B rs[j].owner)) ∧ w.cell? ⟨b, off + j * 4 + 1, none⟩ = some (.int .i64 rs[j].ttl) ∧
    w.cell? ⟨b, off + j * 4 + 2, none⟩ = some (.int .i64 rs[j].type) ∧ w.cell? ⟨b, off + j * 4 + 3, none⟩ = some (.string (B rs[j].data)) := by
  have e : rs[j]! = rs[j] := getElem!_pos rs j hj
  have := h.2 j hj
  rw [e] at this
  exact ⟨this 0 _ rfl, this 1 _ rfl, this 2 _ rfl, this 3 _ rfl⟩

namespace Rf
open Ka Kb Kd Ke Kf Rc Rd Re

def hasP (k : Int) (r : Rec) : Bool := r.type == k

set_option maxHeartbeats 400000 in
theorem has1_any (r : Rec) (k : Int) (bk : Nat) (W : World) (hc : W.cell? ⟨bk, 0, none⟩ = some (.int .i64 k)) (hb : bk < W.heap.size) :
    Calls Tryz.prog 172 #[.agg #[.string (B r.owner), .int .i64 r.ttl, .int .i64 r.type, .string (B r.data)], .pointer (some ⟨bk, 0, none⟩)] W fun e w' => e = .returned (.bool (hasP k r)) ∧ Below W.heap.size W w' := by
  go_enter Tryz.func172, Tryz.ntmps172
  go_wp2
  go_ret
  exact ⟨rfl, (Below.refl _ _).alloc (Nat.le_refl _) _⟩

theorem hasPred (k : Int) (bk : Nat) (w : World) (hc : w.cell? ⟨bk, 0, none⟩ = some (.int .i64 k)) (hb : bk < w.heap.size) :
    PredBelow Tryz.prog 172 #[.pointer (some ⟨bk, 0, none⟩)] (fun x => .agg (Rec.enc x).toArray) (hasP k) w := by
  intro W r hB
  refine (has1_any r k bk W ((hB.cell (p := ⟨bk, 0, none⟩) hb).trans hc) (Nat.lt_of_lt_of_le hb hB.size)).mono ?_
  rintro e w' ⟨rfl, hb'⟩
  exact ⟨rfl, hB.trans (hb'.mono hB.size)⟩

theorem containsFunc_some (k : Int) (bk b off cap : Nat) (rs : List Rec) (w : World) (hc : w.cell? ⟨bk, 0, none⟩ = some (.int .i64 k)) (hb : bk < w.heap.size) (hr : RecsAt w b off rs) (hl : rs.length ≤ 3001) :
    Calls Tryz.prog 171 #[.slice (some ⟨b, off, none⟩) rs.length cap, .func (.func 172) #[] #[.pointer (some ⟨bk, 0, none⟩)]] w fun e w' =>
      e = .returned (.bool (rs.any (hasP k))) ∧ Below w.heap.size w w' := by
  have := AnyQ.slices_ContainsFunc Tryz.lContainsFunc 4 Tryz.isAgg47 Tryz.sizeOf47 Rec.enc (fun _ => rfl) (hasP k) 172 #[.pointer (some ⟨bk, 0, none⟩)] (enters_of Tryz.func172 (by kernel_rfl) rfl) b off rs.length cap rs w (hasPred k bk w hc hb) (Nat.le_refl _) (by omega) hr.1 hr.2
  rw [List.take_length] at this
  exact this

set_option maxHeartbeats 400000 in
theorem has_some (k : Int) (b off cap : Nat) (rs : List Rec) (w : World) (hr : RecsAt w b off rs) (hl : rs.length ≤ 3001) :
    Calls Tryz.prog 101 #[.slice (some ⟨b, off, none⟩) rs.length cap, .int .i64 k] w fun e w' => e = .returned (.bool (rs.any (hasP k))) ∧ Below w.heap.size w w' := by
  have hb0 : Below w.heap.size w (w.alloc (.cells #[.int .i64 k] 3)) := (Below.refl _ _).alloc (Nat.le_refl _) _
  have HC := hide (containsFunc_some k w.heap.size b off cap rs (w.alloc (.cells #[.int .i64 k] 3)) (by simp) (by simp) (hr.below hb0) hl)
  clear hr
  go_enter Tryz.func101, Tryz.ntmps101
  go_wp2_with fail
  refine (unhide HC).mono ?_
  rintro e w' ⟨rfl, hb'⟩
  go_wp2_with fail
  go_ret
  exact ⟨rfl, hb0.trans (hb'.mono (by simp))⟩

set_option maxHeartbeats 400000 in
theorem indexFunc_nil (f : Value) (w : World) :
    Calls Tryz.prog 230 #[.slice none 0 0, f] w fun e w' => e = .returned (.int .i64 (-1)) ∧ w' = w := by
  go_enter Tryz.func230, Tryz.ntmps230
  go_wp2_with fail
  go_loop [8] (fun i => i = .int .i64 0) (fun _ => 0)
  case atStart => rfl
  case round =>
    obtain rfl := hrel
    go_wp2
    go_ret
    exact ⟨rfl, rfl⟩

set_option maxHeartbeats 400000 in
theorem has_nil (k : Int) (w : World) :
    Calls Tryz.prog 101 #[.slice none 0 0, .int .i64 k] w fun e w' => e = .returned (.bool false) ∧ Below w.heap.size w w' := by
  have HC : Hid (∀ f w, Calls Tryz.prog 171 #[.slice none 0 0, f] w fun e w' => e = .returned (.bool false) ∧ w' = w) := by
    intro f w
    go_enter Tryz.func171, Tryz.ntmps171
    go_wp2_with (go_at_call 230; refine (indexFunc_nil _ _).mono ?_; rintro e w' ⟨rfl, rfl⟩)
    go_ret
    exact ⟨rfl, rfl⟩
  go_enter Tryz.func101, Tryz.ntmps101
  go_wp2_with fail
  refine (unhide HC _ _).mono ?_
  rintro e w' ⟨rfl, rfl⟩
  go_wp2_with fail
  go_ret
  exact ⟨rfl, (Below.refl _ _).alloc (Nat.le_refl _) _⟩

theorem has_any (k : Int) (v : Value) (rs : List Rec) (w : World) (hv : RV w v rs) (hl : rs.length ≤ 3001) :
    Calls Tryz.prog 101 #[v, .int .i64 k] w fun e w' => e = .returned (.bool (rs.any (hasP k))) ∧ Below w.heap.size w w' := by
  rcases hv with ⟨rfl, rfl⟩ | ⟨b, off, cap, rfl, _, hr⟩
  · exact has_nil k w
  · exact has_some k b off cap rs w hr hl

/-- what startsRight tells. -/
def startsR (o : Str) (rs : List Rec) : Bool :=
  match rs with
  | [] => false
  | r :: t => decide (rs.length ≤ 60) && (r.owner == o && r.type == 6 && !t.any (hasP 6))

set_option maxHeartbeats 800000 in
theorem startsRight_any (o : Str) (v : Value) (rs : List Rec) (w : World) (hv : RV w v rs) (hl : rs.length ≤ 3001) :
    Calls Tryz.prog 58 #[.string (B o), v] w fun e w' => e = .returned (.bool (startsR o rs)) ∧ Below w.heap.size w w' := by
  rcases hv with ⟨rfl, rfl⟩ | ⟨b, off, cap, rfl, hcap, hr⟩
  · go_enter Tryz.func58, Tryz.ntmps58
    go_wp2
    go_ret
    exact ⟨rfl, Below.refl _ _⟩
  cases rs with
  | nil =>
    go_enter Tryz.func58, Tryz.ntmps58
    go_wp2
    go_ret
    exact ⟨rfl, Below.refl _ _⟩
  | cons r t =>
    rw [List.length_cons] at hcap hl ⊢
    obtain ⟨c0, _, c2, _⟩ := hr.four 0 (by simp)
    have hd := hr.drop 1
    have he : RecsAt w b off [] := ⟨hr.1, fun j hj => by simp at hj⟩
    simp only [Nat.zero_mul, Nat.add_zero, List.getElem_cons_zero, Nat.one_mul, List.drop_succ_cons, List.drop_zero] at c0 c2 hd
    have HD := hide hd
    have HE := hide he
    have hb := hr.1
    clear hd he hr
    by_cases h60 : (60 : Int) < (t.length : Int) + 1
    · have hfin : Hid (startsR o (r :: t) = false) := by
        unfold startsR; rw [Hid, List.length_cons, decide_eq_false (by omega)]; rfl
      go_enter Tryz.func58, Tryz.ntmps58
      go_wp2
      go_ret
      exact ⟨ret_bool (unhide hfin).symm, Below.refl _ _⟩
    have hfin : Hid (startsR o (r :: t) = (r.owner == o && r.type == 6 && !t.any (hasP 6))) := by
      unfold startsR; rw [Hid, List.length_cons, decide_eq_true (by omega)]; rfl
    have hBB : ((B r.owner).toList == (B o).toList) = (r.owner == o) := by rw [str_eq]; rfl
    cases ho : r.owner == o
    · rw [ho] at hBB
      go_enter Tryz.func58, Tryz.ntmps58
      go_wp2
      go_ret
      exact ⟨ret_bool (by rw [unhide hfin, ho]; rfl), Below.refl _ _⟩
    rw [ho] at hBB
    cases ht : r.type == 6
    · go_enter Tryz.func58, Tryz.ntmps58
      go_wp2
      go_ret
      exact ⟨ret_bool (by rw [unhide hfin, ho, ht]; rfl), Below.refl _ _⟩
    by_cases hc1 : cap = 1
    · subst hc1
      obtain rfl : t = [] := List.eq_nil_of_length_eq_zero (by omega)
      go_enter Tryz.func58, Tryz.ntmps58
      go_wp2_with fail
      refine (has_some 6 b off 0 [] w (unhide HE) (by simp)).mono ?_
      rintro e w' ⟨rfl, hb'⟩
      go_wp2_with fail
      go_ret
      exact ⟨ret_bool (by rw [unhide hfin, ho, ht]; rfl), hb'⟩
    · have hcap2 : 2 ≤ cap := by omega
      go_enter Tryz.func58, Tryz.ntmps58
      go_wp2_with fail
      refine (has_some 6 b (off + 4) _ t w (unhide HD) (by omega)).mono ?_
      rintro e w' ⟨rfl, hb'⟩
      go_wp2_with fail
      go_ret
      exact ⟨ret_bool (by rw [unhide hfin, ho, ht]; rfl), hb'⟩
end Rf
end Go.Proofs.YtkkpahmoljiepaaGreatDoor

/- '==' on records; slices.Contains at records; zone.isRightSet. -/
namespace Go.Proofs.YtkkpahmoljiepaaGreatDoor
open Go.RowKit
open Pu (Str hide unhide)
namespace Rg
open Ka Kb Kd Ke Kf Rc Rd Re Rf

theorem B_inj {a b : Str} : ((B a).toList == (B b).toList) = (a == b) := by rw [str_eq]; rfl

theorem eqR : EqlAt Tryz.prog 47 (fun x : Rec => .agg (Rec.enc x).toArray) (fun x y => x == y) := by
  refine ⟨fun x y w => ?_, GuardAt.agg _ (by kernel_rfl)⟩
  have u3 := Tryz.underlying3
  have a3 := Tryz.isAgg3
  have z3 := Tryz.sizeOf3
  have u9 := Tryz.underlying9
  have a9 := Tryz.isAgg9
  have z9 := Tryz.sizeOf9
  have hS : Tryz.prog.underlying 47 = some (.struct (Tryz.prog.fieldsOf 47)) := by kernel_rfl
  have hp : Tryz.prog.stoodInHeld 47 = false := by kernel_rfl
  simp only [Rec.enc]
  rw [run_eql_struct, show (10000 : Nat) = 9999 + 1 from rfl, run_equalIn_agg w 9999 47 _ _ hS hp]
  simp only [Program.fieldsOf, Tryz.underlying47]
  obtain ⟨x0, x1, x2, x3⟩ := x
  obtain ⟨y0, y1, y2, y3⟩ := y
  simp only [Rec.owner, Rec.ttl, Rec.type, Rec.data]
  have e1 : ∀ a : Str, (B a).toList = a := fun a => by rw [ByteArray.toList_eq]; rfl
  have e2 : ((x1 : Int) = (y1 : Int)) = (x1 = y1) := by apply propext; omega
  go_simp
  by_cases h0 : x0 = y0 <;> by_cases h1 : x1 = y1 <;> by_cases h2 : x2 = y2 <;> by_cases h3 : x3 = y3 <;> simp [e1, e2, h0, h1, h2, h3]

theorem contains_some (x : Rec) (b off cap : Nat) (rs : List Rec) (w : World) (hr : RecsAt w b off rs) (hl : rs.length ≤ 3001) :
    Calls Tryz.prog 178 #[.slice (some ⟨b, off, none⟩) rs.length cap, .agg #[.string (B x.owner), .int .i64 x.ttl, .int .i64 x.type, .string (B x.data)]] w fun e w' =>
      e = .returned (.bool (rs.any (x == ·))) ∧ Below w.heap.size w w' := by
  have := AnyQ.slices_Contains Tryz.lContains 4 Tryz.isAgg47 Tryz.sizeOf47 Rec.enc (fun _ => rfl) (fun x y => x == y) eqR b off rs.length cap rs x w (Nat.le_refl _) (by omega) hr.2
  rw [List.take_length] at this
  exact this

theorem below_drewN {B : Nat} {a w : World} (h : Below B a w) (n : Nat) : Below B a (w.drewN n) := ⟨h.os, h.tape, h.output, h.size, h.block⟩
theorem below_drew {B : Nat} {a w : World} (h : Below B a w) : Below B a w.drew := h.drew

/-- an RRset has one TTL and no record twice. -/
def setOk (t0 : Nat) : List Rec → List Rec → Bool
  | _, [] => true
  | pre, r :: t => r.ttl == t0 && !pre.any (r == ·) && setOk t0 (pre ++ [r]) t
def rightSet (rs : List Rec) : Bool :=
  match rs with
  | [] => true
  | r :: _ => setOk r.ttl [] rs

set_option maxHeartbeats 1600000 in
theorem isRightSet_any (r0 : Rec) (t : List Rec) (b off cap : Nat) (w : World) (hr : RecsAt w b off (r0 :: t)) (hl : (r0 :: t).length ≤ 3001) (hcap : (r0 :: t).length ≤ cap) :
    Calls Tryz.prog 108 #[.slice (some ⟨b, off, none⟩) (r0 :: t).length cap] w fun e w' => e = .returned (.bool (rightSet (r0 :: t))) ∧ Below w.heap.size w w' := by
  have hfin : Hid (rightSet (r0 :: t) = setOk r0.ttl [] (r0 :: t)) := rfl
  obtain ⟨q0, q1, q2, q3⟩ := hr.four 0 (by simp)
  clear q2 q3
  simp only [Nat.zero_mul, Nat.add_zero, List.getElem_cons_zero] at q0 q1
  have hrl : 0 < (r0 :: t).length := by simp
  generalize htl : r0.ttl = t0 at *
  generalize r0 :: t = rs at *
  have HA := hide hr
  have hb := hr.1
  clear hr htl
  go_enter Tryz.func108, Tryz.ntmps108
  go_wp2_with fail
  go_loopw [7] (fun i wr => ∃ k : Nat, k ≤ rs.length ∧ i = .int .i64 k ∧ setOk t0 (rs.take k) (rs.drop k) = setOk t0 [] rs ∧ Below w.heap.size w wr) (fun i _ => rs.length - (intOf i).toNat)
  case atStart => exact ⟨0, Nat.zero_le _, rfl, by simp, Below.refl _ _⟩
  case round =>
    obtain ⟨k, hk, rfl, hok, hbr⟩ := hrel
    have H := hide hok
    clear hok
    have hA := (unhide HA).below hbr
    have c1 : wr.cell? ⟨b, off + 1, none⟩ = some (.int .i64 t0) := (hbr.cell (p := ⟨b, off + 1, none⟩) hb).trans q1
    have hsz := hbr.size
    have hbw : b < wr.heap.size := by omega
    have hbne : ¬ b = wr.heap.size := by omega
    have hrl' : (0 : Int) < (rs.length : Int) := by omega
    by_cases hlt : k < rs.length
    · obtain ⟨k0, k1, k2, k3⟩ := hA.four k hlt
      have hltI : (k : Int) < (rs.length : Int) := by omega
      have hdr : Hid (rs.drop k = rs[k] :: rs.drop (k + 1)) := List.drop_eq_getElem_cons hlt
      have htk : Hid (rs.take (k + 1) = rs.take k ++ [rs[k]]) := List.take_succ_eq_append_getElem hlt
      have htake := hA.take k
      have HT := hide htake
      have hlk : (rs.take k).length = k := by rw [List.length_take]; omega
      have HL := hide hlk
      clear htake hlk hA
      generalize rs[k] = x at *
      have hcallC : ∀ W, Below wr.heap.size wr W → ∀ c, Calls Tryz.prog 178 #[.slice (some ⟨b, off, none⟩) k c, .agg #[.string (B x.owner), .int .i64 x.ttl, .int .i64 x.type, .string (B x.data)]] W fun e w' => e = .returned (.bool ((rs.take k).any (x == ·))) ∧ Below W.heap.size W w' := by
        intro W hW c
        have := contains_some x b off c (rs.take k) W ((unhide HT).below hW) (by rw [unhide HL]; omega)
        rw [unhide HL] at this
        exact this
      have HCC := hide hcallC
      clear hcallC
      by_cases htt : x.ttl = t0
      · subst htt
        have htt' : ((x.ttl : Int) != (x.ttl : Int)) = false := by simp
        cases hany : (rs.take k).any (x == ·)
        · have hstep : Hid (setOk x.ttl (rs.take (k + 1)) (rs.drop (k + 1)) = setOk x.ttl [] rs) := by
            rw [Hid, ← unhide H, unhide hdr, setOk, hany, unhide htk]; simp
          go_wp2_with fail
          go_region_with (go_at_call 178; refine ((unhide HCC) _ (by exact below_drew ((Below.refl _ _).alloc (Nat.le_refl _) _)) _).mono ?_; rintro e w2 ⟨rfl, hb2⟩)
          all_goals
            have hB2 : Below w.heap.size w w2 := (below_drew (hbr.alloc hsz _)).trans (hb2.mono (by simp; omega))
            have HB2 := hide hB2
            clear hB2 hb2
            go_wp2_with fail
            go_roundw
            case rel => exact ⟨k + 1, by omega, by go_num, unhide hstep, unhide HB2⟩
            case measure => simp [intOf]; omega
        · have hfin2 : Hid (rightSet rs = false) := by
            rw [Hid, unhide hfin, ← unhide H, unhide hdr, setOk, hany]; simp
          go_wp2_with fail
          go_region_with (go_at_call 178; refine ((unhide HCC) _ (by exact below_drew ((Below.refl _ _).alloc (Nat.le_refl _) _)) _).mono ?_; rintro e w2 ⟨rfl, hb2⟩)
          all_goals
            have hB2 : Below w.heap.size w w2 := (below_drew (hbr.alloc hsz _)).trans (hb2.mono (by simp; omega))
            have HB2 := hide hB2
            clear hB2 hb2
            go_wp2_with fail
            go_ret
            exact ⟨ret_bool (unhide hfin2).symm, unhide HB2⟩
      · have htt' : ((x.ttl : Int) != (t0 : Int)) = true := by rw [bne_iff_ne]; omega
        have hfin2 : Hid (rightSet rs = false) := by
          have hb0 : (x.ttl == t0) = false := beq_eq_false_iff_ne.2 htt
          rw [Hid, unhide hfin, ← unhide H, unhide hdr, setOk, hb0]; rfl
        clear htt
        go_wp2_with fail
        go_quiet (fail)
        go_wp2_with fail
        go_ret
        exact ⟨ret_bool (unhide hfin2).symm, below_drewN (hbr.alloc hsz _) _⟩
    · have hfin2 : Hid (rightSet rs = true) := by
        rw [Hid, unhide hfin, ← unhide H, List.drop_of_length_le (by omega)]; rfl
      go_wp2
      go_ret
      exact ⟨ret_bool (unhide hfin2).symm, hbr⟩
end Rg
end Go.Proofs.YtkkpahmoljiepaaGreatDoor

/- Contracts: the two comparisons of records; records.runs and what it gives. -/
namespace Go.Proofs.YtkkpahmoljiepaaGreatDoor
open Go.RowKit
open Pu (Str hide unhide)

def sameSet (r s : Rec) : Bool := r.owner == s.owner && r.type == s.type
def sameOwner (r s : Rec) : Bool := r.owner == s.owner

/-- the runs of a list, each with the place where it begins. -/
def runsP (same : Rec → Rec → Bool) : Nat → Nat → List Rec → List (Nat × List Rec)
  | 0, _, _ => []
  | _ + 1, _, [] => []
  | f + 1, k, r :: t => (k, r :: t.takeWhile (same r)) :: runsP same f (k + 1 + (t.takeWhile (same r)).length) (t.dropWhile (same r))
def runs (same : Rec → Rec → Bool) (rs : List Rec) : List (Nat × List Rec) := runsP same rs.length 0 rs

namespace Ia
open Ka Kd Rg

set_option maxHeartbeats 400000 in
theorem sameSet_any (r s : Rec) (w : World) :
    Calls Tryz.prog 177 #[.agg #[.string (B r.owner), .int .i64 r.ttl, .int .i64 r.type, .string (B r.data)], .agg #[.string (B s.owner), .int .i64 s.ttl, .int .i64 s.type, .string (B s.data)]] w fun e w' =>
      e = .returned (.bool (sameSet r s)) ∧ ∃ q os', w' = Sort.grow (w.drewN q) os' := by
  have hBB : ((B r.owner).toList == (B s.owner).toList) = (r.owner == s.owner) := B_inj
  cases ho : r.owner == s.owner
  · have hfin : Hid (sameSet r s = false) := by unfold sameSet; rw [ho]; rfl
    rw [ho] at hBB
    go_enter Tryz.func177, Tryz.ntmps177
    go_wp2
    go_ret
    exact ⟨ret_bool (unhide hfin).symm, 0, _, by rw [Sort.alloc_eq_grow, Sort.alloc_eq_grow, Sort.grow_grow]; rfl⟩
  · have hfin : Hid (sameSet r s = (r.type == s.type)) := by unfold sameSet; rw [ho]; rfl
    rw [ho] at hBB
    go_enter Tryz.func177, Tryz.ntmps177
    go_wp2
    go_ret
    exact ⟨ret_bool (unhide hfin).symm, 0, _, by rw [Sort.alloc_eq_grow, Sort.alloc_eq_grow, Sort.grow_grow]; rfl⟩

set_option maxHeartbeats 400000 in
theorem sameOwner_any (r s : Rec) (w : World) :
    Calls Tryz.prog 180 #[.agg #[.string (B r.owner), .int .i64 r.ttl, .int .i64 r.type, .string (B r.data)], .agg #[.string (B s.owner), .int .i64 s.ttl, .int .i64 s.type, .string (B s.data)]] w fun e w' =>
      e = .returned (.bool (sameOwner r s)) ∧ ∃ q os', w' = Sort.grow (w.drewN q) os' := by
  have hBB : ((B r.owner).toList == (B s.owner).toList) = (r.owner == s.owner) := B_inj
  go_enter Tryz.func180, Tryz.ntmps180
  go_wp2
  go_ret
  exact ⟨rfl, 0, _, by rw [Sort.alloc_eq_grow, Sort.alloc_eq_grow, Sort.grow_grow]; rfl⟩

theorem runsP_fuel (same : Rec → Rec → Bool) : ∀ (f k : Nat) (l : List Rec), l.length ≤ f → runsP same f k l = runsP same l.length k l
  | 0, k, l, h => by
    obtain rfl : l = [] := List.eq_nil_of_length_eq_zero (by omega)
    rfl
  | f + 1, k, [], h => rfl
  | f + 1, k, r :: t, h => by
    have hd : (t.dropWhile (same r)).length ≤ t.length := by
      have := congrArg List.length (List.takeWhile_append_dropWhile (p := same r) (l := t))
      rw [List.length_append] at this; omega
    rw [runsP, List.length_cons, runsP, runsP_fuel same f _ _ (by simp at h; omega), runsP_fuel same t.length _ _ hd]

theorem runsP_cons (same : Rec → Rec → Bool) (k : Nat) (r : Rec) (t : List Rec) :
    runsP same (r :: t).length k (r :: t) = (k, r :: t.takeWhile (same r)) :: runsP same (t.dropWhile (same r)).length (k + 1 + (t.takeWhile (same r)).length) (t.dropWhile (same r)) := by
  have hd : (t.dropWhile (same r)).length ≤ t.length := by
    have := congrArg List.length (List.takeWhile_append_dropWhile (p := same r) (l := t))
    rw [List.length_append] at this; omega
  rw [List.length_cons, runsP, runsP_fuel same t.length _ _ hd]

theorem takeWhile_get {p : Rec → Bool} : ∀ (l : List Rec) (j : Nat) (h : j < (l.takeWhile p).length), ∃ h' : j < l.length, p l[j] = true
  | [], j, h => by simp at h
  | x :: l, j, h => by
    by_cases hp : p x = true
    · rw [List.takeWhile_cons_of_pos hp] at h
      cases j with
      | zero => exact ⟨by simp, hp⟩
      | succ j =>
        obtain ⟨h', e⟩ := takeWhile_get l j (by simpa using h)
        exact ⟨by simpa using h', by simpa using e⟩
    · rw [List.takeWhile_cons_of_neg hp] at h; simp at h

theorem takeWhile_end {p : Rec → Bool} : ∀ (l : List Rec) (h : (l.takeWhile p).length < l.length), p l[(l.takeWhile p).length] = false
  | [], h => by simp at h
  | x :: l, h => by
    by_cases hp : p x = true
    · have e : ((x :: l).takeWhile p).length = (l.takeWhile p).length + 1 := by rw [List.takeWhile_cons_of_pos hp]; rfl
      have := takeWhile_end l (by rw [e] at h; simpa using h)
      simpa [e] using this
    · have e : ((x :: l).takeWhile p).length = 0 := by rw [List.takeWhile_cons_of_neg hp]; rfl
      simpa [e] using hp

theorem below_grow (w : World) (n : Nat) (os : Array Obj) : Below w.heap.size w (Sort.grow (w.drewN n) os) :=
  ⟨rfl, rfl, rfl, by simp [Sort.grow, World.drewN], fun k hk => by
    show (w.heap ++ os)[k]? = w.heap[k]?
    rw [Array.getElem?_append_left hk]⟩

theorem RecsAt.kept {w w' : World} {b off : Nat} {rs : List Rec} (h : RecsAt w b off rs) (hs : w.heap.size ≤ w'.heap.size) (hb : w'.heap[b]? = w.heap[b]?) : RecsAt w' b off rs :=
  ⟨Nat.lt_of_lt_of_le h.1 hs, fun j hj i u hu => (World.cell?_of_block hb).trans (h.2 j hj i u hu)⟩

theorem RecsAt.low {w w' : World} {b off nb : Nat} {rs : List Rec} (h : RecsAt w b off rs) (hb : Below nb w w') (hlt : b < nb) : RecsAt w' b off rs :=
  ⟨Nat.lt_of_lt_of_le h.1 hb.size, fun j hj i u hu => (hb.cell (p := ⟨b, off + j * 4 + i, none⟩) hlt).trans (h.2 j hj i u hu)⟩

set_option maxHeartbeats 400000 in
theorem runs_any (a : Option Addr) (n c gs : Nat) (w : World) :
    Calls Tryz.prog 176 #[.slice a n c, .func (.func gs) #[] #[]] w fun e w' => e = .returned (.func (.func 233) #[] #[.pointer (some ⟨w.heap.size, 0, none⟩), .pointer (some ⟨w.heap.size + 1, 0, none⟩)]) ∧ w' = (w.alloc (.cells #[.slice a n c] 41)).alloc (.cells #[.func (.func gs) #[] #[]] 261) := by
  go_enter Tryz.func176, Tryz.ntmps176
  go_wp2
  go_ret
  exact ⟨rfl, rfl⟩
end Ia
end Go.Proofs.YtkkpahmoljiepaaGreatDoor
