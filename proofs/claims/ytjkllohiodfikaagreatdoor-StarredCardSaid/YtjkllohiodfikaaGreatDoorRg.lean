/- '==' on records; slices.Contains at records; zone.isRightSet. -/
import Derived.Test.YtjkllohiodfikaaGreatDoorRf
import Derived.Deep.RegionWith
import Derived.Deep.QuietTactic
import Derived.BigQuiet
set_option linter.unusedSimpArgs false
set_option linter.unusedVariables false
namespace Go.Proofs.YtjkllohiodfikaaGreatDoor
open Go.RowKit
open Pu (Str hide unhide)
namespace Rg
open Ka Kb Kd Ke Kf Rc Rd Re Rf

theorem B_inj {a b : Str} : ((B a).toList == (B b).toList) = (a == b) := by rw [str_eq]; rfl

theorem eqR : EqlAt Tryz.prog 47 (fun x : Rec => .agg (Rec.enc x).toArray) (fun x y => x == y) := by
  refine ⟨fun x y w => ?_, GuardAt.agg _ (by kernel_rfl)⟩
  have u3 := Tryz.underlying3
  have a3 := Tryz.isAgg3
  have z3 := Tryz.sizeOf3
  have u9 := Tryz.underlying9
  have a9 := Tryz.isAgg9
  have z9 := Tryz.sizeOf9
  have hS : Tryz.prog.underlying 47 = some (.struct (Tryz.prog.fieldsOf 47)) := by kernel_rfl
  have hp : Tryz.prog.stoodInHeld 47 = false := by kernel_rfl
  simp only [Rec.enc]
  rw [run_eql_struct, show (10000 : Nat) = 9999 + 1 from rfl, run_equalIn_agg w 9999 47 _ _ hS hp]
  simp only [Program.fieldsOf, Tryz.underlying47]
  obtain ⟨x0, x1, x2, x3⟩ := x
  obtain ⟨y0, y1, y2, y3⟩ := y
  simp only [Rec.owner, Rec.ttl, Rec.type, Rec.data]
  have e1 : ∀ a : Str, (B a).toList = a := fun a => by rw [ByteArray.toList_eq]; rfl
  have e2 : ((x1 : Int) = (y1 : Int)) = (x1 = y1) := by apply propext; omega
  go_simp
  by_cases h0 : x0 = y0 <;> by_cases h1 : x1 = y1 <;> by_cases h2 : x2 = y2 <;> by_cases h3 : x3 = y3 <;> simp [e1, e2, h0, h1, h2, h3]

theorem contains_some (x : Rec) (b off cap : Nat) (rs : List Rec) (w : World) (hr : RecsAt w b off rs) (hl : rs.length ≤ 3001) :
    Calls Tryz.prog 138 #[.slice (some ⟨b, off, none⟩) rs.length cap, .agg #[.string (B x.owner), .int .i64 x.ttl, .int .i64 x.type, .string (B x.data)]] w fun e w' =>
      e = .returned (.bool (rs.any (x == ·))) ∧ Below w.heap.size w w' := by
  have := AnyQ.slices_Contains Tryz.lContains 4 Tryz.isAgg47 Tryz.sizeOf47 Rec.enc (fun _ => rfl) (fun x y => x == y) eqR b off rs.length cap rs x w (Nat.le_refl _) (by omega) hr.2
  rw [List.take_length] at this
  exact this

theorem below_drewN {B : Nat} {a w : World} (h : Below B a w) (n : Nat) : Below B a (w.drewN n) := ⟨h.os, h.tape, h.output, h.size, h.block⟩
theorem below_drew {B : Nat} {a w : World} (h : Below B a w) : Below B a w.drew := h.drew

/-- an RRset has one TTL and no record twice. -/
def setOk (t0 : Nat) : List Rec → List Rec → Bool
  | _, [] => true
  | pre, r :: t => r.ttl == t0 && !pre.any (r == ·) && setOk t0 (pre ++ [r]) t
def rightSet (rs : List Rec) : Bool :=
  match rs with
  | [] => true
  | r :: _ => setOk r.ttl [] rs

set_option maxHeartbeats 1600000 in
theorem isRightSet_any (r0 : Rec) (t : List Rec) (b off cap : Nat) (w : World) (hr : RecsAt w b off (r0 :: t)) (hl : (r0 :: t).length ≤ 3001) (hcap : (r0 :: t).length ≤ cap) :
    Calls Tryz.prog 81 #[.slice (some ⟨b, off, none⟩) (r0 :: t).length cap] w fun e w' => e = .returned (.bool (rightSet (r0 :: t))) ∧ Below w.heap.size w w' := by
  have hfin : Hid (rightSet (r0 :: t) = setOk r0.ttl [] (r0 :: t)) := rfl
  obtain ⟨q0, q1, q2, q3⟩ := hr.four 0 (by simp)
  clear q2 q3
  simp only [Nat.zero_mul, Nat.add_zero, List.getElem_cons_zero] at q0 q1
  have hrl : 0 < (r0 :: t).length := by simp
  generalize htl : r0.ttl = t0 at *
  generalize r0 :: t = rs at *
  have HA := hide hr
  have hb := hr.1
  clear hr htl
  go_enter Tryz.func81, Tryz.ntmps81
  go_wp2_with fail
  go_loopw [7] (fun i wr => ∃ k : Nat, k ≤ rs.length ∧ i = .int .i64 k ∧ setOk t0 (rs.take k) (rs.drop k) = setOk t0 [] rs ∧ Below w.heap.size w wr) (fun i _ => rs.length - (intOf i).toNat)
  case atStart => exact ⟨0, Nat.zero_le _, rfl, by simp, Below.refl _ _⟩
  case round =>
    obtain ⟨k, hk, rfl, hok, hbr⟩ := hrel
    have H := hide hok
    clear hok
    have hA := (unhide HA).below hbr
    have c1 : wr.cell? ⟨b, off + 1, none⟩ = some (.int .i64 t0) := (hbr.cell (p := ⟨b, off + 1, none⟩) hb).trans q1
    have hsz := hbr.size
    have hbw : b < wr.heap.size := by omega
    have hbne : ¬ b = wr.heap.size := by omega
    have hrl' : (0 : Int) < (rs.length : Int) := by omega
    by_cases hlt : k < rs.length
    · obtain ⟨k0, k1, k2, k3⟩ := hA.four k hlt
      have hltI : (k : Int) < (rs.length : Int) := by omega
      have hdr : Hid (rs.drop k = rs[k] :: rs.drop (k + 1)) := List.drop_eq_getElem_cons hlt
      have htk : Hid (rs.take (k + 1) = rs.take k ++ [rs[k]]) := List.take_succ_eq_append_getElem hlt
      have htake := hA.take k
      have HT := hide htake
      have hlk : (rs.take k).length = k := by rw [List.length_take]; omega
      have HL := hide hlk
      clear htake hlk hA
      generalize rs[k] = x at *
      have hcallC : ∀ W, Below wr.heap.size wr W → ∀ c, Calls Tryz.prog 138 #[.slice (some ⟨b, off, none⟩) k c, .agg #[.string (B x.owner), .int .i64 x.ttl, .int .i64 x.type, .string (B x.data)]] W fun e w' => e = .returned (.bool ((rs.take k).any (x == ·))) ∧ Below W.heap.size W w' := by
        intro W hW c
        have := contains_some x b off c (rs.take k) W ((unhide HT).below hW) (by rw [unhide HL]; omega)
        rw [unhide HL] at this
        exact this
      have HCC := hide hcallC
      clear hcallC
      by_cases htt : x.ttl = t0
      · subst htt
        have htt' : ((x.ttl : Int) != (x.ttl : Int)) = false := by simp
        cases hany : (rs.take k).any (x == ·)
        · have hstep : Hid (setOk x.ttl (rs.take (k + 1)) (rs.drop (k + 1)) = setOk x.ttl [] rs) := by
            rw [Hid, ← unhide H, unhide hdr, setOk, hany, unhide htk]; simp
          go_wp2_with fail
          go_region_with (go_at_call 138; refine ((unhide HCC) _ (by exact below_drew ((Below.refl _ _).alloc (Nat.le_refl _) _)) _).mono ?_; rintro e w2 ⟨rfl, hb2⟩)
          all_goals
            have hB2 : Below w.heap.size w w2 := (below_drew (hbr.alloc hsz _)).trans (hb2.mono (by simp; omega))
            have HB2 := hide hB2
            clear hB2 hb2
            go_wp2_with fail
            go_roundw
            case rel => exact ⟨k + 1, by omega, by go_num, unhide hstep, unhide HB2⟩
            case measure => simp [intOf]; omega
        · have hfin2 : Hid (rightSet rs = false) := by
            rw [Hid, unhide hfin, ← unhide H, unhide hdr, setOk, hany]; simp
          go_wp2_with fail
          go_region_with (go_at_call 138; refine ((unhide HCC) _ (by exact below_drew ((Below.refl _ _).alloc (Nat.le_refl _) _)) _).mono ?_; rintro e w2 ⟨rfl, hb2⟩)
          all_goals
            have hB2 : Below w.heap.size w w2 := (below_drew (hbr.alloc hsz _)).trans (hb2.mono (by simp; omega))
            have HB2 := hide hB2
            clear hB2 hb2
            go_wp2_with fail
            go_ret
            exact ⟨ret_bool (unhide hfin2).symm, unhide HB2⟩
      · have htt' : ((x.ttl : Int) != (t0 : Int)) = true := by rw [bne_iff_ne]; omega
        have hfin2 : Hid (rightSet rs = false) := by
          have hb0 : (x.ttl == t0) = false := beq_eq_false_iff_ne.2 htt
          rw [Hid, unhide hfin, ← unhide H, unhide hdr, setOk, hb0]; rfl
        clear htt
        go_wp2_with fail
        go_quiet (fail)
        go_wp2_with fail
        go_ret
        exact ⟨ret_bool (unhide hfin2).symm, below_drewN (hbr.alloc hsz _) _⟩
    · have hfin2 : Hid (rightSet rs = true) := by
        rw [Hid, unhide hfin, ← unhide H, List.drop_of_length_le (by omega)]; rfl
      go_wp2
      go_ret
      exact ⟨ret_bool (unhide hfin2).symm, hbr⟩
end Rg
end Go.Proofs.YtjkllohiodfikaaGreatDoor
