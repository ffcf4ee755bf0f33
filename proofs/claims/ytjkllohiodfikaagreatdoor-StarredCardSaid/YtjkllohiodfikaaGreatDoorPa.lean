/- Contract: zone.Parse, of texts whose zone has fewer than twenty records. -/
import Derived.Test.YtjkllohiodfikaaGreatDoorZg
import Derived.Test.YtjkllohiodfikaaGreatDoorSb
set_option linter.unusedSimpArgs false
set_option linter.unusedVariables false
namespace Go.Proofs.YtjkllohiodfikaaGreatDoor
open Go.RowKit
open Pu (Str hide unhide)

/-- a right zone's origin and its records in their order; none: it is none. -/
def parseP (t : Str) : Option (Str × List Rec) :=
  (readZ t).bind fun x => if Rf.startsR x.1 x.2 && rightP x.1 (sortL x.2) then some (x.1, sortL x.2) else none

/-- what Parse hands back. -/
def parseR (o : Option (Str × List Rec)) (base : Nat) (e : Ending) (w' : World) : Prop :=
  match o with
  | none => e = .returned (.tuple #[.pointer none, .int .i64 1])
  | some (o, rs) => ∃ zb g cap, e = .returned (.tuple #[.pointer (some ⟨zb, 0, none⟩), .int .i64 0]) ∧ base ≤ zb ∧ base ≤ g ∧ TableAt w' zb o g 0 cap rs

namespace Pa
open Ka Kd Rf Rg Ia Iow Ie Zb Zc Za Ze Zg Re Sb

set_option maxHeartbeats 400000 in
theorem clone_any (s : ByteArray) (w : World) (hs : s.size ≤ 281474976710656) :
    Calls Tryz.prog 38 #[.string s] w fun e w' => e = .returned (.string s) ∧ Below w.heap.size w w' := by
  go_enter Tryz.func38, Tryz.ntmps38
  go_wp2_with fail
  refine (Tryz.stringslite_Clone s w hs).mono ?_
  rintro e w1 ⟨rfl, hb⟩
  go_wp2_with fail
  go_ret
  exact ⟨rfl, hb⟩

set_option maxHeartbeats 400000 in
theorem new_any (o : Str) (b off n cap : Nat) (w : World) :
    Calls Tryz.prog 42 #[.string (B o), .slice (some ⟨b, off, none⟩) n cap] w fun e w' => e = .returned (.pointer (some ⟨w.heap.size, 0, none⟩)) ∧ Below w.heap.size w w' ∧ w.heap.size < w'.heap.size ∧
      w'.cell? ⟨w.heap.size, 0, none⟩ = some (.string (B o)) ∧ w'.cell? ⟨w.heap.size, 1, none⟩ = some (.slice (some ⟨b, off, none⟩) n cap) := by
  go_enter Tryz.func42, Tryz.ntmps42
  go_wp2_with fail
  go_ret
  exact ⟨rfl, (Below.refl _ _).alloc (Nat.le_refl _) _, by simp, by go_simp, by go_simp⟩

theorem own_some {w : World} {base : Nat} {v : Value} {rs : List Rec} (h : RecsOwn w base v rs) (hne : rs ≠ []) :
    ∃ g cap cur, v = .slice (some ⟨g, 0, none⟩) rs.length cap ∧ base ≤ g ∧ w.heap[g]? = some (.cells cur 47) ∧ rs.length ≤ cap ∧ RecsAt w g 0 rs := by
  have hrv := h.rv
  obtain ⟨⟨hlen, hv⟩, hnil⟩ := h
  rcases hv with ⟨rfl, h0⟩ | ⟨g, cap, cur, rfl, hb, hcur, hc, hm, hsz, htk⟩
  · exact absurd (hnil.1 rfl) hne
  · refine ⟨g, cap, cur, rfl, hb, hcur, hc, ?_⟩
    rcases hrv with ⟨e, _⟩ | ⟨b', off', cap', e, _, hr⟩
    · cases e
    · cases e; exact hr

set_option maxHeartbeats 1600000 in
theorem parse_any (s : ByteArray) (w : World) (hg : G w) (hs : s.size ≤ 3000) (hfit : ∀ o rs, readZ s.data.toList = some (o, rs) → rs.length < 20 ∧ Fit o rs) :
    Calls Tryz.prog 12 #[.string s] w fun e w' => parseR (parseP s.data.toList) w.heap.size e w' ∧ Below w.heap.size w w' := by
  have HC := hide (clone_any s w (by omega))
  have hsI : ¬ (3000 : Int) < (s.size : Int) := by omega
  have HRZ := hide (fun w1 (h : Below w.heap.size w w1) => readZone_any s w1 (hg.below h) hs)
  clear hg
  cases hz : readZ s.data.toList with
  | none =>
    have hfin : Hid (parseP s.data.toList = none) := by unfold parseP; rw [Hid, hz]; rfl
    go_enter Tryz.func12, Tryz.ntmps12
    go_wp2_with fail
    refine (unhide HC).mono ?_
    rintro e w1 ⟨rfl, hb1⟩
    go_wp2_with fail
    refine (unhide HRZ w1 hb1).mono ?_
    rintro e w2 ⟨hr2, hb2⟩
    rw [hz] at hr2
    obtain rfl : e = .returned noneV := hr2
    unfold noneV
    go_wp2_with fail
    go_ret2
    rw [unhide hfin]
    exact ⟨rfl, hb1.trans (hb2.mono hb1.size)⟩
  | some x =>
    obtain ⟨o, rs⟩ := x
    obtain ⟨h20, hlen, hol, hrl⟩ := hfit o rs hz
    have HRL := hide hrl
    clear hfit hrl
    have hP : Hid (parseP s.data.toList = if startsR o rs && rightP o (sortL rs) then some (o, sortL rs) else none) := by unfold parseP; rw [Hid, hz]; rfl
    cases hst : startsR o rs
    · have hfin : Hid (parseP s.data.toList = none) := by rw [Hid, unhide hP, hst]; rfl
      go_enter Tryz.func12, Tryz.ntmps12
      go_wp2_with fail
      refine (unhide HC).mono ?_
      rintro e w1 ⟨rfl, hb1⟩
      go_wp2_with fail
      refine (unhide HRZ w1 hb1).mono ?_
      rintro e w2 ⟨hr2, hb2⟩
      rw [hz] at hr2
      obtain ⟨v, rfl, hown⟩ := hr2
      have HS := hide (startsRight_any o v rs w2 hown.rv (by omega))
      clear hown
      go_wp2_with fail
      refine (unhide HS).mono ?_
      rintro e w3 ⟨rfl, hb3⟩
      go_wp2_with fail
      go_ret2
      rw [unhide hfin]
      exact ⟨rfl, (hb1.trans (hb2.mono hb1.size)).trans (hb3.mono (Nat.le_trans hb1.size hb2.size))⟩
    · have hne : rs ≠ [] := by intro h; rw [h] at hst; cases hst
      have HSL : Hid (∀ r ∈ sortL rs, r.owner.length ≤ 3000 ∧ r.data.length ≤ 3000) := sortL_all (unhide HRL)
      have hsl := sortL_len rs
      cases hrt : rightP o (sortL rs)
      · have hfin : Hid (parseP s.data.toList = none) := by rw [Hid, unhide hP, hst, hrt]; rfl
        go_enter Tryz.func12, Tryz.ntmps12
        go_wp2_with fail
        refine (unhide HC).mono ?_
        rintro e w1 ⟨rfl, hb1⟩
        go_wp2_with fail
        refine (unhide HRZ w1 hb1).mono ?_
        rintro e w2 ⟨hr2, hb2⟩
        rw [hz] at hr2
        obtain ⟨v, rfl, hown⟩ := hr2
        have HS := hide (startsRight_any o v rs w2 hown.rv (by omega))
        obtain ⟨g, cap, cur, rfl, hg, hcur, hcap, hra⟩ := own_some hown hne
        have HCUR := hide hcur
        have HRA := hide hra
        clear hown hcur hra
        have hb12 := hb1.trans (hb2.mono hb1.size)
        go_wp2_with fail
        refine (unhide HS).mono ?_
        rintro e w3 ⟨rfl, hb3⟩
        have hb13 := hb12.trans (hb3.mono hb12.size)
        have hglt := (unhide HRA).1
        go_wp2_with fail
        refine (sort_any g cap rs w3 cur _ ((hb3.block g hglt).trans (unhide HCUR)) ((unhide HRA).below hb3) h20).mono ?_
        rintro e w4 ⟨rfl, hr4, hb4⟩
        have hb14 := hb4 w.heap.size w (Nat.le_trans hb1.size hg) hb13.size hb13
        have HI := hide (isRight_any g 0 cap o (sortL rs) w4 hr4 (by omega) (by omega) hol (fun r hr => (unhide HSL r hr).1))
        rw [hsl] at HI
        clear hr4 hb4
        go_wp2_with fail
        refine (unhide HI).mono ?_
        rintro e w5 ⟨rfl, hb5⟩
        go_wp2_with fail
        go_ret2
        rw [unhide hfin]
        exact ⟨rfl, hb14.trans (hb5.mono hb14.size)⟩
      · have hfin : Hid (parseP s.data.toList = some (o, sortL rs)) := by rw [Hid, unhide hP, hst, hrt]; rfl
        go_enter Tryz.func12, Tryz.ntmps12
        go_wp2_with fail
        refine (unhide HC).mono ?_
        rintro e w1 ⟨rfl, hb1⟩
        go_wp2_with fail
        refine (unhide HRZ w1 hb1).mono ?_
        rintro e w2 ⟨hr2, hb2⟩
        rw [hz] at hr2
        obtain ⟨v, rfl, hown⟩ := hr2
        have HS := hide (startsRight_any o v rs w2 hown.rv (by omega))
        obtain ⟨g, cap, cur, rfl, hg, hcur, hcap, hra⟩ := own_some hown hne
        have HCUR := hide hcur
        have HRA := hide hra
        clear hown hcur hra
        have hb12 := hb1.trans (hb2.mono hb1.size)
        go_wp2_with fail
        refine (unhide HS).mono ?_
        rintro e w3 ⟨rfl, hb3⟩
        have hb13 := hb12.trans (hb3.mono hb12.size)
        have hglt := (unhide HRA).1
        go_wp2_with fail
        refine (sort_any g cap rs w3 cur _ ((hb3.block g hglt).trans (unhide HCUR)) ((unhide HRA).below hb3) h20).mono ?_
        rintro e w4 ⟨rfl, hr4, hb4⟩
        have hb14 := hb4 w.heap.size w (Nat.le_trans hb1.size hg) hb13.size hb13
        have HI := hide (isRight_any g 0 cap o (sortL rs) w4 hr4 (by omega) (by omega) hol (fun r hr => (unhide HSL r hr).1))
        rw [hsl] at HI
        have HR4 := hide hr4
        clear hr4 hb4
        go_wp2_with fail
        refine (unhide HI).mono ?_
        rintro e w5 ⟨rfl, hb5⟩
        have hb15 := hb14.trans (hb5.mono hb14.size)
        have HR5 := hide ((unhide HR4).below hb5)
        go_wp2_with fail
        refine (new_any o g 0 rs.length cap w5).mono ?_
        rintro e w6 ⟨rfl, hb6, hlt6, c60, c61⟩
        have HT : Hid (TableAt w6 w5.heap.size o g 0 cap (sortL rs)) := ⟨hlt6, c60, by rw [hsl]; exact c61, by omega, (unhide HR5).below hb6⟩
        clear c60 c61
        go_wp2_with fail
        go_ret2
        rw [unhide hfin]
        exact ⟨⟨_, _, _, rfl, hb15.size, Nat.le_trans hb1.size hg, unhide HT⟩, hb15.trans (hb6.mono hb15.size)⟩
end Pa
end Go.Proofs.YtjkllohiodfikaaGreatDoor
