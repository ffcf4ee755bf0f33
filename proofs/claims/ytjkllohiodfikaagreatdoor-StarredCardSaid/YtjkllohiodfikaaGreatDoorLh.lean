/- Contracts: lookup.isAlias; (*search).step of a name whose records are no CNAME. -/
import Derived.Test.YtjkllohiodfikaaGreatDoorLg
set_option linter.unusedSimpArgs false
set_option linter.unusedVariables false
namespace Go.Proofs.YtjkllohiodfikaaGreatDoor
open Go.RowKit
open Pu (Str hide unhide)

/-- a name's records are a CNAME. -/
def aliasP (l : List Rec) : Bool := l.length == 1 && (l.headD Rec.zero).type == 5
def stepRc (o : Str) (rs : List Rec) (n : Str) : Int := if (cutP o rs n).length = 0 then (if (matchP rs n).2 then 0 else 3) else 0
def stepAns (o : Str) (rs : List Rec) (k : Int) (n : Str) : List Rec := if (cutP o rs n).length = 0 then (if (matchP rs n).2 then takeP k (matchP rs n).1 else []) else []
def stepAuth (o : Str) (rs : List Rec) (k : Int) (n : Str) : List Rec :=
  if (cutP o rs n).length = 0 then (if (matchP rs n).2 then (if takenP k (matchP rs n).1 then [] else denyP o rs) else denyP o rs) else cutP o rs n

namespace Lh
open Ka Kd Rf Rg Ia Iow Ie Zb Zc Za La Lb Re Lc Le Lf Lg

set_option maxHeartbeats 400000 in
theorem isAlias_any (v : Value) (l : List Rec) (w : World) (hv : RV w v l) (hl : l.length ≤ 3001) :
    Calls Tryz.prog 197 #[v] w fun e w' => e = .returned (.bool (aliasP l)) ∧ w' = w := by
  rcases hv with ⟨rfl, rfl⟩ | ⟨b, off, cap, rfl, hc, hr⟩
  · go_enter Tryz.func197, Tryz.ntmps197
    go_wp2
    go_ret
    exact ⟨rfl, rfl⟩
  · by_cases h1 : l.length = 1
    · obtain ⟨r, rfl⟩ := List.length_eq_one_iff.1 h1
      obtain ⟨c0, c1, c2, c3⟩ := hr.four 0 (by simp)
      simp only [Nat.zero_mul, Nat.add_zero, List.getElem_cons_zero] at c2
      have hfin : Hid (aliasP [r] = (r.type == 5)) := by unfold aliasP; rw [Hid]; simp
      clear hr c0 c1 c3 h1
      simp only [List.length_cons, List.length_nil] at hc ⊢
      go_enter Tryz.func197, Tryz.ntmps197
      go_wp2
      go_ret
      exact ⟨ret_bool (unhide hfin).symm, rfl⟩
    · have hfin : Hid (aliasP l = false) := by unfold aliasP; rw [Hid, beq_eq_false_iff_ne.2 h1]; rfl
      have h1I : ((l.length : Int) == 1) = false := by rw [beq_eq_false_iff_ne]; omega
      clear hr h1
      go_enter Tryz.func197, Tryz.ntmps197
      go_wp2
      go_ret
      exact ⟨ret_bool (unhide hfin).symm, rfl⟩

theorem cutP_len (o : Str) (rs : List Rec) (n : Str) : (cutP o rs n).length ≤ rs.length := by
  unfold cutP
  generalize (ends n).takeWhile (fun e => !(e == o)) = es
  have : ∀ (es : List Str) (acc : List Rec), acc.length ≤ rs.length → (es.foldl (cutStep rs) acc).length ≤ rs.length := by
    intro es
    induction es with
    | nil => intro acc h; exact h
    | cons e t ih =>
      intro acc h
      rw [List.foldl_cons]
      refine ih _ ?_
      unfold cutStep
      split
      · exact h
      · exact Nat.le_trans (setP_len _ _) (ofP_len _ _)
  exact this es [] (by simp)

set_option maxRecDepth 100000 in
set_option maxHeartbeats 1600000 in
theorem step_plain (sb zb cb b off cap : Nat) (k : Int) (au : Bool) (va vb vc : Value) (o n : Str) (rs ans : List Rec) (w : World) (hs : SearchAt w sb zb k 0 au va vb vc cb) (ho : OwnR w (sb + 1) va ans) (hvb : vb = .slice none 0 0)
    (hz : TableAt w zb o b off cap rs) (hg : G w) (hzs : zb < sb) (hbs : b < sb) (h0 : 0 < sb) (hfit : Fit o rs) (hn : n.length ≤ 2900) (ha : ans.length ≤ 90000)
    (hok : ∀ r ∈ setP (ofP rs o) 6, soaOk r ∧ r.data.length ≤ 3000 ∧ r.ttl ≤ 1000000000) (h5 : (k == 5) = false) (h255 : (k == 255) = false) (hal : aliasP (matchP rs n).1 = false) (hml : (matchP rs n).1.length ≤ 3001) :
    Calls Tryz.prog 154 #[.pointer (some ⟨sb, 0, none⟩), .string (B n)] w fun e w' => e = .returned (.tuple #[.string ⟨#[]⟩, .bool false]) ∧ (∃ va' vb', SearchAt w' sb zb k (stepRc o rs n) au va' vb' vc cb ∧ OwnR w' (sb + 1) va' (ans ++ stepAns o rs k n) ∧ OwnR w' (sb + 1) vb' (stepAuth o rs k n)) ∧ Below sb w w' := by
  subst hvb
  obtain ⟨hlen, hol, hrl⟩ := hfit
  have h5b : (k != 5) = true := by unfold bne; rw [h5]; rfl
  have h255b : (k != 255) = true := by unfold bne; rw [h255]; rfl
  clear h5 h255
  have hslt := hs.lt
  have hown := ho.own_lt
  obtain ⟨s0, s1, _⟩ := hs.cells
  have HS := hide hs
  have HO := hide ho
  have HZ := hide hz
  have HG := hide hg
  have HOK := hide hok
  have HC := hide (cutOver_any zb b off cap o n rs w hz hg hlen (by omega) hol)
  have HKS : Hid (∀ W, Below w.heap.size w W → SearchAt W sb zb k 0 au va (.slice none 0 0) vc cb) := fun W hb => hs.kept (hb.block sb hslt)
  have HOL := hide hown
  clear hs ho hz hg hok hown
  have hcl : (cutP o rs n).length ≤ 3001 := Nat.le_trans (cutP_len o rs n) hlen
  by_cases hc : (cutP o rs n).length = 0
  · have hcI : ¬ (0 : Int) < ((cutP o rs n).length : Int) := by omega
    have e1 : Hid (stepRc o rs n = if (matchP rs n).2 then 0 else 3) := by unfold stepRc; rw [Hid, if_pos hc]
    have e2 : Hid (stepAns o rs k n = if (matchP rs n).2 then takeP k (matchP rs n).1 else []) := by unfold stepAns; rw [Hid, if_pos hc]
    have e3 : Hid (stepAuth o rs k n = if (matchP rs n).2 then (if takenP k (matchP rs n).1 then [] else denyP o rs) else denyP o rs) := by unfold stepAuth; rw [Hid, if_pos hc]
    clear hc
    have HM := hide (fun W (hb : Below w.heap.size w W) => match_any zb b off cap o n rs W ((unhide HZ).below hb) ((unhide HG).below hb) hlen hn (fun r hr => (hrl r hr).1))
    cases hm : (matchP rs n).2
    · rw [hm] at e1 e2 e3
      go_enter Tryz.func154, Tryz.ntmps154
      go_wp2_with fail
      refine (unhide HC).mono ?_
      rintro e w1 ⟨⟨v1, rfl, hv1⟩, hb1⟩
      obtain ⟨a1, c1, rfl⟩ := hv1.slice
      clear hv1
      obtain ⟨t0, t1, _⟩ := (unhide HKS w1 hb1).cells
      go_wp2_with fail
      refine (unhide HM w1 hb1).mono ?_
      rintro e w2 ⟨⟨v2, rfl, hv2⟩, hb2⟩
      rw [hm]
      clear hv2
      have hb12 := hb1.trans (hb2.mono hb1.size)
      have hs2 := unhide HKS w2 hb12
      obtain ⟨u0, u1, u2, u3, u4, u5, u6, u7⟩ := hs2.cells
      have f2 := hs2.frozen 2
      have S3 := hide (hs2.set2 3)
      have hs3 := hs2.set2 3
      obtain ⟨y0, _⟩ := hs3.cells
      have hb3 : Below sb w (w2.setCell ⟨sb, 2, none⟩ (.int .i64 3)) := (hb12.mono (show sb ≤ w.heap.size by omega)).setCell (p := ⟨sb, 2, none⟩) (Nat.le_refl sb) _
      have hz3 : TableAt (w2.setCell ⟨sb, 2, none⟩ (.int .i64 3)) zb o b off cap rs := (unhide HZ).low hb3 hzs hbs
      have HD := hide (denial_any zb b off cap o rs _ hz3 hlen (unhide HOK))
      have HO3 := hide (((unhide HO).below hb12).set_low (k := sb) (i := 2) (by omega) (.int .i64 3))
      have hsz3 : (w2.setCell ⟨sb, 2, none⟩ (.int .i64 3)).heap.size = w2.heap.size := by simp [World.setCell]
      clear hs2 hs3 u0 u1 u3 u4 u6 u7
      go_wp2_with fail
      refine (unhide HD).mono ?_
      rintro e w4 ⟨v4, rfl, ho4, hb4⟩
      obtain ⟨a4, c4, rfl⟩ := ho4.slice
      have hs4 := (unhide S3).kept (hb4.block sb (by rw [hsz3]; exact Nat.lt_of_lt_of_le hslt hb12.size))
      obtain ⟨z0, z1, z2, z3, z4, z5, z6, z7⟩ := hs4.cells
      have g5 := hs4.frozen 5
      have S5 := hide (hs4.set5 (.slice a4 (denyP o rs).length c4))
      have HO5 := hide (((unhide HO3).below hb4).set_low (k := sb) (i := 5) (by omega) (.slice a4 (denyP o rs).length c4))
      have HA5 := hide (ho4.set_low (k := sb) (i := 5) (by rw [hsz3]; exact Nat.lt_of_lt_of_le hslt hb12.size) (.slice a4 (denyP o rs).length c4))
      have hb5 : Below sb w (w4.setCell ⟨sb, 5, none⟩ (.slice a4 (denyP o rs).length c4)) := (hb3.trans (hb4.mono (show sb ≤ _ by rw [hsz3]; have := hb12.size; omega))).setCell (p := ⟨sb, 5, none⟩) (Nat.le_refl sb) _
      clear hs4 ho4 z0 z1 z2 z3 z4 z6 z7
      go_wp2_with fail
      go_ret2
      refine ⟨rfl, ⟨va, .slice a4 (denyP o rs).length c4, ?_, ?_, ?_⟩, hb5⟩
      · rw [unhide e1]; exact unhide S5
      · rw [unhide e2]; simpa using unhide HO5
      · rw [unhide e3]; exact (unhide HA5).base (by rw [hsz3]; have := hb12.size; omega)
    · rw [hm] at e1 e2 e3
      go_enter Tryz.func154, Tryz.ntmps154
      go_wp2_with fail
      refine (unhide HC).mono ?_
      rintro e w1 ⟨⟨v1, rfl, hv1⟩, hb1⟩
      obtain ⟨a1, c1, rfl⟩ := hv1.slice
      clear hv1
      obtain ⟨t0, t1, _⟩ := (unhide HKS w1 hb1).cells
      go_wp2_with fail
      refine (unhide HM w1 hb1).mono ?_
      rintro e w2 ⟨⟨v2, rfl, hv2⟩, hb2⟩
      rw [hm]
      have hb12 := hb1.trans (hb2.mono hb1.size)
      have hs2 := unhide HKS w2 hb12
      obtain ⟨u0, u1, u2, u3, u4, u5, u6, u7⟩ := hs2.cells
      have HAL := hide (isAlias_any v2 _ w2 hv2.rv hml)
      obtain ⟨b', off', hL2, hr2, hn2⟩ := hv2
      have hs1 := hb1.size
      have hb'1 : b' ≠ sb := by rcases hn2 with h | h <;> omega
      have hb'2 : va.ownBlock ≠ some b' := by
        intro h
        have := unhide HOL b' h
        rcases hn2 with h | h <;> omega
      have HT := hide (take_any sb zb cb b' off' k 0 au va (.slice none 0 0) vc v2 ans _ w2 hs2 ((unhide HO).below hb12) hL2 hr2 hb'1 hb'2 hml ha)
      clear hs2 hL2 hr2 hn2 u0 u2 u3 u4 u5 u6 u7
      rw [hal] at HAL
      go_wp2_with fail
      refine (unhide HAL).mono ?_
      rintro e w2 ⟨rfl, rfl⟩
      go_wp2_with fail
      refine (unhide HT).mono ?_
      rintro e w3 ⟨rfl, ⟨va', hs3, ho3⟩, hf3⟩
      have hb3 : Below sb w w3 := (hb12.mono (show sb ≤ w.heap.size by omega)).trans (hf3.below (fun j hj => ⟨by omega, fun h => by have := unhide HOL j h.symm; omega⟩) (by have := hb12.size; omega))
      have HS3 := hide hs3
      have HO3 := hide ho3
      obtain ⟨y0, _, _, _, _, y5, _, _⟩ := hs3.cells
      have hslt3 := hs3.lt
      have hz3 : TableAt w3 zb o b off cap rs := (unhide HZ).low hb3 hzs hbs
      have HD := hide (denial_any zb b off cap o rs w3 hz3 hlen (unhide HOK))
      clear hs3 ho3 hz3 hf3
      cases ht : takenP k (matchP rs n).1
      · rw [ht] at e3
        go_wp2_with fail
        refine (unhide HD).mono ?_
        rintro e w4 ⟨v4, rfl, ho4, hb4⟩
        obtain ⟨a4, c4, rfl⟩ := ho4.slice
        have hs4 := (unhide HS3).kept (hb4.block sb hslt3)
        obtain ⟨z0, z1, z2, z3, z4, z5, z6, z7⟩ := hs4.cells
        have g5 := hs4.frozen 5
        have S5 := hide (hs4.set5 (.slice a4 (denyP o rs).length c4))
        have HO5 := hide (((unhide HO3).below hb4).set_low (k := sb) (i := 5) (by omega) (.slice a4 (denyP o rs).length c4))
        have HA5 := hide (ho4.set_low (k := sb) (i := 5) hslt3 (.slice a4 (denyP o rs).length c4))
        have hb5 : Below sb w (w4.setCell ⟨sb, 5, none⟩ (.slice a4 (denyP o rs).length c4)) := (hb3.trans (hb4.mono (show sb ≤ _ by omega))).setCell (p := ⟨sb, 5, none⟩) (Nat.le_refl sb) _
        clear hs4 ho4 z0 z1 z2 z3 z4 z6 z7
        go_wp2_with fail
        go_ret2
        refine ⟨rfl, ⟨va', .slice a4 (denyP o rs).length c4, ?_, ?_, ?_⟩, hb5⟩
        · rw [unhide e1]; exact unhide S5
        · rw [unhide e2]; exact unhide HO5
        · rw [unhide e3]; exact (unhide HA5).base (by omega)
      · rw [ht] at e3
        go_wp2_with fail
        go_ret2
        refine ⟨rfl, ⟨va', .slice none 0 0, ?_, ?_, ?_⟩, hb3⟩
        · rw [unhide e1]; exact unhide HS3
        · rw [unhide e2]; exact unhide HO3
        · rw [unhide e3]; exact World.ownsRow_nil _ _ _ _
  · have hcI : (0 : Int) < ((cutP o rs n).length : Int) := by omega
    have e1 : Hid (stepRc o rs n = 0) := by unfold stepRc; rw [Hid, if_neg hc]
    have e2 : Hid (stepAns o rs k n = []) := by unfold stepAns; rw [Hid, if_neg hc]
    have e3 : Hid (stepAuth o rs k n = cutP o rs n) := by unfold stepAuth; rw [Hid, if_neg hc]
    clear hc
    go_enter Tryz.func154, Tryz.ntmps154
    go_wp2_with fail
    refine (unhide HC).mono ?_
    rintro e w1 ⟨⟨v1, rfl, hv1⟩, hb1⟩
    have HCL := hide (clone_any v1 _ w1 (hv1.rv ((unhide HZ).below hb1).2.2.2.2) hcl)
    obtain ⟨a1, c1, rfl⟩ := hv1.slice
    clear hv1
    go_wp2_with fail
    refine (unhide HCL).mono ?_
    rintro e w4 ⟨v4, rfl, ho4, hb4⟩
    obtain ⟨a4, c4, rfl⟩ := ho4.slice
    have hb14 := hb1.trans (hb4.mono hb1.size)
    have hs4 := unhide HKS w4 hb14
    obtain ⟨z0, z1, z2, z3, z4, z5, z6, z7⟩ := hs4.cells
    have g5 := hs4.frozen 5
    have S5 := hide (hs4.set5 (.slice a4 (cutP o rs n).length c4))
    have HO5 := hide (((unhide HO).below hb14).set_low (k := sb) (i := 5) (by omega) (.slice a4 (cutP o rs n).length c4))
    have HA5 := hide (ho4.set_low (k := sb) (i := 5) (by have := hb1.size; omega) (.slice a4 (cutP o rs n).length c4))
    have hb5 : Below sb w (w4.setCell ⟨sb, 5, none⟩ (.slice a4 (cutP o rs n).length c4)) := (hb14.mono (show sb ≤ _ by omega)).setCell (p := ⟨sb, 5, none⟩) (Nat.le_refl sb) _
    clear hs4 ho4 z0 z1 z2 z3 z4 z6 z7
    go_wp2_with fail
    go_ret2
    refine ⟨rfl, ⟨va, .slice a4 (cutP o rs n).length c4, ?_, ?_, ?_⟩, hb5⟩
    · rw [unhide e1]; exact unhide S5
    · rw [unhide e2]; simpa using unhide HO5
    · rw [unhide e3]; exact (unhide HA5).base (by have := hb1.size; omega)
end Lh
end Go.Proofs.YtjkllohiodfikaaGreatDoor
