/- Contracts: (*search).follow, (*Table).Answer, (*Zone).Lookup of a name whose records are no CNAME, where no record names another. -/
import Derived.Test.YtkkpahmoljiepaaGreatDoorJ12
import Derived.Test.YtkkpahmoljiepaaGreatDoorJ09
import Derived.Test.YtkkpahmoljiepaaGreatDoorJ01
set_option linter.unusedSimpArgs false
set_option linter.unusedVariables false
namespace Go.Proofs.YtkkpahmoljiepaaGreatDoor
open Go.RowKit
open Pu (Str hide unhide)

def boolN : Value → Nat
  | .bool true => 1
  | _ => 0

/-- what is asked of a zone and a name, that a search is a plain one. -/
structure Plain (o n : Str) (rs : List Rec) (k : Int) : Prop where
  fit : Fit o rs
  len : n.length ≤ 2900
  soa : ∀ r ∈ setP (ofP rs o) 6, soaOk r ∧ r.data.length ≤ 3000 ∧ r.ttl ≤ 1000000000
  ne5 : (k == 5) = false
  ne255 : (k == 255) = false
  alias : aliasP (matchP rs n).1 = false
  mlen : (matchP rs n).1.length ≤ 3001
  under : Sp.under n o = true
  names : ∀ r ∈ stepAns o rs k n ++ stepAuth o rs k n, (r.type != 2) = true ∧ (r.type != 15) = true ∧ r.data.length ≤ 3000
  alen : (stepAns o rs k n).length ≤ 4000
  blen : (stepAuth o rs k n).length ≤ 4000

/-- an answer in memory. -/
def AnsAt (w : World) (rb : Nat) (c0 c1 c2 c3 c4 : Value) : Prop := w.heap[rb]? = some (.cells #[c0, c1, c2, c3, c4] 43)
theorem AnsAt.cells {w : World} {rb : Nat} {c0 c1 c2 c3 c4 : Value} (h : AnsAt w rb c0 c1 c2 c3 c4) : w.cell? ⟨rb, 0, none⟩ = some c0 ∧ w.cell? ⟨rb, 1, none⟩ = some c1 ∧ w.cell? ⟨rb, 2, none⟩ = some c2 ∧ w.cell? ⟨rb, 3, none⟩ = some c3 ∧ w.cell? ⟨rb, 4, none⟩ = some c4 := by
  unfold AnsAt at h
  refine ⟨?_, ?_, ?_, ?_, ?_⟩ <;> simp [World.cell?, h]
theorem AnsAt.frozen {w : World} {rb : Nat} {c0 c1 c2 c3 c4 : Value} (h : AnsAt w rb c0 c1 c2 c3 c4) (i : Nat) : w.frozen? ⟨rb, i, none⟩ = false := by
  unfold AnsAt at h; simp [World.frozen?, h]
theorem AnsAt.set0 {w : World} {rb : Nat} {c0 c1 c2 c3 c4 : Value} (h : AnsAt w rb c0 c1 c2 c3 c4) (x : Value) : AnsAt (w.setCell ⟨rb, 0, none⟩ x) rb x c1 c2 c3 c4 := by
  unfold AnsAt at *; simp only [World.setCell]; rw [Array.getElem?_modify, if_pos rfl, h]; rfl
theorem AnsAt.set1 {w : World} {rb : Nat} {c0 c1 c2 c3 c4 : Value} (h : AnsAt w rb c0 c1 c2 c3 c4) (x : Value) : AnsAt (w.setCell ⟨rb, 1, none⟩ x) rb c0 x c2 c3 c4 := by
  unfold AnsAt at *; simp only [World.setCell]; rw [Array.getElem?_modify, if_pos rfl, h]; rfl
theorem AnsAt.set2 {w : World} {rb : Nat} {c0 c1 c2 c3 c4 : Value} (h : AnsAt w rb c0 c1 c2 c3 c4) (x : Value) : AnsAt (w.setCell ⟨rb, 2, none⟩ x) rb c0 c1 x c3 c4 := by
  unfold AnsAt at *; simp only [World.setCell]; rw [Array.getElem?_modify, if_pos rfl, h]; rfl
theorem AnsAt.set3 {w : World} {rb : Nat} {c0 c1 c2 c3 c4 : Value} (h : AnsAt w rb c0 c1 c2 c3 c4) (x : Value) : AnsAt (w.setCell ⟨rb, 3, none⟩ x) rb c0 c1 c2 x c4 := by
  unfold AnsAt at *; simp only [World.setCell]; rw [Array.getElem?_modify, if_pos rfl, h]; rfl
theorem AnsAt.set4 {w : World} {rb : Nat} {c0 c1 c2 c3 c4 : Value} (h : AnsAt w rb c0 c1 c2 c3 c4) (x : Value) : AnsAt (w.setCell ⟨rb, 4, none⟩ x) rb c0 c1 c2 c3 x := by
  unfold AnsAt at *; simp only [World.setCell]; rw [Array.getElem?_modify, if_pos rfl, h]; rfl

namespace Lj
open Ka Kd Rf Rg Ia Iow Ie Zb Zc Za La Lb Re Lc Le Lf Lg Lh Li Ld

set_option maxHeartbeats 800000 in
theorem follow_plain (sb zb cb c b off cap : Nat) (k : Int) (au : Bool) (va vb vc : Value) (o n : Str) (rs : List Rec) (w : World) (hs : SearchAt w sb zb k 0 au va vb vc cb) (hva : va = .slice none 0 0) (hvb : vb = .slice none 0 0)
    (hz : TableAt w zb o b off cap rs) (hg : G w) (hzs : zb < sb) (hbs : b < sb) (h0 : 0 < sb) (hc : CancelAt w cb c false) (hp : Plain o n rs k) :
    Calls Tryz.prog 127 #[.pointer (some ⟨sb, 0, none⟩), .string (B n)] w fun e w' => e = .returned (.bool true) ∧ (∃ va' vb', SearchAt w' sb zb k (stepRc o rs n) au va' vb' vc cb ∧ OwnR w' (sb + 1) va' (stepAns o rs k n) ∧ OwnR w' (sb + 1) vb' (stepAuth o rs k n)) ∧ Below sb w w' := by
  have HST := hide (step_plain sb zb cb b off cap k au va vb vc o n rs [] w hs (by subst hva; exact World.ownsRow_nil _ _ _ _) hvb hz hg hzs hbs h0 hp.fit hp.len (by simp) hp.soa hp.ne5 hp.ne255 hp.alias hp.mlen)
  have HAS := hide (asked_any cb c false w hc)
  obtain ⟨s0, s1, s2, s3, s4, s5, s6, s7⟩ := hs.cells
  clear hs hz hg hc hp s0 s1 s2 s3 s4 s5 s6
  go_enter Tryz.func127, Tryz.ntmps127
  go_wp2_with fail
  go_loopw [1, 5] (fun nm mr wr => (nm = .string (B n) ∧ mr = .bool true ∧ wr = w) ∨ (mr = .bool false ∧ (∃ va' vb', SearchAt wr sb zb k (stepRc o rs n) au va' vb' vc cb ∧ OwnR wr (sb + 1) va' (stepAns o rs k n) ∧ OwnR wr (sb + 1) vb' (stepAuth o rs k n)) ∧ Below sb w wr)) (fun _ mr _ => boolN mr)
  case atStart => exact .inl ⟨rfl, rfl, rfl⟩
  case round =>
    rcases hrel with ⟨rfl, rfl, rfl⟩ | ⟨rfl, hpost⟩
    · go_wp2_with fail
      refine (unhide HAS).mono ?_
      rintro e w ⟨rfl, rfl⟩
      go_wp2_with fail
      refine (unhide HST).mono ?_
      rintro e w1 ⟨rfl, hpost⟩
      rw [List.nil_append] at hpost
      have HP := hide hpost
      clear hpost
      go_wp2_with fail
      go_roundw
      case rel => exact .inr ⟨rfl, unhide HP⟩
      case measure => simp [boolN]
    · have HP := hide hpost
      clear hpost
      go_wp2_with fail
      go_ret
      exact ⟨rfl, unhide HP⟩

set_option maxRecDepth 100000 in
set_option maxHeartbeats 1600000 in
theorem answer_plain (zb b off cap : Nat) (k : Int) (o n : Str) (rs : List Rec) (w : World) (hz : TableAt w zb o b off cap rs) (hg : G w) (hp : Plain o n rs k) :
    Calls Tryz.prog 69 #[.pointer (some ⟨zb, 0, none⟩), .string (B n), .int .i64 k] w fun e w' =>
      (∃ va vb, e = .returned (.agg #[.int .i64 (stepRc o rs n), .bool (decide ((cutP o rs n).length = 0)), va, vb, .slice none 0 0]) ∧ OwnR w' w.heap.size va (stepAns o rs k n) ∧ OwnR w' w.heap.size vb (stepAuth o rs k n)) ∧ Below w.heap.size w w' := by
  have hzb := hz.1
  have hblt := hz.2.2.2.2.1
  have hz0 := hz.2.1
  have hg0 := hg.1
  have HZ := hide hz
  have HG := hide hg
  have HP := hide hp
  have hu := hp.under
  have hol := hp.fit.2.1
  have hnl := hp.len
  have hlen := hp.fit.1
  have hbx : Below w.heap.size w (w.alloc (.cells #[.int .i64 0, .bool false, .slice none 0 0, .slice none 0 0, .slice none 0 0] 43)) := (Below.refl _ _).alloc (Nat.le_refl _) _
  have HU : Hid (∀ W, Calls Tryz.prog 110 #[.string (B n), .string (B o)] W fun e w' => e = .returned (.bool true) ∧ w' = W) := fun W => by
    have := under_any (B n) (B o) W (by rw [size_B]; omega) (by rw [size_B]; omega)
    rw [data_B, data_B, hu] at this
    exact this
  clear hz hg hp hu
  go_enter Tryz.func69, Tryz.ntmps69
  go_wp2_with fail
  refine (unhide HU _).mono ?_
  rintro e w1 ⟨rfl, hw1⟩
  have hb1 : Below w.heap.size w w1 := by rw [hw1]; exact hbx
  have r1 : w1.heap[w.heap.size]? = some (.cells #[.int .i64 0, .bool false, .slice none 0 0, .slice none 0 0, .slice none 0 0] 43) := by rw [hw1]; exact heap_alloc_new w _
  clear hw1 hbx HU
  go_wp2_with fail
  refine (newCancel_any w1).mono ?_
  rintro e w2 ⟨cb, c, rfl, hc2, hcb, hcc, hne, hb2⟩
  have HC2 := hide hc2
  have hcl := hc2.lt
  have hcbl := hc2.1
  have hb12 := hb1.trans (hb2.mono hb1.size)
  have r2 := (hb2.block w.heap.size (Array.getElem?_eq_some_iff.1 r1).1).trans r1
  clear hc2 r1
  go_wp2_with fail
  have hb3 : Below w2.heap.size w2 (w2.alloc (.cells #[.pointer (some ⟨zb, 0, none⟩), .int .i64 k, .int .i64 0, .bool false, .slice none 0 0, .slice none 0 0, .slice none 0 0, .pointer (some ⟨cb, 0, none⟩)] 210)) := (Below.refl _ _).alloc (Nat.le_refl _) _
  have S3 : SearchAt (w2.alloc (.cells #[.pointer (some ⟨zb, 0, none⟩), .int .i64 k, .int .i64 0, .bool false, .slice none 0 0, .slice none 0 0, .slice none 0 0, .pointer (some ⟨cb, 0, none⟩)] 210)) w2.heap.size zb k 0 false (.slice none 0 0) (.slice none 0 0) (.slice none 0 0) cb := heap_alloc_new w2 _
  have hs2 := hb2.size
  have hs1 := hb1.size
  refine (cutOver_any zb b off cap o n rs _ (((unhide HZ).below hb12).below hb3) (((unhide HG).below hb12).below hb3) hlen (by omega) hol).mono ?_
  rintro e w4 ⟨⟨v4, rfl, hv4⟩, hb4⟩
  obtain ⟨a4, c4, rfl⟩ := hv4.slice
  have S4 := S3.kept (hb4.block w2.heap.size (by simp))
  have hb24 : Below w2.heap.size w2 w4 := hb3.trans (hb4.mono (by simp <;> omega))
  have hs4 : w2.heap.size < w4.heap.size := S4.lt
  clear S3 hv4 hb3 hb4
  obtain ⟨x0, x1, x2, x3, x4, x5, x6, x7⟩ := S4.cells
  have xf := S4.frozen 3
  have H4 := hide S4
  clear S4 x0 x1 x2 x4 x5 x6 x7
  obtain ⟨au, hcI, hau⟩ : ∃ au : Bool, (((cutP o rs n).length : Int) == 0) = au ∧ decide ((cutP o rs n).length = 0) = au := ⟨_, rfl, by
    by_cases h : (cutP o rs n).length = 0
    · rw [h]; rfl
    · rw [decide_eq_false h, eq_comm, beq_eq_false_iff_ne]; omega⟩
  have HAU := hide hau
  clear hau
  have S5 := (unhide H4).set3 au
  have hb45 : Below w2.heap.size w2 (w4.setCell ⟨w2.heap.size, 3, none⟩ (.bool au)) := hb24.setCell (p := ⟨w2.heap.size, 3, none⟩) (Nat.le_refl _) _
  have hs5 : (w4.setCell ⟨w2.heap.size, 3, none⟩ (.bool au)).heap.size = w4.heap.size := by simp [World.setCell]
  have HF := hide (follow_plain w2.heap.size zb cb c b off cap k au _ _ _ o n rs _ S5 rfl rfl ((unhide HZ).below (hb12.trans (hb45.mono hb12.size))) ((unhide HG).below (hb12.trans (hb45.mono hb12.size))) (by omega) (by omega) (by omega) ((unhide HC2).below hb45 hcbl hcl) (unhide HP))
  clear S5 H4
  go_wp2_with fail
  refine (unhide HF).mono ?_
  rintro e w6 ⟨rfl, ⟨va, vb, hs6, hov, hrv⟩, hb6⟩
  have hB6 : Below w2.heap.size w2 w6 := hb45.trans hb6
  have r6 := (hB6.block w.heap.size (by omega)).trans r2
  obtain ⟨y0, y1, y2, y3, y4, y5, y6, y7⟩ := hs6.cells
  obtain ⟨aa, ca, rfl⟩ := hov.slice
  obtain ⟨ab, cb', rfl⟩ := hrv.slice
  have HAD := hide (additional_plain zb (stepRc o rs n) au _ _ (.slice none 0 0) _ _ w6 hov.rv hrv.rv (unhide HP).alen (unhide HP).blen (unhide HP).names)
  have HS6 := hide hs6
  have HOV := hide hov
  have HRV := hide hrv
  have hs6l := hs6.lt
  clear HF hs6 hov hrv
  go_wp2_with fail
  refine (unhide HAD).mono ?_
  rintro e w7 ⟨rfl, hb7⟩
  have hs7 := (unhide HS6).kept (hb7.block w2.heap.size hs6l)
  obtain ⟨z0, z1, z2, z3, z4, z5, z6, z7⟩ := hs7.cells
  have zf := hs7.frozen 6
  have hs8 := hs7.set6 (.slice none 0 0)
  obtain ⟨p0, p1, p2, p3, p4, p5, p6, p7⟩ := hs8.cells
  have r7 := (hb7.block w.heap.size (by have := hb6.size; rw [hs5] at this; omega)).trans r6
  have hRV7 := hide (And.intro ((unhide HOV).below hb7) ((unhide HRV).below hb7))
  obtain ⟨k0, k1, k2, k3, k4⟩ := AnsAt.cells r7
  have kf0 := AnsAt.frozen r7 0
  have kf1 := AnsAt.frozen r7 1
  have kf2 := AnsAt.frozen r7 2
  have kf3 := AnsAt.frozen r7 3
  have kf4 := AnsAt.frozen r7 4
  clear hs7 hs8 y0 y1 y2 y3 y4 y5 y6 y7 x3 xf r2 r6
  go_wp2_with fail
  have A9 := ((((AnsAt.set0 (show AnsAt (w7.setCell ⟨w2.heap.size, 6, none⟩ (.slice none 0 0)) w.heap.size _ _ _ _ _ from (Below.heap_setCell _ _ _ _ (by show w.heap.size ≠ w2.heap.size; omega)).trans r7) (.int .i64 (stepRc o rs n))).set1 (.bool au)).set2 (.slice aa (stepAns o rs k n).length ca)).set3 (.slice ab (stepAuth o rs k n).length cb')).set4 (.slice none 0 0)
  obtain ⟨n0, n1, n2, n3, n4⟩ := A9.cells
  have hB7 : Below w2.heap.size w2 w7 := hB6.trans (hb7.mono (by omega))
  have hrvs := unhide hRV7
  refine bodyPost_ret (v := .agg #[.int .i64 (stepRc o rs n), .bool au, .slice aa (stepAns o rs k n).length ca, .slice ab (stepAuth o rs k n).length cb', .slice none 0 0]) ?_ rfl ?_
  · simp [results, Tryz.results69, go_sem, n0, n1, n2, n3, n4]
  · refine ⟨⟨_, _, by rw [unhide HAU], ?_, ?_⟩, ?_⟩
    · exact (((((((hrvs.1.set_low (k := w2.heap.size) (i := 6) (by omega) _).set_low (k := w.heap.size) (i := 0) (by omega) _).set_low (k := w.heap.size) (i := 1) (by omega) _).set_low (k := w.heap.size) (i := 2) (by omega) _).set_low (k := w.heap.size) (i := 3) (by omega) _).set_low (k := w.heap.size) (i := 4) (by omega) _)).base (by omega)
    · exact (((((((hrvs.2.set_low (k := w2.heap.size) (i := 6) (by omega) _).set_low (k := w.heap.size) (i := 0) (by omega) _).set_low (k := w.heap.size) (i := 1) (by omega) _).set_low (k := w.heap.size) (i := 2) (by omega) _).set_low (k := w.heap.size) (i := 3) (by omega) _).set_low (k := w.heap.size) (i := 4) (by omega) _)).base (by omega)
    · have h7 := hb12.trans (hB7.mono hb12.size)
      exact (((((h7.setCell (p := ⟨w2.heap.size, 6, none⟩) (by show w.heap.size ≤ w2.heap.size; omega) _).setCell (p := ⟨w.heap.size, 0, none⟩) (Nat.le_refl _) _).setCell (p := ⟨w.heap.size, 1, none⟩) (Nat.le_refl _) _).setCell (p := ⟨w.heap.size, 2, none⟩) (Nat.le_refl _) _).setCell (p := ⟨w.heap.size, 3, none⟩) (Nat.le_refl _) _).setCell (p := ⟨w.heap.size, 4, none⟩) (Nat.le_refl _) _
end Lj
end Go.Proofs.YtkkpahmoljiepaaGreatDoor

/- Contract: (*zone.Zone).Lookup of a plain search. -/
namespace Go.Proofs.YtkkpahmoljiepaaGreatDoor
open Go.RowKit
open Pu (Str hide unhide)

namespace Lk
open Ka Kd Rf Rg Ia Iow Ie Zb Zc Za La Lb Re Lc Le Lf Lg Lh Li Ld Lj

set_option maxRecDepth 100000 in
set_option maxHeartbeats 1600000 in
theorem lookup_plain (zb b off cap : Nat) (k : Int) (o n : Str) (rs : List Rec) (w : World) (hz : TableAt w zb o b off cap rs) (hg : G w) (hp : Plain o n rs k) (hpl : Sp.plain n = true) (hk1 : 1 ≤ k) (hk2 : k ≤ 65535) :
    Calls Tryz.prog 24 #[.pointer (some ⟨zb, 0, none⟩), .string (B n), .int .i64 k] w fun e w' =>
      (∃ va vb, e = .returned (.tuple #[.agg #[.int .i64 (stepRc o rs n), .bool (decide ((cutP o rs n).length = 0)), va, vb, .slice none 0 0], .int .i64 0]) ∧ OwnR w' w.heap.size va (stepAns o rs k n) ∧ OwnR w' w.heap.size vb (stepAuth o rs k n)) ∧ Below w.heap.size w w' := by
  have hnl := hp.len
  have hbx : Below w.heap.size w (w.alloc (.cells #[.int .i64 0, .bool false, .slice none 0 0, .slice none 0 0, .slice none 0 0] 43)) := (Below.refl _ _).alloc (Nat.le_refl _) _
  have HPL : Hid (Calls Tryz.prog 68 #[.string (B n)] (w.alloc (.cells #[.int .i64 0, .bool false, .slice none 0 0, .slice none 0 0, .slice none 0 0] 43)) fun e w' => e = .returned (.bool true) ∧ Below (w.alloc (.cells #[.int .i64 0, .bool false, .slice none 0 0, .slice none 0 0, .slice none 0 0] 43)).heap.size (w.alloc (.cells #[.int .i64 0, .bool false, .slice none 0 0, .slice none 0 0, .slice none 0 0] 43)) w') := by
    have := plain_any (B n) (w.alloc (.cells #[.int .i64 0, .bool false, .slice none 0 0, .slice none 0 0, .slice none 0 0] 43)) (hg.below hbx) (by rw [size_B]; simp [maxLen]; omega)
    rw [data_B, hpl] at this
    exact this
  have HA := hide (fun W (hb : Below w.heap.size w W) => answer_plain zb b off cap k o n rs W (hz.below hb) (hg.below hb) hp)
  clear hz hg hp hpl
  go_enter Tryz.func24, Tryz.ntmps24
  go_wp2_with fail
  refine (unhide HPL).mono ?_
  rintro e w1 ⟨rfl, hb1⟩
  have hB1 : Below w.heap.size w w1 := hbx.trans (hb1.mono (by simp <;> omega))
  have r1 : AnsAt w1 w.heap.size (.int .i64 0) (.bool false) (.slice none 0 0) (.slice none 0 0) (.slice none 0 0) := (hb1.block w.heap.size (by simp)).trans (heap_alloc_new w _)
  have rl := (Array.getElem?_eq_some_iff.1 r1).1
  clear hbx hb1 HPL
  go_wp2_with fail
  refine (Pa.clone_any (B n) w1 (by rw [size_B]; omega)).mono ?_
  rintro e w2 ⟨rfl, hb2⟩
  have hB2 := hB1.trans (hb2.mono hB1.size)
  have r2 : AnsAt w2 w.heap.size (.int .i64 0) (.bool false) (.slice none 0 0) (.slice none 0 0) (.slice none 0 0) := (hb2.block w.heap.size rl).trans r1
  have rl2 := Nat.lt_of_lt_of_le rl hb2.size
  clear r1
  go_wp2_with fail
  refine (unhide HA w2 hB2).mono ?_
  rintro e w7 ⟨⟨va, vb, rfl, hva, hvb⟩, hb7⟩
  have r7 : AnsAt w7 w.heap.size (.int .i64 0) (.bool false) (.slice none 0 0) (.slice none 0 0) (.slice none 0 0) := (hb7.block w.heap.size rl2).trans r2
  obtain ⟨aa, ca, rfl⟩ := hva.slice
  obtain ⟨ab, cb', rfl⟩ := hvb.slice
  obtain ⟨k0, k1, k2, k3, k4⟩ := AnsAt.cells r7
  have kf0 := AnsAt.frozen r7 0
  have kf1 := AnsAt.frozen r7 1
  have kf2 := AnsAt.frozen r7 2
  have kf3 := AnsAt.frozen r7 3
  have kf4 := AnsAt.frozen r7 4
  have hRV := hide (And.intro hva hvb)
  have R7 := hide r7
  clear hva hvb r2 r7
  obtain ⟨au, hau⟩ : ∃ au : Bool, au = decide ((cutP o rs n).length = 0) := ⟨_, rfl⟩
  rw [← hau]
  have HAU := hide hau
  clear hau
  go_wp2_with fail
  have A9 := (((((unhide R7).set0 (.int .i64 (stepRc o rs n))).set1 (.bool au)).set2 (.slice aa (stepAns o rs k n).length ca)).set3 (.slice ab (stepAuth o rs k n).length cb')).set4 (.slice none 0 0)
  obtain ⟨n0, n1, n2, n3, n4⟩ := A9.cells
  have hB7 := hB2.trans (hb7.mono hB2.size)
  have hs2 := hB2.size
  have hrvs := unhide hRV
  refine bodyPost_ret (v := .tuple #[.agg #[.int .i64 (stepRc o rs n), .bool au, .slice aa (stepAns o rs k n).length ca, .slice ab (stepAuth o rs k n).length cb', .slice none 0 0], .int .i64 0]) ?_ rfl ?_
  · simp [results, Tryz.results24, go_sem, n0, n1, n2, n3, n4]
  · refine ⟨⟨_, _, by rw [unhide HAU], ?_, ?_⟩, ?_⟩
    · exact (((((hrvs.1.set_low (k := w.heap.size) (i := 0) (by omega) _).set_low (k := w.heap.size) (i := 1) (by omega) _).set_low (k := w.heap.size) (i := 2) (by omega) _).set_low (k := w.heap.size) (i := 3) (by omega) _).set_low (k := w.heap.size) (i := 4) (by omega) _).base (by omega)
    · exact (((((hrvs.2.set_low (k := w.heap.size) (i := 0) (by omega) _).set_low (k := w.heap.size) (i := 1) (by omega) _).set_low (k := w.heap.size) (i := 2) (by omega) _).set_low (k := w.heap.size) (i := 3) (by omega) _).set_low (k := w.heap.size) (i := 4) (by omega) _).base (by omega)
    · exact ((((hB7.setCell (p := ⟨w.heap.size, 0, none⟩) (Nat.le_refl _) _).setCell (p := ⟨w.heap.size, 1, none⟩) (Nat.le_refl _) _).setCell (p := ⟨w.heap.size, 2, none⟩) (Nat.le_refl _) _).setCell (p := ⟨w.heap.size, 3, none⟩) (Nat.le_refl _) _).setCell (p := ⟨w.heap.size, 4, none⟩) (Nat.le_refl _) _
end Lk
end Go.Proofs.YtkkpahmoljiepaaGreatDoor

/- Contracts: beaconkeep.digits, host. -/
namespace Go.Proofs.YtkkpahmoljiepaaGreatDoor
open Go.RowKit
open Pu (hide unhide)
namespace Kc
open Ka

theorem conv1 (w : World) (c : Int) : Sem.run Tryz.prog (convert 58 9 (.slice (some ⟨w.heap.size, 0, none⟩) 1 1)) (w.alloc (.cells #[.int .u8 c] 5)) = .ok (.string (strOfNums [c])) (w.alloc (.cells #[.int .u8 c] 5)) :=
  run_convert_bytes_arg _ 58 5 (by kernel_rfl) (by kernel_rfl) w.heap.size 0 1 1 [c] rfl (fun i hi => by
    obtain rfl : i = 0 := by omega
    simp) 9 (by kernel_rfl)

/-- the digits so far, before the loop's next round: what is still to write stands ahead. -/
def digitsI (n : Nat) : Pu.Str := if h : n < 10 then [UInt8.ofNat (48 + n)] else digitsI (n / 10) ++ [UInt8.ofNat (48 + n % 10)]

theorem digitsI_small (n : Nat) (h : n < 10) : digitsI n = [UInt8.ofNat (48 + n)] := by rw [digitsI, dif_pos h]
theorem digitsI_great (n : Nat) (h : ¬ n < 10) : digitsI n = digitsI (n / 10) ++ [UInt8.ofNat (48 + n % 10)] := by rw [digitsI, dif_neg h]
theorem digitsI_len : ∀ (f n : Nat), n < 10 ^ f → (digitsI n).length ≤ f + 1
  | 0, n, h => by rw [digitsI_small n (by omega)]; simp
  | f + 1, n, h => by
    by_cases h1 : n < 10
    · rw [digitsI_small n h1]; simp
    · rw [digitsI_great n h1, List.length_append]
      have := digitsI_len f (n / 10) (by rw [Nat.pow_succ] at h; omega)
      simp; omega

def hd (k : Nat) : Pu.Str := if k < 10 then [] else digitsI (k / 10)
theorem digitsI_hd (k : Nat) : digitsI k = hd k ++ [UInt8.ofNat (48 + k % 10)] := by
  unfold hd
  split
  · rw [digitsI_small k (by assumption), Nat.mod_eq_of_lt (by assumption)]; rfl
  · rw [digitsI_great k (by assumption)]

theorem str1 (c : Nat) : strOfNums [48 + (c : Int) % 10] = ⟨[UInt8.ofNat (48 + c % 10)].toArray⟩ := by
  unfold strOfNums
  have : (48 + (c : Int) % 10).toNat = 48 + c % 10 := by omega
  simp [this]

set_option maxRecDepth 100000 in
set_option maxHeartbeats 800000 in
theorem digits_any (n : Nat) (w : World) (hn : n ≤ 1000000) :
    Calls Tryz.prog 21 #[.int .i64 n] w fun e w' => e = .returned (.string ⟨(digitsI n).toArray⟩) ∧ Below w.heap.size w w' := by
  have hcv := conv1
  have hlen := digitsI_len 7 n (by omega)
  have hsz : ∀ c : Int, (strOfNums [c]).size = 1 := fun _ => rfl
  go_enter Tryz.func21, Tryz.ntmps21
  go_wp2
  go_loopw [0, 3] (fun a s wr => ∃ (k : Nat) (t : ByteArray), a = .int .i64 k ∧ k ≤ 1000000 ∧ s = .string t ∧ digitsI n = hd k ++ t.data.toList ∧ Below w.heap.size w wr) (fun a _ _ => (intOf a).toNat)
  case atStart =>
    exact ⟨n, _, rfl, hn, rfl, by rw [str1, digitsI_hd n], (Below.refl _ _).alloc (Nat.le_refl _) _⟩
  case round =>
    obtain ⟨k, t, rfl, hk, rfl, hd1, hb⟩ := hrel
    have H := hide hd1
    have hts : t.size ≤ 8 := by
      have := congrArg List.length hd1
      rw [List.length_append, Pu.len_eq] at this
      omega
    clear hd1
    by_cases h10 : k < 10
    · have hfin : Hid (digitsI n = t.data.toList) := by
        rw [unhide H, hd, if_pos h10]; rfl
      go_wp2
      go_ret
      refine ⟨?_, hb⟩
      rw [unhide hfin]
      rfl
    · have hgt : (10 : Int) ≤ k := by omega
      have hstep : digitsI n = hd (k / 10) ++ (UInt8.ofNat (48 + k / 10 % 10) :: t.data.toList) := by
        rw [unhide H, hd, if_neg h10, digitsI_hd (k / 10)]; simp
      have Hs := hide hstep
      clear hstep
      go_wp2
      go_roundw
      case rel =>
        refine ⟨k / 10, _, by go_num, by omega, rfl, ?_, hb.trans ((Below.refl _ _).alloc hb.size _)⟩
        rw [unhide Hs, show ((k : Int) / 10) = ((k / 10 : Nat) : Int) from by omega, str1 (k / 10)]
        simp
      case measure => simp [intOf]; omega

set_option maxRecDepth 100000 in
set_option maxHeartbeats 800000 in
theorem host_any (n : Nat) (w : World) (hn : n ≤ 1000000) :
    Calls Tryz.prog 25 #[.int .i64 n] w fun e w' => e = .returned (.string ⟨(104 :: digitsI n).toArray⟩) ∧ Below w.heap.size w w' := by
  have hlen := digitsI_len 7 n (by omega)
  have hsz : (⟨(digitsI n).toArray⟩ : ByteArray).size ≤ 8 := by simpa [ByteArray.size] using hlen
  go_enter Tryz.func25, Tryz.ntmps25
  go_wp2_with (go_at_call 21; refine (digits_any n w hn).mono ?_; rintro e w' ⟨rfl, hb⟩)
  go_ret
  exact ⟨ret_str (by simp), hb⟩
end Kc
end Go.Proofs.YtkkpahmoljiepaaGreatDoor

/- What the zone of Starred answers. -/
namespace Go.Proofs.YtkkpahmoljiepaaGreatDoor
open Go.RowKit
open Pu (Str hide unhide)

namespace Tb
open Ta Kc

def wzz : Str := [119, 46, 122, 122]
def tailS : Str := 46 :: wzz
def Dig (d : UInt8) : Prop := 48 ≤ d.toNat ∧ d.toNat ≤ 57
/-- a name that ends with a digit and .w.zz -/
def Bad (n : Str) : Prop := ∃ p d, Dig d ∧ n = p ++ d :: tailS
def starR (n : Str) : Rec := (n, 3, 16, [115, 116, 97, 114])
def soaR : Rec := ([122, 122], 40, 6, [97, 46, 122, 122, 32, 98, 46, 122, 122, 32, 57, 32, 52, 48])

theorem mem_tw {p : Str → Bool} : ∀ (l : List Str) (x : Str), x ∈ l.takeWhile p → p x = true
  | [], x, h => by simp at h
  | y :: t, x, h => by
    by_cases hp : p y = true
    · rw [List.takeWhile_cons_of_pos hp, List.mem_cons] at h
      rcases h with rfl | h
      · exact hp
      · exact mem_tw t x h
    · rw [List.takeWhile_cons_of_neg hp] at h; simp at h
theorem suffix_iff (l s : Str) : Lib.hasSuffix l s = true ↔ ∃ p, l = p ++ s := by
  unfold Lib.hasSuffix
  rw [List.isSuffixOf_iff_suffix]
  constructor
  · rintro ⟨p, h⟩; exact ⟨p, h.symm⟩
  · rintro ⟨p, h⟩; exact ⟨p, h.symm⟩

theorem bad_under {n : Str} (h : Bad n) : ∀ r ∈ recs, Sp.under r.owner n = false := by
  obtain ⟨p, d, ⟨h1, h2⟩, rfl⟩ := h
  have key : ∀ l : Str, Sp.under l (p ++ d :: tailS) = true → l.reverse[5]? = some d := by
    intro l hl
    have hx : ∃ q, l = q ++ (d :: tailS) := by
      unfold Sp.under at hl
      rw [Bool.or_eq_true] at hl
      rcases hl with hl | hl
      · exact ⟨p, by simpa using hl⟩
      · obtain ⟨q, hq⟩ := (suffix_iff _ _).1 hl
        exact ⟨q ++ 46 :: p, by rw [hq]; simp⟩
    obtain ⟨q, rfl⟩ := hx
    simp [tailS, wzz]
  intro r hr
  cases hu : Sp.under r.owner (p ++ d :: tailS) with
  | false => rfl
  | true =>
    exfalso
    have hk := key _ hu
    simp only [recs, List.mem_cons, List.mem_nil_iff, or_false] at hr
    rcases hr with rfl | rfl | rfl | rfl | rfl
    all_goals
      simp [Rec.owner] at hk
      try (subst hk; revert h1 h2; decide)

theorem bad_there {n : Str} (h : Bad n) : there recs n = false := by
  unfold there
  have : underRuns n recs = [] := by
    unfold underRuns
    rw [List.filter_eq_nil_iff]
    intro x hx
    obtain ⟨r, hr, he⟩ := Ie.owner_mem hx
    rw [← he, bad_under h r hr]; simp
  rw [this]; rfl
theorem bad_of {n : Str} (h : Bad n) : ofP recs n = [] := by
  unfold ofP
  have : (runs sameOwner recs).find? (fun x => ownerOf x == n) = none := by
    rw [List.find?_eq_none]
    intro x hx
    obtain ⟨r, hr, he⟩ := Ie.owner_mem hx
    have := bad_under h r hr
    unfold Sp.under at this
    rw [Bool.or_eq_false_iff] at this
    rw [← he, this.1]; simp
  rw [this]
theorem bad_after {n : Str} (h : Bad n) : Bad (after n) ∨ after n = wzz := by
  obtain ⟨p, d, hd, rfl⟩ := h
  by_cases hc : (46 : UInt8) ∈ p
  · obtain ⟨a, b, rfl, ha⟩ := List.eq_append_cons_of_mem hc
    left
    rw [show a ++ 46 :: b ++ d :: tailS = a ++ 46 :: (b ++ d :: tailS) by simp, after_some a _ ha]
    exact ⟨b, d, hd, rfl⟩
  · right
    have hne : (46 : UInt8) ≠ d := by
      rintro rfl
      exact absurd hd.1 (by decide)
    rw [show p ++ d :: tailS = (p ++ [d]) ++ 46 :: wzz by simp [tailS], after_some _ _ (by simp [hc, hne])]
theorem bad_ne {n : Str} (h : Bad n) : n ≠ [] := by
  obtain ⟨p, d, hd, rfl⟩ := h
  simp
theorem wzz_find : (ends wzz).find? (there recs) = some wzz := by kernel_rfl
theorem bad_find : ∀ (f : Nat) (n : Str), n.length ≤ f → Bad n → (ends (after n)).find? (there recs) = some wzz
  | 0, n, hl, h => absurd (List.eq_nil_of_length_eq_zero (by omega)) (bad_ne h)
  | f + 1, n, hl, h => by
    have hal := after_len n (bad_ne h)
    rcases bad_after h with h' | h'
    · rw [ends_cons _ (bad_ne h'), List.find?_cons, bad_there h']
      exact bad_find f (after n) (by omega) h'
    · rw [h']; exact wzz_find
theorem bad_ends : ∀ (f : Nat) (n : Str), n.length ≤ f → Bad n → ∀ e ∈ ends n, Bad e ∨ e = wzz ∨ e = zz
  | 0, n, hl, h => absurd (List.eq_nil_of_length_eq_zero (by omega)) (bad_ne h)
  | f + 1, n, hl, h => by
    have hal := after_len n (bad_ne h)
    intro e he
    rw [ends_cons _ (bad_ne h), List.mem_cons] at he
    rcases he with rfl | he
    · exact .inl h
    · rcases bad_after h with h' | h'
      · exact bad_ends f (after n) (by omega) h' e he
      · rw [h', show ends wzz = [wzz, zz] from by kernel_rfl] at he
        simp at he
        exact .inr he
theorem bad_cut {n : Str} (h : Bad n) : cutP zz recs n = [] := by
  unfold cutP
  have hall : ∀ e ∈ (ends n).takeWhile (fun e => !(e == zz)), setP (ofP recs e) 2 = [] := by
    intro e he
    have h1 := mem_tw _ _ he
    have h2 := bad_ends _ n (Nat.le_refl _) h e (List.takeWhile_sublist _ |>.subset he)
    rcases h2 with h2 | rfl | rfl
    · rw [bad_of h2]; rfl
    · exact show setP (ofP recs wzz) 2 = [] by kernel_rfl
    · simp at h1
  generalize (ends n).takeWhile (fun e => !(e == zz)) = es at *
  induction es with
  | nil => rfl
  | cons e t ih =>
    rw [List.foldl_cons, show cutStep recs [] e = [] by unfold cutStep; rw [hall e (by simp)]; rfl]
    exact ih (fun x hx => hall x (by simp [hx]))
theorem star_of : ofP recs (42 :: 46 :: wzz) = [starR (42 :: 46 :: wzz)] := by kernel_rfl
theorem bad_match {n : Str} (h : Bad n) : matchP recs n = ([starR n], true) := by
  unfold matchP
  rw [bad_there h, bad_find _ n (Nat.le_refl _) h]
  show ((ofP recs (42 :: 46 :: wzz)).map (setOwner n), decide (0 < (ofP recs (42 :: 46 :: wzz)).length)) = _
  rw [star_of]; rfl
theorem deny1 : denyP zz recs = [soaR] := by kernel_rfl
theorem bad_rc {n : Str} (h : Bad n) : stepRc zz recs n = 0 := by
  unfold stepRc; rw [bad_cut h, bad_match h]; rfl
theorem bad_ans16 {n : Str} (h : Bad n) : stepAns zz recs 16 n = [starR n] := by
  unfold stepAns; rw [bad_cut h, bad_match h]; rfl
theorem bad_ans15 {n : Str} (h : Bad n) : stepAns zz recs 15 n = [] := by
  unfold stepAns; rw [bad_cut h, bad_match h]; rfl
theorem bad_auth16 {n : Str} (h : Bad n) : stepAuth zz recs 16 n = [] := by
  unfold stepAuth; rw [bad_cut h, bad_match h]; rfl
theorem bad_auth15 {n : Str} (h : Bad n) : stepAuth zz recs 15 n = [soaR] := by
  unfold stepAuth; rw [bad_cut h, bad_match h, deny1]; rfl
theorem bad_zz {n : Str} (h : Bad n) : Sp.under n zz = true := by
  obtain ⟨p, d, hd, rfl⟩ := h
  unfold Sp.under
  rw [Bool.or_eq_true]
  right
  rw [suffix_iff]
  exact ⟨p ++ d :: [46, 119], by simp [tailS, wzz, zz]⟩

theorem fit1 : Fit zz recs := by
  refine ⟨by decide, by decide, ?_⟩
  intro r hr
  simp only [recs, List.mem_cons, List.mem_nil_iff, or_false] at hr
  rcases hr with rfl | rfl | rfl | rfl | rfl <;> decide
theorem soa1 : ∀ r ∈ setP (ofP recs zz) 6, soaOk r ∧ r.data.length ≤ 3000 ∧ r.ttl ≤ 1000000000 := by
  rw [show setP (ofP recs zz) 6 = [([122, 122], 50, 6, [97, 46, 122, 122, 32, 98, 46, 122, 122, 32, 57, 32, 52, 48])] from by kernel_rfl]
  intro r hr
  simp only [List.mem_cons, List.mem_nil_iff, or_false] at hr
  subst hr
  refine ⟨⟨?_, 40, ?_, by omega⟩, by decide, by decide⟩
  · have : (lastW (Rec.data ([122, 122], 50, 6, [97, 46, 122, 122, 32, 98, 46, 122, 122, 32, 57, 32, 52, 48]))).length = 2 := by kernel_rfl
    omega
  · kernel_rfl

theorem plain16 {n : Str} (h : Bad n) (hl : n.length ≤ 2900) : Plain zz n recs 16 where
  fit := fit1
  len := hl
  soa := soa1
  ne5 := rfl
  ne255 := rfl
  alias := by rw [bad_match h]; rfl
  mlen := by rw [bad_match h]; simp
  under := bad_zz h
  names := by
    rw [bad_ans16 h, bad_auth16 h]
    intro r hr
    simp only [List.mem_append, List.mem_cons, List.mem_nil_iff, or_false] at hr
    subst hr
    exact ⟨rfl, rfl, by simp [starR, Rec.data]⟩
  alen := by rw [bad_ans16 h]; simp
  blen := by rw [bad_auth16 h]; simp
theorem plain15 {n : Str} (h : Bad n) (hl : n.length ≤ 2900) : Plain zz n recs 15 where
  fit := fit1
  len := hl
  soa := soa1
  ne5 := rfl
  ne255 := rfl
  alias := by rw [bad_match h]; rfl
  mlen := by rw [bad_match h]; simp
  under := bad_zz h
  names := by
    rw [bad_ans15 h, bad_auth15 h]
    intro r hr
    simp only [List.nil_append, List.mem_cons, List.mem_nil_iff, or_false] at hr
    subst hr
    exact ⟨rfl, rfl, by decide⟩
  alen := by rw [bad_ans15 h]; simp
  blen := by rw [bad_auth15 h]; simp

def thereS : Str := [116, 104, 101, 114, 101, 46, 119, 46, 122, 122]
theorem there_ans : stepAns zz recs 16 thereS = [] := by kernel_rfl
theorem there_auth : stepAuth zz recs 16 thereS = [soaR] := by kernel_rfl
theorem there_rc : stepRc zz recs thereS = 0 := by kernel_rfl
theorem there_plain : Plain zz thereS recs 16 where
  fit := fit1
  len := by decide
  soa := soa1
  ne5 := rfl
  ne255 := rfl
  alias := by kernel_rfl
  mlen := by
    have : (matchP recs thereS).1.length ≤ 1 := of_decide_eq_true (by kernel_rfl)
    omega
  under := by kernel_rfl
  names := by
    rw [there_ans, there_auth]
    intro r hr
    simp only [List.nil_append, List.mem_cons, List.mem_nil_iff, or_false] at hr
    subst hr
    exact ⟨rfl, rfl, by decide⟩
  alen := by rw [there_ans]; simp
  blen := by rw [there_auth]; simp
theorem there_name : Sp.plain thereS = true := by kernel_rfl

def innerS : Str := [105, 110, 110, 101, 114, 46, 119, 46, 122, 122]
theorem inner_ans : stepAns zz recs 16 innerS = [] := by kernel_rfl
theorem inner_auth : stepAuth zz recs 16 innerS = [soaR] := by kernel_rfl
theorem inner_rc : stepRc zz recs innerS = 0 := by kernel_rfl
theorem inner_plain : Plain zz innerS recs 16 where
  fit := fit1
  len := by decide
  soa := soa1
  ne5 := rfl
  ne255 := rfl
  alias := by kernel_rfl
  mlen := by
    have : (matchP recs innerS).1.length ≤ 1 := of_decide_eq_true (by kernel_rfl)
    omega
  under := by kernel_rfl
  names := by
    rw [inner_ans, inner_auth]
    intro r hr
    simp only [List.nil_append, List.mem_cons, List.mem_nil_iff, or_false] at hr
    subst hr
    exact ⟨rfl, rfl, by decide⟩
  alen := by rw [inner_ans]; simp
  blen := by rw [inner_auth]; simp
theorem inner_name : Sp.plain innerS = true := by kernel_rfl

def yinnerS : Str := [121, 46, 105, 110, 110, 101, 114, 46, 119, 46, 122, 122]
theorem yinner_ans : stepAns zz recs 16 yinnerS = [] := by kernel_rfl
theorem yinner_auth : stepAuth zz recs 16 yinnerS = [soaR] := by kernel_rfl
theorem yinner_rc : stepRc zz recs yinnerS = 3 := by kernel_rfl
theorem yinner_plain : Plain zz yinnerS recs 16 where
  fit := fit1
  len := by decide
  soa := soa1
  ne5 := rfl
  ne255 := rfl
  alias := by kernel_rfl
  mlen := by
    have : (matchP recs yinnerS).1.length ≤ 1 := of_decide_eq_true (by kernel_rfl)
    omega
  under := by kernel_rfl
  names := by
    rw [yinner_ans, yinner_auth]
    intro r hr
    simp only [List.nil_append, List.mem_cons, List.mem_nil_iff, or_false] at hr
    subst hr
    exact ⟨rfl, rfl, by decide⟩
  alen := by rw [yinner_ans]; simp
  blen := by rw [yinner_auth]; simp
theorem yinner_name : Sp.plain yinnerS = true := by kernel_rfl

def ythereS : Str := [121, 46, 116, 104, 101, 114, 101, 46, 119, 46, 122, 122]
theorem ythere_ans : stepAns zz recs 16 ythereS = [] := by kernel_rfl
theorem ythere_auth : stepAuth zz recs 16 ythereS = [soaR] := by kernel_rfl
theorem ythere_rc : stepRc zz recs ythereS = 3 := by kernel_rfl
theorem ythere_plain : Plain zz ythereS recs 16 where
  fit := fit1
  len := by decide
  soa := soa1
  ne5 := rfl
  ne255 := rfl
  alias := by kernel_rfl
  mlen := by
    have : (matchP recs ythereS).1.length ≤ 1 := of_decide_eq_true (by kernel_rfl)
    omega
  under := by kernel_rfl
  names := by
    rw [ythere_ans, ythere_auth]
    intro r hr
    simp only [List.nil_append, List.mem_cons, List.mem_nil_iff, or_false] at hr
    subst hr
    exact ⟨rfl, rfl, by decide⟩
  alen := by rw [ythere_ans]; simp
  blen := by rw [ythere_auth]; simp
theorem ythere_name : Sp.plain ythereS = true := by kernel_rfl

end Tb
end Go.Proofs.YtkkpahmoljiepaaGreatDoor
