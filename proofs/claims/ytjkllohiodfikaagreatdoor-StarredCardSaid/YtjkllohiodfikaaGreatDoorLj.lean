/- Contracts: (*search).follow, (*Table).Answer, (*Zone).Lookup of a name whose records are no CNAME, where no record names another. -/
import Derived.Test.YtjkllohiodfikaaGreatDoorLi
import Derived.Test.YtjkllohiodfikaaGreatDoorLd
import Derived.Test.YtjkllohiodfikaaGreatDoorPa
set_option linter.unusedSimpArgs false
set_option linter.unusedVariables false
namespace Go.Proofs.YtjkllohiodfikaaGreatDoor
open Go.RowKit
open Pu (Str hide unhide)

def boolN : Value → Nat
  | .bool true => 1
  | _ => 0

/-- what is asked of a zone and a name, that a search is a plain one. -/
structure Plain (o n : Str) (rs : List Rec) (k : Int) : Prop where
  fit : Fit o rs
  len : n.length ≤ 2900
  soa : ∀ r ∈ setP (ofP rs o) 6, soaOk r ∧ r.data.length ≤ 3000 ∧ r.ttl ≤ 1000000000
  ne5 : (k == 5) = false
  ne255 : (k == 255) = false
  alias : aliasP (matchP rs n).1 = false
  mlen : (matchP rs n).1.length ≤ 3001
  under : Sp.under n o = true
  names : ∀ r ∈ stepAns o rs k n ++ stepAuth o rs k n, (r.type != 2) = true ∧ (r.type != 15) = true ∧ r.data.length ≤ 3000
  alen : (stepAns o rs k n).length ≤ 4000
  blen : (stepAuth o rs k n).length ≤ 4000

/-- an answer in memory. -/
def AnsAt (w : World) (rb : Nat) (c0 c1 c2 c3 c4 : Value) : Prop := w.heap[rb]? = some (.cells #[c0, c1, c2, c3, c4] 43)
theorem AnsAt.cells {w : World} {rb : Nat} {c0 c1 c2 c3 c4 : Value} (h : AnsAt w rb c0 c1 c2 c3 c4) : w.cell? ⟨rb, 0, none⟩ = some c0 ∧ w.cell? ⟨rb, 1, none⟩ = some c1 ∧ w.cell? ⟨rb, 2, none⟩ = some c2 ∧ w.cell? ⟨rb, 3, none⟩ = some c3 ∧ w.cell? ⟨rb, 4, none⟩ = some c4 := by
  unfold AnsAt at h
  refine ⟨?_, ?_, ?_, ?_, ?_⟩ <;> simp [World.cell?, h]
theorem AnsAt.frozen {w : World} {rb : Nat} {c0 c1 c2 c3 c4 : Value} (h : AnsAt w rb c0 c1 c2 c3 c4) (i : Nat) : w.frozen? ⟨rb, i, none⟩ = false := by
  unfold AnsAt at h; simp [World.frozen?, h]
theorem AnsAt.set0 {w : World} {rb : Nat} {c0 c1 c2 c3 c4 : Value} (h : AnsAt w rb c0 c1 c2 c3 c4) (x : Value) : AnsAt (w.setCell ⟨rb, 0, none⟩ x) rb x c1 c2 c3 c4 := by
  unfold AnsAt at *; simp only [World.setCell]; rw [Array.getElem?_modify, if_pos rfl, h]; rfl
theorem AnsAt.set1 {w : World} {rb : Nat} {c0 c1 c2 c3 c4 : Value} (h : AnsAt w rb c0 c1 c2 c3 c4) (x : Value) : AnsAt (w.setCell ⟨rb, 1, none⟩ x) rb c0 x c2 c3 c4 := by
  unfold AnsAt at *; simp only [World.setCell]; rw [Array.getElem?_modify, if_pos rfl, h]; rfl
theorem AnsAt.set2 {w : World} {rb : Nat} {c0 c1 c2 c3 c4 : Value} (h : AnsAt w rb c0 c1 c2 c3 c4) (x : Value) : AnsAt (w.setCell ⟨rb, 2, none⟩ x) rb c0 c1 x c3 c4 := by
  unfold AnsAt at *; simp only [World.setCell]; rw [Array.getElem?_modify, if_pos rfl, h]; rfl
theorem AnsAt.set3 {w : World} {rb : Nat} {c0 c1 c2 c3 c4 : Value} (h : AnsAt w rb c0 c1 c2 c3 c4) (x : Value) : AnsAt (w.setCell ⟨rb, 3, none⟩ x) rb c0 c1 c2 x c4 := by
  unfold AnsAt at *; simp only [World.setCell]; rw [Array.getElem?_modify, if_pos rfl, h]; rfl
theorem AnsAt.set4 {w : World} {rb : Nat} {c0 c1 c2 c3 c4 : Value} (h : AnsAt w rb c0 c1 c2 c3 c4) (x : Value) : AnsAt (w.setCell ⟨rb, 4, none⟩ x) rb c0 c1 c2 c3 x := by
  unfold AnsAt at *; simp only [World.setCell]; rw [Array.getElem?_modify, if_pos rfl, h]; rfl

namespace Lj
open Ka Kd Rf Rg Ia Iow Ie Zb Zc Za La Lb Re Lc Le Lf Lg Lh Li Ld

set_option maxHeartbeats 800000 in
theorem follow_plain (sb zb cb c b off cap : Nat) (k : Int) (au : Bool) (va vb vc : Value) (o n : Str) (rs : List Rec) (w : World) (hs : SearchAt w sb zb k 0 au va vb vc cb) (hva : va = .slice none 0 0) (hvb : vb = .slice none 0 0)
    (hz : TableAt w zb o b off cap rs) (hg : G w) (hzs : zb < sb) (hbs : b < sb) (h0 : 0 < sb) (hc : CancelAt w cb c false) (hp : Plain o n rs k) :
    Calls Tryz.prog 100 #[.pointer (some ⟨sb, 0, none⟩), .string (B n)] w fun e w' => e = .returned (.bool true) ∧ (∃ va' vb', SearchAt w' sb zb k (stepRc o rs n) au va' vb' vc cb ∧ OwnR w' (sb + 1) va' (stepAns o rs k n) ∧ OwnR w' (sb + 1) vb' (stepAuth o rs k n)) ∧ Below sb w w' := by
  have HST := hide (step_plain sb zb cb b off cap k au va vb vc o n rs [] w hs (by subst hva; exact World.ownsRow_nil _ _ _ _) hvb hz hg hzs hbs h0 hp.fit hp.len (by simp) hp.soa hp.ne5 hp.ne255 hp.alias hp.mlen)
  have HAS := hide (asked_any cb c false w hc)
  obtain ⟨s0, s1, s2, s3, s4, s5, s6, s7⟩ := hs.cells
  clear hs hz hg hc hp s0 s1 s2 s3 s4 s5 s6
  go_enter Tryz.func100, Tryz.ntmps100
  go_wp2_with fail
  go_loopw [1, 5] (fun nm mr wr => (nm = .string (B n) ∧ mr = .bool true ∧ wr = w) ∨ (mr = .bool false ∧ (∃ va' vb', SearchAt wr sb zb k (stepRc o rs n) au va' vb' vc cb ∧ OwnR wr (sb + 1) va' (stepAns o rs k n) ∧ OwnR wr (sb + 1) vb' (stepAuth o rs k n)) ∧ Below sb w wr)) (fun _ mr _ => boolN mr)
  case atStart => exact .inl ⟨rfl, rfl, rfl⟩
  case round =>
    rcases hrel with ⟨rfl, rfl, rfl⟩ | ⟨rfl, hpost⟩
    · go_wp2_with fail
      refine (unhide HAS).mono ?_
      rintro e w ⟨rfl, rfl⟩
      go_wp2_with fail
      refine (unhide HST).mono ?_
      rintro e w1 ⟨rfl, hpost⟩
      rw [List.nil_append] at hpost
      have HP := hide hpost
      clear hpost
      go_wp2_with fail
      go_roundw
      case rel => exact .inr ⟨rfl, unhide HP⟩
      case measure => simp [boolN]
    · have HP := hide hpost
      clear hpost
      go_wp2_with fail
      go_ret
      exact ⟨rfl, unhide HP⟩

set_option maxRecDepth 100000 in
set_option maxHeartbeats 1600000 in
theorem answer_plain (zb b off cap : Nat) (k : Int) (o n : Str) (rs : List Rec) (w : World) (hz : TableAt w zb o b off cap rs) (hg : G w) (hp : Plain o n rs k) :
    Calls Tryz.prog 51 #[.pointer (some ⟨zb, 0, none⟩), .string (B n), .int .i64 k] w fun e w' =>
      (∃ va vb, e = .returned (.agg #[.int .i64 (stepRc o rs n), .bool (decide ((cutP o rs n).length = 0)), va, vb, .slice none 0 0]) ∧ OwnR w' w.heap.size va (stepAns o rs k n) ∧ OwnR w' w.heap.size vb (stepAuth o rs k n)) ∧ Below w.heap.size w w' := by
  have hzb := hz.1
  have hblt := hz.2.2.2.2.1
  have hz0 := hz.2.1
  have hg0 := hg.1
  have HZ := hide hz
  have HG := hide hg
  have HP := hide hp
  have hu := hp.under
  have hol := hp.fit.2.1
  have hnl := hp.len
  have hlen := hp.fit.1
  have hbx : Below w.heap.size w (w.alloc (.cells #[.int .i64 0, .bool false, .slice none 0 0, .slice none 0 0, .slice none 0 0] 43)) := (Below.refl _ _).alloc (Nat.le_refl _) _
  have HU : Hid (∀ W, Calls Tryz.prog 83 #[.string (B n), .string (B o)] W fun e w' => e = .returned (.bool true) ∧ w' = W) := fun W => by
    have := under_any (B n) (B o) W (by rw [size_B]; omega) (by rw [size_B]; omega)
    rw [data_B, data_B, hu] at this
    exact this
  clear hz hg hp hu
  go_enter Tryz.func51, Tryz.ntmps51
  go_wp2_with fail
  refine (unhide HU _).mono ?_
  rintro e w1 ⟨rfl, hw1⟩
  have hb1 : Below w.heap.size w w1 := by rw [hw1]; exact hbx
  have r1 : w1.heap[w.heap.size]? = some (.cells #[.int .i64 0, .bool false, .slice none 0 0, .slice none 0 0, .slice none 0 0] 43) := by rw [hw1]; exact heap_alloc_new w _
  clear hw1 hbx HU
  go_wp2_with fail
  refine (newCancel_any w1).mono ?_
  rintro e w2 ⟨cb, c, rfl, hc2, hcb, hcc, hne, hb2⟩
  have HC2 := hide hc2
  have hcl := hc2.lt
  have hcbl := hc2.1
  have hb12 := hb1.trans (hb2.mono hb1.size)
  have r2 := (hb2.block w.heap.size (Array.getElem?_eq_some_iff.1 r1).1).trans r1
  clear hc2 r1
  go_wp2_with fail
  have hb3 : Below w2.heap.size w2 (w2.alloc (.cells #[.pointer (some ⟨zb, 0, none⟩), .int .i64 k, .int .i64 0, .bool false, .slice none 0 0, .slice none 0 0, .slice none 0 0, .pointer (some ⟨cb, 0, none⟩)] 158)) := (Below.refl _ _).alloc (Nat.le_refl _) _
  have S3 : SearchAt (w2.alloc (.cells #[.pointer (some ⟨zb, 0, none⟩), .int .i64 k, .int .i64 0, .bool false, .slice none 0 0, .slice none 0 0, .slice none 0 0, .pointer (some ⟨cb, 0, none⟩)] 158)) w2.heap.size zb k 0 false (.slice none 0 0) (.slice none 0 0) (.slice none 0 0) cb := heap_alloc_new w2 _
  have hs2 := hb2.size
  have hs1 := hb1.size
  refine (cutOver_any zb b off cap o n rs _ (((unhide HZ).below hb12).below hb3) (((unhide HG).below hb12).below hb3) hlen (by omega) hol).mono ?_
  rintro e w4 ⟨⟨v4, rfl, hv4⟩, hb4⟩
  obtain ⟨a4, c4, rfl⟩ := hv4.slice
  have S4 := S3.kept (hb4.block w2.heap.size (by simp))
  have hb24 : Below w2.heap.size w2 w4 := hb3.trans (hb4.mono (by simp <;> omega))
  have hs4 : w2.heap.size < w4.heap.size := S4.lt
  clear S3 hv4 hb3 hb4
  obtain ⟨x0, x1, x2, x3, x4, x5, x6, x7⟩ := S4.cells
  have xf := S4.frozen 3
  have H4 := hide S4
  clear S4 x0 x1 x2 x4 x5 x6 x7
  obtain ⟨au, hcI, hau⟩ : ∃ au : Bool, (((cutP o rs n).length : Int) == 0) = au ∧ decide ((cutP o rs n).length = 0) = au := ⟨_, rfl, by
    by_cases h : (cutP o rs n).length = 0
    · rw [h]; rfl
    · rw [decide_eq_false h, eq_comm, beq_eq_false_iff_ne]; omega⟩
  have HAU := hide hau
  clear hau
  have S5 := (unhide H4).set3 au
  have hb45 : Below w2.heap.size w2 (w4.setCell ⟨w2.heap.size, 3, none⟩ (.bool au)) := hb24.setCell (p := ⟨w2.heap.size, 3, none⟩) (Nat.le_refl _) _
  have hs5 : (w4.setCell ⟨w2.heap.size, 3, none⟩ (.bool au)).heap.size = w4.heap.size := by simp [World.setCell]
  have HF := hide (follow_plain w2.heap.size zb cb c b off cap k au _ _ _ o n rs _ S5 rfl rfl ((unhide HZ).below (hb12.trans (hb45.mono hb12.size))) ((unhide HG).below (hb12.trans (hb45.mono hb12.size))) (by omega) (by omega) (by omega) ((unhide HC2).below hb45 hcbl hcl) (unhide HP))
  clear S5 H4
  go_wp2_with fail
  refine (unhide HF).mono ?_
  rintro e w6 ⟨rfl, ⟨va, vb, hs6, hov, hrv⟩, hb6⟩
  have hB6 : Below w2.heap.size w2 w6 := hb45.trans hb6
  have r6 := (hB6.block w.heap.size (by omega)).trans r2
  obtain ⟨y0, y1, y2, y3, y4, y5, y6, y7⟩ := hs6.cells
  obtain ⟨aa, ca, rfl⟩ := hov.slice
  obtain ⟨ab, cb', rfl⟩ := hrv.slice
  have HAD := hide (additional_plain zb (stepRc o rs n) au _ _ (.slice none 0 0) _ _ w6 hov.rv hrv.rv (unhide HP).alen (unhide HP).blen (unhide HP).names)
  have HS6 := hide hs6
  have HOV := hide hov
  have HRV := hide hrv
  have hs6l := hs6.lt
  clear HF hs6 hov hrv
  go_wp2_with fail
  refine (unhide HAD).mono ?_
  rintro e w7 ⟨rfl, hb7⟩
  have hs7 := (unhide HS6).kept (hb7.block w2.heap.size hs6l)
  obtain ⟨z0, z1, z2, z3, z4, z5, z6, z7⟩ := hs7.cells
  have zf := hs7.frozen 6
  have hs8 := hs7.set6 (.slice none 0 0)
  obtain ⟨p0, p1, p2, p3, p4, p5, p6, p7⟩ := hs8.cells
  have r7 := (hb7.block w.heap.size (by have := hb6.size; rw [hs5] at this; omega)).trans r6
  have hRV7 := hide (And.intro ((unhide HOV).below hb7) ((unhide HRV).below hb7))
  obtain ⟨k0, k1, k2, k3, k4⟩ := AnsAt.cells r7
  have kf0 := AnsAt.frozen r7 0
  have kf1 := AnsAt.frozen r7 1
  have kf2 := AnsAt.frozen r7 2
  have kf3 := AnsAt.frozen r7 3
  have kf4 := AnsAt.frozen r7 4
  clear hs7 hs8 y0 y1 y2 y3 y4 y5 y6 y7 x3 xf r2 r6
  go_wp2_with fail
  have A9 := ((((AnsAt.set0 (show AnsAt (w7.setCell ⟨w2.heap.size, 6, none⟩ (.slice none 0 0)) w.heap.size _ _ _ _ _ from (Below.heap_setCell _ _ _ _ (by show w.heap.size ≠ w2.heap.size; omega)).trans r7) (.int .i64 (stepRc o rs n))).set1 (.bool au)).set2 (.slice aa (stepAns o rs k n).length ca)).set3 (.slice ab (stepAuth o rs k n).length cb')).set4 (.slice none 0 0)
  obtain ⟨n0, n1, n2, n3, n4⟩ := A9.cells
  have hB7 : Below w2.heap.size w2 w7 := hB6.trans (hb7.mono (by omega))
  have hrvs := unhide hRV7
  refine bodyPost_ret (v := .agg #[.int .i64 (stepRc o rs n), .bool au, .slice aa (stepAns o rs k n).length ca, .slice ab (stepAuth o rs k n).length cb', .slice none 0 0]) ?_ rfl ?_
  · simp [results, Tryz.results51, go_sem, n0, n1, n2, n3, n4]
  · refine ⟨⟨_, _, by rw [unhide HAU], ?_, ?_⟩, ?_⟩
    · exact (((((((hrvs.1.set_low (k := w2.heap.size) (i := 6) (by omega) _).set_low (k := w.heap.size) (i := 0) (by omega) _).set_low (k := w.heap.size) (i := 1) (by omega) _).set_low (k := w.heap.size) (i := 2) (by omega) _).set_low (k := w.heap.size) (i := 3) (by omega) _).set_low (k := w.heap.size) (i := 4) (by omega) _)).base (by omega)
    · exact (((((((hrvs.2.set_low (k := w2.heap.size) (i := 6) (by omega) _).set_low (k := w.heap.size) (i := 0) (by omega) _).set_low (k := w.heap.size) (i := 1) (by omega) _).set_low (k := w.heap.size) (i := 2) (by omega) _).set_low (k := w.heap.size) (i := 3) (by omega) _).set_low (k := w.heap.size) (i := 4) (by omega) _)).base (by omega)
    · have h7 := hb12.trans (hB7.mono hb12.size)
      exact (((((h7.setCell (p := ⟨w2.heap.size, 6, none⟩) (by show w.heap.size ≤ w2.heap.size; omega) _).setCell (p := ⟨w.heap.size, 0, none⟩) (Nat.le_refl _) _).setCell (p := ⟨w.heap.size, 1, none⟩) (Nat.le_refl _) _).setCell (p := ⟨w.heap.size, 2, none⟩) (Nat.le_refl _) _).setCell (p := ⟨w.heap.size, 3, none⟩) (Nat.le_refl _) _).setCell (p := ⟨w.heap.size, 4, none⟩) (Nat.le_refl _) _
end Lj
end Go.Proofs.YtjkllohiodfikaaGreatDoor
