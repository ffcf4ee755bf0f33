/- wire.Reply at Carried's and Served's questions. -/
import Derived.Test.YtkkpahmoljiepaaGreatDoorJ30
import Derived.Test.YtkkpahmoljiepaaGreatDoorJ31
import Derived.Test.YtkkpahmoljiepaaGreatDoorJMh
import Derived.Test.YtkkpahmoljiepaaGreatDoorJ27
import Derived.Test.YtkkpahmoljiepaaGreatDoorJ28
import Derived.Test.YtkkpahmoljiepaaGreatDoorJ17
import Derived.Test.YtkkpahmoljiepaaGreatDoorJ01
import Derived.WalkKit
import Derived.ProofKit
import Derived.OpenShut
import Derived.HandedShaped
import Derived.Lay
import Derived.Stop.Joined
import Derived.MakeChecks
import Derived.Shelf.Vars
set_option linter.unusedSimpArgs false
set_option linter.unusedVariables false
namespace Go.Proofs.YtkkpahmoljiepaaGreatDoor
open Go.RowKit
open Pu (Str hide unhide)

namespace Mq
open Ka Kd Rf Rg Ia Iow Ie Zb Zc Za La Lb Lc Lg Lj Wa Wb Wc Wd We Wf Wg Wh Wi Wj Wk Wl Wm Wn Wo Wp Wq Ws Wt Wu Wv Wx Wy Wz Xb Vd Ma Mb Mc Md Me Mf Mg Mh Mi Mj Mk Ml Mm Mn Mo Mpp Re
open Va (hostN recN dataN IsK)
open Ta (zz)

theorem bits0 : bits .or .i64 (turnedP 256 0) 1024 = ((34048 : Nat) : Int) := by kernel_rfl
theorem bits3 : bits .or .i64 (turnedP 256 3) 1024 = ((34051 : Nat) : Int) := by kernel_rfl
/-- a question with an OPT that tells 700. -/
def askO (i : Nat) (d : UInt8) : Str := [hi i, lo i, 1, 0, 0, 1, 0, 0, 0, 0, 0, 1] ++ qC d ++ [0, 0, 41, 2, 188, 0, 0, 0, 0, 0, 0]
theorem hdr_askO (i : Nat) (d : UInt8) (h : i < 65536) : hdrP (askO i d) = ([i, 256, 1, 0, 0, 1], true) := by
  have := hilo i h
  simp [hdrP, cntP, shortP, octP, askO, this]
/-- what is told. -/
def tellY (i : Nat) (d : UInt8) : Str := outs (hdrFs i 34048 1 1 0 1) ++ (qC d ++ [192, 12, 0, 1, 0, 1, 0, 0, 0, d - 48, 0, 4, 10, 0, d - 48, 7] ++ optS 0)
def tellN (i : Nat) (d : UInt8) : Str := outs (hdrFs i 34051 1 0 1 1) ++ (qC d ++ soaOut ++ optS 0)

def optIn : Str := [0, 0, 41, 2, 188, 0, 0, 0, 0, 0, 0]
theorem lab_askO (i : Nat) (d : UInt8) : labP ((askO i d).drop 12) false = ([[104, d], [122, 122]], [0, 1, 0, 1] ++ optIn, false) := rfl
theorem sh1O : shortP ([0, 1, 0, 1] ++ optIn) false = (1, [0, 1] ++ optIn, false) := rfl
theorem sh2O : shortP ([0, 1] ++ optIn) false = (1, optIn, false) := rfl
theorem queryO (i : Nat) (d : UInt8) (hd : foldL [104, d] = [104, d]) (W : World) : Calls Tryz.prog 72 #[.agg #[.int .i64 i, .int .i64 256, .int .i64 1, .int .i64 0, .int .i64 0, .int .i64 1], .string (B (askO i d))] W fun e w' => e = .returned (.tuple #[qVal i 256 1 0 0 1 (qC d) (hostN d) 1 1 true 700 0, .bool true]) ∧ Below W.heap.size W w' := by
  have := readQuery_opt i 256 (askO i d) W (by simp [askO, qC]) (by simp [askO, qC]) (lab_askO i d) sh1O sh2O (x4 := 0) (z := 700) (ve := 0) (nn := 0) (t1 := [0, 41, 2, 188, 0, 0, 0, 0, 0, 0]) (t2 := [2, 188, 0, 0, 0, 0, 0, 0]) (t3 := [0, 0, 0, 0, 0, 0]) (t4 := [0, 0, 0, 0, 0]) (t5 := [0, 0, 0, 0]) (t6 := [0, 0]) (t7 := []) (t8 := []) (b1 := false) (b2 := false) (b3 := false) (b4 := false) (b5 := false) (b6 := false) (b7 := false) (b8 := false) rfl rfl rfl rfl rfl rfl rfl rfl (by omega)
  rw [name2 (d := d) hd rfl, show ((askO i d).drop 12).take (((askO i d).drop 12).length - optIn.length) = qC d from rfl] at this
  exact this

set_option maxHeartbeats 800000 in
theorem replyY (zb g cap i : Nat) (d : UInt8) (hd : d = 49 ∨ d = 50) (hi' : i < 65536) (w : World) (hz : TableAt w zb zz g 0 cap recsC) (hg : G w) :
    Calls Tryz.prog 27 #[.pointer (some ⟨zb, 0, none⟩), .string (B (askO i d))] w fun e w' => e = .returned (.string (B (tellY i d))) ∧ Below w.heap.size w w' := by
  have hk : IsK d := by rcases hd with rfl | rfl <;> simp [IsK]
  refine reply_glue zb i 1 700 0 true (askO i d) (qC d) (hostN d) [recN d] [] (tellY i d) w hg (by simp [askO, qC]) ?_ ?_ ?_ ?_
  · have := readHeader_any (askO i d) w (by simp [askO, qC])
    rw [hdr_askO i d hi'] at this
    exact this
  · intro W
    exact queryO i d (by rcases hd with rfl | rfl <;> rfl) W
  · intro W hb
    have hp : Plain zz (hostN d) recsC 1 := by
      rcases hd with rfl | rfl
      · exact plainC1
      · exact plainC2
    have := qanswer_opt zb g 0 cap 1 zz (hostN d) (qC d) i 256 1 0 0 1 700 recsC W (hz.below hb) (hg.below hb) hp (by decide) (by decide) (by decide)
    rcases hd with rfl | rfl
    · rw [rcC1, ansC1, authC1, cutC1] at this; exact this
    · rw [rcC2, ansC2, authC2, cutC2] at this; exact this
  · intro W va vb hG ha hb
    obtain ⟨ba, oa, La, Ra⟩ := rv_lies ha hG
    obtain ⟨bb, ob, Lb, Rb⟩ := rv_lies hb hG
    have := reply_opt i 34048 ba oa bb ob 256 1 0 0 1 1 0 (qC d) (hostN d) va vb [recN d] [] (dfC d) 700 0 700 (optS 0) (List.replicate 12 0 ++ qC d ++ [192, 12, 0, 1, 0, 1, 0, 0, 0, d - 48, 0, 4, 10, 0, d - 48, 7], plcs 12 (hostN d)) (List.replicate 12 0 ++ qC d ++ [192, 12, 0, 1, 0, 1, 0, 0, 0, d - 48, 0, 4, 10, 0, d - 48, 7], plcs 12 (hostN d)) W hG La Ra (by simp) Lb Rb (by simp) hi' (by omega) bits0 (by simp [hostN]) (by simp [qC])
      (fun r hr => by simp at hr; subst hr; exact rr_rec hk) (fun r hr => by cases hr) (step_rec hk) rfl (fun W hG => last_opt0 _ _ _ _ _ _ _ _ _ _ _ _ W hG) (fun W => limit_opt _ _ _ _ _ _ _ _ _ _ _ _ W) (by simp [optS]) (by omega) (by simp [qC, optS]) ?_
    · refine this.mono ?_
      rintro e w' ⟨rfl, h⟩
      refine ⟨?_, h⟩
      rfl
    · rcases hk with rfl | rfl | rfl <;> decide

set_option maxHeartbeats 800000 in
theorem replyN (zb g cap i : Nat) (d : UInt8) (hd : d = 51) (hi' : i < 65536) (w : World) (hz : TableAt w zb zz g 0 cap recsC) (hg : G w) :
    Calls Tryz.prog 27 #[.pointer (some ⟨zb, 0, none⟩), .string (B (askO i d))] w fun e w' => e = .returned (.string (B (tellN i d))) ∧ Below w.heap.size w w' := by
  refine reply_glue zb i 1 700 3 true (askO i d) (qC d) (hostN d) [] [soaR] (tellN i d) w hg (by simp [askO, qC]) ?_ ?_ ?_ ?_
  · have := readHeader_any (askO i d) w (by simp [askO, qC])
    rw [hdr_askO i d hi'] at this
    exact this
  · intro W
    exact queryO i d (by subst hd; rfl) W
  · intro W hb
    have hp : Plain zz (hostN d) recsC 1 := by subst hd; exact plainC3
    have := qanswer_opt zb g 0 cap 1 zz (hostN d) (qC d) i 256 1 0 0 1 700 recsC W (hz.below hb) (hg.below hb) hp (by decide) (by decide) (by decide)
    subst hd
    rw [rcC3, ansC3, authC3, cutC3] at this; exact this
  · intro W va vb hG ha hb
    obtain ⟨ba, oa, La, Ra⟩ := rv_lies ha hG
    obtain ⟨bb, ob, Lb, Rb⟩ := rv_lies hb hG
    have := reply_opt i 34051 ba oa bb ob 256 1 0 0 1 1 3 (qC d) (hostN d) va vb [] [soaR] (dfC d) 700 0 700 (optS 0) (List.replicate 12 0 ++ qC d, plcs 12 (hostN d)) (List.replicate 12 0 ++ qC d ++ soaOut, plcs 12 (hostN d) ++ [([97, 46, 122, 122], 35), ([98, 46, 122, 122], 39)]) W hG La Ra (by simp) Lb Rb (by simp) hi' (by omega) bits3 (by simp [hostN]) (by simp [qC])
      (fun r hr => by cases hr) (fun r hr => by simp at hr; subst hr; exact rr_soa d) rfl (step_soa (.inl hd)) (fun W hG => last_opt3 _ _ _ _ _ _ _ _ _ _ _ _ W hG) (fun W => limit_opt _ _ _ _ _ _ _ _ _ _ _ _ W) (by simp [optS]) (by omega) (by simp [qC, optS, soaOut]) ?_
    · refine this.mono ?_
      rintro e w' ⟨rfl, h⟩
      refine ⟨?_, h⟩
      rfl
    · subst hd; decide

/-- what is told of a name that is not there, without an OPT. -/
def tell4 (i : Nat) (d : UInt8) : Str := outs (hdrFs i 34051 1 0 1 0) ++ (qC d ++ soaOut ++ [])
set_option maxHeartbeats 800000 in
theorem reply4 (zb g cap i : Nat) (d : UInt8) (hd : d = 52) (hi' : i < 65536) (w : World) (hz : TableAt w zb zz g 0 cap Va.recs) (hg : G w) :
    Calls Tryz.prog 27 #[.pointer (some ⟨zb, 0, none⟩), .string (B (asks i (qC d)))] w fun e w' => e = .returned (.string (B (tell4 i d))) ∧ Below w.heap.size w w' := by
  refine reply_glue zb i 0 0 3 false (asks i (qC d)) (qC d) (hostN d) [] [soaR] (tell4 i d) w hg (by simp [asks, qC]) ?_ ?_ ?_ ?_
  · have := readHeader_any (asks i (qC d)) w (by simp [asks, qC])
    rw [hdr_asks i (qC d) hi'] at this
    exact this
  · intro W
    have := readQuery_plain i 256 (asks i (qC d)) W (by simp [asks, qC]) (by simp [asks, qC]) (ls := [[104, d], [122, 122]]) (s1 := [0, 1, 0, 1]) (br1 := false) rfl sh1 sh2
    rw [name2 (d := d) (by subst hd; rfl) rfl, show ((asks i (qC d)).drop 12).take (((asks i (qC d)).drop 12).length - ([] : Str).length) = qC d from rfl] at this
    exact this
  · intro W hb
    have hp : Plain zz (hostN d) Va.recs 1 := by subst hd; exact plainT4
    have := qanswer_plain zb g 0 cap 1 zz (hostN d) (qC d) i 256 1 0 0 0 Va.recs W (hz.below hb) (hg.below hb) hp (by decide) (by decide) (by decide)
    subst hd
    rw [rcT4, ansT4, authT4, cutT4] at this; exact this
  · intro W va vb hG ha hb
    obtain ⟨ba, oa, La, Ra⟩ := rv_lies ha hG
    obtain ⟨bb, ob, Lb, Rb⟩ := rv_lies hb hG
    have := reply_no i 34051 ba oa bb ob 256 1 0 0 0 1 3 (qC d) (hostN d) va vb [] [soaR] (dfC d) 0 0 512 [] (List.replicate 12 0 ++ qC d, plcs 12 (hostN d)) (List.replicate 12 0 ++ qC d ++ soaOut, plcs 12 (hostN d) ++ [([97, 46, 122, 122], 35), ([98, 46, 122, 122], 39)]) W hG La Ra (by simp) Lb Rb (by simp) hi' (by omega) bits3 (by simp [hostN]) (by simp [qC])
      (fun r hr => by cases hr) (fun r hr => by simp at hr; subst hr; exact rr_soa d) rfl (step_soa (.inr hd)) (fun W _ => last_plain _ _ _ _ _ _ _ _ _ _ _ _ _ W) (fun W => limit_plain _ _ _ _ _ _ _ _ _ _ _ _ W) (by simp) (by omega) (by simp [qC, soaOut]) ?_
    · refine this.mono ?_
      rintro e w' ⟨rfl, h⟩
      refine ⟨?_, h⟩
      rfl
    · subst hd; decide
end Mq
end Go.Proofs.YtkkpahmoljiepaaGreatDoor

/- Contracts: beaconkeep's made at Carried's lines, query with an OPT of 700, frame, right. -/
namespace Go.Proofs.YtkkpahmoljiepaaGreatDoor
open Go.RowKit
open Pu (Str hide unhide)

namespace Hj
open Ka Kc Kd Wa Wb Wd We Wi Wl Wm Lc Lj Vb Vc Vd Xb Xc Ha Hb
open Ta (headS zz)
open Mo (linesC recsC recs0C)

theorem fit0C : Fit zz recs0C := by
  refine ⟨by decide, by decide, ?_⟩
  intro r hr
  simp only [recs0C, List.mem_cons, List.mem_nil_iff, or_false] at hr
  rcases hr with rfl | rfl | rfl | rfl <;> decide

set_option maxRecDepth 100000 in
set_option maxHeartbeats 800000 in
theorem made_carried (s : ByteArray) (hd : s.data.toList = linesC) (w : World) (hg : G w) :
    Calls Tryz.prog 22 #[.string s] w fun e w' => ∃ zb g cap, e = .returned (.pointer (some ⟨zb, 0, none⟩)) ∧ TableAt w' zb zz g 0 cap recsC ∧ Below w.heap.size w w' := by
  have hss : s.size = 38 := by rw [← Pu.len_eq, hd]; decide
  obtain ⟨hB, hhB⟩ : ∃ hB : ByteArray, hB = ⟨headS.toArray⟩ := ⟨_, rfl⟩
  have hhs : hB.size = 49 := by rw [hhB]; rfl
  have e1 : (hB ++ s).data.toList = headS ++ linesC := by rw [hhB, ← hd]; simp
  have e2 : (hB ++ s ++ ⟨#[10]⟩).data.toList = headS ++ linesC ++ [10] := by
    rw [show (hB ++ s ++ ⟨#[10]⟩ : ByteArray).data.toList = (hB ++ s).data.toList ++ [10] by simp, e1]
  have HP1 := hide (Pa.parse_any (hB ++ s) w hg (by simp; omega) (by
    rw [e1, Mo.read1]
    rintro o rs ⟨⟩
    exact ⟨by decide, fit0C⟩))
  have HP2 := hide (fun W (hb : Below w.heap.size w W) => Pa.parse_any (hB ++ s ++ ⟨#[10]⟩) W (hg.below hb) (by have h1 : (⟨#[10]⟩ : ByteArray).size = 1 := rfl; simp; omega) (by
    rw [e2, Mo.read2]
    rintro o rs ⟨⟩))
  rw [e1, Mo.parse1] at HP1
  rw [e2, Mo.parse2] at HP2
  clear e1 e2 hd hg
  have hhd : (⟨#[111, 114, 105, 103, 105, 110, 32, 122, 122, 10, 122, 122, 32, 53, 48, 32, 83, 79, 65, 32, 97, 46, 122, 122, 32, 98, 46, 122, 122, 32, 57, 32, 52, 48, 10, 122, 122, 32, 53, 48, 32, 78, 83, 32, 97, 46, 122, 122, 10]⟩ : ByteArray) = hB := by rw [hhB]; rfl
  clear hhB
  go_enter Tryz.func22, Tryz.ntmps22
  go_wp2_with fail
  refine (unhide HP1).mono ?_
  rintro e w1 ⟨⟨zb, g, cap, rfl, hzb, hgb, ht1⟩, hb1⟩
  have HT1 := hide ht1
  clear ht1
  go_wp2_with fail
  refine (unhide HP2 w1 hb1).mono ?_
  rintro e w2 ⟨he, hb2⟩
  obtain rfl : e = .returned (.tuple #[.pointer none, .int .i64 1]) := he
  go_wp2_with fail
  go_ret
  exact ⟨zb, g, cap, rfl, (unhide HT1).below hb2, hb1.trans (hb2.mono hb1.size)⟩

/-- a message that asks a question, with an OPT that tells 700. -/
def askQ (i : Nat) (q : Str) : Str := [hi i, lo i, 1, 0, 0, 1, 0, 0, 0, 0, 0, 1] ++ q ++ [0, 0, 41, 2, 188, 0, 0, 0, 0, 0, 0]

set_option maxHeartbeats 800000 in
theorem query_700 (i : Nat) (q : Str) (w : World) (hi' : i < 65536) (hq : q.length ≤ 1000) :
    Calls Tryz.prog 31 #[.int .i64 i, .string (B q), .int .i64 700] w fun e w' => e = .returned (.string (B (askQ i q))) ∧ Below w.heap.size w w' := by
  have sq : (B q).size = q.length := size_B q
  have HT := hide (fun W => two_any i W hi')
  have H7 : Hid (∀ W, Calls Tryz.prog 33 #[.int .i64 700] W fun e w' => e = .returned (.string ⟨#[2, 188]⟩) ∧ Below W.heap.size W w') := fun W => two_any 700 W (by omega)
  have H1 : Hid (∀ W, Calls Tryz.prog 33 #[.int .i64 1] W fun e w' => e = .returned (.string ⟨#[0, 1]⟩) ∧ Below W.heap.size W w') := fun W => two_any 1 W (by omega)
  go_enter Tryz.func31, Tryz.ntmps31
  go_wp2_with fail
  refine (unhide H7 _).mono ?_
  rintro e w2 ⟨rfl, hb2⟩
  go_wp2_with fail
  refine (unhide HT _).mono ?_
  rintro e w3 ⟨rfl, hb3⟩
  have hB3 := hb2.trans (hb3.mono hb2.size)
  have st : (B [hi i, lo i]).size = 2 := rfl
  clear hb2 hb3
  go_wp2_with fail
  refine (unhide H1 _).mono ?_
  rintro e w4 ⟨rfl, hb4⟩
  have hB4 := hide (hB3.trans (hb4.mono hB3.size))
  clear hB3 hb4
  go_wp2_with fail
  go_ret
  refine ⟨?_, unhide hB4⟩
  exact congrArg (fun x => Ending.returned (.string x)) (ba_ext (by simp [B, askQ]))
end Hj
end Go.Proofs.YtkkpahmoljiepaaGreatDoor

/- The statement's function: beaconkeep.Carried. -/
namespace Go.Proofs.YtkkpahmoljiepaaGreatDoor
open Go.RowKit
open Pu (Str hide unhide)

namespace Hn
open Ka Kc Kd Wa Wb Wd We Wi Wl Wm Lc Lj Vb Vc Vd Xb Xc Xd Ha Hb Hc He Hg Hh Hj Hk Hm
open Ta (headS zz)
open Va (lineS)
open Mo (linesC recsC)
open Mpp (qC)
open Mq (askO tellY tellN replyY replyN)

theorem reply_c (zb g cap i n : Nat) (n0 : 0 < n) (n4 : n < 4) (hi' : i < 65536) : ∃ tell : Str, tell ≠ [] ∧ tell.length ≤ 1000 ∧ ∀ w, TableAt w zb zz g 0 cap recsC → G w →
    Calls Tryz.prog 27 #[.pointer (some ⟨zb, 0, none⟩), .string (B (askO i (dg n)))] w fun e w' => e = .returned (.string (B tell)) ∧ Below w.heap.size w w' := by
  by_cases h3 : n = 3
  · subst h3
    have hl : (tellN i 51).length = 74 := rfl
    exact ⟨tellN i 51, fun h => (by rw [h] at hl; simp at hl), by omega, fun w hz hg => replyN zb g cap i 51 rfl hi' w hz hg⟩
  · have hn : n = 1 ∨ n = 2 := by omega
    have hd : dg n = 49 ∨ dg n = 50 := by
      rcases hn with rfl | rfl
      · exact .inl rfl
      · exact .inr rfl
    have hl : (tellY i (dg n)).length = 50 := rfl
    exact ⟨tellY i (dg n), fun h => (by rw [h] at hl; simp at hl), by omega, fun w hz hg => replyY zb g cap i (dg n) hd hi' w hz hg⟩

/-- the places where a bit is turned. -/
def places : List Nat := [0, 1, 2, 3, 4, 5, 12, 13, 14, 15, 16, 17, 18, 19, 20, 21, 22, 23, 24, 25, 26, 27, 28, 29, 30, 31, 32, 33, 36, 37]
theorem places_ok : ∀ j (h : j < places.length), (places[j] < 6 ∨ (12 ≤ places[j] ∧ places[j] < 34) ∨ places[j] = 36 ∨ places[j] = 37) := by decide

/-- what lies in memory: the zone, the config. -/
structure Cs (w W : World) (zb g cap cb : Nat) : Prop where
  z : TableAt W zb zz g 0 cap recsC
  gg : G W
  c : BlkAt W cb [.string (B mine), .string (B ipMe)] 62
  below : Below w.heap.size w W
theorem Cs.next {w W W' : World} {zb g cap cb : Nat} (h : Cs w W zb g cap cb) (hb : Below W.heap.size W W') : Cs w W' zb g cap cb :=
  ⟨h.z.below hb, h.gg.below hb, h.c.below hb h.c.lt, h.below.trans (hb.mono h.below.size)⟩

set_option maxRecDepth 100000 in
set_option maxHeartbeats 6400000 in
theorem carried_any (id port k bad bit : Int) (w : World) (hg : G w) (h1 : -9223372036854775808 ≤ id) (h2 : id ≤ 9223372036854775807) (h3 : -9223372036854775808 ≤ port) (h4 : port ≤ 9223372036854775807) (h5 : -9223372036854775808 ≤ k) (h6 : k ≤ 9223372036854775807) (h7 : -9223372036854775808 ≤ bad) (h8 : bad ≤ 9223372036854775807) (h9 : -9223372036854775808 ≤ bit) (h10 : bit ≤ 9223372036854775807) :
    Calls Tryz.prog 10 #[.int .i64 id, .int .i64 port, .int .i64 k, .int .i64 bad, .int .i64 bit] w fun e w' => e = .returned (.bool true) ∧ Below w.heap.size w w' := by
  have HG := hide hg
  clear hg
  obtain ⟨i, hi, hil⟩ := pick_nat id 65536 (by decide)
  obtain ⟨p, hp, hpl⟩ := pick_nat port 65536 (by decide)
  obtain ⟨kk, hkk, hkl⟩ := pick_nat k 3 (by decide)
  obtain ⟨k2, hk2, hk2l⟩ := pick_nat k 2 (by decide)
  obtain ⟨j, hj, hjl⟩ := pick_nat bad 30 (by decide)
  obtain ⟨bb, hbb, hbl⟩ := pick_nat bit 8 (by decide)
  have HI : Hid (∀ W, Calls Tryz.prog 20 #[.int .i64 id, .int .i64 65536] W fun e w' => e = .returned (.int .i64 i) ∧ w' = W) := fun W => by
    have := pick_any id 65536 W h1 h2 (by decide) (by decide)
    rw [show Pu.pick id 65536 = (i : Int) from hi] at this; exact this
  have HPT : Hid (∀ W, Calls Tryz.prog 20 #[.int .i64 port, .int .i64 65536] W fun e w' => e = .returned (.int .i64 p) ∧ w' = W) := fun W => by
    have := pick_any port 65536 W h3 h4 (by decide) (by decide)
    rw [show Pu.pick port 65536 = (p : Int) from hp] at this; exact this
  have HK : Hid (∀ W, Calls Tryz.prog 20 #[.int .i64 k, .int .i64 3] W fun e w' => e = .returned (.int .i64 kk) ∧ w' = W) := fun W => by
    have := pick_any k 3 W h5 h6 (by decide) (by decide)
    rw [show Pu.pick k 3 = (kk : Int) from hkk] at this; exact this
  have HK2 : Hid (∀ W, Calls Tryz.prog 20 #[.int .i64 k, .int .i64 2] W fun e w' => e = .returned (.int .i64 k2) ∧ w' = W) := fun W => by
    have := pick_any k 2 W h5 h6 (by decide) (by decide)
    rw [show Pu.pick k 2 = (k2 : Int) from hk2] at this; exact this
  have HJ : Hid (∀ W, Calls Tryz.prog 20 #[.int .i64 bad, .int .i64 30] W fun e w' => e = .returned (.int .i64 j) ∧ w' = W) := fun W => by
    have := pick_any bad 30 W h7 h8 (by decide) (by decide)
    rw [show Pu.pick bad 30 = (j : Int) from hj] at this; exact this
  have HBT : Hid (∀ W, Calls Tryz.prog 20 #[.int .i64 bit, .int .i64 8] W fun e w' => e = .returned (.int .i64 bb) ∧ w' = W) := fun W => by
    have := pick_any bit 8 W h9 h10 (by decide) (by decide)
    rw [show Pu.pick bit 8 = (bb : Int) from hbb] at this; exact this
  have HJ2 : Hid (∀ n : Nat, 0 < n → n ≤ 1000 → ∃ x : Nat, x < n ∧ ∀ W, Calls Tryz.prog 20 #[.int .i64 bad, .int .i64 n] W fun e w' => e = .returned (.int .i64 x) ∧ w' = W) := fun n n0 n1 => by
    obtain ⟨x, hx, hxl⟩ := pick_nat bad n n0
    refine ⟨x, hxl, fun W => ?_⟩
    have := pick_any bad n W h7 h8 (by omega) (by omega)
    rw [hx] at this; exact this
  clear hi hp hkk hk2 hj hbb h1 h2 h3 h4 h5 h6 h7 h8 h9 h10
  have HL1 : Hid (∀ W, Calls Tryz.prog 23 #[.int .i64 1] W fun e w' => e = .returned (.string (B (lineS 49))) ∧ Below W.heap.size W w') := fun W => line_any 1 W (by omega) (by omega)
  have HL2 : Hid (∀ W, Calls Tryz.prog 23 #[.int .i64 2] W fun e w' => e = .returned (.string (B (lineS 50))) ∧ Below W.heap.size W w') := fun W => line_any 2 W (by omega) (by omega)
  have z1 : (B (lineS 49)).size = 19 := rfl
  have z2 : (B (lineS 50)).size = 19 := rfl
  have hM : (B (lineS 49) ++ B (lineS 50)).data.toList = linesC := by simp [B, linesC]
  have HM := hide (made_carried _ hM)
  clear hM
  go_enter Tryz.func10, Tryz.ntmps10
  go_wp2_with fail
  refine (unhide HL1 _).mono ?_
  rintro e w1 ⟨rfl, hb1⟩
  generalize B (lineS 49) = L1 at *
  go_wp2_with fail
  refine (unhide HL2 _).mono ?_
  rintro e w2 ⟨rfl, hb2⟩
  generalize B (lineS 50) = L2 at *
  have hB2 : Below w.heap.size w w2 := hb1.trans (hb2.mono hb1.size)
  clear hb1 hb2
  go_wp2_with fail
  refine (unhide HM w2 ((unhide HG).below hB2)).mono ?_
  rintro e w4 ⟨zb, g, cap, rfl, hz4, hb4⟩
  have hB4 : Below w.heap.size w w4 := hB2.trans (hb4.mono hB2.size)
  have hs4 := hB4.size
  have HC0 : Hid (Cs w (w4.alloc (.cells #[.string ⟨#[2, 109, 121, 109, 97, 99]⟩, .string ⟨#[10, 0, 0, 1]⟩] 62)) zb g cap w4.heap.size) :=
    ⟨hz4.below ((Below.refl _ _).alloc (Nat.le_refl _) _), ((unhide HG).below hB4).alloc _, BlkAt.new w4 [.string (B mine), .string (B ipMe)] _, hB4.alloc hs4 _⟩
  clear hB2 hb4 hz4 hB4 HM HL1 HL2 z1 z2 HG
  go_wp2_with fail
  refine (unhide HPT _).mono ?_
  rintro e w5 ⟨rfl, hw5⟩
  rw [← hw5] at HC0
  clear hw5
  generalize w4.heap.size = cb at *
  go_wp2_with fail
  refine (unhide HI _).mono ?_
  rintro e w5 ⟨rfl, rfl⟩
  go_wp2_with fail
  refine (unhide HK _).mono ?_
  rintro e w5 ⟨rfl, rfl⟩
  obtain ⟨n, hn⟩ : ∃ n : Nat, n = 1 + kk := ⟨_, rfl⟩
  have hnI : (1 : Int) + (kk : Int) = (n : Int) := by omega
  have n0 : 0 < n := by omega
  have n4 : n < 4 := by omega
  have HH := hide (host_d n w5 (by omega))
  clear hn HK hkl HI HPT
  go_wp2_with fail
  refine (unhide HH).mono ?_
  rintro e w6 ⟨rfl, hb6⟩
  have hC6 := (unhide HC0).next hb6
  have HQ : Hid (Calls Tryz.prog 29 #[.slice (some ⟨w6.heap.size, 0, none⟩) 2 2, .int .i64 1] (w6.alloc (.cells #[.string (B [104, dg n]), .string ⟨#[122, 122]⟩] 9)) fun e w' => e = .returned (.string (B (quest [104, dg n] [122, 122] 1))) ∧ Below (w6.alloc (.cells #[.string (B [104, dg n]), .string ⟨#[122, 122]⟩] 9)).heap.size (w6.alloc (.cells #[.string (B [104, dg n]), .string ⟨#[122, 122]⟩] 9)) w') :=
    question_two w6.heap.size 1 [104, dg n] [122, 122] (w6.alloc (.cells #[.string (B [104, dg n]), .string ⟨#[122, 122]⟩] 9)) (by unfold World.cell?; rw [World.alloc_heap_new]; rfl) (by unfold World.cell?; rw [World.alloc_heap_new]; rfl) (by simp) (by simp) (by omega)
  have HC6 := hide (hC6.next ((Below.refl _ _).alloc (Nat.le_refl _) (.cells #[.string (B [104, dg n]), .string ⟨#[122, 122]⟩] 9)))
  clear hb6 HH HC0 hC6
  go_wp2_with fail
  refine (unhide HQ).mono ?_
  rintro e w7 ⟨rfl, hb7⟩
  have HC7 := hide ((unhide HC6).next hb7)
  clear hb7 HQ HC6
  have HQY := hide (query_700 i (quest [104, dg n] [122, 122] 1) w7 hil (by simp [quest]))
  rw [show askQ i (quest [104, dg n] [122, 122] 1) = askO i (dg n) from rfl] at HQY
  go_wp2_with fail
  refine (unhide HQY).mono ?_
  rintro e w8 ⟨rfl, hb8⟩
  have HC8 := hide ((unhide HC7).next hb8)
  clear hb8 HQY HC7
  obtain ⟨tell, ht0, htl, HR⟩ := reply_c zb g cap i n n0 n4 hil
  have HRE := hide HR
  clear HR
  have hml : (askO i (dg n)).length = 34 := by simp [askO, Mpp.qC]
  generalize askO i (dg n) = m at *
  go_wp2_with fail
  refine (unhide HK2 _).mono ?_
  rintro e w8 ⟨rfl, rfl⟩
  have HFR := hide (frame_any m p ((k2 : Int) == 0) w8 (by omega) hpl)
  have hfl : (frI m p ((k2 : Int) == 0)).length = 76 := by rw [frI_eq]; simp [mine, yours, ipH, ipA, ipYou, ipMe, dgI_len, hml]
  have HFL : Hid (∀ (W : World) (a b : Nat), b < 8 → (a < 6 ∨ (12 ≤ a ∧ a < 34) ∨ a = 36 ∨ a = 37) → Calls Tryz.prog 37 #[.pointer (some ⟨zb, 0, none⟩), .agg #[.string ⟨#[2, 109, 121, 109, 97, 99]⟩, .string ⟨#[10, 0, 0, 1]⟩], .string (B (flip (frI m p ((k2 : Int) == 0)) a b))] W fun e w' => e = .returned (.string ⟨#[]⟩) ∧ Below W.heap.size W w') := fun W a b hb ha => handle_flip m p _ _ W hml hpl a b hb ha
  have HSH : Hid (∀ (W : World) (x : Nat), x < 76 → Calls Tryz.prog 37 #[.pointer (some ⟨zb, 0, none⟩), .agg #[.string ⟨#[2, 109, 121, 109, 97, 99]⟩, .string ⟨#[10, 0, 0, 1]⟩], .string (B ((frI m p ((k2 : Int) == 0)).take x))] W fun e w' => e = .returned (.string ⟨#[]⟩) ∧ Below W.heap.size W w') := fun W x hx => handle_short m p _ _ W (by omega) x (by omega)
  have HHR : Hid (∀ W, Cs w W zb g cap cb → Calls Tryz.prog 37 #[.pointer (some ⟨zb, 0, none⟩), .agg #[.string ⟨#[2, 109, 121, 109, 97, 99]⟩, .string ⟨#[10, 0, 0, 1]⟩], .string (B (frI m p ((k2 : Int) == 0)))] W fun e w' => e = .returned (.string (B (frO tell p))) ∧ Below W.heap.size W w') := fun W hC => handle_right m tell p _ _ W (by omega) hpl ht0 (by omega) fun W' hb => unhide HRE W' (hC.z.below hb) (hC.gg.below hb)
  have HRI := hide (fun W => right_any (frO tell p) tell p W (frO_right tell p (by omega) hpl) hpl)
  have HRP : Hid (∀ W, Cs w W zb g cap cb → Calls Tryz.prog 27 #[.pointer (some ⟨zb, 0, none⟩), .string (B m)] W fun e w' => e = .returned (.string (B tell)) ∧ Below W.heap.size W w') := fun W hC => unhide HRE W hC.z hC.gg
  have hte : (B tell).toList.isEmpty = false := by
    rw [ByteArray.toList_eq]
    cases tell with
    | nil => exact absurd rfl ht0
    | cons x t => rfl
  clear HRE htl ht0 HK2 hml
  go_wp2_with fail
  refine (unhide HFR).mono ?_
  rintro e w9 ⟨rfl, hb9⟩
  have HC9 := hide ((unhide HC8).next hb9)
  clear hb9 HFR HC8
  generalize frI m p ((k2 : Int) == 0) = f at *
  have c0 := (unhide HC9).c.cell 0 (by simp)
  have c1 := (unhide HC9).c.cell 1 (by simp)
  simp only [List.getElem_cons_zero, List.getElem_cons_succ] at c0 c1
  have eM : B mine = ⟨#[2, 109, 121, 109, 97, 99]⟩ := rfl
  have eI : B ipMe = ⟨#[10, 0, 0, 1]⟩ := rfl
  rw [eM] at c0
  rw [eI] at c1
  go_wp2_with fail
  refine (unhide HHR w9 (unhide HC9)).mono ?_
  rintro e w10 ⟨rfl, hb10⟩
  have HC10 := hide ((unhide HC9).next hb10)
  clear hb10 HC9 HHR c0 c1
  go_wp2_with fail
  refine (unhide HRI w10).mono ?_
  rintro e w11 ⟨rfl, hb11⟩
  have HC11 := hide ((unhide HC10).next hb11)
  clear hb11 HC10 HRI
  go_wp2_with fail
  refine (unhide HRP w11 (unhide HC11)).mono ?_
  rintro e w12 ⟨rfl, hb12⟩
  have HC12 := hide ((unhide HC11).next hb12)
  clear hb12 HC11 HRP
  have hpb : BlkAt (w12.alloc (.cells #[.int .i64 0, .int .i64 1, .int .i64 2, .int .i64 3, .int .i64 4, .int .i64 5, .int .i64 12, .int .i64 13, .int .i64 14, .int .i64 15, .int .i64 16, .int .i64 17, .int .i64 18, .int .i64 19, .int .i64 20, .int .i64 21, .int .i64 22, .int .i64 23, .int .i64 24, .int .i64 25, .int .i64 26, .int .i64 27, .int .i64 28, .int .i64 29, .int .i64 30, .int .i64 31, .int .i64 32, .int .i64 33, .int .i64 36, .int .i64 37] 3)) w12.heap.size (places.map fun n : Nat => Value.int .i64 n) 3 := BlkAt.new w12 _ _
  have hpj : j < places.length := hjl
  have hcell : (w12.alloc (.cells #[.int .i64 0, .int .i64 1, .int .i64 2, .int .i64 3, .int .i64 4, .int .i64 5, .int .i64 12, .int .i64 13, .int .i64 14, .int .i64 15, .int .i64 16, .int .i64 17, .int .i64 18, .int .i64 19, .int .i64 20, .int .i64 21, .int .i64 22, .int .i64 23, .int .i64 24, .int .i64 25, .int .i64 26, .int .i64 27, .int .i64 28, .int .i64 29, .int .i64 30, .int .i64 31, .int .i64 32, .int .i64 33, .int .i64 36, .int .i64 37] 3)).cell? ⟨w12.heap.size, j, none⟩ = some (.int .i64 (places[j] : Nat)) := by
    rw [hpb.cell j (by simpa using hpj)]; simp
  have hpo := places_ok j hpj
  have HC13 := hide ((unhide HC12).next ((Below.refl _ _).alloc (Nat.le_refl _) (.cells #[.int .i64 0, .int .i64 1, .int .i64 2, .int .i64 3, .int .i64 4, .int .i64 5, .int .i64 12, .int .i64 13, .int .i64 14, .int .i64 15, .int .i64 16, .int .i64 17, .int .i64 18, .int .i64 19, .int .i64 20, .int .i64 21, .int .i64 22, .int .i64 23, .int .i64 24, .int .i64 25, .int .i64 26, .int .i64 27, .int .i64 28, .int .i64 29, .int .i64 30, .int .i64 31, .int .i64 32, .int .i64 33, .int .i64 36, .int .i64 37] 3)))
  clear hpb HC12
  generalize places[j] = a at *
  go_wp2_with fail
  refine (unhide HJ _).mono ?_
  rintro e w13 ⟨rfl, hw13⟩
  rw [← hw13] at HC13 hcell
  clear hw13 HJ
  generalize w12.heap.size = pb at *
  have ha : a < 76 := by omega
  have hfz : (B f).size = 76 := by rw [size_B]; exact hfl
  obtain ⟨a1, ha1⟩ : ∃ a1, a1 = a + 1 := ⟨_, rfl⟩
  have ka : (a : Int) + 1 = (a1 : Int) := by omega
  have hal : a < f.length := by omega
  have ha1l : a1 ≤ 76 := by omega
  have X1 : (B f).extract 0 a = B (f.take a) := B_take f a (by omega)
  have X2 : (B f).extract a1 76 = B (f.drop a1) := B_drop f a1 76 hfl.symm
  obtain ⟨sb, hsb⟩ : ∃ sb : UInt8, sb = UInt8.ofNat (1 <<< bb) := ⟨_, rfl⟩
  have hsbN : sb.toNat = 2 ^ bb := by rw [hsb, UInt8.toNat_ofNat', Nat.one_shiftLeft, Nat.mod_eq_of_lt (Nat.pow_lt_pow_right (by omega) hbl)]
  have Y1 : IntKind.u8.wrap ((2 : Int) ^ bb) = (sb.toNat : Int) := by
    rw [hsbN, IntKind.wrap_u8]
    have : (2 : Nat) ^ bb < 256 := Nat.pow_lt_pow_right (by omega) hbl
    have e : ((2 : Int) ^ bb) = (((2 : Nat) ^ bb : Nat) : Int) := by simp
    rw [e]; omega
  have Y3 : IntKind.u8.wrap ((2 : Int) ^ min bb 8) = (sb.toNat : Int) := by rw [Nat.min_eq_left (by omega)]; exact Y1
  obtain ⟨c, hc⟩ : ∃ c : UInt8, c = f[a] := ⟨_, rfl⟩
  obtain ⟨x, hx⟩ : ∃ x : UInt8, x = c ^^^ sb := ⟨_, rfl⟩
  have Y2 : bits .xor .u8 (c.toNat : Int) (sb.toNat : Int) = (x.toNat : Int) := by
    rw [hx]
    have h1 : sb.toNat < 256 := UInt8.toNat_lt sb
    have h2 : c.toNat < 256 := UInt8.toNat_lt c
    show IntKind.u8.wrap ((BitVec.ofInt 8 (c.toNat : Int) ^^^ BitVec.ofInt 8 (sb.toNat : Int)).toNat : Int) = _
    rw [BitVec.toNat_xor, UInt8.toNat_xor]
    have e1 : (BitVec.ofInt 8 (c.toNat : Int)).toNat = c.toNat := by rw [BitVec.ofInt_natCast, BitVec.toNat_ofNat, Nat.mod_eq_of_lt h2]
    have e2 : (BitVec.ofInt 8 (sb.toNat : Int)).toNat = sb.toNat := by rw [BitVec.ofInt_natCast, BitVec.toNat_ofNat, Nat.mod_eq_of_lt h1]
    rw [e1, e2, IntKind.wrap_u8]
    have := Nat.xor_lt_two_pow (n := 8) h2 h1
    omega
  have X3 : ∀ h : a < (B f).size, (B f)[a] = c := fun h => by rw [hc]; rfl
  have HFLIP : Hid (B (f.take a) ++ ⟨#[x]⟩ ++ B (f.drop a1) = B (flip f a bb)) := by
    rw [Hid, hx, hsb, hc, ha1]
    unfold Hh.flip
    rw [getElem!_pos f a hal]
    exact ba_ext (by simp [B])
  have kconv := conv_drew w13 x
  have c13 := UInt8.toNat_lt c
  have sA : (B (f.take a)).size = a := by rw [size_B]; simp; omega
  obtain ⟨rr, hrr⟩ : ∃ rr, rr = 76 - a1 := ⟨_, rfl⟩
  have sD : (B (f.drop a1)).size = rr := by rw [size_B, hrr]; simp; omega
  have hrl : rr ≤ 76 := by omega
  generalize B (f.take a) = fA at *
  generalize B (f.drop a1) = fD at *
  have HPO := hide hpo
  have HBL := hide hbl
  clear hsb hsbN hc hx ha1 hfl hrr hpo hal hpj
  go_wp2_with fail
  clear hcell hil hpl hnI n0 n4 hs4 hbl hjl
  have T2 : ∀ wq : World, (Instr.slice 9 (.string (B f)) none (some (.int .i64 (a : Int))) none).run Tryz.prog wq = .ok (.string fA) wq := fun wq => by
    rw [run_slice_string_to_if _ _ _ _ _ Tryz.underlying9, if_pos ⟨by omega, by rw [hfz]; omega⟩, Int.toNat_natCast, X1]
  have T16 : ∀ wq : World, (Instr.slice 9 (.string (B f)) (some (.int .i64 (a1 : Int))) none none).run Tryz.prog wq = .ok (.string fD) wq := fun wq => by
    rw [run_slice_string_from_if _ _ _ _ _ Tryz.underlying9, if_pos ⟨by omega, by rw [hfz]; omega⟩, Int.toNat_natCast, hfz, X2]
  have T17 : ∀ wq : World, (Instr.slice 9 (.string (B f)) (some (.int .i64 ((a : Int) + 1))) none none).run Tryz.prog wq = .ok (.string fD) wq := fun wq => by
    rw [ka]; exact T16 wq
  have T18 : ∀ wq : World, (Instr.slice 9 (.string (B f)) (some (.int .i64 (wrap64 ((a : Int) + 1)))) none none).run Tryz.prog wq = .ok (.string fD) wq := fun wq => by
    rw [show wrap64 ((a : Int) + 1) = (a1 : Int) by unfold wrap64; omega]; exact T16 wq
  have T19 : ∀ wq : World, (Instr.slice 9 (.string (B f)) (some (.int .i64 (IntKind.i64.wrap ((a : Int) + 1)))) none none).run Tryz.prog wq = .ok (.string fD) wq := fun wq => by
    rw [show IntKind.i64.wrap ((a : Int) + 1) = (a1 : Int) by rw [IntKind.wrap_i64]; first | omega | (unfold wrap64; omega)]; exact T16 wq
  have T20 : ∀ wq : World, (Instr.slice 9 (.string (B f)) (some (.int .i64 (((a : Int) + 1 + 9223372036854775808) % 18446744073709551616 - 9223372036854775808))) none none).run Tryz.prog wq = .ok (.string fD) wq := fun wq => by
    rw [show ((a : Int) + 1 + 9223372036854775808) % 18446744073709551616 - 9223372036854775808 = (a1 : Int) by omega]; exact T16 wq
  have T21 : ∀ wq : World, (Instr.slice 9 (.string (B f)) (some (.int .i64 (((a : Int) + 9223372036854775809) % 18446744073709551616 - 9223372036854775808))) none none).run Tryz.prog wq = .ok (.string fD) wq := fun wq => by
    rw [show ((a : Int) + 9223372036854775809) % 18446744073709551616 - 9223372036854775808 = (a1 : Int) by omega]; exact T16 wq
  have T22 : ∀ wq : World, (Instr.slice 9 (.string (B f)) (some (.int .i64 (((a1 : Int) + 9223372036854775808) % 18446744073709551616 - 9223372036854775808))) none none).run Tryz.prog wq = .ok (.string fD) wq := fun wq => by
    rw [show ((a1 : Int) + 9223372036854775808) % 18446744073709551616 - 9223372036854775808 = (a1 : Int) by omega]; exact T16 wq
  have T23 : ∀ wq : World, (Instr.slice 9 (.string (B f)) (some (.int .i64 (wrap64 (a1 : Int)))) none none).run Tryz.prog wq = .ok (.string fD) wq := fun wq => by
    rw [show wrap64 (a1 : Int) = (a1 : Int) by unfold wrap64; omega]; exact T16 wq
  have T24 : ∀ wq : World, (Instr.slice 9 (.string (B f)) (some (.int .i64 (IntKind.i64.wrap (a1 : Int)))) none none).run Tryz.prog wq = .ok (.string fD) wq := fun wq => by
    rw [show IntKind.i64.wrap (a1 : Int) = (a1 : Int) by rw [IntKind.wrap_i64]; omega]; exact T16 wq
  go_region_held (fun w' => True) (trivial)
    (first | (go_at_call 20; go_loud (refine (unhide HBT _).mono ?_; rintro e w' ⟨rfl, rfl⟩)))
  all_goals
    rw [unhide HFLIP]
    have hC14 : Cs w (w13.alloc (.cells #[.int .u8 x.toNat] 5)).drew zb g cap cb := (unhide HC13).next (((Below.refl _ _).alloc (Nat.le_refl _) _).drew)
    have HC14 := hide hC14
    have HHF := hide (unhide HFL (w13.alloc (.cells #[.int .u8 x.toNat] 5)).drew a bb (unhide HBL) (unhide HPO))
    have c0 : (w13.alloc (.cells #[.int .u8 x.toNat] 5)).cell? ⟨cb, 0, none⟩ = some (.string ⟨#[2, 109, 121, 109, 97, 99]⟩) := hC14.c.cell 0 (by simp)
    have c1 : (w13.alloc (.cells #[.int .u8 x.toNat] 5)).cell? ⟨cb, 1, none⟩ = some (.string ⟨#[10, 0, 0, 1]⟩) := hC14.c.cell 1 (by simp)
    obtain ⟨xx, hxx, HX0⟩ := unhide HJ2 76 (by omega) (by omega)
    have HX : Hid (∀ W, Calls Tryz.prog 20 #[.int .i64 bad, .int .i64 76] W fun e w' => e = .returned (.int .i64 xx) ∧ w' = W) := HX0
    have HSX := hide (fun W => unhide HSH W xx hxx)
    have X4 : (B f).extract 0 xx = B (f.take xx) := by rw [B_part, List.drop_zero, Nat.sub_zero]
    clear hC14 HC13 HFL HSH HJ2 HX0 HBT kconv T2 T16 T17 T18 T19 T20 T21 T22 T23 T24 X1 X2 X3 Y1 Y2 Y3 sA sD hrl ka ha1l c13 HFLIP HPO HBL ha
    generalize B (flip f a bb) = fl at *
    generalize B (f.take xx) = fX at *
    go_wp2_with fail
    refine (unhide HHF).mono ?_
    rintro e w15 ⟨rfl, hb15⟩
    have hC15 := (unhide HC14).next hb15
    have T30 : ∀ wq : World, (Instr.slice 9 (.string (B f)) none (some (.int .i64 (xx : Int))) none).run Tryz.prog wq = .ok (.string fX) wq := fun wq => by
      rw [run_slice_string_to_if _ _ _ _ _ Tryz.underlying9, if_pos ⟨by omega, by rw [hfz]; omega⟩, Int.toNat_natCast, X4]
    have hS0 : w15.drew.cell? ⟨cb, 0, none⟩ = some (.string ⟨#[2, 109, 121, 109, 97, 99]⟩) ∧ w15.drew.cell? ⟨cb, 1, none⟩ = some (.string ⟨#[10, 0, 0, 1]⟩) ∧ Below w.heap.size w w15.drew := ⟨hC15.c.cell 0 (by simp), hC15.c.cell 1 (by simp), hC15.below.drew⟩
    have HSY : Hid (∀ W : World, (W.cell? ⟨cb, 0, none⟩ = some (.string ⟨#[2, 109, 121, 109, 97, 99]⟩) ∧ W.cell? ⟨cb, 1, none⟩ = some (.string ⟨#[10, 0, 0, 1]⟩) ∧ Below w.heap.size w W) → Calls Tryz.prog 37 #[.pointer (some ⟨zb, 0, none⟩), .agg #[.string ⟨#[2, 109, 121, 109, 97, 99]⟩, .string ⟨#[10, 0, 0, 1]⟩], .string fX] W fun e w' => e = .returned (.string ⟨#[]⟩) ∧ (w'.cell? ⟨cb, 0, none⟩ = some (.string ⟨#[2, 109, 121, 109, 97, 99]⟩) ∧ w'.cell? ⟨cb, 1, none⟩ = some (.string ⟨#[10, 0, 0, 1]⟩) ∧ Below w.heap.size w w')) := fun W hW => by
      refine (unhide HSX W).mono ?_
      rintro e w' ⟨rfl, hb⟩
      have kp : ∀ (y : Addr) (v : Value), W.cell? y = some v → w'.cell? y = some v := fun y v h => (hb.cell (World.block_lt_of_cell? W y h)).trans h
      exact ⟨rfl, kp _ _ hW.1, kp _ _ hW.2.1, hW.2.2.trans (hb.mono hW.2.2.size)⟩
    clear hb15 HC14 HHF hC15 X4 HSX hxx c0 c1
    go_wp2_with fail
    go_region_held (fun w' => w'.cell? ⟨cb, 0, none⟩ = some (.string ⟨#[2, 109, 121, 109, 97, 99]⟩) ∧ w'.cell? ⟨cb, 1, none⟩ = some (.string ⟨#[10, 0, 0, 1]⟩) ∧ Below w.heap.size w w') (first | assumption | go_keep)
      (first
        | (go_at_call 20; go_loud (refine (unhide HX _).mono ?_; rintro e w' ⟨rfl, rfl⟩))
        | (go_at_call 37; go_loud (refine (unhide HSY _ ?_).mono ?_; assumption; rintro e w' ⟨rfl, hq⟩)))
    all_goals
      have HFIN := hide hq.2.2
      clear hq
      go_wp2_with fail
      go_ret
      exact ⟨rfl, unhide HFIN⟩
end Hn
end Go.Proofs.YtkkpahmoljiepaaGreatDoor

/- What rows share that list variables and lean on the world's shape. -/
namespace Go.Proofs.YtkkpahmoljiepaaGreatDoor
open Go.ChangeShapes Go.WideShapes Go.ChangeAt Go.RowKit

namespace Uw
variable {H : Type} {enc : TypeId × Value → H}

/-- The plain wrap for a row that lists variables, the world's shape kept. -/
theorem wrap {a : Assume} {C : Checked} {os : Os} {f : FuncId} {fn : Func} {s : ChangeSpec} {conds : List PathCond} {apart fresh handsOn again : Bool} {X : World → Array Value → Prop}
    (hX : ∀ (w w' : World) (args : Array Value), w.heap = w'.heap → X w args → X w' args)
    (own : ownKnob C.prog.godebug = none) (started : os.Started) (noInit : C.prog.inits.idxOf? f = none) (hfn : C.prog.funcs[f]? = some fn)
    (witness : ∃ (w : World) (tape : Tape) (i : Input), w.os = os ∧ (w.forCall tape i).Shaped C.prog ∧ i.vars = [] ∧ Input.okWide C.prog (w.forCall tape i) .any w.heap.size f i ∧
      ((s.pre enc C.prog fn conds apart (w.forCall tape i).memory i.args ∧ X (w.forCall tape i).memory i.args) ∧ sizedMet enc C.prog fn (OpenSpec.ofChange s) apart (w.forCall tape i).memory i.args) ∧ a.holds C.prog (lone (Frame.enter C.prog f i.args .normal) [] (w.forCall tape i)))
    (contract : ∀ (W : World) (base : Nat) (args : Array Value) (ds gs : List (DataW H)) (before : List MemPlace),
      (∀ (j : Nat) t v, fn.params[j]? = some t → args[j]? = some v → Value.okWide C.prog W .any base t v) →
      DataW.Whole enc C.prog fn.params.toList s.vars apart W args.toList ds gs before →
      W.ShapedOpen C.prog → X W args →
      Calls C.prog f args W fun e W' => ∃ v, e = .returned v ∧ s.post enc C.prog fn apart fresh handsOn again W args v W') :
    ReturnsInHanded a C os f .any (fun w args => (s.pre enc C.prog fn conds apart w args ∧ X w args) ∧ sizedMet enc C.prog fn (OpenSpec.ofChange s) apart w args) (s.post enc C.prog fn apart fresh handsOn again) := by
  refine returnsInHanded_of_calls own started noInit witness ?_
  intro w tape i _ hsh _ hok hpre hholds
  obtain ⟨_, _, _, fn', hfn', _, _, _, _, hval⟩ := hok
  have e : fn' = fn := Option.some.inj (hfn'.symm.trans hfn)
  subst e
  obtain ⟨⟨⟨ds, gs, before, hw, hc⟩, hx⟩, hz⟩ := hpre
  have hw' := DataW.Whole.of_heap (w' := w.forCall tape i) (by rfl) hw
  refine (contract (w.forCall tape i) w.heap.size i.args ds gs before hval hw' hsh (hX _ _ _ (by rfl) hx)).mono fun e W' ⟨v, he, hp⟩ => ?_
  subst he
  exact ChangeSpec.post_blind hp

theorem own : ownKnob Tryz.prog.godebug = none := by kernel_rfl

theorem g_of_shaped {W : World} (h : W.ShapedOpen Tryz.prog) : G W := by
  have hc : ∃ m, W.cell? ⟨0, 0, none⟩ = some (.int .i64 m) :=
    cell_of_shapedOpen_int (zero := #[.int .i64 0]) (t := 3) h (of_decide_eq_true (by kernel_rfl)) (by kernel_rfl) rfl (by kernel_rfl) (by kernel_rfl) Tryz.underlying3
  refine ⟨?_, hc⟩
  obtain ⟨m, hm⟩ := hc
  rcases Nat.eq_zero_or_pos W.heap.size with h0 | h0
  · simp [World.cell?, Array.getElem?_eq_none (show W.heap.size ≤ 0 by omega)] at hm
  · exact h0

end Uw
end Go.Proofs.YtkkpahmoljiepaaGreatDoor
