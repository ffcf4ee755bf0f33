/- Contracts: wire's (packet).answer, (frame).answerPacket, answer, Handle. -/
import Derived.Test.YtkkpahmoljiepaaGreatDoorJ19
import Derived.Test.YtkkpahmoljiepaaGreatDoorJ13
set_option linter.unusedSimpArgs false
set_option linter.unusedVariables false
namespace Go.Proofs.YtkkpahmoljiepaaGreatDoor
open Go.RowKit
open Pu (Str hide unhide)

namespace Hg
open Ka Kc Wa Wb Wc Wd We Wf Wg Wh Wi Wj Wk Wl Wm Ha Hb Hc Hd He Hf Re

abbrev pkt (a b r : Str) : Value := .agg #[.string (B a), .string (B b), .string (B r)]
abbrev dgm (sp dp : Nat) (m : Str) : Value := .agg #[.int .i64 sp, .int .i64 dp, .string (B m)]
abbrev frm (a b : Str) (k : Nat) (r : Str) : Value := .agg #[.string (B a), .string (B b), .int .i64 k, .string (B r)]

/-- what lies in memory while a packet is answered: the packet, the result. -/
structure Pa (w W : World) (a b r : Str) : Prop where
  p : BlkAt W w.heap.size [.string (B a), .string (B b), .string (B r)] 307
  z : BlkAt W (w.heap.size + 1) [.string ⟨#[]⟩, .string ⟨#[]⟩, .string ⟨#[]⟩] 307
  below : Below w.heap.size w W
theorem Pa.size {w W : World} {a b r : Str} (h : Pa w W a b r) : w.heap.size + 1 < W.heap.size := h.z.lt
theorem Pa.next {w W W' : World} {a b r : Str} (h : Pa w W a b r) (hb : Below W.heap.size W W') : Pa w W' a b r :=
  ⟨h.p.below hb h.p.lt, h.z.below hb h.z.lt, h.below.trans (hb.mono (by have := h.size; omega))⟩
theorem Pa.alloc {w W : World} {a b r : Str} (h : Pa w W a b r) (o : Obj) : Pa w (W.alloc o) a b r := h.next ((Below.refl _ _).alloc (Nat.le_refl _) _)
theorem Pa.start (w : World) (a b r : Str) : Pa w ((w.alloc (.cells #[.string (B a), .string (B b), .string (B r)] 307)).alloc (.cells #[.string ⟨#[]⟩, .string ⟨#[]⟩, .string ⟨#[]⟩] 307)) a b r where
  p := (BlkAt.new w _ _).alloc _
  z := by
    have := BlkAt.new (w.alloc (.cells #[.string (B a), .string (B b), .string (B r)] 307)) [.string ⟨#[]⟩, .string ⟨#[]⟩, .string ⟨#[]⟩] 307
    simpa using this
  below := ((Below.refl _ _).alloc (Nat.le_refl _) _).alloc (by simp) _

theorem sets {w : World} {b : Nat} {x0 x1 x2 : Value} {t : TypeId} (h : BlkAt w b [x0, x1, x2] t) (y0 y1 y2 : Value) : BlkAt (((w.setCell ⟨b, 0, none⟩ y0).setCell ⟨b, 1, none⟩ y1).setCell ⟨b, 2, none⟩ y2) b [y0, y1, y2] t := ((h.set 0 y0).set 1 y1).set 2 y2
theorem Pa.zero {w W : World} {a b r : Str} (h : Pa w W a b r) (o : Obj) (y0 y1 y2 : Value) : BlkAt ((((W.setCell ⟨w.heap.size + 1, 0, none⟩ y0).setCell ⟨w.heap.size + 1, 1, none⟩ y1).setCell ⟨w.heap.size + 1, 2, none⟩ y2).alloc o) (w.heap.size + 1) [y0, y1, y2] 307 ∧ Below w.heap.size w ((((W.setCell ⟨w.heap.size + 1, 0, none⟩ y0).setCell ⟨w.heap.size + 1, 1, none⟩ y1).setCell ⟨w.heap.size + 1, 2, none⟩ y2).alloc o) :=
  ⟨(sets h.z y0 y1 y2).alloc o, (((h.below.setCell (by show w.heap.size ≤ w.heap.size + 1; omega) _).setCell (by show w.heap.size ≤ w.heap.size + 1; omega) _).setCell (by show w.heap.size ≤ w.heap.size + 1; omega) _).alloc (by have := h.size; simp [World.setCell]; omega) _⟩

set_option maxRecDepth 100000 in
set_option maxHeartbeats 1600000 in
theorem panswer_none (a b r m : Str) (sp dp : Nat) (ok : Bool) (zv : Value) (w : World) (hno : ok = false ∨ dp ≠ 53)
    (hD : ∀ W, Calls Tryz.prog 257 #[pkt a b r] W fun e w' => e = .returned (.tuple #[dgm sp dp m, .bool ok]) ∧ Below W.heap.size W w') :
    Calls Tryz.prog 211 #[pkt a b r, zv] w fun e w' => e = .returned (.tuple #[pkt [] [] [], .bool false]) ∧ Below w.heap.size w w' := by
  have HD := hide hD
  have HS0 := hide (Pa.start w a b r)
  have HN := hide hno
  clear hD hno
  go_enter Tryz.func211, Tryz.ntmps211
  go_wp2_with fail
  refine (unhide HD _).mono ?_
  rintro e w1 ⟨rfl, hb1⟩
  have HS1 := hide ((unhide HS0).next hb1)
  clear hb1 HS0 HD
  have z0 := (unhide HS1).z.cell 0 (by simp)
  have z1 := (unhide HS1).z.cell 1 (by simp)
  have z2 := (unhide HS1).z.cell 2 (by simp)
  have hfz := (unhide HS1).z.frozen
  simp only [List.getElem_cons_zero, List.getElem_cons_succ] at z0 z1 z2
  have hw1 := (unhide HS1).size
  have HZ := hide ((unhide HS1).zero (.cells #[.int .i64 sp, .int .i64 dp, .string (B m)] 349) (.string ⟨#[]⟩) (.string ⟨#[]⟩) (.string ⟨#[]⟩))
  have r0 : ((((w1.setCell ⟨w.heap.size + 1, 0, none⟩ (.string ⟨#[]⟩)).setCell ⟨w.heap.size + 1, 1, none⟩ (.string ⟨#[]⟩)).setCell ⟨w.heap.size + 1, 2, none⟩ (.string ⟨#[]⟩)).alloc (.cells #[.int .i64 sp, .int .i64 dp, .string (B m)] 349)).cell? ⟨w.heap.size + 1, 0, none⟩ = some (.string ⟨#[]⟩) := (unhide HZ).1.cell 0 (by simp)
  have r1 : ((((w1.setCell ⟨w.heap.size + 1, 0, none⟩ (.string ⟨#[]⟩)).setCell ⟨w.heap.size + 1, 1, none⟩ (.string ⟨#[]⟩)).setCell ⟨w.heap.size + 1, 2, none⟩ (.string ⟨#[]⟩)).alloc (.cells #[.int .i64 sp, .int .i64 dp, .string (B m)] 349)).cell? ⟨w.heap.size + 1, 1, none⟩ = some (.string ⟨#[]⟩) := (unhide HZ).1.cell 1 (by simp)
  have r2 : ((((w1.setCell ⟨w.heap.size + 1, 0, none⟩ (.string ⟨#[]⟩)).setCell ⟨w.heap.size + 1, 1, none⟩ (.string ⟨#[]⟩)).setCell ⟨w.heap.size + 1, 2, none⟩ (.string ⟨#[]⟩)).alloc (.cells #[.int .i64 sp, .int .i64 dp, .string (B m)] 349)).cell? ⟨w.heap.size + 1, 2, none⟩ = some (.string ⟨#[]⟩) := (unhide HZ).1.cell 2 (by simp)
  have R := hide (And.intro r0 (And.intro r1 r2))
  clear r0 r1 r2 HS1
  cases ok with
  | false =>
    go_wp2
    obtain ⟨r0, r1, r2⟩ := unhide R
    refine bodyPost_ret (v := .tuple #[.agg #[.string ⟨#[]⟩, .string ⟨#[]⟩, .string ⟨#[]⟩], .bool false]) ?_ rfl ?_
    · simp [results, Tryz.results211, go_sem, r0, r1, r2]
    · exact ⟨rfl, (unhide HZ).2⟩
  | true =>
    have hdp : dp ≠ 53 := by
      rcases unhide HN with h | h
      · cases h
      · exact h
    have hdp' : ¬ (dp : Int) = 53 := by omega
    have ddp : ((dp : Int) != 53) = true := by simpa using hdp'
    go_wp2
    obtain ⟨r0, r1, r2⟩ := unhide R
    refine bodyPost_ret (v := .tuple #[.agg #[.string ⟨#[]⟩, .string ⟨#[]⟩, .string ⟨#[]⟩], .bool false]) ?_ rfl ?_
    · simp [results, Tryz.results211, go_sem, r0, r1, r2]
    · exact ⟨rfl, (unhide HZ).2⟩

/-- with the datagram beside it. -/
structure Pd (w W : World) (a b r : Str) (db sp : Nat) (m : Str) : Prop where
  pa : Pa w W a b r
  d : BlkAt W db [.int .i64 sp, .int .i64 53, .string (B m)] 349
theorem Pd.next {w W W' : World} {a b r m : Str} {db sp : Nat} (h : Pd w W a b r db sp m) (hb : Below W.heap.size W W') : Pd w W' a b r db sp m := ⟨h.pa.next hb, h.d.below hb h.d.lt⟩

set_option maxRecDepth 100000 in
set_option maxHeartbeats 1600000 in
theorem panswer_some (a b r m o : Str) (sp : Nat) (zv : Value) (w : World) (ha : a.length ≤ 1000) (hb : b.length ≤ 1000) (hsp : sp < 65536) (ho : o ≠ []) (hol : o.length ≤ 60000)
    (hD : ∀ W, Calls Tryz.prog 257 #[pkt a b r] W fun e w' => e = .returned (.tuple #[dgm sp 53 m, .bool true]) ∧ Below W.heap.size W w')
    (hR : ∀ W, Below w.heap.size w W → Calls Tryz.prog 27 #[zv, .string (B m)] W fun e w' => e = .returned (.string (B o)) ∧ Below W.heap.size W w') :
    Calls Tryz.prog 211 #[pkt a b r, zv] w fun e w' => e = .returned (.tuple #[pkt b a (udO b a 53 sp o), .bool true]) ∧ Below w.heap.size w w' := by
  have HD := hide hD
  have HR := hide hR
  have HS0 := hide (Pa.start w a b r)
  have hoe : (B o).toList.isEmpty = false := by
    rw [ByteArray.toList_eq]
    cases o with
    | nil => exact absurd rfl ho
    | cons x t => rfl
  have HC := hide (fun W => carrying_any b a [] o 53 sp W hb ha hol (by omega) hsp)
  clear hD hR ho hol ha hb hsp
  go_enter Tryz.func211, Tryz.ntmps211
  go_wp2_with fail
  refine (unhide HD _).mono ?_
  rintro e w1 ⟨rfl, hb1⟩
  have hS1 := (unhide HS0).next hb1
  have hw1 := hS1.size
  have hS2 : Pd w (w1.alloc (.cells #[.int .i64 sp, .int .i64 53, .string (B m)] 349)) a b r w1.heap.size sp m := ⟨hS1.alloc _, BlkAt.new _ _ _⟩
  have HS2 := hide hS2
  have HRE := hide (unhide HR _ hS2.pa.below)
  clear hb1 HS0 HD hS1 hS2 HR
  go_wp2_with fail
  refine (unhide HRE).mono ?_
  rintro e w2 ⟨rfl, hb2⟩
  have HS3 := hide ((unhide HS2).next hb2)
  clear hb2 HS2 HRE
  generalize w1.heap.size = db at *
  have p0 := (unhide HS3).pa.p.cell 0 (by simp)
  have p1 := (unhide HS3).pa.p.cell 1 (by simp)
  have d0 := (unhide HS3).d.cell 0 (by simp)
  have d1 := (unhide HS3).d.cell 1 (by simp)
  simp only [List.getElem_cons_zero, List.getElem_cons_succ] at p0 p1 d0 d1
  have hw2 := (unhide HS3).pa.size
  have hw3 := (unhide HS3).d.lt
  go_wp2_with fail
  refine (unhide HC (w2.alloc (.cells #[.string (B b), .string (B a), .string ⟨#[]⟩] 307))).mono ?_
  rintro e w3 ⟨rfl, hb3⟩
  have hS4 := (((unhide HS3).pa.alloc (.cells #[.string (B b), .string (B a), .string ⟨#[]⟩] 307)).next hb3)
  clear hb3 HS3 HC p0 p1 d0 d1 hw2 hw3
  have z0 := hS4.z.cell 0 (by simp)
  have z1 := hS4.z.cell 1 (by simp)
  have z2 := hS4.z.cell 2 (by simp)
  have hfz := hS4.z.frozen
  simp only [List.getElem_cons_zero, List.getElem_cons_succ] at z0 z1 z2
  have HB := hide hS4.below
  clear hS4
  go_wp2
  refine bodyPost_ret (v := .tuple #[.agg #[.string (B b), .string (B a), .string (B (udO b a 53 sp o))], .bool true]) ?_ rfl ?_
  · simp [results, Tryz.results211, go_sem, z0, z1, z2]
  · exact ⟨rfl, (((unhide HB).setCell (by show w.heap.size ≤ w.heap.size + 1; omega) _).setCell (by show w.heap.size ≤ w.heap.size + 1; omega) _).setCell (by show w.heap.size ≤ w.heap.size + 1; omega) _⟩

abbrev cfg (mac ip : Str) : Value := .agg #[.string (B mac), .string (B ip)]

/-- what lies in memory while a frame is answered. -/
structure Fa (w W : World) (a b : Str) (k : Nat) (r mac ip : Str) : Prop where
  f : BlkAt W w.heap.size [.string (B a), .string (B b), .int .i64 k, .string (B r)] 150
  c : BlkAt W (w.heap.size + 1) [.string (B mac), .string (B ip)] 62
  below : Below w.heap.size w W
theorem Fa.size {w W : World} {a b r mac ip : Str} {k : Nat} (h : Fa w W a b k r mac ip) : w.heap.size + 1 < W.heap.size := h.c.lt
theorem Fa.next {w W W' : World} {a b r mac ip : Str} {k : Nat} (h : Fa w W a b k r mac ip) (hb : Below W.heap.size W W') : Fa w W' a b k r mac ip :=
  ⟨h.f.below hb h.f.lt, h.c.below hb h.c.lt, h.below.trans (hb.mono (by have := h.size; omega))⟩
theorem Fa.alloc {w W : World} {a b r mac ip : Str} {k : Nat} (h : Fa w W a b k r mac ip) (o : Obj) : Fa w (W.alloc o) a b k r mac ip := h.next ((Below.refl _ _).alloc (Nat.le_refl _) _)
theorem Fa.start (w : World) (a b : Str) (k : Nat) (r mac ip : Str) : Fa w ((w.alloc (.cells #[.string (B a), .string (B b), .int .i64 k, .string (B r)] 150)).alloc (.cells #[.string (B mac), .string (B ip)] 62)) a b k r mac ip where
  f := (BlkAt.new w _ _).alloc _
  c := by
    have := BlkAt.new (w.alloc (.cells #[.string (B a), .string (B b), .int .i64 k, .string (B r)] 150)) [.string (B mac), .string (B ip)] 62
    simpa using this
  below := ((Below.refl _ _).alloc (Nat.le_refl _) _).alloc (by simp) _

set_option maxRecDepth 100000 in
set_option maxHeartbeats 1600000 in
/-- no packet, or one that is not right: nothing. -/
theorem answerPacket_bad (a b r mac ip : Str) (k : Nat) (zv : Value) (w : World)
    (hP : ∀ W, Calls Tryz.prog 210 #[.string (B r)] W fun e w' => (∃ x0 x1 x2 : Str, e = .returned (.tuple #[pkt x0 x1 x2, .bool false])) ∧ Below W.heap.size W w') :
    Calls Tryz.prog 150 #[frm a b k r, zv, cfg mac ip] w fun e w' => e = .returned (.string ⟨#[]⟩) ∧ Below w.heap.size w w' := by
  have HP := hide hP
  have HS0 := hide (Fa.start w a b k r mac ip)
  clear hP
  go_enter Tryz.func150, Tryz.ntmps150
  go_wp2_with fail
  refine (unhide HP _).mono ?_
  rintro e w1 ⟨⟨x0, x1, x2, rfl⟩, hb1⟩
  have hS1 := (unhide HS0).next hb1
  have hw1 := hS1.size
  have HB := hide (hS1.alloc (.cells #[.string (B x0), .string (B x1), .string (B x2)] 307)).below
  clear hb1 HS0 HP hS1
  go_wp2_with fail
  go_ret
  exact ⟨rfl, unhide HB⟩

set_option maxRecDepth 100000 in
set_option maxHeartbeats 1600000 in
/-- a packet that carries nothing to be answered: nothing. -/
theorem answerPacket_none (a b r mac ip x0 x2 : Str) (k : Nat) (zv : Value) (w : World)
    (hP : ∀ W, Calls Tryz.prog 210 #[.string (B r)] W fun e w' => e = .returned (.tuple #[pkt x0 ip x2, .bool true]) ∧ Below W.heap.size W w')
    (hA : ∀ W, Below w.heap.size w W → Calls Tryz.prog 211 #[pkt x0 ip x2, zv] W fun e w' => e = .returned (.tuple #[pkt [] [] [], .bool false]) ∧ Below W.heap.size W w') :
    Calls Tryz.prog 150 #[frm a b k r, zv, cfg mac ip] w fun e w' => e = .returned (.string ⟨#[]⟩) ∧ Below w.heap.size w w' := by
  have HP := hide hP
  have HA := hide hA
  have HS0 := hide (Fa.start w a b k r mac ip)
  clear hP hA
  go_enter Tryz.func150, Tryz.ntmps150
  go_wp2_with fail
  refine (unhide HP _).mono ?_
  rintro e w1 ⟨rfl, hb1⟩
  have hS1 := (unhide HS0).next hb1
  have hw1 := hS1.size
  have hS2 := hS1.alloc (.cells #[.string (B x0), .string (B ip), .string (B x2)] 307)
  have HA2 := hide (unhide HA _ hS2.below)
  have c1 := hS1.c.cell 1 (by simp)
  have c1' := hS2.c.cell 1 (by simp)
  simp only [List.getElem_cons_zero, List.getElem_cons_succ] at c1 c1'
  have HS2 := hide hS2
  clear hb1 HS0 HP hS1 HA hS2
  go_wp2_with fail
  refine (unhide HA2).mono ?_
  rintro e w2 ⟨rfl, hb2⟩
  have hS3 := (unhide HS2).next hb2
  have hw2 := hS3.size
  have HB := hide (hS3.alloc (.cells #[.string (B []), .string (B []), .string (B [])] 307)).below
  clear hb2 hS3 HS2 HA2 c1 c1'
  go_wp2_with fail
  go_ret
  exact ⟨rfl, unhide HB⟩

set_option maxRecDepth 100000 in
set_option maxHeartbeats 1600000 in
/-- a packet that is answered. -/
theorem answerPacket_some (a b r mac ip x0 x2 y0 y1 y2 : Str) (k : Nat) (zv : Value) (w : World) (l1 : b.length ≤ 1000) (l2 : mac.length ≤ 1000) (l3 : y0.length ≤ 1000) (l4 : y1.length ≤ 1000) (l5 : y2.length ≤ 60000)
    (hP : ∀ W, Calls Tryz.prog 210 #[.string (B r)] W fun e w' => e = .returned (.tuple #[pkt x0 ip x2, .bool true]) ∧ Below W.heap.size W w')
    (hA : ∀ W, Below w.heap.size w W → Calls Tryz.prog 211 #[pkt x0 ip x2, zv] W fun e w' => e = .returned (.tuple #[pkt y0 y1 y2, .bool true]) ∧ Below W.heap.size W w') :
    Calls Tryz.prog 150 #[frm a b k r, zv, cfg mac ip] w fun e w' => e = .returned (.string (B (b ++ mac ++ [8, 0] ++ ipO y0 y1 y2))) ∧ Below w.heap.size w w' := by
  have HP := hide hP
  have HA := hide hA
  have HS0 := hide (Fa.start w a b k r mac ip)
  have lOut : (ipO y0 y1 y2).length ≤ 100000 := by simp [ipO, ipOA]; omega
  have HPB := hide (fun W => packetBytes_any y0 y1 y2 W l3 l4 l5)
  have HFB : Hid (∀ W, Calls Tryz.prog 209 #[.agg #[.string (B b), .string (B mac), .int .i64 2048, .string (B (ipO y0 y1 y2))]] W fun e w' => e = .returned (.string (B (b ++ mac ++ [8, 0] ++ ipO y0 y1 y2))) ∧ Below W.heap.size W w') := fun W => frameBytes_any b mac (ipO y0 y1 y2) 2048 W l1 l2 lOut (by omega)
  clear hP hA l1 l2 l3 l4 l5 lOut
  go_enter Tryz.func150, Tryz.ntmps150
  go_wp2_with fail
  refine (unhide HP _).mono ?_
  rintro e w1 ⟨rfl, hb1⟩
  have hS1 := (unhide HS0).next hb1
  have hw1 := hS1.size
  have hS2 := hS1.alloc (.cells #[.string (B x0), .string (B ip), .string (B x2)] 307)
  have HA2 := hide (unhide HA _ hS2.below)
  have c1 := hS1.c.cell 1 (by simp)
  have c1' := hS2.c.cell 1 (by simp)
  simp only [List.getElem_cons_zero, List.getElem_cons_succ] at c1 c1'
  have HS2 := hide hS2
  clear hb1 HS0 HP hS1 HA hS2
  go_wp2_with fail
  refine (unhide HA2).mono ?_
  rintro e w2 ⟨rfl, hb2⟩
  have hS3 := (unhide HS2).next hb2
  have hw2 := hS3.size
  have HS4 := hide (hS3.alloc (.cells #[.string (B y0), .string (B y1), .string (B y2)] 307))
  have H0 : (w2.alloc (.cells #[.string (B y0), .string (B y1), .string (B y2)] 307)).drew.cell? ⟨w.heap.size, 1, none⟩ = some (.string (B b)) ∧ (w2.alloc (.cells #[.string (B y0), .string (B y1), .string (B y2)] 307)).drew.cell? ⟨w.heap.size + 1, 0, none⟩ = some (.string (B mac)) ∧ (w2.alloc (.cells #[.string (B y0), .string (B y1), .string (B y2)] 307)).drew.cell? ⟨w2.heap.size, 0, none⟩ = some (.string (B y0)) ∧ (w2.alloc (.cells #[.string (B y0), .string (B y1), .string (B y2)] 307)).drew.cell? ⟨w2.heap.size, 1, none⟩ = some (.string (B y1)) ∧ (w2.alloc (.cells #[.string (B y0), .string (B y1), .string (B y2)] 307)).drew.cell? ⟨w2.heap.size, 2, none⟩ = some (.string (B y2)) ∧ Below w.heap.size w (w2.alloc (.cells #[.string (B y0), .string (B y1), .string (B y2)] 307)).drew := by
    have hN := BlkAt.new w2 [.string (B y0), .string (B y1), .string (B y2)] 307
    exact ⟨(unhide HS4).f.cell 1 (by simp), (unhide HS4).c.cell 0 (by simp), hN.cell 0 (by simp), hN.cell 1 (by simp), hN.cell 2 (by simp), (unhide HS4).below.drew⟩
  have KP : Hid (∀ W W' : World, (W.cell? ⟨w.heap.size, 1, none⟩ = some (.string (B b)) ∧ W.cell? ⟨w.heap.size + 1, 0, none⟩ = some (.string (B mac)) ∧ W.cell? ⟨w2.heap.size, 0, none⟩ = some (.string (B y0)) ∧ W.cell? ⟨w2.heap.size, 1, none⟩ = some (.string (B y1)) ∧ W.cell? ⟨w2.heap.size, 2, none⟩ = some (.string (B y2)) ∧ Below w.heap.size w W) → Below W.heap.size W W' → (W'.cell? ⟨w.heap.size, 1, none⟩ = some (.string (B b)) ∧ W'.cell? ⟨w.heap.size + 1, 0, none⟩ = some (.string (B mac)) ∧ W'.cell? ⟨w2.heap.size, 0, none⟩ = some (.string (B y0)) ∧ W'.cell? ⟨w2.heap.size, 1, none⟩ = some (.string (B y1)) ∧ W'.cell? ⟨w2.heap.size, 2, none⟩ = some (.string (B y2)) ∧ Below w.heap.size w W')) := fun W W' hW hb => by
    have kp : ∀ (x : Addr) (v : Value), W.cell? x = some v → W'.cell? x = some v := fun x v h => (hb.cell (World.block_lt_of_cell? W x h)).trans h
    exact ⟨kp _ _ hW.1, kp _ _ hW.2.1, kp _ _ hW.2.2.1, kp _ _ hW.2.2.2.1, kp _ _ hW.2.2.2.2.1, hW.2.2.2.2.2.trans (hb.mono hW.2.2.2.2.2.size)⟩
  have q1 := (unhide HS4).f.cell 1 (by simp)
  have q2 := (unhide HS4).c.cell 0 (by simp)
  simp only [List.getElem_cons_zero, List.getElem_cons_succ] at q1 q2
  clear hb2 hS3 HS2 HA2 c1 c1'
  go_wp2_with fail
  go_region_held (fun w' => w'.cell? ⟨w.heap.size, 1, none⟩ = some (.string (B b)) ∧ w'.cell? ⟨w.heap.size + 1, 0, none⟩ = some (.string (B mac)) ∧ w'.cell? ⟨w2.heap.size, 0, none⟩ = some (.string (B y0)) ∧ w'.cell? ⟨w2.heap.size, 1, none⟩ = some (.string (B y1)) ∧ w'.cell? ⟨w2.heap.size, 2, none⟩ = some (.string (B y2)) ∧ Below w.heap.size w w') (first | assumption | go_keep)
    (first
      | (go_at_call 212; go_loud (refine (unhide HPB _).mono ?_; rintro e w' ⟨rfl, hq⟩; replace hq := unhide KP _ _ (by assumption) hq))
      | (go_at_call 209; go_loud (refine (unhide HFB _).mono ?_; rintro e w' ⟨rfl, hq⟩; replace hq := unhide KP _ _ (by assumption) hq)))
  all_goals
    have HF := hide hq.2.2.2.2.2
    clear hq
    go_wp2_with fail
    go_ret
    exact ⟨congrArg (fun x => Ending.returned (.string (B x))) (by simp), unhide HF⟩

set_option maxRecDepth 100000 in
set_option maxHeartbeats 1600000 in
theorem fanswer_kind (a b r mac ip : Str) (k : Nat) (zv : Value) (w : World) (h1 : k ≠ 2054) (h2 : k ≠ 2048) :
    Calls Tryz.prog 80 #[frm a b k r, zv, cfg mac ip] w fun e w' => e = .returned (.string ⟨#[]⟩) ∧ Below w.heap.size w w' := by
  have HB := hide (Fa.start w a b k r mac ip).below
  have k1 : ¬ (k : Int) = 2054 := by omega
  have k2 : ¬ (k : Int) = 2048 := by omega
  have d1 : ((k : Int) == 2054) = false := by simpa using k1
  have d2 : ((k : Int) == 2048) = false := by simpa using k2
  go_enter Tryz.func80, Tryz.ntmps80
  go_wp2_with fail
  go_ret
  exact ⟨rfl, unhide HB⟩

set_option maxRecDepth 100000 in
set_option maxHeartbeats 1600000 in
theorem fanswer_ip (a b r mac ip x : Str) (zv : Value) (w : World)
    (hA : ∀ W, Below w.heap.size w W → Calls Tryz.prog 150 #[frm a b 2048 r, zv, cfg mac ip] W fun e w' => e = .returned (.string (B x)) ∧ Below W.heap.size W w') :
    Calls Tryz.prog 80 #[frm a b 2048 r, zv, cfg mac ip] w fun e w' => e = .returned (.string (B x)) ∧ Below w.heap.size w w' := by
  have hS := Fa.start w a b 2048 r mac ip
  have HB := hide hS.below
  have HA := hide (hA _ hS.below)
  clear hS hA
  go_enter Tryz.func80, Tryz.ntmps80
  go_wp2_with fail
  refine (unhide HA).mono ?_
  rintro e w1 ⟨rfl, hb1⟩
  have HB1 := hide ((unhide HB).trans (hb1.mono (unhide HB).size))
  clear hb1 HA HB
  go_wp2_with fail
  go_ret
  exact ⟨rfl, unhide HB1⟩

theorem B_ne {a b : Str} (h : a ≠ b) : ¬ B a = B b := fun e => h (by have := congrArg (fun x : ByteArray => x.data.toList) e; simpa [B] using this)

set_option maxRecDepth 100000 in
set_option maxHeartbeats 1600000 in
/-- a frame that is cut short. -/
theorem handle_cut (s a b r mac ip : Str) (k : Nat) (zv : Value) (w : World)
    (hF : ∀ W, Calls Tryz.prog 79 #[.string (B s)] W fun e w' => e = .returned (.tuple #[frm a b k r, .bool false]) ∧ Below W.heap.size W w') :
    Calls Tryz.prog 37 #[zv, cfg mac ip, .string (B s)] w fun e w' => e = .returned (.string ⟨#[]⟩) ∧ Below w.heap.size w w' := by
  have HF := hide hF
  have hB0 := (Below.refl w.heap.size w).alloc (Nat.le_refl _) (.cells #[.string (B mac), .string (B ip)] 62)
  have HB0 := hide hB0
  clear hF hB0
  go_enter Tryz.func37, Tryz.ntmps37
  go_wp2_with fail
  refine (unhide HF _).mono ?_
  rintro e w1 ⟨rfl, hb1⟩
  have hB1 := (unhide HB0).trans (hb1.mono (by simp))
  have hw1 := hB1.size
  have HB1 := hide (hB1.alloc hw1 (.cells #[.string (B a), .string (B b), .int .i64 k, .string (B r)] 150))
  clear hb1 HF HB0 hB1
  go_wp2_with fail
  go_ret
  exact ⟨rfl, unhide HB1⟩

set_option maxRecDepth 100000 in
set_option maxHeartbeats 1600000 in
/-- a frame to another card. -/
theorem handle_other (s a b r mac ip : Str) (k : Nat) (zv : Value) (w : World) (h1 : a ≠ mac) (h2 : a ≠ [255, 255, 255, 255, 255, 255])
    (hF : ∀ W, Calls Tryz.prog 79 #[.string (B s)] W fun e w' => e = .returned (.tuple #[frm a b k r, .bool true]) ∧ Below W.heap.size W w') :
    Calls Tryz.prog 37 #[zv, cfg mac ip, .string (B s)] w fun e w' => e = .returned (.string ⟨#[]⟩) ∧ Below w.heap.size w w' := by
  have HF := hide hF
  have hB0 := (Below.refl w.heap.size w).alloc (Nat.le_refl _) (.cells #[.string (B mac), .string (B ip)] 62)
  have HB0 := hide hB0
  have HC := hide (BlkAt.new w [.string (B mac), .string (B ip)] 62)
  have t1 : ¬ (B a).toList = (B mac).toList := by rw [ByteArray.toList_eq, ByteArray.toList_eq]; exact h1
  have t2 : ¬ (B a).toList = [255, 255, 255, 255, 255, 255] := by rw [ByteArray.toList_eq]; exact h2
  have t3 : ¬ (B a).toList = (⟨#[255, 255, 255, 255, 255, 255]⟩ : ByteArray).toList := by rw [ByteArray.toList_eq, ByteArray.toList_eq]; exact h2
  have b1 : ((B a).toList == (B mac).toList) = false := by simpa using t1
  have b2 : ((B a).toList == [255, 255, 255, 255, 255, 255]) = false := by simpa using t2
  have b3 : ((B a).toList == (⟨#[255, 255, 255, 255, 255, 255]⟩ : ByteArray).toList) = false := by rw [beq_eq_false_iff_ne]; exact t3
  clear hF hB0 h1 h2
  go_enter Tryz.func37, Tryz.ntmps37
  go_wp2_with fail
  refine (unhide HF _).mono ?_
  rintro e w1 ⟨rfl, hb1⟩
  have hB1 := (unhide HB0).trans (hb1.mono (by simp))
  have hw1 := hB1.size
  have HB1 := hide (hB1.alloc hw1 (.cells #[.string (B a), .string (B b), .int .i64 k, .string (B r)] 150))
  have hC1 := (unhide HC).below hb1 (by simp)
  have c0 := hC1.cell 0 (by simp)
  have c0' := (hC1.alloc (.cells #[.string (B a), .string (B b), .int .i64 k, .string (B r)] 150)).cell 0 (by simp)
  simp only [List.getElem_cons_zero, List.getElem_cons_succ] at c0 c0'
  have hw2 := hC1.lt
  clear hb1 HF HB0 hB1 HC hC1
  go_wp2_with fail
  go_ret
  exact ⟨rfl, unhide HB1⟩

set_option maxRecDepth 100000 in
set_option maxHeartbeats 1600000 in
/-- a frame to this card. -/
theorem handle_mine (s b r mac ip x : Str) (k : Nat) (zv : Value) (w : World)
    (hF : ∀ W, Calls Tryz.prog 79 #[.string (B s)] W fun e w' => e = .returned (.tuple #[frm mac b k r, .bool true]) ∧ Below W.heap.size W w')
    (hA : ∀ W, Below w.heap.size w W → Calls Tryz.prog 80 #[frm mac b k r, zv, cfg mac ip] W fun e w' => e = .returned (.string (B x)) ∧ Below W.heap.size W w') :
    Calls Tryz.prog 37 #[zv, cfg mac ip, .string (B s)] w fun e w' => e = .returned (.string (B x)) ∧ Below w.heap.size w w' := by
  have HF := hide hF
  have hB0 := (Below.refl w.heap.size w).alloc (Nat.le_refl _) (.cells #[.string (B mac), .string (B ip)] 62)
  have HB0 := hide hB0
  have HC := hide (BlkAt.new w [.string (B mac), .string (B ip)] 62)
  have HA := hide hA
  clear hF hB0 hA
  go_enter Tryz.func37, Tryz.ntmps37
  go_wp2_with fail
  refine (unhide HF _).mono ?_
  rintro e w1 ⟨rfl, hb1⟩
  have hB1 := (unhide HB0).trans (hb1.mono (by simp))
  have hw1 := hB1.size
  have hB2 := hB1.alloc hw1 (.cells #[.string (B mac), .string (B b), .int .i64 k, .string (B r)] 150)
  have HA2 := hide (unhide HA _ hB2)
  have HB1 := hide hB2
  have hC1 := (unhide HC).below hb1 (by simp)
  have hC2 := hC1.alloc (.cells #[.string (B mac), .string (B b), .int .i64 k, .string (B r)] 150)
  have c0 := hC1.cell 0 (by simp)
  have c1 := hC1.cell 1 (by simp)
  have c0' := hC2.cell 0 (by simp)
  have c1' := hC2.cell 1 (by simp)
  simp only [List.getElem_cons_zero, List.getElem_cons_succ] at c0 c0' c1 c1'
  have hw2 := hC1.lt
  clear hb1 HF HB0 hB1 HC hC1 hC2 HA hB2
  go_wp2_with fail
  refine (unhide HA2).mono ?_
  rintro e w2 ⟨rfl, hb2⟩
  have HB2 := hide ((unhide HB1).trans (hb2.mono (unhide HB1).size))
  clear hb2 HB1 HA2
  go_wp2_with fail
  go_ret
  exact ⟨rfl, unhide HB2⟩
end Hg
end Go.Proofs.YtkkpahmoljiepaaGreatDoor

/- Contract: wire's readPacket where less than a header is there. -/
namespace Go.Proofs.YtkkpahmoljiepaaGreatDoor
open Go.RowKit
open Pu (Str hide unhide)

namespace Hl
open Ka Kc Wa Wb Wc Wd We Wf Wg Wh Wi Wj Wk Wl Wm Ha Hb Hc Hd Re

theorem oct_nil (br : Bool) : octP [] br = (0, [], true) := rfl
theorem short_nil (br : Bool) : shortP [] br = (0, [], true) := by simp [shortP, octP]
theorem take_nil (br : Bool) : takP [] br 4 = ([], [], true) := rfl

set_option maxRecDepth 100000 in
set_option maxHeartbeats 6400000 in
theorem readPacket_short (S : Str) (w : World) (hl : S.length < 20) :
    Calls Tryz.prog 210 #[.string (B S)] w fun e w' => e = .returned (.tuple #[.agg #[.string ⟨#[]⟩, .string ⟨#[]⟩, .string ⟨#[]⟩], .bool false]) ∧ Below w.heap.size w w' := by
  have hz0 : BlkAt ((w.alloc (.cells #[.string ⟨#[]⟩, .string ⟨#[]⟩, .string ⟨#[]⟩] 307)).alloc (.cells #[.string (B S), .bool false] 215)) w.heap.size zp 307 := (BlkAt.new w _ _).alloc _
  have hr0 : RdAt ((w.alloc (.cells #[.string ⟨#[]⟩, .string ⟨#[]⟩, .string ⟨#[]⟩] 307)).alloc (.cells #[.string (B S), .bool false] 215)) (w.heap.size + 1) S false := by
    have := World.alloc_heap_new (w.alloc (.cells #[.string ⟨#[]⟩, .string ⟨#[]⟩, .string ⟨#[]⟩] 307)) (.cells #[.string (B S), .bool false] 215)
    simpa [RdAt] using this
  have HB0 := hide (((Below.refl w.heap.size w).alloc (Nat.le_refl _) (.cells #[.string ⟨#[]⟩, .string ⟨#[]⟩, .string ⟨#[]⟩] 307)).alloc (by simp) (.cells #[.string (B S), .bool false] 215))
  have HC0 := hide (Wb.take_any _ 20 S false _ hr0 (by omega) (by omega))
  rw [show takP S false 20 = ([], [], true) from by unfold takP; rw [if_neg (by omega)]] at HC0
  have HZ0 := hide hz0
  clear hz0 hr0
  go_enter Tryz.func210, Tryz.ntmps210
  go_wp2_with fail
  refine (unhide HC0).mono ?_
  rintro e w1 ⟨rfl, hr1, hk1, hs1⟩
  have hsz : w1.heap.size = w.heap.size + 2 := by rw [hs1]; simp
  have HS0 : Hid (St w (w1.alloc (.cells #[.string (B []), .bool false] 215)) [] true [] false) :=
    ⟨((unhide HZ0).kept hk1 (by omega)).alloc _, (Below.heap_alloc _ _ _ hr1.lt).trans hr1, by rw [← hsz]; exact World.alloc_heap_new _ _, by simp; omega, ((unhide HB0).trans (hk1.below (by omega) (by simp; omega))).alloc (by omega) _⟩
  clear hr1 hk1 hs1 HC0 HZ0 HB0
  go_wp2_with fail
  generalize w1.alloc (.cells #[.string (B []), .bool false] 215) = v0 at *
  clear hsz w1
  have HC := hide (octet_any (w.heap.size + 2) [] false v0 (unhide HS0).h (by simp))
  rw [oct_nil] at HC
  refine (unhide HC).mono ?_
  rintro e v1 ⟨rfl, hr, hk, hs⟩
  have HS1 := hide ((unhide HS0).call hr hk hs)
  clear hr hk hs HC HS0
  have HC := hide (octet_any (w.heap.size + 2) [] true v1 (unhide HS1).h (by simp))
  rw [oct_nil] at HC
  go_wp2_with fail
  refine (unhide HC).mono ?_
  rintro e v2 ⟨rfl, hr, hk, hs⟩
  have HS2 := hide ((unhide HS1).call hr hk hs)
  clear hr hk hs HC HS1
  have HC := hide (short_any (w.heap.size + 2) [] true v2 (unhide HS2).h (by simp))
  rw [short_nil] at HC
  go_wp2_with fail
  refine (unhide HC).mono ?_
  rintro e v3 ⟨rfl, hr, hk, hs⟩
  have HS3 := hide ((unhide HS2).call hr hk hs)
  clear hr hk hs HC HS2
  have HC := hide (short_any (w.heap.size + 2) [] true v3 (unhide HS3).h (by simp))
  rw [short_nil] at HC
  go_wp2_with fail
  refine (unhide HC).mono ?_
  rintro e v4 ⟨rfl, hr, hk, hs⟩
  have HS4 := hide ((unhide HS3).call hr hk hs)
  clear hr hk hs HC HS3
  have HC := hide (short_any (w.heap.size + 2) [] true v4 (unhide HS4).h (by simp))
  rw [short_nil] at HC
  go_wp2_with fail
  refine (unhide HC).mono ?_
  rintro e v5 ⟨rfl, hr, hk, hs⟩
  have HS5 := hide ((unhide HS4).call hr hk hs)
  clear hr hk hs HC HS4
  have HC := hide (octet_any (w.heap.size + 2) [] true v5 (unhide HS5).h (by simp))
  rw [oct_nil] at HC
  go_wp2_with fail
  refine (unhide HC).mono ?_
  rintro e v6 ⟨rfl, hr, hk, hs⟩
  have HS6 := hide ((unhide HS5).call hr hk hs)
  clear hr hk hs HC HS5
  have HC := hide (octet_any (w.heap.size + 2) [] true v6 (unhide HS6).h (by simp))
  rw [oct_nil] at HC
  go_wp2_with fail
  refine (unhide HC).mono ?_
  rintro e v7 ⟨rfl, hr, hk, hs⟩
  have HS7 := hide ((unhide HS6).call hr hk hs)
  clear hr hk hs HC HS6
  have HC := hide (short_any (w.heap.size + 2) [] true v7 (unhide HS7).h (by simp))
  rw [short_nil] at HC
  go_wp2_with fail
  refine (unhide HC).mono ?_
  rintro e v8 ⟨rfl, hr, hk, hs⟩
  have HS8 := hide ((unhide HS7).call hr hk hs)
  clear hr hk hs HC HS7
  have HC := hide (Wb.take_any (w.heap.size + 2) 4 [] true v8 (unhide HS8).h (by omega) (by simp))
  rw [take_nil] at HC
  go_wp2_with fail
  refine (unhide HC).mono ?_
  rintro e v9 ⟨rfl, hr, hk, hs⟩
  have HS9 := hide ((unhide HS8).call hr hk hs)
  clear hr hk hs HC HS8
  have HC := hide (Wb.take_any (w.heap.size + 2) 4 [] true v9 (unhide HS9).h (by omega) (by simp))
  rw [take_nil] at HC
  go_wp2_with fail
  refine (unhide HC).mono ?_
  rintro e v10 ⟨rfl, hr, hk, hs⟩
  have HS10 := hide ((unhide HS9).call hr hk hs)
  clear hr hk hs HC HS9
  have hs10 := (unhide HS10).size
  have y0 := (unhide HS10).z.cell 0 (by simp)
  have y1 := (unhide HS10).z.cell 1 (by simp)
  have y2 := (unhide HS10).z.cell 2 (by simp)
  have hfy := (unhide HS10).z.frozen
  simp only [zp, List.getElem_cons_zero, List.getElem_cons_succ] at y0 y1 y2
  have HZY := hide (((((unhide HS10).z.set 0 (.string ⟨#[]⟩)).set 1 (.string ⟨#[]⟩)).set 2 (.string ⟨#[]⟩)).alloc (.cells #[.string (B []), .string (B []), .string ⟨#[]⟩] 307))
  have HBy := hide (((((unhide HS10).below.setCell (Nat.le_refl _) (p := ⟨w.heap.size, 0, none⟩) (.string ⟨#[]⟩)).setCell (Nat.le_refl _) (p := ⟨w.heap.size, 1, none⟩) (.string ⟨#[]⟩)).setCell (Nat.le_refl _) (p := ⟨w.heap.size, 2, none⟩) (.string ⟨#[]⟩)).alloc (by simp [World.setCell]; omega) (.cells #[.string (B []), .string (B []), .string ⟨#[]⟩] 307))
  clear HS10
  go_wp2
  refine bodyPost_ret (v := .tuple #[.agg #[.string ⟨#[]⟩, .string ⟨#[]⟩, .string ⟨#[]⟩], .bool false]) ?_ rfl ?_
  · have r0 : ((((v10.setCell ⟨w.heap.size, 0, none⟩ (.string ⟨#[]⟩)).setCell ⟨w.heap.size, 1, none⟩ (.string ⟨#[]⟩)).setCell ⟨w.heap.size, 2, none⟩ (.string ⟨#[]⟩)).alloc (.cells #[.string (B []), .string (B []), .string ⟨#[]⟩] 307)).cell? ⟨w.heap.size, 0, none⟩ = some (.string ⟨#[]⟩) := (unhide HZY).cell 0 (by simp)
    have r1 : ((((v10.setCell ⟨w.heap.size, 0, none⟩ (.string ⟨#[]⟩)).setCell ⟨w.heap.size, 1, none⟩ (.string ⟨#[]⟩)).setCell ⟨w.heap.size, 2, none⟩ (.string ⟨#[]⟩)).alloc (.cells #[.string (B []), .string (B []), .string ⟨#[]⟩] 307)).cell? ⟨w.heap.size, 1, none⟩ = some (.string ⟨#[]⟩) := (unhide HZY).cell 1 (by simp)
    have r2 : ((((v10.setCell ⟨w.heap.size, 0, none⟩ (.string ⟨#[]⟩)).setCell ⟨w.heap.size, 1, none⟩ (.string ⟨#[]⟩)).setCell ⟨w.heap.size, 2, none⟩ (.string ⟨#[]⟩)).alloc (.cells #[.string (B []), .string (B []), .string ⟨#[]⟩] 307)).cell? ⟨w.heap.size, 2, none⟩ = some (.string ⟨#[]⟩) := (unhide HZY).cell 2 (by simp)
    simp [results, Tryz.results210, go_sem, r0, r1, r2]
  · exact ⟨rfl, unhide HBy⟩
end Hl
end Go.Proofs.YtkkpahmoljiepaaGreatDoor

/- Contracts: wire's put of fields whose writing leans on what lies in memory. -/
namespace Go.Proofs.YtkkpahmoljiepaaGreatDoor
open Go.RowKit
open Pu (Str hide unhide)

/-- a method writes a text behind one message's bytes, where something lies in memory that such writing leaves as it is. -/
def WrI (mb base : Nat) (vp : Value) (I : World → Prop) (fn : FuncId) (x : Value) (out : Str) : Prop := ∀ (vb : Value) (l : Str) (w : World), I w → MsgAt w mb vb vp → OwnB w base vb l → base ≤ w.heap.size → l.length + out.length ≤ 60000 →
  Calls Tryz.prog fn #[x, .pointer (some ⟨mb, 0, none⟩)] w fun e w' => e = .returned (.tuple #[]) ∧ (∃ vb', MsgAt w' mb vb' vp ∧ OwnB w' base vb' (l ++ out)) ∧ TF mb base w w'
def Fd.OkI (mb base : Nat) (vp : Value) (I : World → Prop) (f : Fd) : Prop := (∀ W : World, (method 521 f.t f.x "beacon/wire.writeTo").run Tryz.prog W = .ok (f.fn, f.x) W) ∧ (∀ (args : Array Value) (W : World), (callFunc f.fn args).run Tryz.prog W = .ok (.enter f.fn args) W) ∧ WrI mb base vp I f.fn f.x f.out
theorem Fd.Ok.toI {f : Fd} (h : f.Ok) (mb base : Nat) (vp : Value) (I : World → Prop) : f.OkI mb base vp I :=
  ⟨h.1, h.2.1, fun vb l w _ hm ho hb hl => h.2.2 mb base vb vp l w hm ho hb (by omega)⟩
/-- what writing leaves as it is. -/
def Stable (mb base : Nat) (I : World → Prop) : Prop := ∀ w w', I w → TF mb base w w' → I w'

namespace Wn
open Ka Wa Wb Wc Wd We Wf Wg Wh Wi Wj Wk Wl Wm Re

set_option maxRecDepth 100000 in
set_option maxHeartbeats 800000 in
theorem put_I (mb base g cap : Nat) (I : World → Prop) (fs : List Fd) (vb vp : Value) (l : Str) (w : World) (hI : I w) (hst : Stable mb base I) (hm : MsgAt w mb vb vp) (ho : OwnB w base vb l) (hbs : base ≤ w.heap.size)
    (hok : ∀ f ∈ fs, f.OkI mb base vp I) (hlt : g < w.heap.size) (hgm : g ≠ mb) (hkeep : g < base ∨ ∀ cur, w.heap[g]? ≠ some (.cells cur 5 (0, 0))) (hcells : ∀ j (h : j < fs.length), w.cell? ⟨g, j, none⟩ = some (.iface fs[j].t fs[j].x))
    (hn : fs.length ≤ cap) (hc : fs.length ≤ 1000000) (hl : l.length + (outs fs).length ≤ 60000) :
    Calls Tryz.prog 139 #[.pointer (some ⟨mb, 0, none⟩), .slice (some ⟨g, 0, none⟩) fs.length cap] w fun e w' =>
      e = .returned (.tuple #[]) ∧ (∃ vb', MsgAt w' mb vb' vp ∧ OwnB w' base vb' (l ++ outs fs)) ∧ TF mb base w w' := by
  have HM := hide hm
  have HO := hide ho
  have HOK := hide hok
  have HC := hide hcells
  have HK := hide hkeep
  have HI := hide hI
  have HST := hide hst
  clear hm ho hok hcells hkeep hI hst
  go_enter Tryz.func139, Tryz.ntmps139
  go_wp2_with fail
  go_loopw [8] (fun i wr => ∃ (k : Nat) (vb' : Value), i = .int .i64 k ∧ k ≤ fs.length ∧ MsgAt wr mb vb' vp ∧ OwnB wr base vb' (l ++ outs (fs.take k)) ∧ TF mb base w wr) (fun i _ => fs.length - (intOf i).toNat)
  case atStart => exact ⟨0, vb, rfl, Nat.zero_le _, unhide HM, by simpa [outs] using unhide HO, TF.refl _ _ _⟩
  case round =>
    obtain ⟨k, vb', rfl, hk, hm, ho, ht⟩ := hrel
    have HM1 := hide hm
    have HO1 := hide ho
    have HT1 := hide ht
    have hsz := ht.size
    clear hm ho ht
    by_cases hlk : k < fs.length
    · have hcell : wr.cell? ⟨g, k, none⟩ = some (.iface fs[k].t fs[k].x) := (World.cell?_of_block (w := w) ((unhide HT1).block g hlt hgm (unhide HK))).trans (unhide HC k hlk)
      have hOK := unhide HOK fs[k] (List.getElem_mem hlk)
      have HE := hide (outs_take fs k hlk)
      have HL := hide (outs_le fs (k + 1))
      rw [outs_take fs k hlk, List.length_append] at HL
      generalize fs[k] = f at *
      have hmeth := hOK.1
      have hcf := hOK.2.1
      have HW := hide (hOK.2.2 vb' _ wr (unhide HST w wr (unhide HI) (unhide HT1)) (unhide HM1) (unhide HO1) (by omega) (by rw [List.length_append]; have := unhide HL; omega))
      clear hOK
      go_wp2_with fail
      refine (unhide HW).mono ?_
      rintro e w2 ⟨rfl, ⟨vb2, h1, h2⟩, h3⟩
      rw [List.append_assoc, ← unhide HE] at h2
      have HF := hide (And.intro h1 (And.intro h2 ((unhide HT1).trans h3)))
      clear h1 h2 h3 HW
      go_wp2_with fail
      exact ⟨⟨k + 1, vb2, by go_num, by omega, (unhide HF).1, (unhide HF).2.1, (unhide HF).2.2⟩, by simp [intOf]; omega⟩
    · have hkl : k = fs.length := by omega
      subst hkl
      have HO2 := unhide HO1
      rw [List.take_length] at HO2
      have HO3 := hide HO2
      clear HO2
      go_wp2
      refine bodyPost_end (v := .tuple #[]) (by simp [results, Tryz.results139]) rfl ?_
      exact ⟨rfl, ⟨vb', unhide HM1, unhide HO3⟩, unhide HT1⟩
end Wn
end Go.Proofs.YtkkpahmoljiepaaGreatDoor
