/- Contracts: fields that were just laid, written and summed; frames: readFrame, bytes. -/
import Derived.Test.YtkkpahmoljiepaaGreatDoorJ17
import Derived.Deep.RegionHeld
set_option linter.unusedSimpArgs false
set_option linter.unusedVariables false
namespace Go.Proofs.YtkkpahmoljiepaaGreatDoor
open Go.RowKit
open Pu (Str hide unhide)

/-- a block of cells. -/
def BlkAt (w : World) (b : Nat) (cs : List Value) (t : TypeId) : Prop := w.heap[b]? = some (.cells cs.toArray t)
section
variable {w w' : World} {b d : Nat} {cs : List Value} {t : TypeId}
theorem BlkAt.lt (h : BlkAt w b cs t) : b < w.heap.size := (Array.getElem?_eq_some_iff.1 h).1
theorem BlkAt.cell (h : BlkAt w b cs t) (i : Nat) (hi : i < cs.length) : w.cell? ⟨b, i, none⟩ = some cs[i] := by
  unfold BlkAt at h; simp [World.cell?, h, hi]
theorem BlkAt.frozen (h : BlkAt w b cs t) (i : Nat) : w.frozen? ⟨b, i, none⟩ = false := by
  unfold BlkAt at h; simp [World.frozen?, h]
theorem BlkAt.set (h : BlkAt w b cs t) (i : Nat) (v : Value) : BlkAt (w.setCell ⟨b, i, none⟩ v) b (cs.set i v) t := by
  unfold BlkAt at *; simp only [World.setCell]; rw [Array.getElem?_modify, if_pos rfl, h]; simp
theorem BlkAt.kept (h : BlkAt w b cs t) (hk : It.Keeps d w w') (hd : b ≠ d) : BlkAt w' b cs t := (hk.block b h.lt hd).trans h
theorem BlkAt.below (h : BlkAt w b cs t) (hb : Below d w w') (hd : b < d) : BlkAt w' b cs t := (hb.block b hd).trans h
theorem BlkAt.alloc (h : BlkAt w b cs t) (o : Obj) : BlkAt (w.alloc o) b cs t := (Below.heap_alloc _ _ _ h.lt).trans h
theorem BlkAt.new (w : World) (cs : List Value) (t : TypeId) : BlkAt (w.alloc (.cells cs.toArray t)) w.heap.size cs t := World.alloc_heap_new _ _
end

namespace Hc
open Ka Kc Wa Wb Wc Wd We Wf Wg Wh Wi Wj Wk Wl Wm Ha Hb Re

/-- fields as a row that was just laid. -/
def ifs (fs : List Fd) : List Value := fs.map fun f => Value.iface f.t f.x
theorem ifs_cell (fs : List Fd) (W : World) (j : Nat) (h : j < fs.length) : (W.alloc (.cells (ifs fs).toArray 297)).cell? ⟨W.heap.size, j, none⟩ = some (.iface fs[j].t fs[j].x) := by
  have := (BlkAt.new W (ifs fs) 297).cell j (by simpa [ifs] using h)
  rw [this]; simp [ifs]
theorem written_new (fs : List Fd) (W : World) (hok : ∀ f ∈ fs, f.Ok) (hc : fs.length ≤ 1000000) (hl : (outs fs).length ≤ 1000000) :
    Calls Tryz.prog 199 #[.slice (some ⟨W.heap.size, 0, none⟩) fs.length fs.length] (W.alloc (.cells (ifs fs).toArray 297)) fun e w' => e = .returned (.string (B (outs fs))) ∧ Below W.heap.size W w' := by
  refine (written_any W.heap.size fs.length fs _ hok (by simp) (ifs_cell fs W) (Nat.le_refl _) hc hl).mono ?_
  rintro e w' ⟨rfl, hb⟩
  exact ⟨rfl, ((Below.refl _ _).alloc (Nat.le_refl _) _).trans (hb.mono (by simp))⟩
theorem sum_new (fs : List Fd) (W : World) (hok : ∀ f ∈ fs, f.Ok) (hc : fs.length ≤ 1000000) (hl : (outs fs).length ≤ 1000000) :
    Calls Tryz.prog 256 #[.slice (some ⟨W.heap.size, 0, none⟩) fs.length fs.length] (W.alloc (.cells (ifs fs).toArray 297)) fun e w' => e = .returned (.int .i64 (fold (ws true (outs fs)))) ∧ Below W.heap.size W w' := by
  refine (sum_any W.heap.size fs.length fs _ hok (by simp) (ifs_cell fs W) (Nat.le_refl _) hc hl).mono ?_
  rintro e w' ⟨rfl, hb⟩
  exact ⟨rfl, ((Below.refl _ _).alloc (Nat.le_refl _) _).trans (hb.mono (by simp))⟩

set_option maxRecDepth 100000 in
set_option maxHeartbeats 1600000 in
theorem readFrame_any (s : Str) (w : World) (hl : s.length ≤ 1000000000) {a s1 c s2 s3 : Str} {k : Nat} {b1 b2 b3 : Bool} (e1 : takP s false 6 = (a, s1, b1)) (e2 : takP s1 b1 6 = (c, s2, b2)) (e3 : shortP s2 b2 = (k, s3, b3)) :
    Calls Tryz.prog 79 #[.string (B s)] w fun e w' => e = .returned (.tuple #[.agg #[.string (B a), .string (B c), .int .i64 k, .string (B s3)], .bool (!b3)]) ∧ Below w.heap.size w w' := by
  have l1 := takP_len s false 6
  have l2 := takP_len s1 b1 6
  rw [e1] at l1
  rw [e2] at l2
  simp only at l1 l2
  have hz0 : BlkAt ((w.alloc (.cells #[.string ⟨#[]⟩, .string ⟨#[]⟩, .int .i64 0, .string ⟨#[]⟩] 150)).alloc (.cells #[.string (B s), .bool false] 215)) w.heap.size [.string ⟨#[]⟩, .string ⟨#[]⟩, .int .i64 0, .string ⟨#[]⟩] 150 := (BlkAt.new w _ _).alloc _
  have hr0 : RdAt ((w.alloc (.cells #[.string ⟨#[]⟩, .string ⟨#[]⟩, .int .i64 0, .string ⟨#[]⟩] 150)).alloc (.cells #[.string (B s), .bool false] 215)) (w.heap.size + 1) s false := by
    have := World.alloc_heap_new (w.alloc (.cells #[.string ⟨#[]⟩, .string ⟨#[]⟩, .int .i64 0, .string ⟨#[]⟩] 150)) (.cells #[.string (B s), .bool false] 215)
    simpa [RdAt] using this
  have HB0 := hide (((Below.refl w.heap.size w).alloc (Nat.le_refl _) (.cells #[.string ⟨#[]⟩, .string ⟨#[]⟩, .int .i64 0, .string ⟨#[]⟩] 150)).alloc (by simp) (.cells #[.string (B s), .bool false] 215))
  have HC0 := hide (Wb.take_any _ 6 s false _ hr0 (by omega) hl)
  rw [e1] at HC0
  have HZ0 := hide hz0
  have HE2 := hide e2
  have HE3 := hide e3
  clear hz0 hr0 e1 e2 e3
  go_enter Tryz.func79, Tryz.ntmps79
  go_wp2_with fail
  refine (unhide HC0).mono ?_
  rintro e w1 ⟨rfl, hr1, hk1, hs1⟩
  have HC1 := hide (Wb.take_any _ 6 s1 b1 w1 hr1 (by omega) (by omega))
  rw [unhide HE2] at HC1
  have HZ1 := hide ((unhide HZ0).kept hk1 (by omega))
  have HB1 := hide ((unhide HB0).trans (hk1.below (by omega) (by simp; omega)))
  have HS1 : Hid (w1.heap.size = w.heap.size + 2) := by rw [Hid, hs1]; simp
  clear hr1 hk1 hs1 HC0 HZ0 HB0 HE2
  go_wp2_with fail
  refine (unhide HC1).mono ?_
  rintro e w2 ⟨rfl, hr2, hk2, hs2⟩
  have HC2 := hide (short_any _ s2 b2 w2 hr2 (by omega))
  rw [unhide HE3] at HC2
  have HZ2 := hide ((unhide HZ1).kept hk2 (by omega))
  have HB2 := hide ((unhide HB1).trans (hk2.below (by omega) (by have := unhide HS1; omega)))
  have HS2 : Hid (w2.heap.size = w.heap.size + 2) := by rw [Hid, hs2]; exact unhide HS1
  clear hr2 hk2 hs2 HC1 HZ1 HB1 HS1 HE3
  go_wp2_with fail
  refine (unhide HC2).mono ?_
  rintro e w3 ⟨rfl, hr3, hk3, hs3⟩
  have HZ3 := hide ((unhide HZ2).kept hk3 (by omega))
  have HB3 := hide ((unhide HB2).trans (hk3.below (by omega) (by have := unhide HS2; omega)))
  have hs : w3.heap.size = w.heap.size + 2 := by rw [hs3]; exact unhide HS2
  have hrx : ∀ x, RdAt (w3.alloc (.cells #[.string (B a), .string (B c), .int .i64 k, x] 150)) (w.heap.size + 1) s3 b3 := fun x => (Below.heap_alloc _ _ _ hr3.lt).trans hr3
  have hzx := fun x => (unhide HZ3).alloc (.cells #[.string (B a), .string (B c), .int .i64 k, x] 150)
  have HB4 := hide (fun x => (unhide HB3).alloc (by omega) (.cells #[.string (B a), .string (B c), .int .i64 k, x] 150))
  have q0 := fun x => (hrx x).cells.1
  have q1 := fun x => (hrx x).cells.2
  have z0 : ∀ x, (w3.alloc (.cells #[.string (B a), .string (B c), .int .i64 k, x] 150)).cell? ⟨w.heap.size, 0, none⟩ = _ := fun x => (hzx x).cell 0 (by simp)
  have z1 : ∀ x, (w3.alloc (.cells #[.string (B a), .string (B c), .int .i64 k, x] 150)).cell? ⟨w.heap.size, 1, none⟩ = _ := fun x => (hzx x).cell 1 (by simp)
  have z2 : ∀ x, (w3.alloc (.cells #[.string (B a), .string (B c), .int .i64 k, x] 150)).cell? ⟨w.heap.size, 2, none⟩ = _ := fun x => (hzx x).cell 2 (by simp)
  have z3 : ∀ x, (w3.alloc (.cells #[.string (B a), .string (B c), .int .i64 k, x] 150)).cell? ⟨w.heap.size, 3, none⟩ = _ := fun x => (hzx x).cell 3 (by simp)
  simp only [List.getElem_cons_zero, List.getElem_cons_succ] at z0 z1 z2 z3
  have hfz : ∀ x i, (w3.alloc (.cells #[.string (B a), .string (B c), .int .i64 k, x] 150)).frozen? ⟨w.heap.size, i, none⟩ = false := fun x i => (hzx x).frozen i
  have n1 : w.heap.size ≠ w3.heap.size := by omega
  have n2 : w.heap.size + 1 ≠ w3.heap.size := by omega
  have nz : w.heap.size ≤ w3.heap.size := by omega
  clear hr3 hk3 hs3 HC2 HZ2 HB2 HS2 HZ3 hs HB3 hrx hzx
  go_wp2_with fail
  go_region
  all_goals
    go_wp2
    refine bodyPost_ret (v := .tuple #[.agg #[.string (B a), .string (B c), .int .i64 k, .string (B s3)], .bool (!b3)]) (by simp [results, Tryz.results79, go_sem, z0, z1, z2, z3]) rfl ⟨rfl, ?_⟩
    exact (((((unhide HB4 _).drew).setCell (Nat.le_refl _) _).setCell (Nat.le_refl _) _).setCell (Nat.le_refl _) _).setCell (Nat.le_refl _) _
end Hc
end Go.Proofs.YtkkpahmoljiepaaGreatDoor

/- Contracts: wire's (packet).sumWith, carrying, bytes; (frame).bytes. -/
namespace Go.Proofs.YtkkpahmoljiepaaGreatDoor
open Go.RowKit
open Pu (Str hide unhide)

namespace He
open Ka Kc Wa Wb Wc Wd We Wf Wg Wh Wi Wj Wk Wl Wm Ha Hb Hc Re

theorem ok1 {a : Fd} (h1 : a.Ok) : ∀ f ∈ [a], f.Ok := by intro f hf; simp at hf; subst hf; exact h1
theorem okc {a : Fd} {l : List Fd} (h1 : a.Ok) (h2 : ∀ f ∈ l, f.Ok) : ∀ f ∈ a :: l, f.Ok := by
  intro f hf
  rcases List.mem_cons.1 hf with rfl | hf
  · exact h1
  · exact h2 f hf
theorem ok0 : ∀ f ∈ ([] : List Fd), f.Ok := fun f hf => by cases hf

/-- a datagram's sum, with the addresses. -/
def uSum (a b s : Str) : Nat := fold (ws true (a ++ b ++ [0, 17, hi s.length, lo s.length] ++ s))

set_option maxRecDepth 100000 in
set_option maxHeartbeats 800000 in
theorem sumWith_any (a b r s : Str) (w : World) (ha : a.length ≤ 1000) (hb : b.length ≤ 1000) (hs : s.length < 65536) :
    Calls Tryz.prog 282 #[.agg #[.string (B a), .string (B b), .string (B r)], .string (B s)] w fun e w' => e = .returned (.int .i64 (uSum a b s)) ∧ Below w.heap.size w w' := by
  have hz : (B s).size = s.length := size_B s
  have kw : IntKind.u16.wrap (s.length : Int) = (s.length : Int) := by rw [IntKind.wrap_u16]; omega
  have HS : Hid (∀ (gb : Nat) (W : World), gb = W.heap.size → Calls Tryz.prog 256 #[.slice (some ⟨gb, 0, none⟩) 5 5] (W.alloc (.cells #[.iface 224 (.string (B a)), .iface 224 (.string (B b)), .iface 284 (.int .u16 17), .iface 284 (.int .u16 s.length), .iface 224 (.string (B s))] 297)) fun e w' => e = .returned (.int .i64 (uSum a b s)) ∧ Below gb W w') := fun gb W hgb => by
    subst hgb
    have := sum_new [fRaw a, fRaw b, fShort 17, fShort s.length, fRaw s] W (okc (raw_ok a) (okc (raw_ok b) (okc (short_ok 17 (by omega)) (okc (short_ok _ hs) (ok1 (raw_ok s)))))) (by simp) (by simp [outs, fRaw, fShort]; omega)
    rw [show outs [fRaw a, fRaw b, fShort 17, fShort s.length, fRaw s] = a ++ b ++ [0, 17, hi s.length, lo s.length] ++ s by simp [outs, fRaw, fShort]; exact ⟨rfl, rfl⟩] at this
    exact this
  go_enter Tryz.func282, Tryz.ntmps282
  go_wp2_with fail
  refine (unhide HS _ _ (by simp <;> omega)).mono ?_
  rintro e w1 ⟨rfl, hb1⟩
  have HB := hide (((Below.refl w.heap.size w).alloc (Nat.le_refl _) _).trans (hb1.mono (by simp)))
  clear hb1
  go_wp2_with fail
  go_ret
  exact ⟨rfl, unhide HB⟩

set_option maxRecDepth 100000 in
set_option maxHeartbeats 800000 in
theorem frameBytes_any (a b r : Str) (k : Nat) (w : World) (ha : a.length ≤ 1000) (hb : b.length ≤ 1000) (hr : r.length ≤ 100000) (hk : k < 65536) :
    Calls Tryz.prog 209 #[.agg #[.string (B a), .string (B b), .int .i64 k, .string (B r)]] w fun e w' => e = .returned (.string (B (a ++ b ++ [hi k, lo k] ++ r))) ∧ Below w.heap.size w w' := by
  have kw : IntKind.u16.wrap (k : Int) = (k : Int) := by rw [IntKind.wrap_u16]; omega
  have HS : Hid (∀ (gb : Nat) (W : World), gb = W.heap.size → Calls Tryz.prog 199 #[.slice (some ⟨gb, 0, none⟩) 4 4] (W.alloc (.cells #[.iface 224 (.string (B a)), .iface 224 (.string (B b)), .iface 284 (.int .u16 k), .iface 224 (.string (B r))] 297)) fun e w' => e = .returned (.string (B (a ++ b ++ [hi k, lo k] ++ r))) ∧ Below gb W w') := fun gb W hgb => by
    subst hgb
    have := written_new [fRaw a, fRaw b, fShort k, fRaw r] W (okc (raw_ok a) (okc (raw_ok b) (okc (short_ok k hk) (ok1 (raw_ok r))))) (by simp) (by simp [outs, fRaw, fShort]; omega)
    rw [show outs [fRaw a, fRaw b, fShort k, fRaw r] = a ++ b ++ [hi k, lo k] ++ r by simp [outs, fRaw, fShort]] at this
    exact this
  go_enter Tryz.func209, Tryz.ntmps209
  go_wp2_with fail
  refine (unhide HS _ _ (by simp <;> omega)).mono ?_
  rintro e w1 ⟨rfl, hb1⟩
  have HB := hide (((Below.refl w.heap.size w).alloc (Nat.le_refl _) _).trans (hb1.mono (by simp)))
  clear hb1
  go_wp2_with fail
  go_ret
  exact ⟨congrArg (fun x => Ending.returned (.string (B x))) (by simp), unhide HB⟩

/-- a packet's first bytes; its sum; its bytes. -/
def ipOA (n : Nat) : Str := [69, 0, hi (20 + n), lo (20 + n), 0, 0, 64, 0, 64, 17]
def ipOC (a b : Str) (n : Nat) : Nat := 65535 - fold (ws true (ipOA n ++ a ++ b))
def ipO (a b r : Str) : Str := ipOA r.length ++ [hi (ipOC a b r.length), lo (ipOC a b r.length)] ++ a ++ b ++ r

set_option maxRecDepth 100000 in
set_option maxHeartbeats 1600000 in
theorem packetBytes_any (a b r : Str) (w : World) (ha : a.length ≤ 1000) (hb : b.length ≤ 1000) (hr : r.length ≤ 60000) :
    Calls Tryz.prog 212 #[.agg #[.string (B a), .string (B b), .string (B r)]] w fun e w' => e = .returned (.string (B (ipO a b r))) ∧ Below w.heap.size w w' := by
  have hz : (B r).size = r.length := size_B r
  obtain ⟨n, hn⟩ : ∃ n, n = 20 + r.length := ⟨_, rfl⟩
  have kn : (20 : Int) + (r.length : Int) = (n : Int) := by omega
  have kw : IntKind.u16.wrap (n : Int) = (n : Int) := by rw [IntKind.wrap_u16]; omega
  have HA : Hid (ipOA r.length = [69, 0, hi n, lo n, 0, 0, 64, 0, 64, 17]) := by rw [Hid, hn]; rfl
  have H1 : Hid (∀ (gb : Nat) (W : World), gb = W.heap.size → Calls Tryz.prog 199 #[.slice (some ⟨gb, 0, none⟩) 7 7] (W.alloc (.cells #[.iface 292 (.int .u8 69), .iface 292 (.int .u8 0), .iface 284 (.int .u16 n), .iface 284 (.int .u16 0), .iface 284 (.int .u16 16384), .iface 292 (.int .u8 64), .iface 292 (.int .u8 17)] 297)) fun e w' => e = .returned (.string (B (ipOA r.length))) ∧ Below gb W w') := fun gb W hgb => by
    subst hgb
    have := written_new [fOctet 69, fOctet 0, fShort n, fShort 0, fShort 16384, fOctet 64, fOctet 17] W (okc (octet_ok 69) (okc (octet_ok 0) (okc (short_ok n (by omega)) (okc (short_ok 0 (by omega)) (okc (short_ok 16384 (by omega)) (okc (octet_ok 64) (ok1 (octet_ok 17)))))))) (by simp) (by simp [outs, fOctet, fShort])
    rw [unhide HA]
    exact this
  obtain ⟨h, hh⟩ : ∃ h, h = ipOA r.length := ⟨_, rfl⟩
  have lh : h.length = 10 := by rw [hh]; rfl
  have HC : Hid (ipOC a b r.length = 65535 - fold (ws true (h ++ a ++ b))) := by rw [Hid, hh]; rfl
  have HO : Hid (ipO a b r = h ++ [hi (ipOC a b r.length), lo (ipOC a b r.length)] ++ a ++ b ++ r) := by rw [Hid, hh]; rfl
  rw [← hh] at H1
  have H2 : Hid (∀ (gb : Nat) (W : World), gb = W.heap.size → Calls Tryz.prog 256 #[.slice (some ⟨gb, 0, none⟩) 3 3] (W.alloc (.cells #[.iface 224 (.string (B h)), .iface 224 (.string (B a)), .iface 224 (.string (B b))] 297)) fun e w' => e = .returned (.int .i64 (fold (ws true (h ++ a ++ b)))) ∧ Below gb W w') := fun gb W hgb => by
    subst hgb
    have := sum_new [fRaw h, fRaw a, fRaw b] W (okc (raw_ok h) (okc (raw_ok a) (ok1 (raw_ok b)))) (by simp) (by simp [outs, fRaw]; omega)
    rw [show outs [fRaw h, fRaw a, fRaw b] = h ++ a ++ b by simp [outs, fRaw]] at this
    exact this
  have hfl := fold_le (ws true (h ++ a ++ b))
  generalize fold (ws true (h ++ a ++ b)) = f at *
  obtain ⟨c, hc⟩ : ∃ c, c = ipOC a b r.length := ⟨_, rfl⟩
  rw [← hc] at HC HO
  have kc : (65535 : Int) - (f : Int) = (c : Int) := by have := unhide HC; omega
  have kcw : IntKind.u16.wrap (c : Int) = (c : Int) := by rw [IntKind.wrap_u16]; have := unhide HC; omega
  have hcl : c < 65536 := by have := unhide HC; omega
  have H3 : Hid (∀ (gb : Nat) (W : World), gb = W.heap.size → Calls Tryz.prog 199 #[.slice (some ⟨gb, 0, none⟩) 5 5] (W.alloc (.cells #[.iface 224 (.string (B h)), .iface 284 (.int .u16 c), .iface 224 (.string (B a)), .iface 224 (.string (B b)), .iface 224 (.string (B r))] 297)) fun e w' => e = .returned (.string (B (ipO a b r))) ∧ Below gb W w') := fun gb W hgb => by
    subst hgb
    have := written_new [fRaw h, fShort c, fRaw a, fRaw b, fRaw r] W (okc (raw_ok h) (okc (short_ok c hcl) (okc (raw_ok a) (okc (raw_ok b) (ok1 (raw_ok r)))))) (by simp) (by simp [outs, fRaw, fShort]; omega)
    rw [show outs [fRaw h, fShort c, fRaw a, fRaw b, fRaw r] = ipO a b r by rw [unhide HO]; simp [outs, fRaw, fShort]] at this
    exact this
  clear HA HC HO hh hc hn lh
  have HZ := hide (BlkAt.new w [.string (B a), .string (B b), .string (B r)] 307)
  have HB := hide ((Below.refl w.heap.size w).alloc (Nat.le_refl _) (.cells #[.string (B a), .string (B b), .string (B r)] 307))
  have hsz : (w.alloc (.cells #[.string (B a), .string (B b), .string (B r)] 307)).heap.size = w.heap.size + 1 := by simp
  go_enter Tryz.func212, Tryz.ntmps212
  go_wp2_with fail
  refine (unhide H1 _ _ (by simp <;> omega)).mono ?_
  rintro e w1 ⟨rfl, hb1⟩
  have HZ1 := hide ((unhide HZ).below hb1 (by simp))
  have HB1 := hide ((unhide HB).trans (hb1.mono (by simp)))
  clear hb1 HZ HB hsz
  have y0 := (unhide HZ1).cell 0 (by simp)
  have y1 := (unhide HZ1).cell 1 (by simp)
  have y2 := (unhide HZ1).cell 2 (by simp)
  simp at y0 y1 y2
  have hlt := (unhide HZ1).lt
  go_wp2_with fail
  refine (unhide H2 _ _ (by simp <;> omega)).mono ?_
  rintro e w2 ⟨rfl, hb2⟩
  have HZ2 := hide ((unhide HZ1).below hb2 hlt)
  have HB2 := hide ((unhide HB1).trans (hb2.mono (by omega)))
  clear hb2 HZ1 HB1 y0 y1 y2
  have y0 := (unhide HZ2).cell 0 (by simp)
  have y1 := (unhide HZ2).cell 1 (by simp)
  have y2 := (unhide HZ2).cell 2 (by simp)
  simp at y0 y1 y2
  have hlt2 := (unhide HZ2).lt
  go_wp2_with fail
  refine (unhide H3 _ _ (by simp <;> omega)).mono ?_
  rintro e w3 ⟨rfl, hb3⟩
  have HB3 := hide ((unhide HB2).trans (hb3.mono (by omega)))
  clear hb3
  go_wp2_with fail
  go_ret
  exact ⟨rfl, unhide HB3⟩

/-- a datagram: ahead of its sum; its sum; its bytes. -/
def udA (sp dp : Nat) (m : Str) : Str := [hi sp, lo sp, hi dp, lo dp, hi (8 + m.length), lo (8 + m.length)]
def udC (a b : Str) (sp dp : Nat) (m : Str) : Nat := if 65535 - uSum a b (udA sp dp m ++ [0, 0] ++ m) = 0 then 65535 else 65535 - uSum a b (udA sp dp m ++ [0, 0] ++ m)
def udO (a b : Str) (sp dp : Nat) (m : Str) : Str := udA sp dp m ++ [hi (udC a b sp dp m), lo (udC a b sp dp m)] ++ m
/-- what lies in memory while carrying goes on. -/
structure Cy (w W : World) (a b r m : Str) (sp dp : Nat) : Prop where
  p : BlkAt W w.heap.size [.string (B a), .string (B b), .string (B r)] 307
  d : BlkAt W (w.heap.size + 1) [.int .i64 sp, .int .i64 dp, .string (B m)] 349
  z : BlkAt W (w.heap.size + 2) [.string ⟨#[]⟩, .string ⟨#[]⟩, .string ⟨#[]⟩] 307
  below : Below w.heap.size w W
theorem Cy.size {w W : World} {a b r m : Str} {sp dp : Nat} (h : Cy w W a b r m sp dp) : w.heap.size + 2 < W.heap.size := h.z.lt
theorem Cy.next {w W W' : World} {a b r m : Str} {sp dp : Nat} (h : Cy w W a b r m sp dp) (hb : Below W.heap.size W W') : Cy w W' a b r m sp dp :=
  ⟨h.p.below hb h.p.lt, h.d.below hb h.d.lt, h.z.below hb h.z.lt, h.below.trans (hb.mono (by have := h.size; omega))⟩
theorem Cy.start (w : World) (a b r m : Str) (sp dp : Nat) : Cy w (((w.alloc (.cells #[.string (B a), .string (B b), .string (B r)] 307)).alloc (.cells #[.int .i64 sp, .int .i64 dp, .string (B m)] 349)).alloc (.cells #[.string ⟨#[]⟩, .string ⟨#[]⟩, .string ⟨#[]⟩] 307)) a b r m sp dp where
  p := ((BlkAt.new w _ _).alloc _).alloc _
  d := by
    have := (BlkAt.new (w.alloc (.cells #[.string (B a), .string (B b), .string (B r)] 307)) [.int .i64 sp, .int .i64 dp, .string (B m)] 349).alloc (.cells #[.string ⟨#[]⟩, .string ⟨#[]⟩, .string ⟨#[]⟩] 307)
    simpa using this
  z := by
    have := BlkAt.new ((w.alloc (.cells #[.string (B a), .string (B b), .string (B r)] 307)).alloc (.cells #[.int .i64 sp, .int .i64 dp, .string (B m)] 349)) [.string ⟨#[]⟩, .string ⟨#[]⟩, .string ⟨#[]⟩] 307
    simpa using this
  below := (((Below.refl _ _).alloc (Nat.le_refl _) _).alloc (by simp) _).alloc (by simp; omega) _

set_option maxRecDepth 100000 in
set_option maxHeartbeats 3200000 in
theorem carrying_any (a b r m : Str) (sp dp : Nat) (w : World) (ha : a.length ≤ 1000) (hb : b.length ≤ 1000) (hm : m.length ≤ 60000) (hsp : sp < 65536) (hdp : dp < 65536) :
    Calls Tryz.prog 258 #[.agg #[.string (B a), .string (B b), .string (B r)], .agg #[.int .i64 sp, .int .i64 dp, .string (B m)]] w fun e w' => e = .returned (.agg #[.string (B a), .string (B b), .string (B (udO a b sp dp m))]) ∧ Below w.heap.size w w' := by
  have hz : (B m).size = m.length := size_B m
  obtain ⟨n, hn⟩ : ∃ n, n = 8 + m.length := ⟨_, rfl⟩
  have kn : (8 : Int) + (m.length : Int) = (n : Int) := by omega
  have kw : IntKind.u16.wrap (n : Int) = (n : Int) := by rw [IntKind.wrap_u16]; omega
  have ks : IntKind.u16.wrap (sp : Int) = (sp : Int) := by rw [IntKind.wrap_u16]; omega
  have kd : IntKind.u16.wrap (dp : Int) = (dp : Int) := by rw [IntKind.wrap_u16]; omega
  have H1 : Hid (∀ (gb : Nat) (W : World), gb = W.heap.size → Calls Tryz.prog 199 #[.slice (some ⟨gb, 0, none⟩) 3 3] (W.alloc (.cells #[.iface 284 (.int .u16 sp), .iface 284 (.int .u16 dp), .iface 284 (.int .u16 n)] 297)) fun e w' => e = .returned (.string (B (udA sp dp m))) ∧ Below gb W w') := fun gb W hgb => by
    subst hgb
    have := written_new [fShort sp, fShort dp, fShort n] W (okc (short_ok sp hsp) (okc (short_ok dp hdp) (ok1 (short_ok n (by omega))))) (by simp) (by simp [outs, fShort])
    rw [udA, ← hn]
    exact this
  obtain ⟨h, hh⟩ : ∃ h, h = udA sp dp m := ⟨_, rfl⟩
  have lh : h.length = 6 := by rw [hh]; rfl
  rw [← hh] at H1
  have H2 : Hid (∀ (gb : Nat) (W : World), gb = W.heap.size → Calls Tryz.prog 199 #[.slice (some ⟨gb, 0, none⟩) 3 3] (W.alloc (.cells #[.iface 224 (.string (B h)), .iface 284 (.int .u16 0), .iface 224 (.string (B m))] 297)) fun e w' => e = .returned (.string (B (h ++ [0, 0] ++ m))) ∧ Below gb W w') := fun gb W hgb => by
    subst hgb
    have := written_new [fRaw h, fShort 0, fRaw m] W (okc (raw_ok h) (okc (short_ok 0 (by omega)) (ok1 (raw_ok m)))) (by simp) (by simp [outs, fRaw, fShort]; omega)
    rw [show outs [fRaw h, fShort 0, fRaw m] = h ++ [0, 0] ++ m by simp [outs, fRaw, fShort]; exact ⟨rfl, rfl⟩] at this
    exact this
  have H3 := hide (fun W => sumWith_any a b r (h ++ [0, 0] ++ m) W ha hb (by simp; omega))
  have HC : Hid (udC a b sp dp m = if 65535 - uSum a b (h ++ [0, 0] ++ m) = 0 then 65535 else 65535 - uSum a b (h ++ [0, 0] ++ m)) := by rw [Hid, hh]; rfl
  have HO : Hid (udO a b sp dp m = h ++ [hi (udC a b sp dp m), lo (udC a b sp dp m)] ++ m) := by rw [Hid, hh]; rfl
  have hfl : uSum a b (h ++ [0, 0] ++ m) ≤ 65535 := fold_le _
  generalize uSum a b (h ++ [0, 0] ++ m) = f at *
  generalize h ++ [0, 0] ++ m = u at *
  obtain ⟨c, hc⟩ : ∃ c, c = udC a b sp dp m := ⟨_, rfl⟩
  rw [← hc] at HC HO
  have hcl : c < 65536 := by rw [unhide HC]; split <;> omega
  have H4 : Hid (∀ (gb : Nat) (W : World), gb = W.heap.size → Calls Tryz.prog 199 #[.slice (some ⟨gb, 0, none⟩) 3 3] (W.alloc (.cells #[.iface 224 (.string (B h)), .iface 284 (.int .u16 c), .iface 224 (.string (B m))] 297)) fun e w' => e = .returned (.string (B (udO a b sp dp m))) ∧ Below gb W w') := fun gb W hgb => by
    subst hgb
    have := written_new [fRaw h, fShort c, fRaw m] W (okc (raw_ok h) (okc (short_ok c hcl) (ok1 (raw_ok m)))) (by simp) (by simp [outs, fRaw, fShort]; omega)
    rw [show outs [fRaw h, fShort c, fRaw m] = udO a b sp dp m by rw [unhide HO]; simp [outs, fRaw, fShort]] at this
    exact this
  clear HO hh hc hn lh
  have HS0 := hide (Cy.start w a b r m sp dp)
  go_enter Tryz.func258, Tryz.ntmps258
  go_wp2_with fail
  refine (unhide H1 _ _ (by simp <;> omega)).mono ?_
  rintro e w1 ⟨rfl, hb1⟩
  have HS1 := hide ((unhide HS0).next (hb1.mono (by simp <;> omega)))
  clear hb1 HS0 H1
  have y2 := (unhide HS1).d.cell 2 (by simp)
  simp at y2
  go_wp2_with fail
  refine (unhide H2 _ _ (by simp <;> omega)).mono ?_
  rintro e w2 ⟨rfl, hb2⟩
  have HS2 := hide ((unhide HS1).next hb2)
  clear hb2 HS1 H2 y2
  have x0 := (unhide HS2).p.cell 0 (by simp)
  have x1 := (unhide HS2).p.cell 1 (by simp)
  have x2 := (unhide HS2).p.cell 2 (by simp)
  have y2 := (unhide HS2).d.cell 2 (by simp)
  simp at x0 x1 x2 y2
  go_wp2_with fail
  refine (unhide H3 _).mono ?_
  rintro e w3 ⟨rfl, hb3⟩
  have HS3 := hide ((unhide HS2).next hb3)
  clear hb3 HS2 H3 x0 x1 x2 y2
  have x0 := (unhide HS3).p.cell 0 (by simp)
  have x1 := (unhide HS3).p.cell 1 (by simp)
  have x2 := (unhide HS3).p.cell 2 (by simp)
  have y2 := (unhide HS3).d.cell 2 (by simp)
  simp at x0 x1 x2 y2
  by_cases h0 : f = 65535
  · subst h0
    have hc' : c = 65535 := by rw [unhide HC]; rfl
    subst hc'
    go_wp2_with fail
    refine (unhide H4 _ _ (by simp <;> omega)).mono ?_
    rintro e w4 ⟨rfl, hb4⟩
    have HS4 := hide ((unhide HS3).next hb4)
    clear hb4 HS3 H4 x0 x1 x2 y2
    have x0 := (unhide HS4).p.cell 0 (by simp)
    have x1 := (unhide HS4).p.cell 1 (by simp)
    have x2 := (unhide HS4).p.cell 2 (by simp)
    have z0 := (unhide HS4).z.cell 0 (by simp)
    have z1 := (unhide HS4).z.cell 1 (by simp)
    have z2 := (unhide HS4).z.cell 2 (by simp)
    have hf1 := (unhide HS4).p.frozen
    have hf2 := (unhide HS4).z.frozen
    simp at x0 x1 x2 z0 z1 z2
    have HB := hide (unhide HS4).below
    clear HS4
    go_wp2
    refine bodyPost_ret (v := .agg #[.string (B a), .string (B b), .string (B (udO a b sp dp m))]) ?_ rfl ?_
    · simp [results, Tryz.results258, go_sem, x0, x1, x2, z0, z1, z2]
    · exact ⟨rfl, ((((unhide HB).setCell (Nat.le_refl _) _).setCell (by show w.heap.size ≤ w.heap.size + 2; omega) _).setCell (by show w.heap.size ≤ w.heap.size + 2; omega) _).setCell (by show w.heap.size ≤ w.heap.size + 2; omega) _⟩
  · have hc' : c = 65535 - f := by rw [unhide HC, if_neg (by omega)]
    have kc : (65535 : Int) - (f : Int) = (c : Int) := by omega
    have kc0 : ¬ (c : Int) = 0 := by omega
    have kcw : IntKind.u16.wrap (c : Int) = (c : Int) := by rw [IntKind.wrap_u16]; omega
    clear hc'
    go_wp2_with fail
    refine (unhide H4 _ _ (by simp <;> omega)).mono ?_
    rintro e w4 ⟨rfl, hb4⟩
    have HS4 := hide ((unhide HS3).next hb4)
    clear hb4 HS3 H4 x0 x1 x2 y2
    have x0 := (unhide HS4).p.cell 0 (by simp)
    have x1 := (unhide HS4).p.cell 1 (by simp)
    have x2 := (unhide HS4).p.cell 2 (by simp)
    have z0 := (unhide HS4).z.cell 0 (by simp)
    have z1 := (unhide HS4).z.cell 1 (by simp)
    have z2 := (unhide HS4).z.cell 2 (by simp)
    have hf1 := (unhide HS4).p.frozen
    have hf2 := (unhide HS4).z.frozen
    simp at x0 x1 x2 z0 z1 z2
    have HB := hide (unhide HS4).below
    clear HS4
    go_wp2
    refine bodyPost_ret (v := .agg #[.string (B a), .string (B b), .string (B (udO a b sp dp m))]) ?_ rfl ?_
    · simp [results, Tryz.results258, go_sem, x0, x1, x2, z0, z1, z2]
    · exact ⟨rfl, ((((unhide HB).setCell (Nat.le_refl _) _).setCell (by show w.heap.size ≤ w.heap.size + 2; omega) _).setCell (by show w.heap.size ≤ w.heap.size + 2; omega) _).setCell (by show w.heap.size ≤ w.heap.size + 2; omega) _⟩
end He
end Go.Proofs.YtkkpahmoljiepaaGreatDoor
