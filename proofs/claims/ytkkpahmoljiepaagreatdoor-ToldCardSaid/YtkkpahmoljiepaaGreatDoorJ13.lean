/- Contracts: wire's message, with a frame that goes by type: what octets and raw texts write; newMessage. -/
import Derived.Test.YtkkpahmoljiepaaGreatDoorJ12
import Derived.Lib.AppendStr
import Derived.Laws.OwnMore
import Derived.Test.YtkkpahmoljiepaaGreatDoorJLg
import Derived.Shelf.Spec.SlicesGrow
import Derived.Ground.Names8Prog
import Derived.Test.YtkkpahmoljiepaaGreatDoorProg
set_option linter.unusedSimpArgs false
set_option linter.unusedVariables false
namespace Go.Proofs.YtkkpahmoljiepaaGreatDoor
open Go.RowKit
open Pu (Str hide unhide)

/-- Every block but one that is older than the base, or is no row of bytes, lies as it lay. -/
structure TF (mb base : Nat) (w w' : World) : Prop where
  os : w'.os = w.os
  tape : w'.tape = w.tape
  output : w'.output = w.output
  size : w.heap.size ≤ w'.heap.size
  block : ∀ i, i < w.heap.size → i ≠ mb → (i < base ∨ ∀ cur, w.heap[i]? ≠ some (.cells cur 5 (0, 0))) → w'.heap[i]? = w.heap[i]?
theorem TF.refl (mb base : Nat) (w : World) : TF mb base w w := ⟨rfl, rfl, rfl, Nat.le_refl _, fun _ _ _ _ => rfl⟩
theorem TF.trans {mb base : Nat} {A B C : World} (h : TF mb base A B) (k : TF mb base B C) : TF mb base A C :=
  ⟨k.os.trans h.os, k.tape.trans h.tape, k.output.trans h.output, Nat.le_trans h.size k.size, fun i hi hm hp => by
    have e := h.block i hi hm hp
    refine (k.block i (Nat.lt_of_lt_of_le hi h.size) hm ?_).trans e
    rw [e]; exact hp⟩
theorem TF.of_below {mb base : Nat} {A B : World} (h : Below A.heap.size A B) : TF mb base A B := ⟨h.os, h.tape, h.output, h.size, fun i hi _ _ => h.block i hi⟩
theorem TF.of_fr {mb base : Nat} {A B : World} {v : Value} {l : Str} (ho : OwnB A base v l) (h : Fr (fun i => i ≠ mb ∧ some i ≠ v.ownBlock) A B) : TF mb base A B :=
  ⟨h.os, h.tape, h.output, h.size, fun i hi hm hp => h.block i hi ⟨hm, fun e => by
    obtain ⟨_, ⟨rfl, _⟩ | ⟨g, cap, cur, rfl, hb, hcur, _⟩⟩ := ho
    · simp [Value.ownBlock] at e
    · simp only [Value.ownBlock, Option.some.injEq] at e
      subst e
      rcases hp with hp | hp
      · omega
      · exact hp cur hcur⟩⟩

namespace Wj
open Ka Wa Wb Wc Wd We Wf Wg Wh Wi Re

theorem octet_t (mb base : Nat) (c : UInt8) (vb vp : Value) (l : Str) (w : World) (hm : MsgAt w mb vb vp) (ho : OwnB w base vb l) (hbs : base ≤ w.heap.size) (hl : l.length ≤ 1000000) :
    Calls Tryz.prog 341 #[.int .u8 c.toNat, .pointer (some ⟨mb, 0, none⟩)] w fun e w' =>
      e = .returned (.tuple #[]) ∧ (∃ vb', MsgAt w' mb vb' vp ∧ OwnB w' base vb' (l ++ [c])) ∧ TF mb base w w' := by
  refine (octet_w mb base c vb vp l w hm ho hbs hl).mono ?_
  rintro e w' ⟨rfl, vb', h1, h2, _, h4⟩
  exact ⟨rfl, ⟨vb', h1, h2⟩, TF.of_fr ho h4⟩

set_option maxRecDepth 100000 in
set_option maxHeartbeats 800000 in
theorem raw_t (mb base : Nat) (s : Str) (vb vp : Value) (l : Str) (w : World) (hm : MsgAt w mb vb vp) (ho : OwnB w base vb l) (hbs : base ≤ w.heap.size) (hl : l.length ≤ 1000000) (hs : s.length ≤ 1000000000) :
    Calls Tryz.prog 336 #[.string (B s), .pointer (some ⟨mb, 0, none⟩)] w fun e w' =>
      e = .returned (.tuple #[]) ∧ (∃ vb', MsgAt w' mb vb' vp ∧ OwnB w' base vb' (l ++ s)) ∧ TF mb base w w' := by
  obtain ⟨i0, hi, hz0, hz1, hz2⟩ := info_parts infoB
  have hc0 := hm.cells.1
  have HM := hide hm
  have HO := hide ho
  have hlt := hm.lt
  have hsz : (B s).size = s.length := size_B s
  have HU : Hid (Tryz.prog.underlying 224 = some .string) := by unfold Hid; kernel_rfl
  clear hm ho
  go_enter Tryz.func336, Tryz.ntmps336
  go_wp2_with (at_builtin; go_loud (refine Lib.wpList_append_own_string _ rfl (.tmp 8) (.tmp 9) 58 224 rfl base 5 i0 underB (unhide HU) hi hz0 hz1 hz2 _ l.length _ rfl (unhide HO) (B s) rfl ?c3 ?c4 hbs ?_))
  case c3 => unfold maxLen; omega
  case c4 => omega
  intro v' w3 hown' hgrow _
  obtain ⟨va, vn, vc, rfl⟩ := own_slice hown'
  have HO3 : Hid (OwnB w3 base (.slice va vn vc) (l ++ s)) := by
    unfold Hid OwnB
    rw [List.length_append, List.map_append, ← hsz]
    exact hown'
  have hne : some mb ≠ vb.ownBlock := msg_ne (unhide HM) (unhide HO)
  have HM3 := hide ((unhide HM).kept (hgrow.block mb hlt hne))
  have HF3 : Hid (TF mb base w w3) := TF.of_fr (unhide HO)
    ⟨hgrow.os, hgrow.tape, hgrow.output, hgrow.size, fun i hi hp => hgrow.block i hi hp.2⟩
  have hfz := (unhide HM3).frozen
  have hc := (unhide HM3).cells.1
  clear hown' hgrow hne HM HO
  go_wp2_with fail
  refine bodyPost_end (v := .tuple #[]) (by simp [results, Tryz.results336]) rfl ?_
  refine ⟨rfl, ⟨_, (unhide HM3).set0 _, own_set_low (unhide HO3) (msg_ne (unhide HM3) (unhide HO3)) _ _⟩, (unhide HF3).trans ?_⟩
  exact ⟨rfl, rfl, rfl, by simp [World.setCell], fun i _ hm _ => Below.heap_setCell _ _ _ _ hm⟩
end Wj
end Go.Proofs.YtkkpahmoljiepaaGreatDoor

/- Contracts: wire's put: fields, one behind the other. -/
namespace Go.Proofs.YtkkpahmoljiepaaGreatDoor
open Go.RowKit
open Pu (Str hide unhide)

/-- a method writes a text behind a message's bytes, whatever lies there. -/
def Wr (fn : FuncId) (x : Value) (out : Str) : Prop := ∀ (mb base : Nat) (vb vp : Value) (l : Str) (w : World), MsgAt w mb vb vp → OwnB w base vb l → base ≤ w.heap.size → l.length + out.length ≤ 1000000 →
  Calls Tryz.prog fn #[x, .pointer (some ⟨mb, 0, none⟩)] w fun e w' => e = .returned (.tuple #[]) ∧ (∃ vb', MsgAt w' mb vb' vp ∧ OwnB w' base vb' (l ++ out)) ∧ TF mb base w w'

/-- a field: its type, its value, the method that writes it, what that writes. -/
structure Fd where
  t : TypeId
  x : Value
  fn : FuncId
  out : Str
/-- the method is the type's, and it writes that. -/
def Fd.Ok (f : Fd) : Prop := (∀ W : World, (method 521 f.t f.x "beacon/wire.writeTo").run Tryz.prog W = .ok (f.fn, f.x) W) ∧ (∀ (args : Array Value) (W : World), (callFunc f.fn args).run Tryz.prog W = .ok (.enter f.fn args) W) ∧ Wr f.fn f.x f.out
def outs (fs : List Fd) : Str := fs.flatMap (·.out)

namespace Wk
open Ka Wa Wb Wc Wd We Wf Wg Wh Wi Wj Re

theorem outs_take (fs : List Fd) (k : Nat) (h : k < fs.length) : outs (fs.take (k + 1)) = outs (fs.take k) ++ fs[k].out := by
  rw [outs, List.take_succ_eq_append_getElem h, List.flatMap_append]; simp [outs]
theorem outs_le (fs : List Fd) (k : Nat) : (outs (fs.take k)).length ≤ (outs fs).length := by
  have : outs fs = outs (fs.take k) ++ outs (fs.drop k) := by rw [outs, outs, outs, ← List.flatMap_append, List.take_append_drop]
  rw [this]; simp

set_option maxRecDepth 100000 in
set_option maxHeartbeats 800000 in
theorem put_any (mb base g cap : Nat) (fs : List Fd) (vb vp : Value) (l : Str) (w : World) (hm : MsgAt w mb vb vp) (ho : OwnB w base vb l) (hbs : base ≤ w.heap.size)
    (hok : ∀ f ∈ fs, f.Ok) (hlt : g < w.heap.size) (hgm : g ≠ mb) (hkeep : g < base ∨ ∀ cur, w.heap[g]? ≠ some (.cells cur 5 (0, 0))) (hcells : ∀ j (h : j < fs.length), w.cell? ⟨g, j, none⟩ = some (.iface fs[j].t fs[j].x))
    (hn : fs.length ≤ cap) (hc : fs.length ≤ 1000000) (hl : l.length + (outs fs).length ≤ 1000000) :
    Calls Tryz.prog 139 #[.pointer (some ⟨mb, 0, none⟩), .slice (some ⟨g, 0, none⟩) fs.length cap] w fun e w' =>
      e = .returned (.tuple #[]) ∧ (∃ vb', MsgAt w' mb vb' vp ∧ OwnB w' base vb' (l ++ outs fs)) ∧ TF mb base w w' := by
  have HM := hide hm
  have HO := hide ho
  have HOK := hide hok
  have HC := hide hcells
  have HK := hide hkeep
  clear hm ho hok hcells hkeep
  go_enter Tryz.func139, Tryz.ntmps139
  go_wp2_with fail
  go_loopw [8] (fun i wr => ∃ (k : Nat) (vb' : Value), i = .int .i64 k ∧ k ≤ fs.length ∧ MsgAt wr mb vb' vp ∧ OwnB wr base vb' (l ++ outs (fs.take k)) ∧ TF mb base w wr) (fun i _ => fs.length - (intOf i).toNat)
  case atStart => exact ⟨0, vb, rfl, Nat.zero_le _, unhide HM, by simpa [outs] using unhide HO, TF.refl _ _ _⟩
  case round =>
    obtain ⟨k, vb', rfl, hk, hm, ho, ht⟩ := hrel
    have HM1 := hide hm
    have HO1 := hide ho
    have HT1 := hide ht
    have hsz := ht.size
    clear hm ho ht
    by_cases hlk : k < fs.length
    · have hcell : wr.cell? ⟨g, k, none⟩ = some (.iface fs[k].t fs[k].x) := (World.cell?_of_block (w := w) ((unhide HT1).block g hlt hgm (unhide HK))).trans (unhide HC k hlk)
      have hOK := unhide HOK fs[k] (List.getElem_mem hlk)
      have HE := hide (outs_take fs k hlk)
      have HL := hide (outs_le fs (k + 1))
      rw [outs_take fs k hlk, List.length_append] at HL
      generalize fs[k] = f at *
      have hmeth := hOK.1
      have hcf := hOK.2.1
      have HW := hide (hOK.2.2 mb base vb' vp _ wr (unhide HM1) (unhide HO1) (by omega) (by rw [List.length_append]; have := unhide HL; omega))
      clear hOK
      go_wp2_with fail
      refine (unhide HW).mono ?_
      rintro e w2 ⟨rfl, ⟨vb2, h1, h2⟩, h3⟩
      rw [List.append_assoc, ← unhide HE] at h2
      have HF := hide (And.intro h1 (And.intro h2 ((unhide HT1).trans h3)))
      clear h1 h2 h3 HW
      go_wp2_with fail
      exact ⟨⟨k + 1, vb2, by go_num, by omega, (unhide HF).1, (unhide HF).2.1, (unhide HF).2.2⟩, by simp [intOf]; omega⟩
    · have hkl : k = fs.length := by omega
      subst hkl
      have HO2 := unhide HO1
      rw [List.take_length] at HO2
      have HO3 := hide HO2
      clear HO2
      go_wp2
      refine bodyPost_end (v := .tuple #[]) (by simp [results, Tryz.results139]) rfl ?_
      exact ⟨rfl, ⟨vb', unhide HM1, unhide HO3⟩, unhide HT1⟩
end Wk
end Go.Proofs.YtkkpahmoljiepaaGreatDoor

/- Contracts: wire's fields: octets, raw texts, short and long numbers. -/
namespace Go.Proofs.YtkkpahmoljiepaaGreatDoor
open Go.RowKit
open Pu (Str hide unhide)

namespace Wl
open Ka Wa Wb Wc Wd We Wf Wg Wh Wi Wj Wk Re

def fOctet (c : UInt8) : Fd := ⟨292, .int .u8 c.toNat, 341, [c]⟩
def fRaw (s : Str) : Fd := ⟨224, .string (B s), 336, s⟩

theorem m_octet (n : Int) (W : World) : (method 521 292 (.int .u8 n) "beacon/wire.writeTo").run Tryz.prog W = .ok (341, .int .u8 n) W := by kernel_rfl
theorem m_raw (s : ByteArray) (W : World) : (method 521 224 (.string s) "beacon/wire.writeTo").run Tryz.prog W = .ok (336, .string s) W := by kernel_rfl
theorem c_octet (args : Array Value) (W : World) : (callFunc 341 args).run Tryz.prog W = .ok (.enter 341 args) W := by kernel_rfl
theorem c_raw (args : Array Value) (W : World) : (callFunc 336 args).run Tryz.prog W = .ok (.enter 336 args) W := by kernel_rfl

theorem octet_ok (c : UInt8) : (fOctet c).Ok :=
  ⟨m_octet _, c_octet, fun mb base vb vp l w hm ho hbs hl => octet_t mb base c vb vp l w hm ho hbs (by simp [fOctet] at hl; omega)⟩
theorem raw_ok (s : Str) : (fRaw s).Ok :=
  ⟨m_raw _, c_raw, fun mb base vb vp l w hm ho hbs hl => raw_t mb base s vb vp l w hm ho hbs (by simp [fRaw] at hl; omega) (by simp [fRaw] at hl; omega)⟩

def hi (n : Nat) : UInt8 := UInt8.ofNat (n / 256)
def lo (n : Nat) : UInt8 := UInt8.ofNat n
def fShort (n : Nat) : Fd := ⟨284, .int .u16 n, 337, [hi n, lo n]⟩
theorem m_short (n : Int) (W : World) : (method 521 284 (.int .u16 n) "beacon/wire.writeTo").run Tryz.prog W = .ok (337, .int .u16 n) W := by kernel_rfl
theorem c_short (args : Array Value) (W : World) : (callFunc 337 args).run Tryz.prog W = .ok (.enter 337 args) W := by kernel_rfl

set_option maxRecDepth 100000 in
set_option maxHeartbeats 800000 in
theorem short_w (n : Nat) (hn : n < 65536) : Wr 337 (.int .u16 n) [hi n, lo n] := by
  intro mb base vb vp l w hm ho hbs hl
  have HM := hide hm
  have HO := hide ho
  have hlt := hm.lt
  clear hm ho
  go_enter Tryz.func337, Tryz.ntmps337
  go_wp2_with fail
  have eh : (n : Int) / 256 = ((hi n).toNat : Int) := by unfold hi; rw [UInt8.toNat_ofNat']; omega
  have el : (n : Int) % 256 = ((lo n).toNat : Int) := by unfold lo; rw [UInt8.toNat_ofNat']; omega
  rw [eh, el]
  have hnew := World.alloc_heap_new w (.cells #[.iface 292 (.int .u8 (hi n).toNat), .iface 292 (.int .u8 (lo n).toNat)] 297)
  refine (put_any mb base w.heap.size 2 [fOctet (hi n), fOctet (lo n)] vb vp l _ ((Below.heap_alloc _ _ _ hlt).trans (unhide HM)) ((unhide HO).alloc _) (by simp; omega) ?_ (by simp) (by omega) (.inr ?_) ?_ (by simp) (by simp) ?_).mono ?_
  · intro f hf
    simp at hf
    rcases hf with rfl | rfl <;> exact octet_ok _
  · intro cur h
    rw [hnew] at h
    simp at h
  · intro j hj
    match j, hj with
    | 0, _ => unfold World.cell?; rw [hnew]; rfl
    | 1, _ => unfold World.cell?; rw [hnew]; rfl
    | j + 2, hj => simp at hj; omega
  · simp [outs, fOctet] at hl ⊢; omega
  rintro e w2 ⟨rfl, ⟨vb2, h1, h2⟩, h3⟩
  have HF : Hid ((∃ vb', MsgAt w2 mb vb' vp ∧ OwnB w2 base vb' (l ++ [hi n, lo n])) ∧ TF mb base w w2) :=
    ⟨⟨vb2, h1, h2⟩, (TF.of_below ((Below.refl _ _).alloc (Nat.le_refl _) _)).trans h3⟩
  clear h1 h2 h3 hnew eh el
  go_wp2_with fail
  refine bodyPost_end (v := .tuple #[]) (by simp [results, Tryz.results337]) rfl ?_
  exact ⟨rfl, unhide HF⟩
theorem short_ok (n : Nat) (hn : n < 65536) : (fShort n).Ok := ⟨m_short _, c_short, short_w n hn⟩
def fLong (n : Nat) : Fd := ⟨344, .int .u32 n, 343, [hi (n / 65536), lo (n / 65536), hi (n % 65536), lo (n % 65536)]⟩
theorem m_long (n : Int) (W : World) : (method 521 344 (.int .u32 n) "beacon/wire.writeTo").run Tryz.prog W = .ok (343, .int .u32 n) W := by kernel_rfl
theorem c_long (args : Array Value) (W : World) : (callFunc 343 args).run Tryz.prog W = .ok (.enter 343 args) W := by kernel_rfl

set_option maxRecDepth 100000 in
set_option maxHeartbeats 800000 in
theorem long_w (n : Nat) (hn : n < 4294967296) : Wr 343 (.int .u32 n) [hi (n / 65536), lo (n / 65536), hi (n % 65536), lo (n % 65536)] := by
  intro mb base vb vp l w hm ho hbs hl
  have HM := hide hm
  have HO := hide ho
  have hlt := hm.lt
  clear hm ho
  go_enter Tryz.func343, Tryz.ntmps343
  go_wp2_with fail
  have eh : (n : Int) / 65536 = ((n / 65536 : Nat) : Int) := by omega
  have el : IntKind.u16.wrap (n : Int) = ((n % 65536 : Nat) : Int) := by rw [IntKind.wrap_u16]; omega
  rw [eh, el]
  have hnew := World.alloc_heap_new w (.cells #[.iface 284 (.int .u16 (n / 65536 : Nat)), .iface 284 (.int .u16 (n % 65536 : Nat))] 297)
  refine (put_any mb base w.heap.size 2 [fShort (n / 65536), fShort (n % 65536)] vb vp l _ ((Below.heap_alloc _ _ _ hlt).trans (unhide HM)) ((unhide HO).alloc _) (by simp; omega) ?_ (by simp) (by omega) (.inr ?_) ?_ (by simp) (by simp) ?_).mono ?_
  · intro f hf
    simp at hf
    rcases hf with rfl | rfl <;> exact short_ok _ (by omega)
  · intro cur h
    rw [hnew] at h
    simp at h
  · intro j hj
    match j, hj with
    | 0, _ => unfold World.cell?; rw [hnew]; rfl
    | 1, _ => unfold World.cell?; rw [hnew]; rfl
    | j + 2, hj => simp at hj; omega
  · simp [outs, fShort] at hl ⊢; omega
  rintro e w2 ⟨rfl, ⟨vb2, h1, h2⟩, h3⟩
  have HF : Hid ((∃ vb', MsgAt w2 mb vb' vp ∧ OwnB w2 base vb' (l ++ [hi (n / 65536), lo (n / 65536), hi (n % 65536), lo (n % 65536)])) ∧ TF mb base w w2) :=
    ⟨⟨vb2, h1, h2⟩, (TF.of_below ((Below.refl _ _).alloc (Nat.le_refl _) _)).trans h3⟩
  clear h1 h2 h3 hnew eh el
  go_wp2_with fail
  refine bodyPost_end (v := .tuple #[]) (by simp [results, Tryz.results343]) rfl ?_
  exact ⟨rfl, unhide HF⟩
theorem long_ok (n : Nat) (hn : n < 4294967296) : (fLong n).Ok := ⟨m_long _, c_long, long_w n hn⟩
end Wl
end Go.Proofs.YtkkpahmoljiepaaGreatDoor

/- Contracts: wire's written: the bytes of fields alone. -/
namespace Go.Proofs.YtkkpahmoljiepaaGreatDoor
open Go.RowKit
open Pu (Str hide unhide)

namespace Wm
open Ka Wa Wb Wc Wd We Wf Wg Wh Wi Wj Wk Wl Re

/-- a row of bytes of one's own, read as a text. -/
theorem own_string {w : World} {base : Nat} {v : Value} {l : Str} (h : OwnB w base v l) : (convert 58 9 v).run Tryz.prog w = .ok (.string (B l)) w := by
  obtain ⟨h1, ⟨rfl, h2⟩ | ⟨g, cap, cur, rfl, hb, hcur, hn, hm, hs, ht⟩⟩ := h
  · obtain rfl : l = [] := List.eq_nil_of_length_eq_zero h2
    kernel_rfl
  · refine run_convert_bytes_back (P := Tryz.prog) w 58 9 5 ⟨g, 0, none⟩ cap l Tryz.underlying58 Tryz.underlying5 Tryz.underlying9 fun j hj => ?_
    have e : (⟨g, 0, none⟩ : Addr).add j = ⟨g, j, none⟩ := by unfold Addr.add; by_cases h : j = 0 <;> simp [h]
    rw [e]
    have e2 : cur.toList[j]? = (l.map fun c => Value.int .u8 (c.toNat : Int))[j]? := by
      rw [← ht, List.getElem?_take, if_pos (by omega)]
    simp only [World.cell?, hcur]
    rw [← Array.getElem?_toList, e2]
    simp [hj]

set_option maxRecDepth 100000 in
set_option maxHeartbeats 800000 in
theorem written_any (g cap : Nat) (fs : List Fd) (w : World) (hok : ∀ f ∈ fs, f.Ok) (hlt : g < w.heap.size) (hcells : ∀ j (h : j < fs.length), w.cell? ⟨g, j, none⟩ = some (.iface fs[j].t fs[j].x))
    (hn : fs.length ≤ cap) (hc : fs.length ≤ 1000000) (hl : (outs fs).length ≤ 1000000) :
    Calls Tryz.prog 199 #[.slice (some ⟨g, 0, none⟩) fs.length cap] w fun e w' => e = .returned (.string (B (outs fs))) ∧ Below w.heap.size w w' := by
  have hnew := World.alloc_heap_new w (.cells #[.slice none 0 0, .slice none 0 0] 283)
  have HP := hide (put_any w.heap.size (w.heap.size + 1) g cap fs (.slice none 0 0) (.slice none 0 0) [] (w.alloc (.cells #[.slice none 0 0, .slice none 0 0] 283)) hnew (World.ownsRow_nil _ _ _ _) (by simp) hok (by simp; omega) (by omega) (.inl (by omega))
    (fun j hj => (World.cell?_of_block (w := w) (Below.heap_alloc _ _ _ hlt)).trans (hcells j hj)) hn hc (by simpa using hl))
  clear hnew hok hcells
  go_enter Tryz.func199, Tryz.ntmps199
  go_wp2_with fail
  refine (unhide HP).mono ?_
  rintro e w2 ⟨rfl, ⟨vb, h1, h2⟩, h3⟩
  have hc0 := h1.cells.1
  have hcv := own_string h2
  have HB : Hid (Below w.heap.size w w2) := ((Below.refl _ _).alloc (Nat.le_refl _) _).trans ⟨h3.os, h3.tape, h3.output, h3.size, fun k hk => h3.block k (by simp; omega) (by omega) (.inl (by omega))⟩
  rw [List.nil_append] at hcv
  obtain ⟨va, vn, vc, rfl⟩ := own_slice h2
  clear h1 h2 h3 HP
  go_wp2_with fail
  go_ret
  exact ⟨rfl, unhide HB⟩
end Wm
end Go.Proofs.YtkkpahmoljiepaaGreatDoor

/- Contracts: wire's put of fields whose writing leans on what lies in memory. -/
namespace Go.Proofs.YtkkpahmoljiepaaGreatDoor
open Go.RowKit
open Pu (Str hide unhide)

/-- a method writes a text behind one message's bytes, where something lies in memory that such writing leaves as it is. -/
def WrI (mb base : Nat) (vp : Value) (I : World → Prop) (fn : FuncId) (x : Value) (out : Str) : Prop := ∀ (vb : Value) (l : Str) (w : World), I w → MsgAt w mb vb vp → OwnB w base vb l → base ≤ w.heap.size → l.length + out.length ≤ 60000 →
  Calls Tryz.prog fn #[x, .pointer (some ⟨mb, 0, none⟩)] w fun e w' => e = .returned (.tuple #[]) ∧ (∃ vb', MsgAt w' mb vb' vp ∧ OwnB w' base vb' (l ++ out)) ∧ TF mb base w w'
def Fd.OkI (mb base : Nat) (vp : Value) (I : World → Prop) (f : Fd) : Prop := (∀ W : World, (method 521 f.t f.x "beacon/wire.writeTo").run Tryz.prog W = .ok (f.fn, f.x) W) ∧ (∀ (args : Array Value) (W : World), (callFunc f.fn args).run Tryz.prog W = .ok (.enter f.fn args) W) ∧ WrI mb base vp I f.fn f.x f.out
theorem Fd.Ok.toI {f : Fd} (h : f.Ok) (mb base : Nat) (vp : Value) (I : World → Prop) : f.OkI mb base vp I :=
  ⟨h.1, h.2.1, fun vb l w _ hm ho hb hl => h.2.2 mb base vb vp l w hm ho hb (by omega)⟩
/-- what writing leaves as it is. -/
def Stable (mb base : Nat) (I : World → Prop) : Prop := ∀ w w', I w → TF mb base w w' → I w'

namespace Wn
open Ka Wa Wb Wc Wd We Wf Wg Wh Wi Wj Wk Wl Wm Re

set_option maxRecDepth 100000 in
set_option maxHeartbeats 800000 in
theorem put_I (mb base g cap : Nat) (I : World → Prop) (fs : List Fd) (vb vp : Value) (l : Str) (w : World) (hI : I w) (hst : Stable mb base I) (hm : MsgAt w mb vb vp) (ho : OwnB w base vb l) (hbs : base ≤ w.heap.size)
    (hok : ∀ f ∈ fs, f.OkI mb base vp I) (hlt : g < w.heap.size) (hgm : g ≠ mb) (hkeep : g < base ∨ ∀ cur, w.heap[g]? ≠ some (.cells cur 5 (0, 0))) (hcells : ∀ j (h : j < fs.length), w.cell? ⟨g, j, none⟩ = some (.iface fs[j].t fs[j].x))
    (hn : fs.length ≤ cap) (hc : fs.length ≤ 1000000) (hl : l.length + (outs fs).length ≤ 60000) :
    Calls Tryz.prog 139 #[.pointer (some ⟨mb, 0, none⟩), .slice (some ⟨g, 0, none⟩) fs.length cap] w fun e w' =>
      e = .returned (.tuple #[]) ∧ (∃ vb', MsgAt w' mb vb' vp ∧ OwnB w' base vb' (l ++ outs fs)) ∧ TF mb base w w' := by
  have HM := hide hm
  have HO := hide ho
  have HOK := hide hok
  have HC := hide hcells
  have HK := hide hkeep
  have HI := hide hI
  have HST := hide hst
  clear hm ho hok hcells hkeep hI hst
  go_enter Tryz.func139, Tryz.ntmps139
  go_wp2_with fail
  go_loopw [8] (fun i wr => ∃ (k : Nat) (vb' : Value), i = .int .i64 k ∧ k ≤ fs.length ∧ MsgAt wr mb vb' vp ∧ OwnB wr base vb' (l ++ outs (fs.take k)) ∧ TF mb base w wr) (fun i _ => fs.length - (intOf i).toNat)
  case atStart => exact ⟨0, vb, rfl, Nat.zero_le _, unhide HM, by simpa [outs] using unhide HO, TF.refl _ _ _⟩
  case round =>
    obtain ⟨k, vb', rfl, hk, hm, ho, ht⟩ := hrel
    have HM1 := hide hm
    have HO1 := hide ho
    have HT1 := hide ht
    have hsz := ht.size
    clear hm ho ht
    by_cases hlk : k < fs.length
    · have hcell : wr.cell? ⟨g, k, none⟩ = some (.iface fs[k].t fs[k].x) := (World.cell?_of_block (w := w) ((unhide HT1).block g hlt hgm (unhide HK))).trans (unhide HC k hlk)
      have hOK := unhide HOK fs[k] (List.getElem_mem hlk)
      have HE := hide (outs_take fs k hlk)
      have HL := hide (outs_le fs (k + 1))
      rw [outs_take fs k hlk, List.length_append] at HL
      generalize fs[k] = f at *
      have hmeth := hOK.1
      have hcf := hOK.2.1
      have HW := hide (hOK.2.2 vb' _ wr (unhide HST w wr (unhide HI) (unhide HT1)) (unhide HM1) (unhide HO1) (by omega) (by rw [List.length_append]; have := unhide HL; omega))
      clear hOK
      go_wp2_with fail
      refine (unhide HW).mono ?_
      rintro e w2 ⟨rfl, ⟨vb2, h1, h2⟩, h3⟩
      rw [List.append_assoc, ← unhide HE] at h2
      have HF := hide (And.intro h1 (And.intro h2 ((unhide HT1).trans h3)))
      clear h1 h2 h3 HW
      go_wp2_with fail
      exact ⟨⟨k + 1, vb2, by go_num, by omega, (unhide HF).1, (unhide HF).2.1, (unhide HF).2.2⟩, by simp [intOf]; omega⟩
    · have hkl : k = fs.length := by omega
      subst hkl
      have HO2 := unhide HO1
      rw [List.take_length] at HO2
      have HO3 := hide HO2
      clear HO2
      go_wp2
      refine bodyPost_end (v := .tuple #[]) (by simp [results, Tryz.results139]) rfl ?_
      exact ⟨rfl, ⟨vb', unhide HM1, unhide HO3⟩, unhide HT1⟩
end Wn
end Go.Proofs.YtkkpahmoljiepaaGreatDoor

/- Contracts: lookup.isAlias; (*search).step of a name whose records are no CNAME. -/
namespace Go.Proofs.YtkkpahmoljiepaaGreatDoor
open Go.RowKit
open Pu (Str hide unhide)

/-- a name's records are a CNAME. -/
def aliasP (l : List Rec) : Bool := l.length == 1 && (l.headD Rec.zero).type == 5
def stepRc (o : Str) (rs : List Rec) (n : Str) : Int := if (cutP o rs n).length = 0 then (if (matchP rs n).2 then 0 else 3) else 0
def stepAns (o : Str) (rs : List Rec) (k : Int) (n : Str) : List Rec := if (cutP o rs n).length = 0 then (if (matchP rs n).2 then takeP k (matchP rs n).1 else []) else []
def stepAuth (o : Str) (rs : List Rec) (k : Int) (n : Str) : List Rec :=
  if (cutP o rs n).length = 0 then (if (matchP rs n).2 then (if takenP k (matchP rs n).1 then [] else denyP o rs) else denyP o rs) else cutP o rs n

namespace Lh
open Ka Kd Rf Rg Ia Iow Ie Zb Zc Za La Lb Re Lc Le Lf Lg

set_option maxHeartbeats 400000 in
theorem isAlias_any (v : Value) (l : List Rec) (w : World) (hv : RV w v l) (hl : l.length ≤ 3001) :
    Calls Tryz.prog 246 #[v] w fun e w' => e = .returned (.bool (aliasP l)) ∧ w' = w := by
  rcases hv with ⟨rfl, rfl⟩ | ⟨b, off, cap, rfl, hc, hr⟩
  · go_enter Tryz.func246, Tryz.ntmps246
    go_wp2
    go_ret
    exact ⟨rfl, rfl⟩
  · by_cases h1 : l.length = 1
    · obtain ⟨r, rfl⟩ := List.length_eq_one_iff.1 h1
      obtain ⟨c0, c1, c2, c3⟩ := hr.four 0 (by simp)
      simp only [Nat.zero_mul, Nat.add_zero, List.getElem_cons_zero] at c2
      have hfin : Hid (aliasP [r] = (r.type == 5)) := by unfold aliasP; rw [Hid]; simp
      clear hr c0 c1 c3 h1
      simp only [List.length_cons, List.length_nil] at hc ⊢
      go_enter Tryz.func246, Tryz.ntmps246
      go_wp2
      go_ret
      exact ⟨ret_bool (unhide hfin).symm, rfl⟩
    · have hfin : Hid (aliasP l = false) := by unfold aliasP; rw [Hid, beq_eq_false_iff_ne.2 h1]; rfl
      have h1I : ((l.length : Int) == 1) = false := by rw [beq_eq_false_iff_ne]; omega
      clear hr h1
      go_enter Tryz.func246, Tryz.ntmps246
      go_wp2
      go_ret
      exact ⟨ret_bool (unhide hfin).symm, rfl⟩

theorem cutP_len (o : Str) (rs : List Rec) (n : Str) : (cutP o rs n).length ≤ rs.length := by
  unfold cutP
  generalize (ends n).takeWhile (fun e => !(e == o)) = es
  have : ∀ (es : List Str) (acc : List Rec), acc.length ≤ rs.length → (es.foldl (cutStep rs) acc).length ≤ rs.length := by
    intro es
    induction es with
    | nil => intro acc h; exact h
    | cons e t ih =>
      intro acc h
      rw [List.foldl_cons]
      refine ih _ ?_
      unfold cutStep
      split
      · exact h
      · exact Nat.le_trans (setP_len _ _) (ofP_len _ _)
  exact this es [] (by simp)

set_option maxRecDepth 100000 in
set_option maxHeartbeats 1600000 in
theorem step_plain (sb zb cb b off cap : Nat) (k : Int) (au : Bool) (va vb vc : Value) (o n : Str) (rs ans : List Rec) (w : World) (hs : SearchAt w sb zb k 0 au va vb vc cb) (ho : OwnR w (sb + 1) va ans) (hvb : vb = .slice none 0 0)
    (hz : TableAt w zb o b off cap rs) (hg : G w) (hzs : zb < sb) (hbs : b < sb) (h0 : 0 < sb) (hfit : Fit o rs) (hn : n.length ≤ 2900) (ha : ans.length ≤ 90000)
    (hok : ∀ r ∈ setP (ofP rs o) 6, soaOk r ∧ r.data.length ≤ 3000 ∧ r.ttl ≤ 1000000000) (h5 : (k == 5) = false) (h255 : (k == 255) = false) (hal : aliasP (matchP rs n).1 = false) (hml : (matchP rs n).1.length ≤ 3001) :
    Calls Tryz.prog 194 #[.pointer (some ⟨sb, 0, none⟩), .string (B n)] w fun e w' => e = .returned (.tuple #[.string ⟨#[]⟩, .bool false]) ∧ (∃ va' vb', SearchAt w' sb zb k (stepRc o rs n) au va' vb' vc cb ∧ OwnR w' (sb + 1) va' (ans ++ stepAns o rs k n) ∧ OwnR w' (sb + 1) vb' (stepAuth o rs k n)) ∧ Below sb w w' := by
  subst hvb
  obtain ⟨hlen, hol, hrl⟩ := hfit
  have h5b : (k != 5) = true := by unfold bne; rw [h5]; rfl
  have h255b : (k != 255) = true := by unfold bne; rw [h255]; rfl
  clear h5 h255
  have hslt := hs.lt
  have hown := ho.own_lt
  obtain ⟨s0, s1, _⟩ := hs.cells
  have HS := hide hs
  have HO := hide ho
  have HZ := hide hz
  have HG := hide hg
  have HOK := hide hok
  have HC := hide (cutOver_any zb b off cap o n rs w hz hg hlen (by omega) hol)
  have HKS : Hid (∀ W, Below w.heap.size w W → SearchAt W sb zb k 0 au va (.slice none 0 0) vc cb) := fun W hb => hs.kept (hb.block sb hslt)
  have HOL := hide hown
  clear hs ho hz hg hok hown
  have hcl : (cutP o rs n).length ≤ 3001 := Nat.le_trans (cutP_len o rs n) hlen
  by_cases hc : (cutP o rs n).length = 0
  · have hcI : ¬ (0 : Int) < ((cutP o rs n).length : Int) := by omega
    have e1 : Hid (stepRc o rs n = if (matchP rs n).2 then 0 else 3) := by unfold stepRc; rw [Hid, if_pos hc]
    have e2 : Hid (stepAns o rs k n = if (matchP rs n).2 then takeP k (matchP rs n).1 else []) := by unfold stepAns; rw [Hid, if_pos hc]
    have e3 : Hid (stepAuth o rs k n = if (matchP rs n).2 then (if takenP k (matchP rs n).1 then [] else denyP o rs) else denyP o rs) := by unfold stepAuth; rw [Hid, if_pos hc]
    clear hc
    have HM := hide (fun W (hb : Below w.heap.size w W) => match_any zb b off cap o n rs W ((unhide HZ).below hb) ((unhide HG).below hb) hlen hn (fun r hr => (hrl r hr).1))
    cases hm : (matchP rs n).2
    · rw [hm] at e1 e2 e3
      go_enter Tryz.func194, Tryz.ntmps194
      go_wp2_with fail
      refine (unhide HC).mono ?_
      rintro e w1 ⟨⟨v1, rfl, hv1⟩, hb1⟩
      obtain ⟨a1, c1, rfl⟩ := hv1.slice
      clear hv1
      obtain ⟨t0, t1, _⟩ := (unhide HKS w1 hb1).cells
      go_wp2_with fail
      refine (unhide HM w1 hb1).mono ?_
      rintro e w2 ⟨⟨v2, rfl, hv2⟩, hb2⟩
      rw [hm]
      clear hv2
      have hb12 := hb1.trans (hb2.mono hb1.size)
      have hs2 := unhide HKS w2 hb12
      obtain ⟨u0, u1, u2, u3, u4, u5, u6, u7⟩ := hs2.cells
      have f2 := hs2.frozen 2
      have S3 := hide (hs2.set2 3)
      have hs3 := hs2.set2 3
      obtain ⟨y0, _⟩ := hs3.cells
      have hb3 : Below sb w (w2.setCell ⟨sb, 2, none⟩ (.int .i64 3)) := (hb12.mono (show sb ≤ w.heap.size by omega)).setCell (p := ⟨sb, 2, none⟩) (Nat.le_refl sb) _
      have hz3 : TableAt (w2.setCell ⟨sb, 2, none⟩ (.int .i64 3)) zb o b off cap rs := (unhide HZ).low hb3 hzs hbs
      have HD := hide (denial_any zb b off cap o rs _ hz3 hlen (unhide HOK))
      have HO3 := hide (((unhide HO).below hb12).set_low (k := sb) (i := 2) (by omega) (.int .i64 3))
      have hsz3 : (w2.setCell ⟨sb, 2, none⟩ (.int .i64 3)).heap.size = w2.heap.size := by simp [World.setCell]
      clear hs2 hs3 u0 u1 u3 u4 u6 u7
      go_wp2_with fail
      refine (unhide HD).mono ?_
      rintro e w4 ⟨v4, rfl, ho4, hb4⟩
      obtain ⟨a4, c4, rfl⟩ := ho4.slice
      have hs4 := (unhide S3).kept (hb4.block sb (by rw [hsz3]; exact Nat.lt_of_lt_of_le hslt hb12.size))
      obtain ⟨z0, z1, z2, z3, z4, z5, z6, z7⟩ := hs4.cells
      have g5 := hs4.frozen 5
      have S5 := hide (hs4.set5 (.slice a4 (denyP o rs).length c4))
      have HO5 := hide (((unhide HO3).below hb4).set_low (k := sb) (i := 5) (by omega) (.slice a4 (denyP o rs).length c4))
      have HA5 := hide (ho4.set_low (k := sb) (i := 5) (by rw [hsz3]; exact Nat.lt_of_lt_of_le hslt hb12.size) (.slice a4 (denyP o rs).length c4))
      have hb5 : Below sb w (w4.setCell ⟨sb, 5, none⟩ (.slice a4 (denyP o rs).length c4)) := (hb3.trans (hb4.mono (show sb ≤ _ by rw [hsz3]; have := hb12.size; omega))).setCell (p := ⟨sb, 5, none⟩) (Nat.le_refl sb) _
      clear hs4 ho4 z0 z1 z2 z3 z4 z6 z7
      go_wp2_with fail
      go_ret2
      refine ⟨rfl, ⟨va, .slice a4 (denyP o rs).length c4, ?_, ?_, ?_⟩, hb5⟩
      · rw [unhide e1]; exact unhide S5
      · rw [unhide e2]; simpa using unhide HO5
      · rw [unhide e3]; exact (unhide HA5).base (by rw [hsz3]; have := hb12.size; omega)
    · rw [hm] at e1 e2 e3
      go_enter Tryz.func194, Tryz.ntmps194
      go_wp2_with fail
      refine (unhide HC).mono ?_
      rintro e w1 ⟨⟨v1, rfl, hv1⟩, hb1⟩
      obtain ⟨a1, c1, rfl⟩ := hv1.slice
      clear hv1
      obtain ⟨t0, t1, _⟩ := (unhide HKS w1 hb1).cells
      go_wp2_with fail
      refine (unhide HM w1 hb1).mono ?_
      rintro e w2 ⟨⟨v2, rfl, hv2⟩, hb2⟩
      rw [hm]
      have hb12 := hb1.trans (hb2.mono hb1.size)
      have hs2 := unhide HKS w2 hb12
      obtain ⟨u0, u1, u2, u3, u4, u5, u6, u7⟩ := hs2.cells
      have HAL := hide (isAlias_any v2 _ w2 hv2.rv hml)
      obtain ⟨b', off', hL2, hr2, hn2⟩ := hv2
      have hs1 := hb1.size
      have hb'1 : b' ≠ sb := by rcases hn2 with h | h <;> omega
      have hb'2 : va.ownBlock ≠ some b' := by
        intro h
        have := unhide HOL b' h
        rcases hn2 with h | h <;> omega
      have HT := hide (take_any sb zb cb b' off' k 0 au va (.slice none 0 0) vc v2 ans _ w2 hs2 ((unhide HO).below hb12) hL2 hr2 hb'1 hb'2 hml ha)
      clear hs2 hL2 hr2 hn2 u0 u2 u3 u4 u5 u6 u7
      rw [hal] at HAL
      go_wp2_with fail
      refine (unhide HAL).mono ?_
      rintro e w2 ⟨rfl, rfl⟩
      go_wp2_with fail
      refine (unhide HT).mono ?_
      rintro e w3 ⟨rfl, ⟨va', hs3, ho3⟩, hf3⟩
      have hb3 : Below sb w w3 := (hb12.mono (show sb ≤ w.heap.size by omega)).trans (hf3.below (fun j hj => ⟨by omega, fun h => by have := unhide HOL j h.symm; omega⟩) (by have := hb12.size; omega))
      have HS3 := hide hs3
      have HO3 := hide ho3
      obtain ⟨y0, _, _, _, _, y5, _, _⟩ := hs3.cells
      have hslt3 := hs3.lt
      have hz3 : TableAt w3 zb o b off cap rs := (unhide HZ).low hb3 hzs hbs
      have HD := hide (denial_any zb b off cap o rs w3 hz3 hlen (unhide HOK))
      clear hs3 ho3 hz3 hf3
      cases ht : takenP k (matchP rs n).1
      · rw [ht] at e3
        go_wp2_with fail
        refine (unhide HD).mono ?_
        rintro e w4 ⟨v4, rfl, ho4, hb4⟩
        obtain ⟨a4, c4, rfl⟩ := ho4.slice
        have hs4 := (unhide HS3).kept (hb4.block sb hslt3)
        obtain ⟨z0, z1, z2, z3, z4, z5, z6, z7⟩ := hs4.cells
        have g5 := hs4.frozen 5
        have S5 := hide (hs4.set5 (.slice a4 (denyP o rs).length c4))
        have HO5 := hide (((unhide HO3).below hb4).set_low (k := sb) (i := 5) (by omega) (.slice a4 (denyP o rs).length c4))
        have HA5 := hide (ho4.set_low (k := sb) (i := 5) hslt3 (.slice a4 (denyP o rs).length c4))
        have hb5 : Below sb w (w4.setCell ⟨sb, 5, none⟩ (.slice a4 (denyP o rs).length c4)) := (hb3.trans (hb4.mono (show sb ≤ _ by omega))).setCell (p := ⟨sb, 5, none⟩) (Nat.le_refl sb) _
        clear hs4 ho4 z0 z1 z2 z3 z4 z6 z7
        go_wp2_with fail
        go_ret2
        refine ⟨rfl, ⟨va', .slice a4 (denyP o rs).length c4, ?_, ?_, ?_⟩, hb5⟩
        · rw [unhide e1]; exact unhide S5
        · rw [unhide e2]; exact unhide HO5
        · rw [unhide e3]; exact (unhide HA5).base (by omega)
      · rw [ht] at e3
        go_wp2_with fail
        go_ret2
        refine ⟨rfl, ⟨va', .slice none 0 0, ?_, ?_, ?_⟩, hb3⟩
        · rw [unhide e1]; exact unhide HS3
        · rw [unhide e2]; exact unhide HO3
        · rw [unhide e3]; exact World.ownsRow_nil _ _ _ _
  · have hcI : (0 : Int) < ((cutP o rs n).length : Int) := by omega
    have e1 : Hid (stepRc o rs n = 0) := by unfold stepRc; rw [Hid, if_neg hc]
    have e2 : Hid (stepAns o rs k n = []) := by unfold stepAns; rw [Hid, if_neg hc]
    have e3 : Hid (stepAuth o rs k n = cutP o rs n) := by unfold stepAuth; rw [Hid, if_neg hc]
    clear hc
    go_enter Tryz.func194, Tryz.ntmps194
    go_wp2_with fail
    refine (unhide HC).mono ?_
    rintro e w1 ⟨⟨v1, rfl, hv1⟩, hb1⟩
    have HCL := hide (clone_any v1 _ w1 (hv1.rv ((unhide HZ).below hb1).2.2.2.2) hcl)
    obtain ⟨a1, c1, rfl⟩ := hv1.slice
    clear hv1
    go_wp2_with fail
    refine (unhide HCL).mono ?_
    rintro e w4 ⟨v4, rfl, ho4, hb4⟩
    obtain ⟨a4, c4, rfl⟩ := ho4.slice
    have hb14 := hb1.trans (hb4.mono hb1.size)
    have hs4 := unhide HKS w4 hb14
    obtain ⟨z0, z1, z2, z3, z4, z5, z6, z7⟩ := hs4.cells
    have g5 := hs4.frozen 5
    have S5 := hide (hs4.set5 (.slice a4 (cutP o rs n).length c4))
    have HO5 := hide (((unhide HO).below hb14).set_low (k := sb) (i := 5) (by omega) (.slice a4 (cutP o rs n).length c4))
    have HA5 := hide (ho4.set_low (k := sb) (i := 5) (by have := hb1.size; omega) (.slice a4 (cutP o rs n).length c4))
    have hb5 : Below sb w (w4.setCell ⟨sb, 5, none⟩ (.slice a4 (cutP o rs n).length c4)) := (hb14.mono (show sb ≤ _ by omega)).setCell (p := ⟨sb, 5, none⟩) (Nat.le_refl sb) _
    clear hs4 ho4 z0 z1 z2 z3 z4 z6 z7
    go_wp2_with fail
    go_ret2
    refine ⟨rfl, ⟨va, .slice a4 (cutP o rs n).length c4, ?_, ?_, ?_⟩, hb5⟩
    · rw [unhide e1]; exact unhide S5
    · rw [unhide e2]; simpa using unhide HO5
    · rw [unhide e3]; exact (unhide HA5).base (by have := hb1.size; omega)
end Lh
end Go.Proofs.YtkkpahmoljiepaaGreatDoor

/- The contracts of library functions that the proof uses, laid at this program: tables of numbers and closed facts. -/
namespace Go.Proofs
open Go.Shelf
def Tryz.lGrow_ren : Go.Shelf.Ren := ⟨fun | 4 => 249 | n => n, fun | 22 => 41 | 25 => 47 | 3 => 3 | 4 => 4 | 9 => 9 | 20 => 20 | 0 => 0 | n => n, fun | n => n⟩
theorem Tryz.lGrow : Go.Proofs.Lays8.n4 Tryz.prog Tryz.lGrow_ren := {
  mixed := by kernel_rfl
  f4 := ⟨Tryz.f249.name, by decide, Tryz.func249.trans (congrArg some (by kernel_rfl))⟩
  t0 := Tryz.underlying0
  a0 := Tryz.isAgg0
  z0 := Tryz.sizeOf0
  v0 := Tryz.zeroValue0
  t3 := Tryz.underlying3
  a3 := Tryz.isAgg3
  z3 := Tryz.sizeOf3
  v3 := Tryz.zeroValue3
  t4 := Tryz.underlying4
  a4 := Tryz.isAgg4
  z4 := Tryz.sizeOf4
  v4 := Tryz.zeroValue4
  t9 := Tryz.underlying9
  a9 := Tryz.isAgg9
  z9 := Tryz.sizeOf9
  v9 := Tryz.zeroValue9
  t20 := Tryz.underlying20
  a20 := Tryz.isAgg20
  z20 := Tryz.sizeOf20
  v20 := Tryz.zeroValue20
  t22 := Tryz.underlying41
  a22 := Tryz.isAgg41
  z22 := Tryz.sizeOf41
  v22 := Tryz.zeroValue41 }
end Go.Proofs
