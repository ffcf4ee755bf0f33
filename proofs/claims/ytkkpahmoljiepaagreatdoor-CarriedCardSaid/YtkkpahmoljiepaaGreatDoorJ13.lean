/- Contracts: wire's message, with a frame that goes by type: what octets and raw texts write; newMessage. -/
import Derived.Test.YtkkpahmoljiepaaGreatDoorJ12
import Derived.Lib.AppendStr
import Derived.Laws.OwnMore
import Derived.Test.YtkkpahmoljiepaaGreatDoorJ09
set_option linter.unusedSimpArgs false
set_option linter.unusedVariables false
namespace Go.Proofs.YtkkpahmoljiepaaGreatDoor
open Go.RowKit
open Pu (Str hide unhide)

/-- Every block but one that is older than the base, or is no row of bytes, lies as it lay. -/
structure TF (mb base : Nat) (w w' : World) : Prop where
  os : w'.os = w.os
  tape : w'.tape = w.tape
  output : w'.output = w.output
  size : w.heap.size ≤ w'.heap.size
  block : ∀ i, i < w.heap.size → i ≠ mb → (i < base ∨ ∀ cur, w.heap[i]? ≠ some (.cells cur 5 (0, 0))) → w'.heap[i]? = w.heap[i]?
theorem TF.refl (mb base : Nat) (w : World) : TF mb base w w := ⟨rfl, rfl, rfl, Nat.le_refl _, fun _ _ _ _ => rfl⟩
theorem TF.trans {mb base : Nat} {A B C : World} (h : TF mb base A B) (k : TF mb base B C) : TF mb base A C :=
  ⟨k.os.trans h.os, k.tape.trans h.tape, k.output.trans h.output, Nat.le_trans h.size k.size, fun i hi hm hp => by
    have e := h.block i hi hm hp
    refine (k.block i (Nat.lt_of_lt_of_le hi h.size) hm ?_).trans e
    rw [e]; exact hp⟩
theorem TF.of_below {mb base : Nat} {A B : World} (h : Below A.heap.size A B) : TF mb base A B := ⟨h.os, h.tape, h.output, h.size, fun i hi _ _ => h.block i hi⟩
theorem TF.of_fr {mb base : Nat} {A B : World} {v : Value} {l : Str} (ho : OwnB A base v l) (h : Fr (fun i => i ≠ mb ∧ some i ≠ v.ownBlock) A B) : TF mb base A B :=
  ⟨h.os, h.tape, h.output, h.size, fun i hi hm hp => h.block i hi ⟨hm, fun e => by
    obtain ⟨_, ⟨rfl, _⟩ | ⟨g, cap, cur, rfl, hb, hcur, _⟩⟩ := ho
    · simp [Value.ownBlock] at e
    · simp only [Value.ownBlock, Option.some.injEq] at e
      subst e
      rcases hp with hp | hp
      · omega
      · exact hp cur hcur⟩⟩

namespace Wj
open Ka Wa Wb Wc Wd We Wf Wg Wh Wi Re

theorem octet_t (mb base : Nat) (c : UInt8) (vb vp : Value) (l : Str) (w : World) (hm : MsgAt w mb vb vp) (ho : OwnB w base vb l) (hbs : base ≤ w.heap.size) (hl : l.length ≤ 1000000) :
    Calls Tryz.prog 341 #[.int .u8 c.toNat, .pointer (some ⟨mb, 0, none⟩)] w fun e w' =>
      e = .returned (.tuple #[]) ∧ (∃ vb', MsgAt w' mb vb' vp ∧ OwnB w' base vb' (l ++ [c])) ∧ TF mb base w w' := by
  refine (octet_w mb base c vb vp l w hm ho hbs hl).mono ?_
  rintro e w' ⟨rfl, vb', h1, h2, _, h4⟩
  exact ⟨rfl, ⟨vb', h1, h2⟩, TF.of_fr ho h4⟩

set_option maxRecDepth 100000 in
set_option maxHeartbeats 800000 in
theorem raw_t (mb base : Nat) (s : Str) (vb vp : Value) (l : Str) (w : World) (hm : MsgAt w mb vb vp) (ho : OwnB w base vb l) (hbs : base ≤ w.heap.size) (hl : l.length ≤ 1000000) (hs : s.length ≤ 1000000000) :
    Calls Tryz.prog 336 #[.string (B s), .pointer (some ⟨mb, 0, none⟩)] w fun e w' =>
      e = .returned (.tuple #[]) ∧ (∃ vb', MsgAt w' mb vb' vp ∧ OwnB w' base vb' (l ++ s)) ∧ TF mb base w w' := by
  obtain ⟨i0, hi, hz0, hz1, hz2⟩ := info_parts infoB
  have hc0 := hm.cells.1
  have HM := hide hm
  have HO := hide ho
  have hlt := hm.lt
  have hsz : (B s).size = s.length := size_B s
  have HU : Hid (Tryz.prog.underlying 224 = some .string) := by unfold Hid; kernel_rfl
  clear hm ho
  go_enter Tryz.func336, Tryz.ntmps336
  go_wp2_with (at_builtin; go_loud (refine Lib.wpList_append_own_string _ rfl (.tmp 8) (.tmp 9) 58 224 rfl base 5 i0 underB (unhide HU) hi hz0 hz1 hz2 _ l.length _ rfl (unhide HO) (B s) rfl ?c3 ?c4 hbs ?_))
  case c3 => unfold maxLen; omega
  case c4 => omega
  intro v' w3 hown' hgrow _
  obtain ⟨va, vn, vc, rfl⟩ := own_slice hown'
  have HO3 : Hid (OwnB w3 base (.slice va vn vc) (l ++ s)) := by
    unfold Hid OwnB
    rw [List.length_append, List.map_append, ← hsz]
    exact hown'
  have hne : some mb ≠ vb.ownBlock := msg_ne (unhide HM) (unhide HO)
  have HM3 := hide ((unhide HM).kept (hgrow.block mb hlt hne))
  have HF3 : Hid (TF mb base w w3) := TF.of_fr (unhide HO)
    ⟨hgrow.os, hgrow.tape, hgrow.output, hgrow.size, fun i hi hp => hgrow.block i hi hp.2⟩
  have hfz := (unhide HM3).frozen
  have hc := (unhide HM3).cells.1
  clear hown' hgrow hne HM HO
  go_wp2_with fail
  refine bodyPost_end (v := .tuple #[]) (by simp [results, Tryz.results336]) rfl ?_
  refine ⟨rfl, ⟨_, (unhide HM3).set0 _, own_set_low (unhide HO3) (msg_ne (unhide HM3) (unhide HO3)) _ _⟩, (unhide HF3).trans ?_⟩
  exact ⟨rfl, rfl, rfl, by simp [World.setCell], fun i _ hm _ => Below.heap_setCell _ _ _ _ hm⟩
end Wj
end Go.Proofs.YtkkpahmoljiepaaGreatDoor

/- Contracts: wire's put: fields, one behind the other. -/
namespace Go.Proofs.YtkkpahmoljiepaaGreatDoor
open Go.RowKit
open Pu (Str hide unhide)

/-- a method writes a text behind a message's bytes, whatever lies there. -/
def Wr (fn : FuncId) (x : Value) (out : Str) : Prop := ∀ (mb base : Nat) (vb vp : Value) (l : Str) (w : World), MsgAt w mb vb vp → OwnB w base vb l → base ≤ w.heap.size → l.length + out.length ≤ 1000000 →
  Calls Tryz.prog fn #[x, .pointer (some ⟨mb, 0, none⟩)] w fun e w' => e = .returned (.tuple #[]) ∧ (∃ vb', MsgAt w' mb vb' vp ∧ OwnB w' base vb' (l ++ out)) ∧ TF mb base w w'

/-- a field: its type, its value, the method that writes it, what that writes. -/
structure Fd where
  t : TypeId
  x : Value
  fn : FuncId
  out : Str
/-- the method is the type's, and it writes that. -/
def Fd.Ok (f : Fd) : Prop := (∀ W : World, (method 521 f.t f.x "beacon/wire.writeTo").run Tryz.prog W = .ok (f.fn, f.x) W) ∧ (∀ (args : Array Value) (W : World), (callFunc f.fn args).run Tryz.prog W = .ok (.enter f.fn args) W) ∧ Wr f.fn f.x f.out
def outs (fs : List Fd) : Str := fs.flatMap (·.out)

namespace Wk
open Ka Wa Wb Wc Wd We Wf Wg Wh Wi Wj Re

theorem outs_take (fs : List Fd) (k : Nat) (h : k < fs.length) : outs (fs.take (k + 1)) = outs (fs.take k) ++ fs[k].out := by
  rw [outs, List.take_succ_eq_append_getElem h, List.flatMap_append]; simp [outs]
theorem outs_le (fs : List Fd) (k : Nat) : (outs (fs.take k)).length ≤ (outs fs).length := by
  have : outs fs = outs (fs.take k) ++ outs (fs.drop k) := by rw [outs, outs, outs, ← List.flatMap_append, List.take_append_drop]
  rw [this]; simp

set_option maxRecDepth 100000 in
set_option maxHeartbeats 800000 in
theorem put_any (mb base g cap : Nat) (fs : List Fd) (vb vp : Value) (l : Str) (w : World) (hm : MsgAt w mb vb vp) (ho : OwnB w base vb l) (hbs : base ≤ w.heap.size)
    (hok : ∀ f ∈ fs, f.Ok) (hlt : g < w.heap.size) (hgm : g ≠ mb) (hkeep : g < base ∨ ∀ cur, w.heap[g]? ≠ some (.cells cur 5 (0, 0))) (hcells : ∀ j (h : j < fs.length), w.cell? ⟨g, j, none⟩ = some (.iface fs[j].t fs[j].x))
    (hn : fs.length ≤ cap) (hc : fs.length ≤ 1000000) (hl : l.length + (outs fs).length ≤ 1000000) :
    Calls Tryz.prog 139 #[.pointer (some ⟨mb, 0, none⟩), .slice (some ⟨g, 0, none⟩) fs.length cap] w fun e w' =>
      e = .returned (.tuple #[]) ∧ (∃ vb', MsgAt w' mb vb' vp ∧ OwnB w' base vb' (l ++ outs fs)) ∧ TF mb base w w' := by
  have HM := hide hm
  have HO := hide ho
  have HOK := hide hok
  have HC := hide hcells
  have HK := hide hkeep
  clear hm ho hok hcells hkeep
  go_enter Tryz.func139, Tryz.ntmps139
  go_wp2_with fail
  go_loopw [8] (fun i wr => ∃ (k : Nat) (vb' : Value), i = .int .i64 k ∧ k ≤ fs.length ∧ MsgAt wr mb vb' vp ∧ OwnB wr base vb' (l ++ outs (fs.take k)) ∧ TF mb base w wr) (fun i _ => fs.length - (intOf i).toNat)
  case atStart => exact ⟨0, vb, rfl, Nat.zero_le _, unhide HM, by simpa [outs] using unhide HO, TF.refl _ _ _⟩
  case round =>
    obtain ⟨k, vb', rfl, hk, hm, ho, ht⟩ := hrel
    have HM1 := hide hm
    have HO1 := hide ho
    have HT1 := hide ht
    have hsz := ht.size
    clear hm ho ht
    by_cases hlk : k < fs.length
    · have hcell : wr.cell? ⟨g, k, none⟩ = some (.iface fs[k].t fs[k].x) := (World.cell?_of_block (w := w) ((unhide HT1).block g hlt hgm (unhide HK))).trans (unhide HC k hlk)
      have hOK := unhide HOK fs[k] (List.getElem_mem hlk)
      have HE := hide (outs_take fs k hlk)
      have HL := hide (outs_le fs (k + 1))
      rw [outs_take fs k hlk, List.length_append] at HL
      generalize fs[k] = f at *
      have hmeth := hOK.1
      have hcf := hOK.2.1
      have HW := hide (hOK.2.2 mb base vb' vp _ wr (unhide HM1) (unhide HO1) (by omega) (by rw [List.length_append]; have := unhide HL; omega))
      clear hOK
      go_wp2_with fail
      refine (unhide HW).mono ?_
      rintro e w2 ⟨rfl, ⟨vb2, h1, h2⟩, h3⟩
      rw [List.append_assoc, ← unhide HE] at h2
      have HF := hide (And.intro h1 (And.intro h2 ((unhide HT1).trans h3)))
      clear h1 h2 h3 HW
      go_wp2_with fail
      exact ⟨⟨k + 1, vb2, by go_num, by omega, (unhide HF).1, (unhide HF).2.1, (unhide HF).2.2⟩, by simp [intOf]; omega⟩
    · have hkl : k = fs.length := by omega
      subst hkl
      have HO2 := unhide HO1
      rw [List.take_length] at HO2
      have HO3 := hide HO2
      clear HO2
      go_wp2
      refine bodyPost_end (v := .tuple #[]) (by simp [results, Tryz.results139]) rfl ?_
      exact ⟨rfl, ⟨vb', unhide HM1, unhide HO3⟩, unhide HT1⟩
end Wk
end Go.Proofs.YtkkpahmoljiepaaGreatDoor

/- Contracts: wire's fields: octets, raw texts, short and long numbers. -/
namespace Go.Proofs.YtkkpahmoljiepaaGreatDoor
open Go.RowKit
open Pu (Str hide unhide)

namespace Wl
open Ka Wa Wb Wc Wd We Wf Wg Wh Wi Wj Wk Re

def fOctet (c : UInt8) : Fd := ⟨292, .int .u8 c.toNat, 341, [c]⟩
def fRaw (s : Str) : Fd := ⟨224, .string (B s), 336, s⟩

theorem m_octet (n : Int) (W : World) : (method 521 292 (.int .u8 n) "beacon/wire.writeTo").run Tryz.prog W = .ok (341, .int .u8 n) W := by kernel_rfl
theorem m_raw (s : ByteArray) (W : World) : (method 521 224 (.string s) "beacon/wire.writeTo").run Tryz.prog W = .ok (336, .string s) W := by kernel_rfl
theorem c_octet (args : Array Value) (W : World) : (callFunc 341 args).run Tryz.prog W = .ok (.enter 341 args) W := by kernel_rfl
theorem c_raw (args : Array Value) (W : World) : (callFunc 336 args).run Tryz.prog W = .ok (.enter 336 args) W := by kernel_rfl

theorem octet_ok (c : UInt8) : (fOctet c).Ok :=
  ⟨m_octet _, c_octet, fun mb base vb vp l w hm ho hbs hl => octet_t mb base c vb vp l w hm ho hbs (by simp [fOctet] at hl; omega)⟩
theorem raw_ok (s : Str) : (fRaw s).Ok :=
  ⟨m_raw _, c_raw, fun mb base vb vp l w hm ho hbs hl => raw_t mb base s vb vp l w hm ho hbs (by simp [fRaw] at hl; omega) (by simp [fRaw] at hl; omega)⟩

def hi (n : Nat) : UInt8 := UInt8.ofNat (n / 256)
def lo (n : Nat) : UInt8 := UInt8.ofNat n
def fShort (n : Nat) : Fd := ⟨284, .int .u16 n, 337, [hi n, lo n]⟩
theorem m_short (n : Int) (W : World) : (method 521 284 (.int .u16 n) "beacon/wire.writeTo").run Tryz.prog W = .ok (337, .int .u16 n) W := by kernel_rfl
theorem c_short (args : Array Value) (W : World) : (callFunc 337 args).run Tryz.prog W = .ok (.enter 337 args) W := by kernel_rfl

set_option maxRecDepth 100000 in
set_option maxHeartbeats 800000 in
theorem short_w (n : Nat) (hn : n < 65536) : Wr 337 (.int .u16 n) [hi n, lo n] := by
  intro mb base vb vp l w hm ho hbs hl
  have HM := hide hm
  have HO := hide ho
  have hlt := hm.lt
  clear hm ho
  go_enter Tryz.func337, Tryz.ntmps337
  go_wp2_with fail
  have eh : (n : Int) / 256 = ((hi n).toNat : Int) := by unfold hi; rw [UInt8.toNat_ofNat']; omega
  have el : (n : Int) % 256 = ((lo n).toNat : Int) := by unfold lo; rw [UInt8.toNat_ofNat']; omega
  rw [eh, el]
  have hnew := World.alloc_heap_new w (.cells #[.iface 292 (.int .u8 (hi n).toNat), .iface 292 (.int .u8 (lo n).toNat)] 297)
  refine (put_any mb base w.heap.size 2 [fOctet (hi n), fOctet (lo n)] vb vp l _ ((Below.heap_alloc _ _ _ hlt).trans (unhide HM)) ((unhide HO).alloc _) (by simp; omega) ?_ (by simp) (by omega) (.inr ?_) ?_ (by simp) (by simp) ?_).mono ?_
  · intro f hf
    simp at hf
    rcases hf with rfl | rfl <;> exact octet_ok _
  · intro cur h
    rw [hnew] at h
    simp at h
  · intro j hj
    match j, hj with
    | 0, _ => unfold World.cell?; rw [hnew]; rfl
    | 1, _ => unfold World.cell?; rw [hnew]; rfl
    | j + 2, hj => simp at hj; omega
  · simp [outs, fOctet] at hl ⊢; omega
  rintro e w2 ⟨rfl, ⟨vb2, h1, h2⟩, h3⟩
  have HF : Hid ((∃ vb', MsgAt w2 mb vb' vp ∧ OwnB w2 base vb' (l ++ [hi n, lo n])) ∧ TF mb base w w2) :=
    ⟨⟨vb2, h1, h2⟩, (TF.of_below ((Below.refl _ _).alloc (Nat.le_refl _) _)).trans h3⟩
  clear h1 h2 h3 hnew eh el
  go_wp2_with fail
  refine bodyPost_end (v := .tuple #[]) (by simp [results, Tryz.results337]) rfl ?_
  exact ⟨rfl, unhide HF⟩
theorem short_ok (n : Nat) (hn : n < 65536) : (fShort n).Ok := ⟨m_short _, c_short, short_w n hn⟩
def fLong (n : Nat) : Fd := ⟨344, .int .u32 n, 343, [hi (n / 65536), lo (n / 65536), hi (n % 65536), lo (n % 65536)]⟩
theorem m_long (n : Int) (W : World) : (method 521 344 (.int .u32 n) "beacon/wire.writeTo").run Tryz.prog W = .ok (343, .int .u32 n) W := by kernel_rfl
theorem c_long (args : Array Value) (W : World) : (callFunc 343 args).run Tryz.prog W = .ok (.enter 343 args) W := by kernel_rfl

set_option maxRecDepth 100000 in
set_option maxHeartbeats 800000 in
theorem long_w (n : Nat) (hn : n < 4294967296) : Wr 343 (.int .u32 n) [hi (n / 65536), lo (n / 65536), hi (n % 65536), lo (n % 65536)] := by
  intro mb base vb vp l w hm ho hbs hl
  have HM := hide hm
  have HO := hide ho
  have hlt := hm.lt
  clear hm ho
  go_enter Tryz.func343, Tryz.ntmps343
  go_wp2_with fail
  have eh : (n : Int) / 65536 = ((n / 65536 : Nat) : Int) := by omega
  have el : IntKind.u16.wrap (n : Int) = ((n % 65536 : Nat) : Int) := by rw [IntKind.wrap_u16]; omega
  rw [eh, el]
  have hnew := World.alloc_heap_new w (.cells #[.iface 284 (.int .u16 (n / 65536 : Nat)), .iface 284 (.int .u16 (n % 65536 : Nat))] 297)
  refine (put_any mb base w.heap.size 2 [fShort (n / 65536), fShort (n % 65536)] vb vp l _ ((Below.heap_alloc _ _ _ hlt).trans (unhide HM)) ((unhide HO).alloc _) (by simp; omega) ?_ (by simp) (by omega) (.inr ?_) ?_ (by simp) (by simp) ?_).mono ?_
  · intro f hf
    simp at hf
    rcases hf with rfl | rfl <;> exact short_ok _ (by omega)
  · intro cur h
    rw [hnew] at h
    simp at h
  · intro j hj
    match j, hj with
    | 0, _ => unfold World.cell?; rw [hnew]; rfl
    | 1, _ => unfold World.cell?; rw [hnew]; rfl
    | j + 2, hj => simp at hj; omega
  · simp [outs, fShort] at hl ⊢; omega
  rintro e w2 ⟨rfl, ⟨vb2, h1, h2⟩, h3⟩
  have HF : Hid ((∃ vb', MsgAt w2 mb vb' vp ∧ OwnB w2 base vb' (l ++ [hi (n / 65536), lo (n / 65536), hi (n % 65536), lo (n % 65536)])) ∧ TF mb base w w2) :=
    ⟨⟨vb2, h1, h2⟩, (TF.of_below ((Below.refl _ _).alloc (Nat.le_refl _) _)).trans h3⟩
  clear h1 h2 h3 hnew eh el
  go_wp2_with fail
  refine bodyPost_end (v := .tuple #[]) (by simp [results, Tryz.results343]) rfl ?_
  exact ⟨rfl, unhide HF⟩
theorem long_ok (n : Nat) (hn : n < 4294967296) : (fLong n).Ok := ⟨m_long _, c_long, long_w n hn⟩
end Wl
end Go.Proofs.YtkkpahmoljiepaaGreatDoor

/- Contracts: wire's written: the bytes of fields alone. -/
namespace Go.Proofs.YtkkpahmoljiepaaGreatDoor
open Go.RowKit
open Pu (Str hide unhide)

namespace Wm
open Ka Wa Wb Wc Wd We Wf Wg Wh Wi Wj Wk Wl Re

/-- a row of bytes of one's own, read as a text. -/
theorem own_string {w : World} {base : Nat} {v : Value} {l : Str} (h : OwnB w base v l) : (convert 58 9 v).run Tryz.prog w = .ok (.string (B l)) w := by
  obtain ⟨h1, ⟨rfl, h2⟩ | ⟨g, cap, cur, rfl, hb, hcur, hn, hm, hs, ht⟩⟩ := h
  · obtain rfl : l = [] := List.eq_nil_of_length_eq_zero h2
    kernel_rfl
  · refine run_convert_bytes_back (P := Tryz.prog) w 58 9 5 ⟨g, 0, none⟩ cap l Tryz.underlying58 Tryz.underlying5 Tryz.underlying9 fun j hj => ?_
    have e : (⟨g, 0, none⟩ : Addr).add j = ⟨g, j, none⟩ := by unfold Addr.add; by_cases h : j = 0 <;> simp [h]
    rw [e]
    have e2 : cur.toList[j]? = (l.map fun c => Value.int .u8 (c.toNat : Int))[j]? := by
      rw [← ht, List.getElem?_take, if_pos (by omega)]
    simp only [World.cell?, hcur]
    rw [← Array.getElem?_toList, e2]
    simp [hj]

set_option maxRecDepth 100000 in
set_option maxHeartbeats 800000 in
theorem written_any (g cap : Nat) (fs : List Fd) (w : World) (hok : ∀ f ∈ fs, f.Ok) (hlt : g < w.heap.size) (hcells : ∀ j (h : j < fs.length), w.cell? ⟨g, j, none⟩ = some (.iface fs[j].t fs[j].x))
    (hn : fs.length ≤ cap) (hc : fs.length ≤ 1000000) (hl : (outs fs).length ≤ 1000000) :
    Calls Tryz.prog 199 #[.slice (some ⟨g, 0, none⟩) fs.length cap] w fun e w' => e = .returned (.string (B (outs fs))) ∧ Below w.heap.size w w' := by
  have hnew := World.alloc_heap_new w (.cells #[.slice none 0 0, .slice none 0 0] 283)
  have HP := hide (put_any w.heap.size (w.heap.size + 1) g cap fs (.slice none 0 0) (.slice none 0 0) [] (w.alloc (.cells #[.slice none 0 0, .slice none 0 0] 283)) hnew (World.ownsRow_nil _ _ _ _) (by simp) hok (by simp; omega) (by omega) (.inl (by omega))
    (fun j hj => (World.cell?_of_block (w := w) (Below.heap_alloc _ _ _ hlt)).trans (hcells j hj)) hn hc (by simpa using hl))
  clear hnew hok hcells
  go_enter Tryz.func199, Tryz.ntmps199
  go_wp2_with fail
  refine (unhide HP).mono ?_
  rintro e w2 ⟨rfl, ⟨vb, h1, h2⟩, h3⟩
  have hc0 := h1.cells.1
  have hcv := own_string h2
  have HB : Hid (Below w.heap.size w w2) := ((Below.refl _ _).alloc (Nat.le_refl _) _).trans ⟨h3.os, h3.tape, h3.output, h3.size, fun k hk => h3.block k (by simp; omega) (by omega) (.inl (by omega))⟩
  rw [List.nil_append] at hcv
  obtain ⟨va, vn, vc, rfl⟩ := own_slice h2
  clear h1 h2 h3 HP
  go_wp2_with fail
  go_ret
  exact ⟨rfl, unhide HB⟩
end Wm
end Go.Proofs.YtkkpahmoljiepaaGreatDoor

/- Sums in ones' complement: what words add up to. -/
namespace Go.Proofs.YtkkpahmoljiepaaGreatDoor
open Go.RowKit
open Pu (Str hide unhide)

namespace Ha
def ws : Bool → Str → Nat
  | _, [] => 0
  | true, a :: s => a.toNat * 256 + ws false s
  | false, a :: s => a.toNat + ws true s
def par (p : Bool) (n : Nat) : Bool := if n % 2 = 0 then p else !p
theorem ws_append (p : Bool) (x y : Str) : ws p (x ++ y) = ws p x + ws (par p x.length) y := by
  induction x generalizing p with
  | nil => simp [ws, par]
  | cons a x ih =>
    have e : par p (a :: x).length = par (!p) x.length := by
      unfold par
      by_cases h : x.length % 2 = 0
      · rw [if_neg (by simp; omega), if_pos h]
      · rw [if_pos (by simp; omega), if_neg h]; simp
    rw [e]
    cases p
    · show a.toNat + ws true (x ++ y) = a.toNat + ws true x + _
      rw [ih true]; simp; omega
    · show a.toNat * 256 + ws false (x ++ y) = a.toNat * 256 + ws false x + _
      rw [ih false]; simp; omega
theorem ws_even (p : Bool) (x y : Str) (h : x.length % 2 = 0) : ws p (x ++ y) = ws p x + ws p y := by
  rw [ws_append, par, if_pos h]
/-- ones' complement: what a number of words adds up to. -/
def fold (n : Nat) : Nat := if n = 0 then 0 else (n - 1) % 65535 + 1
theorem fold_le (n : Nat) : fold n ≤ 65535 := by unfold fold; split <;> omega
theorem fold_step (n x : Nat) (hx : x ≤ 65535) : (fold n + x) % 65536 + (fold n + x) / 65536 = fold (n + x) := by
  unfold fold
  by_cases h : n = 0
  · subst h
    by_cases h2 : x = 0
    · subst h2; rfl
    · simp [h2]; omega
  · rw [if_neg h, if_neg (by omega)]; omega
theorem fold_check (n x : Nat) (hn : 0 < n) (hx : x = 65535 - fold n ∨ (x = 65535 ∧ fold n = 65535)) : fold (n + x) = 65535 := by
  unfold fold at *
  rw [if_neg (by omega)] at *
  omega
/-- a step of the sum, byte by byte. -/
theorem ws_take (s : Str) (k : Nat) (h : k < s.length) : ws true (s.take (k + 1)) = ws true (s.take k) + (if k % 2 = 0 then s[k].toNat * 256 else s[k].toNat) := by
  rw [List.take_succ_eq_append_getElem h, ws_append, List.length_take, Nat.min_eq_left (by omega), par]
  split <;> simp [ws]
theorem ws_take2 (s : Str) (k : Nat) (h : k + 1 < s.length) (he : k % 2 = 0) : ws true (s.take (k + 2)) = ws true (s.take k) + (256 * s[k].toNat + s[k + 1].toNat) := by
  rw [ws_take s (k + 1) h, ws_take s k (by omega), if_pos he, if_neg (by omega)]; omega
/-- a bit turned: the sum is another. -/
theorem fold_ne (n m : Nat) (hn : fold n = 65535) (h : m < n + 65535) (h' : n < m + 65535) (hne : n ≠ m) : fold m ≠ 65535 := by
  unfold fold at *
  split at hn
  · omega
  · split <;> omega
end Ha
end Go.Proofs.YtkkpahmoljiepaaGreatDoor

/- Contract: beaconkeep.capital: letters of a text become capitals, or not. -/
namespace Go.Proofs.YtkkpahmoljiepaaGreatDoor
open Go.RowKit
open Pu (Str hide unhide)

/-- letters of a text have become capitals, or not. -/
def Capd (s t : Str) : Prop := t.length = s.length ∧ ∀ j (h : j < s.length) (h' : j < t.length), t[j] = s[j] ∨ (97 ≤ s[j].toNat ∧ s[j].toNat ≤ 122 ∧ t[j] = UInt8.ofNat (s[j].toNat - 32))

namespace Vc
open Ka Wa Wb Wd

theorem capd_refl (s : Str) : Capd s s := ⟨rfl, fun _ _ _ => .inl rfl⟩
theorem capd_set {s t : Str} (h : Capd s t) (k : Nat) (hk : k < s.length) (h1 : 97 ≤ s[k].toNat) (h2 : s[k].toNat ≤ 122) : Capd s (t.set k (UInt8.ofNat (s[k].toNat - 32))) := by
  refine ⟨by rw [List.length_set]; exact h.1, fun j hj hj' => ?_⟩
  rw [List.length_set] at hj'
  by_cases e : k = j
  · subst e
    exact .inr ⟨h1, h2, by simp⟩
  · rw [List.getElem_set_ne e]
    exact h.2 j hj hj'

set_option maxRecDepth 100000 in
set_option maxHeartbeats 1600000 in
theorem capital_any (l : Str) (raw : Int) (w : World) (hl : l.length ≤ 1000) :
    Calls Tryz.prog 30 #[.string (B l), .int .i64 raw] w fun e w' => (∃ t, e = .returned (.string (B t)) ∧ Capd l t) ∧ Below w.heap.size w w' := by
  have kb := run_bytes_of_string (P := Tryz.prog) w 9 58 5 (B l) Tryz.underlying9 Tryz.underlying58 Tryz.underlying5
  have HA := hide (bytes_new w l (grownCap w (B l).size 0 5))
  have HB := hide ((Below.refl w.heap.size w).drew.alloc (Nat.le_refl w.heap.size) (.cells (bytesRow (B l) (grownCap w (B l).size 0 5)) 5 ((bytesRow (B l) (grownCap w (B l).size 0 5)).size, (bytesRow (B l) (grownCap w (B l).size 0 5)).size + 1)))
  have hcap : l.length ≤ grownCap w (B l).size 0 5 := by
    have := grownCap_ge w (B l).size 0 5
    rw [size_B] at this ⊢
    exact this
  generalize grownCap w (B l).size 0 5 = cap at *
  generalize w.drew.alloc (.cells (bytesRow (B l) cap) 5 ((bytesRow (B l) cap).size, (bytesRow (B l) cap).size + 1)) = W at *
  have hs : (B l).size = l.length := size_B l
  go_enter Tryz.func30, Tryz.ntmps30
  go_wp2_with fail
  go_loopw [6] (fun i wr => ∃ (k : Nat) (t : Str), i = .int .i64 k ∧ k ≤ l.length ∧ BytesAt wr w.heap.size t ∧ Capd l t ∧ (∀ j (h : j < l.length) (h' : j < t.length), k ≤ j → t[j] = l[j]) ∧ Below w.heap.size w wr) (fun i _ => l.length - (intOf i).toNat)
  case atStart => exact ⟨0, l, rfl, Nat.zero_le _, unhide HA, capd_refl l, fun _ _ _ _ => rfl, unhide HB⟩
  case round =>
    obtain ⟨k, t, rfl, hk, hba, hcd, hsame, hb⟩ := hrel
    have HBA := hide hba
    have HBB := hide hb
    have HCD := hide hcd
    have HSM := hide hsame
    have htl := hcd.1
    clear hba hb hcd hsame
    by_cases hlk : k < l.length
    · have hcell : wr.cell? ⟨w.heap.size, k, none⟩ = some (.int .u8 l[k].toNat) := by
        rw [(unhide HBA).2.1 k (by omega), unhide HSM k hlk (by omega) (Nat.le_refl _)]
      have hfz : wr.frozen? ⟨w.heap.size, k, none⟩ = false := (unhide HBA).2.2 k (by omega)
      have HS := hide ((unhide HBA).set k (UInt8.ofNat (l[k].toNat - 32)) (by omega))
      have HC := hide (capd_set (unhide HCD) k hlk)
      have HY : Hid (∀ x, ∀ j (h : j < l.length) (h' : j < (t.set k x).length), k + 1 ≤ j → (t.set k x)[j] = l[j]) := fun x j h h' hj => by
        rw [List.getElem_set_ne (by omega)]
        exact unhide HSM j h (by rw [List.length_set] at h'; exact h') (by omega)
      have HN : Hid (∀ j (h : j < l.length) (h' : j < t.length), k + 1 ≤ j → t[j] = l[j]) := fun j h h' hj => unhide HSM j h h' (by omega)
      have HZ : Hid (97 ≤ l[k].toNat → ((UInt8.ofNat (l[k].toNat - 32)).toNat : Int) = (l[k].toNat : Int) - 32) := fun h => by
        rw [UInt8.toNat_ofNat']
        have := UInt8.toNat_lt l[k]
        omega
      generalize l[k] = c at *
      have hc := UInt8.toNat_lt c
      generalize hn : c.toNat = n at *
      have r1 : (0 : Int) ≤ (k : Int) % 60 := by omega
      by_cases h1 : 97 ≤ n
      · by_cases h2 : n ≤ 122
        · have hv := unhide HZ h1
          rw [hv] at HS
          have HC2 := hide (unhide HC h1 h2)
          clear hv HZ HC
          go_wp2
          all_goals first
            | exact ⟨⟨k + 1, _, by go_num, by omega, unhide HS, unhide HC2, unhide HY _, (unhide HBB).setCell (Nat.le_refl _) _⟩, by simp [intOf]; omega⟩
            | exact ⟨⟨k + 1, t, by go_num, by omega, unhide HBA, unhide HCD, unhide HN, unhide HBB⟩, by simp [intOf]; omega⟩
        · have h3 : ¬ n ≤ 122 := h2
          clear h2 HS HC HZ HY
          go_wp2
          exact ⟨⟨k + 1, t, by go_num, by omega, unhide HBA, unhide HCD, unhide HN, unhide HBB⟩, by simp [intOf]; omega⟩
      · clear HS HC HZ HY
        go_wp2
        exact ⟨⟨k + 1, t, by go_num, by omega, unhide HBA, unhide HCD, unhide HN, unhide HBB⟩, by simp [intOf]; omega⟩
    · have hkl : k = l.length := by omega
      have hba := unhide HBA
      have kc := run_convert_bytes_back (P := Tryz.prog) wr 58 9 5 ⟨w.heap.size, 0, none⟩ cap t Tryz.underlying58 Tryz.underlying5 Tryz.underlying9 (fun j hj => by
        have e : (⟨w.heap.size, 0, none⟩ : Addr).add j = ⟨w.heap.size, j, none⟩ := by unfold Addr.add; by_cases h : j = 0 <;> simp [h]
        rw [e]
        exact hba.2.1 j hj)
      rw [htl] at kc
      clear hba htl
      subst hkl
      go_wp2
      go_ret
      exact ⟨⟨t, rfl, unhide HCD⟩, unhide HBB⟩
end Vc
end Go.Proofs.YtkkpahmoljiepaaGreatDoor
