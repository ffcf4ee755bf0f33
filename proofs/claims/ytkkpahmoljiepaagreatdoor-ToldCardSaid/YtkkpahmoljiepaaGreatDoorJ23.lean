/- Contract: wire.Reply to the question of the statement Told. -/
import Derived.Test.YtkkpahmoljiepaaGreatDoorJ21
import Derived.Test.YtkkpahmoljiepaaGreatDoorJ22
set_option linter.unusedSimpArgs false
set_option linter.unusedVariables false
namespace Go.Proofs.YtkkpahmoljiepaaGreatDoor
open Go.RowKit
open Pu (Str hide unhide)

namespace Xb
open Ka Kd Rf Rg Ia Iow Ie Zb Zc Za La Lb Lc Lg Lj Wa Wb Wc Wd We Wf Wg Wh Wi Wj Wk Wl Wm Wn Wo Wp Wq Ws Wt Wu Wv Wx Wy Wz Xa Va Vb Vd Re
open Ta (zz)

theorem hilo (i : Nat) (h : i < 65536) : (hi i).toNat * 256 + (lo i).toNat = i := by
  unfold hi lo
  rw [UInt8.toNat_ofNat', UInt8.toNat_ofNat']
  omega
theorem hdr_asks (i : Nat) (q : Str) (h : i < 65536) : hdrP (asks i q) = ([i, 256, 1, 0, 0, 0], true) := by
  have := hilo i h
  simp [hdrP, cntP, shortP, octP, asks, this]

theorem rv_lies {w : World} {v : Value} {rs : List Rec} (h : RV w v rs) (hg : G w) : ∃ b off, Lies v b off rs ∧ RecsAt w b off rs := by
  rcases h with ⟨rfl, rfl⟩ | ⟨b, off, cap, rfl, hc, hr⟩
  · exact ⟨0, 0, .inl ⟨rfl, rfl⟩, hg.1, fun j hj => by simp at hj⟩
  · exact ⟨b, off, .inr ⟨cap, rfl, hc⟩, hr⟩

theorem two_of {t : Str} (h : t.length = 2) : ∃ a b, t = [a, b] := by
  match t, h with
  | [a, b], _ => exact ⟨a, b, rfl⟩
theorem lab2 (a b c d : UInt8) : labP (quest [a, b] [c, d] 1) false = ([[a, b], [c, d]], [0, 1, 0, 1], false) := rfl
theorem sh1 : shortP [0, 1, 0, 1] false = (1, [0, 1], false) := rfl
theorem sh2 : shortP [0, 1] false = (1, [], false) := rfl
theorem name2 {t0 t1 : Str} {d : UInt8} (f0 : foldL t0 = [104, d]) (f1 : foldL t1 = [122, 122]) : nameP [t0, t1] = hostN d := by
  unfold nameP
  rw [List.map_cons, List.map_cons, List.map_nil, f0, f1]
  rfl

/-- the fields of an address. -/
def dfN (d : UInt8) (_ : Rec) : List Fd := addrFs [10, 0, d.toNat - 48, 7]
theorem addr_ok {d : UInt8} (h : IsK d) : AddrOk (recN d).data [10, 0, d.toNat - 48, 7] := by
  rcases h with rfl | rfl | rfl <;> (unfold AddrOk; kernel_rfl)
theorem rr_ok {d : UInt8} (h : IsK d) (mb base : Nat) (vp : Value) (hb : 0 < base) (hm : 0 < mb) : RrOk mb base vp (plcs 12 (hostN d)) (recN d) 12 (dfN d (recN d)) where
  own := by
    have hps : plcs 12 (hostN d) = [(hostN d, 12), ([122, 122], 15)] := by rcases h with rfl | rfl | rfl <;> kernel_rfl
    have := comp_w mb base 0 vp (plcs 12 (hostN d)) (hostN d) (by simp [hostN]) (by simp [hostN]) (by rw [hps]; simp) (by rw [hps]; simp) (by simp [hps]) (fun j hj => by omega) (by simp [hps]) hb hm
    have e : (plcs 12 (hostN d))[0]'(by rw [hps]; simp) = (hostN d, 12) := by simp [hps]
    rw [e] at this
    exact ⟨m_comp _, c_comp, this⟩
  typ := ⟨rfl, by show (1 : Int).toNat < 65536; decide⟩
  ttl := by
    have : d.toNat < 256 := UInt8.toNat_lt d
    show d.toNat - 48 < 4294967296
    omega
  data := fun W hg => dataOf_A (recN d) _ W hg rfl (by simp [recN, Rec.data, dataN]) (addr_ok h)
  ok := fun f hf => by
    simp only [dfN, addrFs, List.mem_map] at hf
    obtain ⟨u, _, rfl⟩ := hf
    exact octet_ok _
  ne := by simp [dfN, addrFs]
  few := by simp [dfN, addrFs]

def pN (_ : Rec) : Nat := 12
/-- what is told of a host. -/
def tellS (i : Nat) (q : Str) (d : UInt8) : Str := [hi i, lo i, 133, 0, 0, 1, 0, 1, 0, 0, 0, 0] ++ q ++ [192, 12, 0, 1, 0, 1, 0, 0, 0, d - 48, 0, 4, 10, 0, d - 48, 7]
theorem ro_eq {d : UInt8} (h : IsK d) : roF pN (dfN d) (recN d) = [192, 12, 0, 1, 0, 1, 0, 0, 0, d - 48, 0, 4, 10, 0, d - 48, 7] := by
  rcases h with rfl | rfl | rfl <;> kernel_rfl
theorem tell_eq {d : UInt8} (h : IsK d) (i : Nat) (q : Str) : outs (hdrFs i 34048 1 1 0 0) ++ (q ++ [recN d].flatMap (roF pN (dfN d)) ++ ([] : List Rec).flatMap (roF pN (dfN d))) = tellS i q d := by
  have e1 : [recN d].flatMap (roF pN (dfN d)) = [192, 12, 0, 1, 0, 1, 0, 0, 0, d - 48, 0, 4, 10, 0, d - 48, 7] := by
    rw [List.flatMap_cons, List.flatMap_nil, List.append_nil]; exact ro_eq h
  rw [e1, List.flatMap_nil, List.append_nil]
  rfl
theorem bitsT : bits .or .i64 (turnedP 256 0) 1024 = ((34048 : Nat) : Int) := by kernel_rfl
end Xb
end Go.Proofs.YtkkpahmoljiepaaGreatDoor

/- Contract: wire.Reply to the question of the statement Told: the walk. -/
namespace Go.Proofs.YtkkpahmoljiepaaGreatDoor
open Go.RowKit
open Pu (Str hide unhide)

namespace Xc
open Ka Kd Rf Rg Ia Iow Ie Zb Zc Za La Lb Lc Lg Lj Wa Wb Wc Wd We Wf Wg Wh Wi Wj Wk Wl Wm Wn Wo Wp Wq Ws Wt Wu Wv Wx Wy Wz Xa Xb Va Vb Vd Re
open Ta (zz)

set_option maxRecDepth 100000 in
set_option maxHeartbeats 3200000 in
theorem reply_told (zb g cap i : Nat) (d : UInt8) (hd : IsK d) (t0 t1 : Str) (l0 : t0.length = 2) (l1 : t1.length = 2) (f0 : foldL t0 = [104, d]) (f1 : foldL t1 = [122, 122]) (hi' : i < 65536) (w : World) (hz : TableAt w zb zz g 0 cap recs) (hg : G w) :
    Calls Tryz.prog 27 #[.pointer (some ⟨zb, 0, none⟩), .string (B (asks i (quest t0 t1 1)))] w fun e w' => e = .returned (.string (B (tellS i (quest t0 t1 1) d))) ∧ Below w.heap.size w w' := by
  obtain ⟨qs, hqs⟩ : ∃ qs, qs = quest t0 t1 1 := ⟨_, rfl⟩
  have hql : qs.length = 11 := by rw [hqs]; obtain ⟨a, b, rfl⟩ := two_of l0; obtain ⟨c, e, rfl⟩ := two_of l1; rfl
  have hal : (asks i qs).length = 23 := by simp [asks, hql]
  have HRH := hide (readHeader_any (asks i qs) w (by omega))
  rw [hdr_asks i qs hi'] at HRH
  have e1 : labP ((asks i qs).drop 12) false = ([t0, t1], [0, 1, 0, 1], false) := by
    rw [show (asks i qs).drop 12 = qs from rfl, hqs]
    obtain ⟨a, b, rfl⟩ := two_of l0
    obtain ⟨c, e, rfl⟩ := two_of l1
    exact lab2 a b c e
  have HRQ := hide (fun W => readQuery_plain i 256 (asks i qs) W (by omega) (by omega) e1 sh1 sh2)
  rw [show (asks i qs).drop 12 = qs from rfl, show (qs.take (qs.length - ([] : Str).length)) = qs by simp, name2 f0 f1] at HRQ
  have HQA := hide (fun W (hb : Below w.heap.size w W) => qanswer_plain zb g 0 cap 1 zz (hostN d) qs i 256 1 0 0 0 recs W (hz.below hb) (hg.below hb) (plainK hd) (by decide) (by decide) (by decide))
  rw [rcK hd, ansK hd, authK hd, cutK hd] at HQA
  have HRP := hide (fun W va vb (hg : G W) (ha : RV W va [recN d]) (hb : RV W vb []) => by
    obtain ⟨ba, oa, La, Ra⟩ := rv_lies ha hg
    obtain ⟨bb, ob, Lb, Rb⟩ := rv_lies hb hg
    exact reply_plain i 34048 ba oa bb ob 256 1 0 0 0 1 0 qs (hostN d) va vb [recN d] [] pN (dfN d) W hg La Ra (by simp) Lb Rb (by simp) hi' (by omega) bitsT (by simp [hostN]) (by omega)
      (fun mb base vp h1 h2 r hr => by simp at hr; subst hr; exact rr_ok hd mb base vp h1 h2) (by
        rw [List.flatMap_nil, List.flatMap_cons, List.flatMap_nil, List.append_nil, ro_eq hd]
        simp; omega))
  have HTE := hide (tell_eq hd i qs)
  have HG := hide hg
  rw [← hqs]
  have hs : (B (asks i qs)).size = 23 := by rw [size_B]; exact hal
  have b1 : bits .and .i64 256 32768 = 0 := by kernel_rfl
  have b2 : bits .and .i64 256 30720 = 0 := by kernel_rfl
  unfold qVal at HRQ HQA HRP
  clear hz hg e1 hqs l0 l1 f0 f1 hal
  generalize asks i qs = m at *
  go_enter Tryz.func27, Tryz.ntmps27
  go_wp2_with fail
  refine (unhide HRH).mono ?_
  rintro e w1 ⟨rfl, hb1⟩
  simp only [List.map_cons, List.map_nil]
  have hB1 := hide hb1
  have hs1 := hb1.size
  clear hb1
  go_wp2_with fail
  refine (unhide HRQ _).mono ?_
  rintro e w2 ⟨rfl, hb2⟩
  have hB2 : Below w.heap.size w w2 := ((unhide hB1).alloc hs1 _).trans (hb2.mono (by simp; omega))
  have HB2 := hide hB2
  have hs2 := hB2.size
  clear hb2 hB2 hB1 HRQ HRH
  go_wp2_with fail
  have hQ : QAt (w2.alloc (.cells #[.int .i64 i, .int .i64 256, .int .i64 1, .int .i64 0, .int .i64 0, .int .i64 0, .string (B qs), .string (B (hostN d)), .int .i64 1, .int .i64 1, .bool false, .int .i64 0, .int .i64 0] 137)) w2.heap.size i 256 1 0 0 0 qs (hostN d) 1 1 false 0 0 := World.alloc_heap_new w2 _
  have hBX : Below w.heap.size w (w2.alloc (.cells #[.int .i64 i, .int .i64 256, .int .i64 1, .int .i64 0, .int .i64 0, .int .i64 0, .string (B qs), .string (B (hostN d)), .int .i64 1, .int .i64 1, .bool false, .int .i64 0, .int .i64 0] 137)) := (unhide HB2).alloc hs2 _
  clear HB2
  generalize (w2.alloc (.cells #[.int .i64 i, .int .i64 256, .int .i64 1, .int .i64 0, .int .i64 0, .int .i64 0, .string (B qs), .string (B (hostN d)), .int .i64 1, .int .i64 1, .bool false, .int .i64 0, .int .i64 0] 137)) = X at *
  have kS : ∀ W W' : World, Below W.heap.size W W' → (W.cell? ⟨w2.heap.size, 0, none⟩ = some (.int .i64 i) ∧ W.cell? ⟨w2.heap.size, 1, none⟩ = some (.int .i64 256) ∧ W.cell? ⟨w2.heap.size, 2, none⟩ = some (.int .i64 1) ∧ W.cell? ⟨w2.heap.size, 3, none⟩ = some (.int .i64 0) ∧ W.cell? ⟨w2.heap.size, 4, none⟩ = some (.int .i64 0) ∧ W.cell? ⟨w2.heap.size, 5, none⟩ = some (.int .i64 0) ∧ W.cell? ⟨w2.heap.size, 6, none⟩ = some (.string (B qs)) ∧ W.cell? ⟨w2.heap.size, 7, none⟩ = some (.string (B (hostN d))) ∧ W.cell? ⟨w2.heap.size, 8, none⟩ = some (.int .i64 1) ∧ W.cell? ⟨w2.heap.size, 9, none⟩ = some (.int .i64 1) ∧ W.cell? ⟨w2.heap.size, 10, none⟩ = some (.bool false) ∧ W.cell? ⟨w2.heap.size, 11, none⟩ = some (.int .i64 0) ∧ W.cell? ⟨w2.heap.size, 12, none⟩ = some (.int .i64 0)) → (W'.cell? ⟨w2.heap.size, 0, none⟩ = some (.int .i64 i) ∧ W'.cell? ⟨w2.heap.size, 1, none⟩ = some (.int .i64 256) ∧ W'.cell? ⟨w2.heap.size, 2, none⟩ = some (.int .i64 1) ∧ W'.cell? ⟨w2.heap.size, 3, none⟩ = some (.int .i64 0) ∧ W'.cell? ⟨w2.heap.size, 4, none⟩ = some (.int .i64 0) ∧ W'.cell? ⟨w2.heap.size, 5, none⟩ = some (.int .i64 0) ∧ W'.cell? ⟨w2.heap.size, 6, none⟩ = some (.string (B qs)) ∧ W'.cell? ⟨w2.heap.size, 7, none⟩ = some (.string (B (hostN d))) ∧ W'.cell? ⟨w2.heap.size, 8, none⟩ = some (.int .i64 1) ∧ W'.cell? ⟨w2.heap.size, 9, none⟩ = some (.int .i64 1) ∧ W'.cell? ⟨w2.heap.size, 10, none⟩ = some (.bool false) ∧ W'.cell? ⟨w2.heap.size, 11, none⟩ = some (.int .i64 0) ∧ W'.cell? ⟨w2.heap.size, 12, none⟩ = some (.int .i64 0)) := fun W W' hb h => by
    have kp : ∀ (a : Addr) (v : Value), W.cell? a = some v → W'.cell? a = some v := fun a v h => (hb.cell (World.block_lt_of_cell? W a h)).trans h
    obtain ⟨e0, e1, e2, e3, e4, e5, e6, e7, e8, e9, e10, e11, e12⟩ := h
    exact ⟨kp _ _ e0, kp _ _ e1, kp _ _ e2, kp _ _ e3, kp _ _ e4, kp _ _ e5, kp _ _ e6, kp _ _ e7, kp _ _ e8, kp _ _ e9, kp _ _ e10, kp _ _ e11, kp _ _ e12⟩
  have HQ2 : Hid (∀ W, Below w.heap.size w W → (W.cell? ⟨w2.heap.size, 0, none⟩ = some (.int .i64 i) ∧ W.cell? ⟨w2.heap.size, 1, none⟩ = some (.int .i64 256) ∧ W.cell? ⟨w2.heap.size, 2, none⟩ = some (.int .i64 1) ∧ W.cell? ⟨w2.heap.size, 3, none⟩ = some (.int .i64 0) ∧ W.cell? ⟨w2.heap.size, 4, none⟩ = some (.int .i64 0) ∧ W.cell? ⟨w2.heap.size, 5, none⟩ = some (.int .i64 0) ∧ W.cell? ⟨w2.heap.size, 6, none⟩ = some (.string (B qs)) ∧ W.cell? ⟨w2.heap.size, 7, none⟩ = some (.string (B (hostN d))) ∧ W.cell? ⟨w2.heap.size, 8, none⟩ = some (.int .i64 1) ∧ W.cell? ⟨w2.heap.size, 9, none⟩ = some (.int .i64 1) ∧ W.cell? ⟨w2.heap.size, 10, none⟩ = some (.bool false) ∧ W.cell? ⟨w2.heap.size, 11, none⟩ = some (.int .i64 0) ∧ W.cell? ⟨w2.heap.size, 12, none⟩ = some (.int .i64 0)) → Calls Tryz.prog 74 #[(.agg #[.int .i64 i, .int .i64 256, .int .i64 1, .int .i64 0, .int .i64 0, .int .i64 0, .string (B qs), .string (B (hostN d)), .int .i64 1, .int .i64 1, .bool false, .int .i64 0, .int .i64 0]), .pointer (some ⟨zb, 0, none⟩)] W fun e w' =>
      ∃ aa ca ab cb, e = .returned (.agg #[.int .i64 0, .bool true, .slice aa 1 ca, .slice ab 0 cb, .slice none 0 0]) ∧ (w'.cell? ⟨w2.heap.size, 0, none⟩ = some (.int .i64 i) ∧ w'.cell? ⟨w2.heap.size, 1, none⟩ = some (.int .i64 256) ∧ w'.cell? ⟨w2.heap.size, 2, none⟩ = some (.int .i64 1) ∧ w'.cell? ⟨w2.heap.size, 3, none⟩ = some (.int .i64 0) ∧ w'.cell? ⟨w2.heap.size, 4, none⟩ = some (.int .i64 0) ∧ w'.cell? ⟨w2.heap.size, 5, none⟩ = some (.int .i64 0) ∧ w'.cell? ⟨w2.heap.size, 6, none⟩ = some (.string (B qs)) ∧ w'.cell? ⟨w2.heap.size, 7, none⟩ = some (.string (B (hostN d))) ∧ w'.cell? ⟨w2.heap.size, 8, none⟩ = some (.int .i64 1) ∧ w'.cell? ⟨w2.heap.size, 9, none⟩ = some (.int .i64 1) ∧ w'.cell? ⟨w2.heap.size, 10, none⟩ = some (.bool false) ∧ w'.cell? ⟨w2.heap.size, 11, none⟩ = some (.int .i64 0) ∧ w'.cell? ⟨w2.heap.size, 12, none⟩ = some (.int .i64 0)) ∧ Hid (Below w.heap.size w w' ∧ G w' ∧ RV w' (.slice aa 1 ca) [recN d] ∧ RV w' (.slice ab 0 cb) [])) := by
    intro W hb hS
    refine (unhide HQA W hb).mono ?_
    rintro e w' ⟨⟨va, vb, rfl, ha, hv⟩, hb'⟩
    have hB' := hb.trans (hb'.mono hb.size)
    have ra := ha.rv
    have rb := hv.rv
    obtain ⟨aa, ca, rfl⟩ := ha.slice
    obtain ⟨ab, cb, rfl⟩ := hv.slice
    exact ⟨aa, ca, ab, cb, rfl, kS W w' hb' hS, hB', (unhide HG).below hB', ra, rb⟩
  have HR2 : Hid (∀ W aa ca ab cb, Hid (Below w.heap.size w W ∧ G W ∧ RV W (.slice aa 1 ca) [recN d] ∧ RV W (.slice ab 0 cb) []) → (W.cell? ⟨w2.heap.size, 0, none⟩ = some (.int .i64 i) ∧ W.cell? ⟨w2.heap.size, 1, none⟩ = some (.int .i64 256) ∧ W.cell? ⟨w2.heap.size, 2, none⟩ = some (.int .i64 1) ∧ W.cell? ⟨w2.heap.size, 3, none⟩ = some (.int .i64 0) ∧ W.cell? ⟨w2.heap.size, 4, none⟩ = some (.int .i64 0) ∧ W.cell? ⟨w2.heap.size, 5, none⟩ = some (.int .i64 0) ∧ W.cell? ⟨w2.heap.size, 6, none⟩ = some (.string (B qs)) ∧ W.cell? ⟨w2.heap.size, 7, none⟩ = some (.string (B (hostN d))) ∧ W.cell? ⟨w2.heap.size, 8, none⟩ = some (.int .i64 1) ∧ W.cell? ⟨w2.heap.size, 9, none⟩ = some (.int .i64 1) ∧ W.cell? ⟨w2.heap.size, 10, none⟩ = some (.bool false) ∧ W.cell? ⟨w2.heap.size, 11, none⟩ = some (.int .i64 0) ∧ W.cell? ⟨w2.heap.size, 12, none⟩ = some (.int .i64 0)) → Calls Tryz.prog 73 #[(.agg #[.int .i64 i, .int .i64 256, .int .i64 1, .int .i64 0, .int .i64 0, .int .i64 0, .string (B qs), .string (B (hostN d)), .int .i64 1, .int .i64 1, .bool false, .int .i64 0, .int .i64 0]), .agg #[.int .i64 0, .bool true, .slice aa 1 ca, .slice ab 0 cb, .slice none 0 0]] W fun e w' =>
      e = .returned (.string (B (tellS i qs d))) ∧ (w'.cell? ⟨w2.heap.size, 0, none⟩ = some (.int .i64 i) ∧ w'.cell? ⟨w2.heap.size, 1, none⟩ = some (.int .i64 256) ∧ w'.cell? ⟨w2.heap.size, 2, none⟩ = some (.int .i64 1) ∧ w'.cell? ⟨w2.heap.size, 3, none⟩ = some (.int .i64 0) ∧ w'.cell? ⟨w2.heap.size, 4, none⟩ = some (.int .i64 0) ∧ w'.cell? ⟨w2.heap.size, 5, none⟩ = some (.int .i64 0) ∧ w'.cell? ⟨w2.heap.size, 6, none⟩ = some (.string (B qs)) ∧ w'.cell? ⟨w2.heap.size, 7, none⟩ = some (.string (B (hostN d))) ∧ w'.cell? ⟨w2.heap.size, 8, none⟩ = some (.int .i64 1) ∧ w'.cell? ⟨w2.heap.size, 9, none⟩ = some (.int .i64 1) ∧ w'.cell? ⟨w2.heap.size, 10, none⟩ = some (.bool false) ∧ w'.cell? ⟨w2.heap.size, 11, none⟩ = some (.int .i64 0) ∧ w'.cell? ⟨w2.heap.size, 12, none⟩ = some (.int .i64 0)) ∧ Hid (Below w.heap.size w w')) := by
    intro W aa ca ab cb hB hS
    obtain ⟨hb, hgW, ra, rb⟩ := unhide hB
    refine (unhide HRP W _ _ hgW ra rb).mono ?_
    rintro e w' ⟨rfl, hb'⟩
    refine ⟨?_, kS W w' hb' hS, hb.trans (hb'.mono hb.size)⟩
    rw [← unhide HTE]
    rfl
  have hS : X.drew.cell? ⟨w2.heap.size, 0, none⟩ = some (.int .i64 i) ∧ X.drew.cell? ⟨w2.heap.size, 1, none⟩ = some (.int .i64 256) ∧ X.drew.cell? ⟨w2.heap.size, 2, none⟩ = some (.int .i64 1) ∧ X.drew.cell? ⟨w2.heap.size, 3, none⟩ = some (.int .i64 0) ∧ X.drew.cell? ⟨w2.heap.size, 4, none⟩ = some (.int .i64 0) ∧ X.drew.cell? ⟨w2.heap.size, 5, none⟩ = some (.int .i64 0) ∧ X.drew.cell? ⟨w2.heap.size, 6, none⟩ = some (.string (B qs)) ∧ X.drew.cell? ⟨w2.heap.size, 7, none⟩ = some (.string (B (hostN d))) ∧ X.drew.cell? ⟨w2.heap.size, 8, none⟩ = some (.int .i64 1) ∧ X.drew.cell? ⟨w2.heap.size, 9, none⟩ = some (.int .i64 1) ∧ X.drew.cell? ⟨w2.heap.size, 10, none⟩ = some (.bool false) ∧ X.drew.cell? ⟨w2.heap.size, 11, none⟩ = some (.int .i64 0) ∧ X.drew.cell? ⟨w2.heap.size, 12, none⟩ = some (.int .i64 0) := hQ.cells
  have hBD : Below w.heap.size w X.drew := hBX.drew
  have HBD := hide hBD
  clear hQ hBX hBD HQA HRP kS
  go_region_held (fun w' => w'.cell? ⟨w2.heap.size, 0, none⟩ = some (.int .i64 i) ∧ w'.cell? ⟨w2.heap.size, 1, none⟩ = some (.int .i64 256) ∧ w'.cell? ⟨w2.heap.size, 2, none⟩ = some (.int .i64 1) ∧ w'.cell? ⟨w2.heap.size, 3, none⟩ = some (.int .i64 0) ∧ w'.cell? ⟨w2.heap.size, 4, none⟩ = some (.int .i64 0) ∧ w'.cell? ⟨w2.heap.size, 5, none⟩ = some (.int .i64 0) ∧ w'.cell? ⟨w2.heap.size, 6, none⟩ = some (.string (B qs)) ∧ w'.cell? ⟨w2.heap.size, 7, none⟩ = some (.string (B (hostN d))) ∧ w'.cell? ⟨w2.heap.size, 8, none⟩ = some (.int .i64 1) ∧ w'.cell? ⟨w2.heap.size, 9, none⟩ = some (.int .i64 1) ∧ w'.cell? ⟨w2.heap.size, 10, none⟩ = some (.bool false) ∧ w'.cell? ⟨w2.heap.size, 11, none⟩ = some (.int .i64 0) ∧ w'.cell? ⟨w2.heap.size, 12, none⟩ = some (.int .i64 0)) (first | assumption | go_keep)
    (first
      | (go_at_call 74; go_loud (refine (unhide HQ2 _ (unhide HBD) ?_).mono ?_; assumption; rintro e w5 ⟨aa, ca, ab, cb, rfl, hS5, HB5⟩))
      | (go_at_call 73; go_loud (refine (unhide HR2 _ _ _ _ _ HB5 ?_).mono ?_; assumption; rintro e w6 ⟨rfl, hS6, HB6⟩)))
  rename_i hH
  clear hH hS hS5 hS6 HB5
  go_wp2_with fail
  go_ret
  exact ⟨rfl, unhide HB6⟩
end Xc
end Go.Proofs.YtkkpahmoljiepaaGreatDoor

/- The statement's function: beaconkeep.Told. -/
namespace Go.Proofs.YtkkpahmoljiepaaGreatDoor
open Go.RowKit
open Pu (Str hide unhide)

namespace Xd
open Ka Kc Kd Wa Wb Wd We Wi Wl Wm Lc Lj Va Vb Vc Vd Xb Xc
open Ta (headS zz)

theorem pick_nat (c : Int) (m : Nat) (hm : 0 < m) : ∃ k : Nat, Pu.pick c m = k ∧ k < m := by
  have h : 0 ≤ Pu.pick c m ∧ Pu.pick c m < m := by
    unfold Pu.pick
    split
    · exact ⟨Int.emod_nonneg _ (by omega), Int.emod_lt_of_pos _ (by omega)⟩
    · exact ⟨Int.emod_nonneg _ (by omega), Int.emod_lt_of_pos _ (by omega)⟩
  exact ⟨(Pu.pick c m).toNat, by omega, by omega⟩

theorem fit0 : Fit zz recs0 := by
  refine ⟨by decide, by decide, ?_⟩
  intro r hr
  simp only [recs0, List.mem_cons, List.mem_nil_iff, or_false] at hr
  rcases hr with rfl | rfl | rfl | rfl | rfl <;> decide

set_option maxRecDepth 100000 in
set_option maxHeartbeats 800000 in
theorem made_told (s : ByteArray) (hd : s.data.toList = linesT) (w : World) (hg : G w) :
    Calls Tryz.prog 22 #[.string s] w fun e w' => ∃ zb g cap, e = .returned (.pointer (some ⟨zb, 0, none⟩)) ∧ TableAt w' zb zz g 0 cap recs ∧ Below w.heap.size w w' := by
  have hss : s.size = 57 := by rw [← Pu.len_eq, hd]; decide
  obtain ⟨hB, hhB⟩ : ∃ hB : ByteArray, hB = ⟨headS.toArray⟩ := ⟨_, rfl⟩
  have hhs : hB.size = 49 := by rw [hhB]; rfl
  have e1 : (hB ++ s).data.toList = headS ++ linesT := by rw [hhB, ← hd]; simp
  have e2 : (hB ++ s ++ ⟨#[10]⟩).data.toList = headS ++ linesT ++ [10] := by
    rw [show (hB ++ s ++ ⟨#[10]⟩ : ByteArray).data.toList = (hB ++ s).data.toList ++ [10] by simp, e1]
  have HP1 := hide (Pa.parse_any (hB ++ s) w hg (by simp; omega) (by
    rw [e1, read1]
    rintro o rs ⟨⟩
    exact ⟨by decide, fit0⟩))
  have HP2 := hide (fun W (hb : Below w.heap.size w W) => Pa.parse_any (hB ++ s ++ ⟨#[10]⟩) W (hg.below hb) (by have h1 : (⟨#[10]⟩ : ByteArray).size = 1 := rfl; simp; omega) (by
    rw [e2, read2]
    rintro o rs ⟨⟩))
  rw [e1, parse1] at HP1
  rw [e2, parse2] at HP2
  clear e1 e2 hd hg
  have hhd : (⟨#[111, 114, 105, 103, 105, 110, 32, 122, 122, 10, 122, 122, 32, 53, 48, 32, 83, 79, 65, 32, 97, 46, 122, 122, 32, 98, 46, 122, 122, 32, 57, 32, 52, 48, 10, 122, 122, 32, 53, 48, 32, 78, 83, 32, 97, 46, 122, 122, 10]⟩ : ByteArray) = hB := by rw [hhB]; rfl
  clear hhB
  go_enter Tryz.func22, Tryz.ntmps22
  go_wp2_with fail
  refine (unhide HP1).mono ?_
  rintro e w1 ⟨⟨zb, g, cap, rfl, hzb, hgb, ht1⟩, hb1⟩
  have HT1 := hide ht1
  clear ht1
  go_wp2_with fail
  refine (unhide HP2 w1 hb1).mono ?_
  rintro e w2 ⟨he, hb2⟩
  obtain rfl : e = .returned (.tuple #[.pointer none, .int .i64 1]) := he
  go_wp2_with fail
  go_ret
  exact ⟨zb, g, cap, rfl, (unhide HT1).below hb2, hb1.trans (hb2.mono hb1.size)⟩

theorem host_d (n : Nat) (w : World) (hn : n < 10) : Calls Tryz.prog 25 #[.int .i64 n] w fun e w' => e = .returned (.string (B [104, dg n])) ∧ Below w.heap.size w w' := by
  refine (host_any n w (by omega)).mono ?_
  rintro e w' ⟨rfl, hb⟩
  rw [digK n hn]
  exact ⟨rfl, hb⟩
theorem isK_dg (n : Nat) (h0 : 0 < n) (h1 : n < 4) : IsK (dg n) := by
  match n, h0, h1 with
  | 1, _, _ => exact .inl rfl
  | 2, _, _ => exact .inr (.inl rfl)
  | 3, _, _ => exact .inr (.inr rfl)
  | n + 4, _, h => omega
theorem capd_two {a b : UInt8} {t : Str} (h : Capd [a, b] t) : t.length = 2 ∧ ∃ c e, t = [c, e] ∧ (c = a ∨ (97 ≤ a.toNat ∧ a.toNat ≤ 122 ∧ c = UInt8.ofNat (a.toNat - 32))) ∧ (e = b ∨ (97 ≤ b.toNat ∧ b.toNat ≤ 122 ∧ e = UInt8.ofNat (b.toNat - 32))) := by
  have hl : t.length = 2 := h.1
  obtain ⟨c, e, rfl⟩ := two_of hl
  exact ⟨hl, c, e, rfl, h.2 0 (by simp) (by simp), h.2 1 (by simp) (by simp)⟩
theorem fold_h {n : Nat} {t : Str} (h0 : 0 < n) (h1 : n < 4) (h : Capd [104, dg n] t) : t.length = 2 ∧ foldL t = [104, dg n] := by
  obtain ⟨hl, c, e, rfl, hc, he⟩ := capd_two h
  refine ⟨hl, ?_⟩
  have he' : e = dg n := by
    rcases he with he | ⟨h2, _, _⟩
    · exact he
    · rcases isK_dg n h0 h1 with h | h | h <;> (rw [h] at h2; exact absurd h2 (by decide))
  subst he'
  rcases hc with rfl | ⟨_, _, rfl⟩ <;> rcases isK_dg n h0 h1 with h | h | h <;> (rw [h]; rfl)
theorem fold_z {t : Str} (h : Capd [122, 122] t) : t.length = 2 ∧ foldL t = [122, 122] := by
  obtain ⟨hl, c, e, rfl, hc, he⟩ := capd_two h
  refine ⟨hl, ?_⟩
  rcases hc with rfl | ⟨_, _, rfl⟩ <;> rcases he with rfl | ⟨_, _, rfl⟩ <;> rfl

theorem c4_run {W : World} {blk n : Nat} (hn : n < 4) (h : W.heap[blk]? = some (.cells #[.int .u8 10, .int .u8 0, .int .u8 n, .int .u8 7] 5)) : (convert 58 9 (.slice (some ⟨blk, 0, none⟩) 4 4)).run Tryz.prog W = .ok (.string ⟨#[10, 0, UInt8.ofNat n, 7]⟩) W := by
  have e : (n : Int) = ((UInt8.ofNat n).toNat : Int) := by rw [UInt8.toNat_ofNat']; omega
  rw [e] at h
  exact own_string (base := 0) (l := [10, 0, UInt8.ofNat n, 7]) ⟨by simp, .inr ⟨blk, 4, #[.int .u8 10, .int .u8 0, .int .u8 (UInt8.ofNat n).toNat, .int .u8 7], rfl, Nat.zero_le _, h, Nat.le_refl _, by simp [maxLen], by simp, by simp⟩⟩
set_option maxRecDepth 100000 in
set_option maxHeartbeats 3200000 in
theorem told_any (id raw k : Int) (w : World) (hg : G w) (h1 : -9223372036854775808 ≤ id) (h2 : id ≤ 9223372036854775807) (h3 : -9223372036854775808 ≤ k) (h4 : k ≤ 9223372036854775807) :
    Calls Tryz.prog 7 #[.int .i64 id, .int .i64 raw, .int .i64 k] w fun e w' => e = .returned (.bool true) ∧ Below w.heap.size w w' := by
  have HG := hide hg
  clear hg
  obtain ⟨i, hi, hil⟩ := pick_nat id 65536 (by decide)
  obtain ⟨kk, hk, hkl⟩ := pick_nat k 3 (by decide)
  have HI := hide (fun W => pick_any id 65536 W h1 h2 (by decide) (by decide))
  have HK := hide (fun W => pick_any k 3 W h3 h4 (by decide) (by decide))
  have hi' : Pu.pick id 65536 = i := hi
  have hk' : Pu.pick k 3 = kk := hk
  rw [hi'] at HI
  rw [hk'] at HK
  clear hi hk hi' hk'
  have HL1 : Hid (∀ W, Calls Tryz.prog 23 #[.int .i64 1] W fun e w' => e = .returned (.string (B (lineS 49))) ∧ Below W.heap.size W w') := fun W => line_any 1 W (by omega) (by omega)
  have HL2 : Hid (∀ W, Calls Tryz.prog 23 #[.int .i64 2] W fun e w' => e = .returned (.string (B (lineS 50))) ∧ Below W.heap.size W w') := fun W => line_any 2 W (by omega) (by omega)
  have HL3 : Hid (∀ W, Calls Tryz.prog 23 #[.int .i64 3] W fun e w' => e = .returned (.string (B (lineS 51))) ∧ Below W.heap.size W w') := fun W => line_any 3 W (by omega) (by omega)
  have z1 : (B (lineS 49)).size = 19 := rfl
  have z2 : (B (lineS 50)).size = 19 := rfl
  have z3 : (B (lineS 51)).size = 19 := rfl
  have hM : (B (lineS 49) ++ B (lineS 50) ++ B (lineS 51)).data.toList = linesT := by simp [B, linesT]
  have HM := hide (made_told _ hM)
  clear hM
  go_enter Tryz.func7, Tryz.ntmps7
  go_wp2_with fail
  refine (unhide HL1 _).mono ?_
  rintro e w1 ⟨rfl, hb1⟩
  generalize B (lineS 49) = L1 at *
  go_wp2_with fail
  refine (unhide HL2 _).mono ?_
  rintro e w2 ⟨rfl, hb2⟩
  generalize B (lineS 50) = L2 at *
  go_wp2_with fail
  refine (unhide HL3 _).mono ?_
  rintro e w3 ⟨rfl, hb3⟩
  generalize B (lineS 51) = L3 at *
  have hB3 : Below w.heap.size w w3 := (hb1.trans (hb2.mono hb1.size)).trans (hb3.mono (Nat.le_trans hb1.size hb2.size))
  clear hb1 hb2 hb3
  go_wp2_with fail
  refine (unhide HM w3 ((unhide HG).below hB3)).mono ?_
  rintro e w4 ⟨zb, g, cap, rfl, hz4, hb4⟩
  have hB4 : Below w.heap.size w w4 := hB3.trans (hb4.mono hB3.size)
  have HZ := hide (fun W (hb : Below w4.heap.size w4 W) => And.intro (hz4.below hb) (((unhide HG).below hB4).below hb))
  have HB4 := hide hB4
  clear hB3 hb4 hz4 hB4 HM HL1 HL2 HL3 z1 z2 z3 HG
  go_wp2_with fail
  refine (unhide HK w4).mono ?_
  rintro e w4 ⟨rfl, rfl⟩
  obtain ⟨n, hn⟩ : ∃ n : Nat, n = 1 + kk := ⟨_, rfl⟩
  have hnI : (1 : Int) + (kk : Int) = (n : Int) := by omega
  have n0 : 0 < n := by omega
  have n4 : n < 4 := by omega
  have HH := hide (host_d n w4 (by omega))
  clear hn HK hkl
  go_wp2_with fail
  refine (unhide HH).mono ?_
  rintro e w5 ⟨rfl, hb5⟩
  have HC0 := hide (capital_any [104, dg n] raw w5 (by simp))
  go_wp2_with fail
  refine (unhide HC0).mono ?_
  rintro e w6 ⟨⟨t0, rfl, hc0⟩, hb6⟩
  obtain ⟨l0, f0⟩ := fold_h n0 n4 hc0
  have hB6 : Below w4.heap.size w4 w6 := hb5.trans (hb6.mono hb5.size)
  clear hc0 HC0 HH hb5 hb6
  have HC1 : Hid (∀ r W, Calls Tryz.prog 30 #[.string ⟨#[122, 122]⟩, .int .i64 r] W fun e w' => (∃ t, e = .returned (.string (B t)) ∧ Capd [122, 122] t) ∧ Below W.heap.size W w') := fun r W => capital_any [122, 122] r W (by simp)
  have HF0 := hide f0
  clear f0
  go_wp2_with fail
  refine (unhide HC1 _ _).mono ?_
  rintro e w7 ⟨⟨t1, rfl, hc1⟩, hb7⟩
  obtain ⟨l1, f1⟩ := fold_z hc1
  have hB7 : Below w4.heap.size w4 w7 := hB6.trans (hb7.mono hB6.size)
  have HF1 := hide f1
  have HQ : Hid (Calls Tryz.prog 29 #[.slice (some ⟨w7.heap.size, 0, none⟩) 2 2, .int .i64 1] (w7.alloc (.cells #[.string (B t0), .string (B t1)] 9)) fun e w' => e = .returned (.string (B (quest t0 t1 1))) ∧ Below (w7.alloc (.cells #[.string (B t0), .string (B t1)] 9)).heap.size (w7.alloc (.cells #[.string (B t0), .string (B t1)] 9)) w') :=
    question_two w7.heap.size 1 t0 t1 (w7.alloc (.cells #[.string (B t0), .string (B t1)] 9)) (by unfold World.cell?; rw [World.alloc_heap_new]; rfl) (by unfold World.cell?; rw [World.alloc_heap_new]; rfl) (by omega) (by omega) (by omega)
  clear f1 hc1 hb7 hB6 HC1
  go_wp2_with fail
  refine (unhide HQ).mono ?_
  rintro e w8 ⟨rfl, hb8⟩
  have hB8 : Below w4.heap.size w4 w8 := (hB7.alloc hB7.size _).trans (hb8.mono (by have := hB7.size; simp; omega))
  have hql : (quest t0 t1 1).length = 11 := by obtain ⟨a, b, rfl⟩ := two_of l0; obtain ⟨c, e, rfl⟩ := two_of l1; rfl
  have HRT := hide (fun W (hb : Below w4.heap.size w4 W) => reply_told zb g cap i (dg n) (isK_dg n n0 n4) t0 t1 l0 l1 (unhide HF0) (unhide HF1) hil W (unhide HZ W hb).1 (unhide HZ W hb).2)
  clear hb8 hB7 HQ l0 l1 HF0 HF1 HZ
  generalize quest t0 t1 1 = qs at *
  have hB8' := hide hB8
  have hs8 := hB8.size
  clear hB8
  go_wp2_with fail
  refine (unhide HI w8).mono ?_
  rintro e w8 ⟨rfl, rfl⟩
  have HQY := hide (query_plain i qs w8 hil (by omega))
  clear HI
  go_wp2_with fail
  refine (unhide HQY).mono ?_
  rintro e w9 ⟨rfl, hb9⟩
  have hB9 : Below w4.heap.size w4 w9 := (unhide hB8').trans (hb9.mono hs8)
  have HRE := hide (unhide HRT w9 hB9)
  clear hb9 HQY HRT hB8'
  have hs9 := hB9.size
  have HB9 := hide hB9
  clear hB9
  go_wp2_with fail
  refine (unhide HRE).mono ?_
  rintro e w10 ⟨rfl, hb10⟩
  have hB10 : Below w4.heap.size w4 w10 := (unhide HB9).trans (hb10.mono hs9)
  have HB10 := hide hB10
  have hs10 := hB10.size
  have HAD := hide (address_any n w10 (by omega))
  clear hb10 hB10 HRE HB9
  go_wp2_with fail
  refine (unhide HAD).mono ?_
  rintro e w11 ⟨rfl, had, hsz, hb11⟩
  obtain ⟨ab, hab⟩ : ∃ ab, ab = w10.heap.size := ⟨_, rfl⟩
  rw [← hab] at had ⊢
  have HB11 : Hid (Below w4.heap.size w4 w11) := (unhide HB10).trans (hb11.mono hs10)
  clear hab hsz hb11 HAD HB10
  have hS : w11.drew.cell? ⟨ab, 0, none⟩ = some (.int .i64 10) ∧ w11.drew.cell? ⟨ab, 1, none⟩ = some (.int .i64 0) ∧ w11.drew.cell? ⟨ab, 2, none⟩ = some (.int .i64 n) ∧ w11.drew.cell? ⟨ab, 3, none⟩ = some (.int .i64 7) := had.cells
  obtain ⟨ad0, ad1, ad2, ad3⟩ := had.cells
  have KS : Hid (∀ W' : World, Below w11.heap.size w11 W' → (W'.cell? ⟨ab, 0, none⟩ = some (.int .i64 10) ∧ W'.cell? ⟨ab, 1, none⟩ = some (.int .i64 0) ∧ W'.cell? ⟨ab, 2, none⟩ = some (.int .i64 n) ∧ W'.cell? ⟨ab, 3, none⟩ = some (.int .i64 7))) := fun W' hb => by
    have kp : ∀ (a : Addr) (v : Value), w11.cell? a = some v → W'.cell? a = some v := fun a v h => (hb.cell (World.block_lt_of_cell? w11 a h)).trans h
    exact ⟨kp _ _ ad0, kp _ _ ad1, kp _ _ ad2, kp _ _ ad3⟩
  have x10 : IntKind.u8.wrap 10 = 10 := by decide
  have x00 : IntKind.u8.wrap 0 = 0 := by decide
  have x07 : IntKind.u8.wrap 7 = 7 := by decide
  have HTI := hide (fun W => two_exact i W hil)
  have HTN := hide (fun W => two_exact n W (by omega))
  have kXY : (convert 58 9 (.slice (some ⟨w11.heap.size, 0, none⟩) 4 4)).run Tryz.prog (w11.alloc (.cells #[.int .u8 10, .int .u8 0, .int .u8 n, .int .u8 7] 5)).drew = .ok (.string ⟨#[10, 0, UInt8.ofNat n, 7]⟩) (w11.alloc (.cells #[.int .u8 10, .int .u8 0, .int .u8 n, .int .u8 7] 5)).drew := c4_run n4 (W := (w11.alloc (.cells #[.int .u8 10, .int .u8 0, .int .u8 n, .int .u8 7] 5)).drew) (World.alloc_heap_new w11 _)
  have kXAY : (convert 58 9 (.slice (some ⟨w11.heap.size, 0, none⟩) 4 4)).run Tryz.prog ((w11.alloc (.cells #[.int .u8 10, .int .u8 0, .int .u8 n, .int .u8 7] 5)).alloc (.cells #[.int .u8 ((i : Int) / 256), .int .u8 ((i : Int) % 256)] 5)).drew = .ok (.string ⟨#[10, 0, UInt8.ofNat n, 7]⟩) ((w11.alloc (.cells #[.int .u8 10, .int .u8 0, .int .u8 n, .int .u8 7] 5)).alloc (.cells #[.int .u8 ((i : Int) / 256), .int .u8 ((i : Int) % 256)] 5)).drew := c4_run n4 (W := ((w11.alloc (.cells #[.int .u8 10, .int .u8 0, .int .u8 n, .int .u8 7] 5)).alloc (.cells #[.int .u8 ((i : Int) / 256), .int .u8 ((i : Int) % 256)] 5)).drew) ((Below.heap_alloc _ _ _ (by simp <;> omega)).trans (World.alloc_heap_new w11 _))
  have kXABY : (convert 58 9 (.slice (some ⟨w11.heap.size, 0, none⟩) 4 4)).run Tryz.prog (((w11.alloc (.cells #[.int .u8 10, .int .u8 0, .int .u8 n, .int .u8 7] 5)).alloc (.cells #[.int .u8 ((i : Int) / 256), .int .u8 ((i : Int) % 256)] 5)).alloc (.cells #[.int .u8 ((n : Int) / 256), .int .u8 ((n : Int) % 256)] 5)).drew = .ok (.string ⟨#[10, 0, UInt8.ofNat n, 7]⟩) (((w11.alloc (.cells #[.int .u8 10, .int .u8 0, .int .u8 n, .int .u8 7] 5)).alloc (.cells #[.int .u8 ((i : Int) / 256), .int .u8 ((i : Int) % 256)] 5)).alloc (.cells #[.int .u8 ((n : Int) / 256), .int .u8 ((n : Int) % 256)] 5)).drew := c4_run n4 (W := (((w11.alloc (.cells #[.int .u8 10, .int .u8 0, .int .u8 n, .int .u8 7] 5)).alloc (.cells #[.int .u8 ((i : Int) / 256), .int .u8 ((i : Int) % 256)] 5)).alloc (.cells #[.int .u8 ((n : Int) / 256), .int .u8 ((n : Int) % 256)] 5)).drew) ((Below.heap_alloc _ _ _ (by simp <;> omega)).trans ((Below.heap_alloc _ _ _ (by simp <;> omega)).trans (World.alloc_heap_new w11 _)))
  have kAXY : (convert 58 9 (.slice (some ⟨w11.heap.size + 1, 0, none⟩) 4 4)).run Tryz.prog ((w11.alloc (.cells #[.int .u8 ((i : Int) / 256), .int .u8 ((i : Int) % 256)] 5)).alloc (.cells #[.int .u8 10, .int .u8 0, .int .u8 n, .int .u8 7] 5)).drew = .ok (.string ⟨#[10, 0, UInt8.ofNat n, 7]⟩) ((w11.alloc (.cells #[.int .u8 ((i : Int) / 256), .int .u8 ((i : Int) % 256)] 5)).alloc (.cells #[.int .u8 10, .int .u8 0, .int .u8 n, .int .u8 7] 5)).drew := c4_run n4 (W := ((w11.alloc (.cells #[.int .u8 ((i : Int) / 256), .int .u8 ((i : Int) % 256)] 5)).alloc (.cells #[.int .u8 10, .int .u8 0, .int .u8 n, .int .u8 7] 5)).drew) (by have := World.alloc_heap_new (w11.alloc (.cells #[.int .u8 ((i : Int) / 256), .int .u8 ((i : Int) % 256)] 5)) (.cells #[.int .u8 10, .int .u8 0, .int .u8 n, .int .u8 7] 5); simp only [World.size_alloc] at this; exact this)
  have kAXBY : (convert 58 9 (.slice (some ⟨w11.heap.size + 1, 0, none⟩) 4 4)).run Tryz.prog (((w11.alloc (.cells #[.int .u8 ((i : Int) / 256), .int .u8 ((i : Int) % 256)] 5)).alloc (.cells #[.int .u8 10, .int .u8 0, .int .u8 n, .int .u8 7] 5)).alloc (.cells #[.int .u8 ((n : Int) / 256), .int .u8 ((n : Int) % 256)] 5)).drew = .ok (.string ⟨#[10, 0, UInt8.ofNat n, 7]⟩) (((w11.alloc (.cells #[.int .u8 ((i : Int) / 256), .int .u8 ((i : Int) % 256)] 5)).alloc (.cells #[.int .u8 10, .int .u8 0, .int .u8 n, .int .u8 7] 5)).alloc (.cells #[.int .u8 ((n : Int) / 256), .int .u8 ((n : Int) % 256)] 5)).drew := c4_run n4 (W := (((w11.alloc (.cells #[.int .u8 ((i : Int) / 256), .int .u8 ((i : Int) % 256)] 5)).alloc (.cells #[.int .u8 10, .int .u8 0, .int .u8 n, .int .u8 7] 5)).alloc (.cells #[.int .u8 ((n : Int) / 256), .int .u8 ((n : Int) % 256)] 5)).drew) ((Below.heap_alloc _ _ _ (by simp <;> omega)).trans (by have := World.alloc_heap_new (w11.alloc (.cells #[.int .u8 ((i : Int) / 256), .int .u8 ((i : Int) % 256)] 5)) (.cells #[.int .u8 10, .int .u8 0, .int .u8 n, .int .u8 7] 5); simp only [World.size_alloc] at this; exact this))
  have kABXY : (convert 58 9 (.slice (some ⟨w11.heap.size + 1 + 1, 0, none⟩) 4 4)).run Tryz.prog (((w11.alloc (.cells #[.int .u8 ((i : Int) / 256), .int .u8 ((i : Int) % 256)] 5)).alloc (.cells #[.int .u8 ((n : Int) / 256), .int .u8 ((n : Int) % 256)] 5)).alloc (.cells #[.int .u8 10, .int .u8 0, .int .u8 n, .int .u8 7] 5)).drew = .ok (.string ⟨#[10, 0, UInt8.ofNat n, 7]⟩) (((w11.alloc (.cells #[.int .u8 ((i : Int) / 256), .int .u8 ((i : Int) % 256)] 5)).alloc (.cells #[.int .u8 ((n : Int) / 256), .int .u8 ((n : Int) % 256)] 5)).alloc (.cells #[.int .u8 10, .int .u8 0, .int .u8 n, .int .u8 7] 5)).drew := c4_run n4 (W := (((w11.alloc (.cells #[.int .u8 ((i : Int) / 256), .int .u8 ((i : Int) % 256)] 5)).alloc (.cells #[.int .u8 ((n : Int) / 256), .int .u8 ((n : Int) % 256)] 5)).alloc (.cells #[.int .u8 10, .int .u8 0, .int .u8 n, .int .u8 7] 5)).drew) (by have := World.alloc_heap_new ((w11.alloc (.cells #[.int .u8 ((i : Int) / 256), .int .u8 ((i : Int) % 256)] 5)).alloc (.cells #[.int .u8 ((n : Int) / 256), .int .u8 ((n : Int) % 256)] 5)) (.cells #[.int .u8 10, .int .u8 0, .int .u8 n, .int .u8 7] 5); simp only [World.size_alloc] at this; exact this)
  have xn : IntKind.u8.wrap (n : Int) = (n : Int) := by rw [IntKind.wrap_u8]; omega
  have sI : (B [hi i, lo i]).size = 2 := rfl
  have sN : (B [hi n, lo n]).size = 2 := rfl
  have sQ : (B qs).size = 11 := by rw [size_B]; exact hql
  obtain ⟨want, hwant⟩ : ∃ x, x = tellS i qs (dg n) := ⟨_, rfl⟩
  have HWA := hide hwant
  rw [← hwant]
  have HE : Hid (B [hi i, lo i] ++ ⟨#[133, 0, 0, 1, 0, 1, 0, 0, 0, 0]⟩ ++ B qs ++ ⟨#[192, 12, 0, 1, 0, 1, 0, 0]⟩ ++ B [hi n, lo n] ++ ⟨#[0, 4]⟩ ++ ⟨#[10, 0, UInt8.ofNat n, 7]⟩ = B want) := by
    have hn' : hi n = 0 ∧ lo n = dg n - 48 ∧ UInt8.ofNat n = dg n - 48 := by
      match n, n0, n4 with
      | 1, _, _ => decide
      | 2, _, _ => decide
      | 3, _, _ => decide
      | n + 4, _, h => omega
    rw [Hid, hwant, hn'.1, hn'.2.1, hn'.2.2]
    exact ba_ext (by simp [B, tellS])
  have HBW : Hid (Below w.heap.size w w11) := (unhide HB4).trans ((unhide HB11).mono (unhide HB4).size)
  have hsw := (unhide HBW).size
  clear had hwant
  go_wp2_with fail
  go_region_held (fun w' => w'.cell? ⟨ab, 0, none⟩ = some (.int .i64 10) ∧ w'.cell? ⟨ab, 1, none⟩ = some (.int .i64 0) ∧ w'.cell? ⟨ab, 2, none⟩ = some (.int .i64 n) ∧ w'.cell? ⟨ab, 3, none⟩ = some (.int .i64 7)) (first | assumption | exact unhide KS _ ((Below.refl _ _).alloc (Nat.le_refl _) _).drew | exact unhide KS _ (((Below.refl _ _).alloc (Nat.le_refl _) _).alloc (by simp) _).drew | exact unhide KS _ ((((Below.refl _ _).alloc (Nat.le_refl _) _).alloc (by simp) _).alloc (by simp <;> omega) _).drew)
    (first
      | (go_at_call_of 33 (Value.int IntKind.i64 (i : Int)); go_loud (refine (unhide HTI _).mono ?_; rintro e w' ⟨rfl, rfl⟩))
      | (go_at_call_of 33 (Value.int IntKind.i64 (n : Int)); go_loud (refine (unhide HTN _).mono ?_; rintro e w' ⟨rfl, rfl⟩)))
  all_goals
    rw [unhide HE]
    rename_i hH
    clear hH hS ad0 ad1 ad2 ad3 kXY kXAY kXABY kAXY kAXBY kABXY KS HTI HTN HE
    go_wp2_with fail
    go_ret
    exact ⟨by simp, ((((unhide HBW).alloc hsw _).alloc (by simp; omega) _).alloc (by simp; omega) _).drew⟩
end Xd
end Go.Proofs.YtkkpahmoljiepaaGreatDoor
