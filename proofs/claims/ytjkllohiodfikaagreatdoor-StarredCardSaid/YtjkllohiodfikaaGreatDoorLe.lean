/- Contracts: lookup.lastWord, (*Table).denial. -/
import Derived.Test.YtjkllohiodfikaaGreatDoorLc
set_option linter.unusedSimpArgs false
set_option linter.unusedVariables false
namespace Go.Proofs.YtjkllohiodfikaaGreatDoor
open Go.RowKit
open Pu (Str hide unhide)

namespace Le
open Ka Kd Rf Rg Ia Iow Ie Zb Zc Za La Lb Re Lc

theorem last_bounds (s : ByteArray) : -1 ≤ Lib.lastIndexByte s 32 ∧ Lib.lastIndexByte s 32 < s.size := by
  unfold Lib.lastIndexByte
  rcases Lib.lastIdx_spec s 32 s.size with ⟨h, _⟩ | ⟨i, h1, h2, _⟩
  · omega
  · omega

set_option maxHeartbeats 400000 in
theorem lastWord_any (l : Str) (w : World) (hl : l.length ≤ 3000) :
    Calls Tryz.prog 156 #[.string (B l)] w fun e w' => e = .returned (.string (B (lastW l))) ∧ w' = w := by
  have hb := last_bounds (B l)
  have hs : (B l).size ≤ 3000 := by rw [size_B]; exact hl
  have hfin : Hid (lastW l = (B l).data.toList.drop (Lib.lastIndexByte (B l) 32 + 1).toNat) := rfl
  have HC := hide (Tryz.strings_LastIndexByte (B l) 32 (by omega) w)
  generalize Lib.lastIndexByte (B l) 32 = i at *
  obtain ⟨k, hk⟩ : ∃ k : Nat, i + 1 = k := ⟨(i + 1).toNat, by omega⟩
  go_enter Tryz.func156, Tryz.ntmps156
  go_wp2_with fail
  refine (unhide HC).mono ?_
  rintro e w ⟨rfl, rfl⟩
  go_wp2_with fail
  go_ret
  refine ⟨ret_str ?_, rfl⟩
  rw [data_B, unhide hfin, hk, Int.toNat_natCast, ByteArray.data_extract, Array.toList_extract]
  simp
  exact List.take_of_length_le (by rw [List.length_drop, Pu.len_eq]; omega)

theorem encs_set_ttl (m : Nat) : ∀ (rs : List Rec) (i : Nat) (h : i < rs.length), (encs rs).set (i * 4 + 1) (.int .i64 m) = encs (rs.set i (rs[i].owner, m, rs[i].type, rs[i].data))
  | [], i, h => by simp at h
  | r :: t, 0, _ => by simp [encs, Rec.enc, Rec.owner, Rec.ttl, Rec.type, Rec.data]
  | r :: t, i + 1, h => by
    have ih := encs_set_ttl m t i (by simpa using h)
    have e : (i + 1) * 4 + 1 = (i * 4 + 1) + 1 + 1 + 1 + 1 := by omega
    simp only [encs, List.flatMap_cons, List.set_cons_succ, List.getElem_cons_succ] at ih ⊢
    rw [← ih, e]
    simp [Rec.enc]

theorem atoi_any (l : Str) (m : Nat) (w : World) (hl : l.length ≤ 18) (h : Lib.atoi l = some (m : Int)) :
    Calls Tryz.prog 221 #[.string (B l)] w fun e w' => e = .returned (.tuple #[.int .i64 m, .nilIface]) ∧ Below w.heap.size w w' := by
  refine (Tryz.strconv_Atoi (B l) m (by rw [size_B]; exact hl) h w).mono ?_
  rintro e w' ⟨rfl, t, rfl⟩
  exact ⟨rfl, Go.Joins.below_bytesWorld _ _ _ _ (Nat.le_refl _)⟩

set_option maxRecDepth 100000 in
set_option maxHeartbeats 1600000 in
theorem denial_any (zb b off cap : Nat) (o : Str) (rs : List Rec) (w : World) (hz : TableAt w zb o b off cap rs) (hlen : rs.length ≤ 3001) (hok : ∀ r ∈ setP (ofP rs o) 6, soaOk r ∧ r.data.length ≤ 3000 ∧ r.ttl ≤ 1000000000) :
    Calls Tryz.prog 196 #[.pointer (some ⟨zb, 0, none⟩)] w fun e w' => ∃ v', e = .returned v' ∧ OwnR w' w.heap.size v' (denyP o rs) ∧ Below w.heap.size w w' := by
  have HS := hide (set_t zb b off cap o o 6 rs w hz hlen)
  have hz0 := hz.2.1
  have HR := hide hz.2.2.2.2
  have hsl : (setP (ofP rs o) 6).length ≤ 3001 := Nat.le_trans (setP_len _ _) (Nat.le_trans (ofP_len _ _) hlen)
  have hfin : Hid (denyP o rs = (setP (ofP rs o) 6).map denyR) := rfl
  have HOK := hide hok
  clear hz hok
  generalize setP (ofP rs o) 6 = ss at *
  go_enter Tryz.func196, Tryz.ntmps196
  go_wp2_with fail
  refine (unhide HS).mono ?_
  rintro e w1 ⟨⟨v1, rfl, hv1⟩, hb1⟩
  have HC := hide (clone_any v1 ss w1 (hv1.rv ((unhide HR).below hb1)) hsl)
  clear hv1
  go_wp2_with fail
  refine (unhide HC).mono ?_
  rintro e w2 ⟨v', rfl, hown, hb2⟩
  obtain ⟨a, c, rfl⟩ := hown.slice
  have hs1 := hb1.size
  have HO := hide (hown.base hs1)
  have hb12 := hb1.trans (hb2.mono hs1)
  clear hown
  go_wp2_with fail
  go_loopw [17] (fun i wr => ∃ k : Nat, i = .int .i64 k ∧ k ≤ ss.length ∧ OwnR wr w.heap.size (.slice a ss.length c) ((ss.take k).map denyR ++ ss.drop k) ∧ Below w.heap.size w wr) (fun i _ => ss.length - (intOf i).toNat)
  case atStart => exact ⟨0, rfl, Nat.zero_le _, by simpa using unhide HO, hb12⟩
  case round =>
    obtain ⟨k, rfl, hk, hown, hb⟩ := hrel
    clear HO hb1 hb2 hb12
    by_cases hlt : k < ss.length
    · obtain ⟨hk', hget, hset⟩ := map_step (f := denyR) hlt
      have hml := map_len (f := denyR) hk
      have hown' : wr.ownsRow w.heap.size 47 4 (.slice a ss.length c) ss.length (encs ((ss.take k).map denyR ++ ss.drop k)) := by
        have := hown; unfold OwnR at this; rwa [hml] at this
      have hra := hown.rv
      obtain ⟨⟨hok1, m, hok2, hok3⟩, hdl, httl⟩ := unhide HOK ss[k] (List.getElem_mem hlt)
      rcases hown'.2 with ⟨e1, e2⟩ | ⟨g, cap, cur, e1, hbg, hcur, hcc, hcm, hcsz, htk⟩
      · omega
      · cases e1
        have hra' : RecsAt wr g 0 ((ss.take k).map denyR ++ ss.drop k) := by
          rcases hra with ⟨e, _⟩ | ⟨b', off', cap', e, _, hr⟩
          · cases e
          · simp only [Value.slice.injEq, Option.some.injEq, Addr.mk.injEq] at e
            obtain ⟨⟨rfl, rfl, _⟩, _, _⟩ := e
            exact hr
        obtain ⟨c0, c1, c2, c3⟩ := hra'.four k hk'
        rw [hget] at c0 c1 c2 c3
        rw [Nat.zero_add] at c0 c1 c2 c3
        have hst := fun (W : World) (h : Below wr.heap.size wr W) => (own_below hown' h).stored (k * 4 + 1) (.int .i64 ((min ss[k].ttl m : Nat) : Int))
        have hfr := fun (W : World) (h : Below wr.heap.size wr W) => (own_below hown' h).frozenAt (k * 4 + 1)
        rw [encs_set_ttl _ _ k hk', hget] at hst
        have hdr : denyR ss[k] = (ss[k].owner, min ss[k].ttl m, ss[k].type, ss[k].data) := by
          unfold denyR minN; rw [hok2]; rfl
        rw [← hdr, hset] at hst
        have HST := hide hst
        have HFR := hide hfr
        have hglt : g < wr.heap.size := (Array.getElem?_eq_some_iff.1 hcur).1
        have HLW := hide (fun W => lastWord_any ss[k].data W hdl)
        have HAT := hide (fun W => atoi_any (lastW ss[k].data) m W hok1 hok2)
        clear hst hfr hown hown' hcur htk hget hset hdr hra hra' hok2
        generalize ss[k] = r at *
        go_wp2_with fail
        refine (unhide HLW _).mono ?_
        rintro e w4 ⟨rfl, hw4⟩
        have hb4 : Below wr.heap.size wr w4 := by rw [hw4]; exact (Below.refl _ _).alloc (Nat.le_refl _) _
        have d1 : w4.cell? ⟨wr.heap.size, 1, none⟩ = some (.int .i64 r.ttl) := by rw [hw4]; go_simp
        have l4 : wr.heap.size < w4.heap.size := by rw [hw4]; simp
        clear hw4
        go_wp2_with fail
        refine (unhide HAT _).mono ?_
        rintro e w5 ⟨rfl, hb5⟩
        have d5 := (hb5.cell (p := ⟨wr.heap.size, 1, none⟩) l4).trans d1
        have hb45 := hb4.trans (hb5.mono hb4.size)
        have q1 := (hb45.cell (p := ⟨g, k * 4 + 1, none⟩) hglt).trans c1
        have f1 := unhide HFR w5 hb45
        have S5 := hide (unhide HST w5 hb45)
        have hBS := hide (((hb.trans (hb45.mono hb.size))).setCell (p := ⟨g, k * 4 + 1, none⟩) hbg (.int .i64 ((min r.ttl m : Nat) : Int)))
        have hmin : (min (r.ttl : Int) (m : Int)) = ((min r.ttl m : Nat) : Int) := by omega
        clear HLW HAT HST HFR
        go_wp2_with fail
        go_roundw
        case rel =>
          refine ⟨k + 1, by go_num, by omega, ?_, by simpa using unhide hBS⟩
          have := (unhide S5).1
          unfold OwnR
          rw [map_len (by omega)]
          simpa using this
        case measure => simp [intOf]; omega
    · obtain rfl : k = ss.length := by omega
      have HO := hide hown
      clear hown
      go_wp2_with fail
      go_ret
      refine ⟨_, rfl, ?_, hb⟩
      have := unhide HO
      rw [List.take_length, List.drop_length, List.append_nil] at this
      rw [unhide hfin]
      exact this
end Le
end Go.Proofs.YtjkllohiodfikaaGreatDoor
