/- Contracts: slices.Clone of records, lookup.owned, lastWord, (*Table).denial. -/
import Derived.Test.YtkkpahmoljiepaaGreatDoorJ09
import Derived.Test.YtkkpahmoljiepaaGreatDoorJ04
import Derived.Test.YtkkpahmoljiepaaGreatDoorShelf
import Derived.Lib.SmallJoins
import Derived.Laws.OwnMore
set_option linter.unusedSimpArgs false
set_option linter.unusedVariables false
namespace Go.Proofs.YtkkpahmoljiepaaGreatDoor
open Go.RowKit
open Pu (Str hide unhide)

/-- a slice of records in memory of the call's own. -/
def OwnR (w : World) (base : Nat) (v : Value) (rs : List Rec) : Prop := w.ownsRow base 47 4 v rs.length (encs rs)

def setOwner (n : Str) (r : Rec) : Rec := (n, r.ttl, r.type, r.data)
/-- what stands behind a text's last blank. -/
def lastW (l : Str) : Str := l.drop (Lib.lastIndexByte (B l) 32 + 1).toNat
def minN (r : Rec) : Nat := ((Lib.atoi (lastW r.data)).getD 0).toNat
/-- a SOA's last word is a number. -/
def soaOk (r : Rec) : Prop := (lastW r.data).length ≤ 18 ∧ ∃ m : Nat, Lib.atoi (lastW r.data) = some (m : Int) ∧ m ≤ 1000000000
/-- a SOA as it stands in the authority. -/
def denyR (r : Rec) : Rec := (r.owner, min r.ttl (minN r), r.type, r.data)
def denyP (o : Str) (rs : List Rec) : List Rec := (setP (ofP rs o) 6).map denyR

section
open Rf Re
theorem OwnR.below {w w' : World} {base : Nat} {v : Value} {rs : List Rec} (h : OwnR w base v rs) (hb : Below w.heap.size w w') : OwnR w' base v rs := own_below h hb
theorem OwnR.base {w : World} {base base' : Nat} {v : Value} {rs : List Rec} (h : OwnR w base v rs) (hb : base' ≤ base) : OwnR w base' v rs := own_base h hb
theorem OwnR.keeps {w w' : World} {base d : Nat} {v : Value} {rs : List Rec} (h : OwnR w base v rs) (hk : It.Keeps d w w') (hd : d < base) : OwnR w' base v rs := by
  obtain ⟨h1, h2⟩ := h
  refine ⟨h1, ?_⟩
  rcases h2 with h2 | ⟨g, cap, cur, e, hb, hcur, hr⟩
  · exact .inl h2
  · exact .inr ⟨g, cap, cur, e, hb, (hk.block g (Array.getElem?_eq_some_iff.1 hcur).1 (by omega)).trans hcur, hr⟩
theorem OwnR.set_other {w : World} {base k : Nat} {v : Value} {rs : List Rec} (h : OwnR w base v rs) (hk : k < base) (u : Value) : OwnR (w.setCell ⟨k, 0, none⟩ u) base v rs := ownsRow_setCell_below h hk u
theorem OwnR.set_low {w : World} {base k i : Nat} {v : Value} {rs : List Rec} (h : OwnR w base v rs) (hk : k < base) (u : Value) : OwnR (w.setCell ⟨k, i, none⟩ u) base v rs := ownsRow_setCell_below h hk u
theorem OwnR.own_lt0 {w : World} {base : Nat} {v : Value} {rs : List Rec} (h : OwnR w base v rs) : ∀ g, v.ownBlock = some g → base ≤ g ∧ g < w.heap.size := World.ownsRow.lt h
theorem OwnR.slice {w : World} {base : Nat} {v : Value} {rs : List Rec} (h : OwnR w base v rs) : ∃ a c, v = .slice a rs.length c := by
  rcases h.2 with ⟨rfl, h0⟩ | ⟨g, cap, cur, rfl, _⟩
  · exact ⟨none, 0, by rw [h0]⟩
  · exact ⟨_, _, rfl⟩
theorem OwnR.rv {w : World} {base : Nat} {v : Value} {rs : List Rec} (h : OwnR w base v rs) : RV w v rs := by
  rcases h.2 with ⟨rfl, h0⟩ | ⟨g, cap, cur, rfl, hb, hcur, hc, hm, hsz, htk⟩
  · exact .inl ⟨rfl, List.eq_nil_of_length_eq_zero h0⟩
  · refine .inr ⟨g, 0, cap, rfl, hc, recsAt_of_encs ((Array.getElem?_eq_some_iff.1 hcur).1) (fun j u hu => ?_)⟩
    have := World.ownsRow.cellAt h j (by have := (List.getElem?_eq_some_iff.1 hu).1; rw [encs_len] at this; exact this)
    rw [Nat.zero_add, this, hu]

end

namespace Lc
open Ka Kd Rf Rg Ia Iow Ie Zb Zc Za La Lb Re

theorem encs_of_recsAt {w : World} {b off : Nat} {rs : List Rec} (h : RecsAt w b off rs) : ∀ j u, (encs rs)[j]? = some u → w.cell? ⟨b, off + j, none⟩ = some u := by
  intro j u hu
  have hj : j < rs.length * 4 := by have := (List.getElem?_eq_some_iff.1 hu).1; rwa [encs_len] at this
  have hj4 : j / 4 < rs.length := by omega
  have e : j = j / 4 * 4 + j % 4 := by omega
  rw [e, encs_get rs (j / 4) (j % 4) hj4 (by omega)] at hu
  have := h.2 (j / 4) hj4 (j % 4) u hu
  rw [Nat.add_assoc, ← e] at this
  exact this
theorem encs_one {rs : List Rec} : ∀ u ∈ encs rs, u.oneCell' = true := by
  intro u hu
  unfold encs at hu
  obtain ⟨r, _, hr⟩ := List.mem_flatMap.1 hu
  simp [Rec.enc] at hr
  rcases hr with rfl | rfl | rfl | rfl <;> rfl

theorem clone_any (v : Value) (rs : List Rec) (w : World) (hv : RV w v rs) (hl : rs.length ≤ 3001) :
    Calls Tryz.prog 243 #[v] w fun e w' => ∃ v', e = .returned v' ∧ OwnR w' w.heap.size v' rs ∧ Below w.heap.size w w' := by
  rcases hv with ⟨rfl, rfl⟩ | ⟨b, off, cap, rfl, hcap, hr⟩
  · refine (AnyE.slices_Clone_nil Tryz.lClone 0 0 w).mono ?_
    rintro e w' ⟨rfl, rfl⟩
    exact ⟨_, rfl, World.ownsRow_nil _ _ _ _, Below.refl _ _⟩
  · obtain ⟨i0, hi, hz0, hz1, hz2⟩ := info_parts infoR
    refine (AnyE.slices_Clone Tryz.lClone i0 _ 4 48 hi hz0 hz1 hz2 rfl (by omega) Tryz.sizeOf47 b off rs.length cap (encs rs) w (encs_len rs) (by simp [maxLen]; omega) (by omega) (encs_of_recsAt hr) encs_one).mono ?_
    rintro e w' ⟨v', rfl, h1, _, h2⟩
    exact ⟨v', rfl, h1, h2⟩

theorem encs_set_owner (n : Str) : ∀ (rs : List Rec) (i : Nat) (h : i < rs.length), (encs rs).set (i * 4) (.string (B n)) = encs (rs.set i (setOwner n rs[i]))
  | [], i, h => by simp at h
  | r :: t, 0, _ => by simp [encs, Rec.enc, setOwner, Rec.owner, Rec.ttl, Rec.type, Rec.data]
  | r :: t, i + 1, h => by
    have ih := encs_set_owner n t i (by simpa using h)
    have e : (i + 1) * 4 = i * 4 + 1 + 1 + 1 + 1 := by omega
    simp only [encs, List.flatMap_cons, List.set_cons_succ, List.getElem_cons_succ] at ih ⊢
    rw [← ih, e]
    simp [Rec.enc]

theorem map_step {f : Rec → Rec} {rs : List Rec} {k : Nat} (hk : k < rs.length) :
    ∃ h : k < ((rs.take k).map f ++ rs.drop k).length, ((rs.take k).map f ++ rs.drop k)[k] = rs[k] ∧ ((rs.take k).map f ++ rs.drop k).set k (f rs[k]) = (rs.take (k + 1)).map f ++ rs.drop (k + 1) := by
  have hl : ((rs.take k).map f).length = k := by simp; omega
  refine ⟨by simp; omega, ?_, ?_⟩
  · rw [List.getElem_append_right (by omega)]
    simp only [hl, Nat.sub_self, List.getElem_drop, Nat.add_zero]
  · rw [List.set_append_right _ _ (by omega), hl, Nat.sub_self, List.drop_eq_getElem_cons hk, List.set_cons_zero, List.take_succ_eq_append_getElem hk, List.map_append]
    simp
theorem map_len {f : Rec → Rec} {rs : List Rec} {k : Nat} (hk : k ≤ rs.length) : ((rs.take k).map f ++ rs.drop k).length = rs.length := by simp; omega

set_option maxHeartbeats 800000 in
theorem owned_any (n : Str) (v : Value) (rs : List Rec) (w : World) (hv : RV w v rs) (hl : rs.length ≤ 3001) :
    Calls Tryz.prog 272 #[.string (B n), v] w fun e w' => ∃ v', e = .returned v' ∧ OwnR w' w.heap.size v' (rs.map (setOwner n)) ∧ Below w.heap.size w w' := by
  have HC := hide (clone_any v rs w hv hl)
  clear hv
  go_enter Tryz.func272, Tryz.ntmps272
  go_wp2_with fail
  refine (unhide HC).mono ?_
  rintro e w1 ⟨v', rfl, hown, hb1⟩
  obtain ⟨a, c, rfl⟩ := hown.slice
  have HO := hide hown
  clear hown
  go_wp2_with fail
  go_loopw [10] (fun i wr => ∃ k : Nat, i = .int .i64 k ∧ k ≤ rs.length ∧ OwnR wr w.heap.size (.slice a rs.length c) ((rs.take k).map (setOwner n) ++ rs.drop k) ∧ Below w.heap.size w wr) (fun i _ => rs.length - (intOf i).toNat)
  case atStart => exact ⟨0, rfl, Nat.zero_le _, by simpa using unhide HO, hb1⟩
  case round =>
    obtain ⟨k, rfl, hk, hown, hb⟩ := hrel
    clear HO hb1
    by_cases hlt : k < rs.length
    · obtain ⟨hk', hget, hset⟩ := map_step (f := setOwner n) hlt
      have hml := map_len (f := setOwner n) hk
      have hown' : wr.ownsRow w.heap.size 47 4 (.slice a rs.length c) rs.length (encs ((rs.take k).map (setOwner n) ++ rs.drop k)) := by
        have := hown; unfold OwnR at this; rwa [hml] at this
      rcases hown'.2 with ⟨e1, e2⟩ | ⟨g, cap, cur, e1, hbg, hcur, hcc, hcm, hcsz, htk⟩
      · omega
      · cases e1
        have hst := hown'.stored (k * 4) (.string (B n))
        have hfr := hown'.frozenAt (k * 4)
        have hce := hown'.cellAt (k * 4) (by omega)
        rw [encs_set_owner n _ k hk', hget, hset] at hst
        have hcs : ∃ u, wr.cell? ⟨g, k * 4, none⟩ = some u := by
          rw [hce]
          have : k * 4 < (encs ((rs.take k).map (setOwner n) ++ rs.drop k)).length := by rw [encs_len, hml]; omega
          exact ⟨_, List.getElem?_eq_getElem this⟩
        obtain ⟨u, hu⟩ := hcs
        have HST := hide hst
        have hbS := hide (hb.setCell (p := ⟨g, k * 4, none⟩) hbg (.string (B n)))
        clear hst hown hown' hce hcur htk hget hset
        go_wp2_with fail
        go_roundw
        case rel =>
          refine ⟨k + 1, by go_num, by omega, ?_, by simpa using unhide hbS⟩
          have := (unhide HST).1
          unfold OwnR
          rw [map_len (by omega)]
          simpa using this
        case measure => simp [intOf]; omega
    · obtain rfl : k = rs.length := by omega
      have HO := hide hown
      clear hown
      go_wp2_with fail
      go_ret
      refine ⟨_, rfl, ?_, hb⟩
      have := unhide HO
      rw [List.take_length, List.drop_length, List.append_nil] at this
      exact this
end Lc
end Go.Proofs.YtkkpahmoljiepaaGreatDoor

/- Contracts: lookup.lastWord, (*Table).denial. -/
namespace Go.Proofs.YtkkpahmoljiepaaGreatDoor
open Go.RowKit
open Pu (Str hide unhide)

namespace Le
open Ka Kd Rf Rg Ia Iow Ie Zb Zc Za La Lb Re Lc

theorem last_bounds (s : ByteArray) : -1 ≤ Lib.lastIndexByte s 32 ∧ Lib.lastIndexByte s 32 < s.size := by
  unfold Lib.lastIndexByte
  rcases Lib.lastIdx_spec s 32 s.size with ⟨h, _⟩ | ⟨i, h1, h2, _⟩
  · omega
  · omega

set_option maxHeartbeats 400000 in
theorem lastWord_any (l : Str) (w : World) (hl : l.length ≤ 3000) :
    Calls Tryz.prog 196 #[.string (B l)] w fun e w' => e = .returned (.string (B (lastW l))) ∧ w' = w := by
  have hb := last_bounds (B l)
  have hs : (B l).size ≤ 3000 := by rw [size_B]; exact hl
  have hfin : Hid (lastW l = (B l).data.toList.drop (Lib.lastIndexByte (B l) 32 + 1).toNat) := rfl
  have HC := hide (Tryz.strings_LastIndexByte (B l) 32 (by omega) w)
  generalize Lib.lastIndexByte (B l) 32 = i at *
  obtain ⟨k, hk⟩ : ∃ k : Nat, i + 1 = k := ⟨(i + 1).toNat, by omega⟩
  go_enter Tryz.func196, Tryz.ntmps196
  go_wp2_with fail
  refine (unhide HC).mono ?_
  rintro e w ⟨rfl, rfl⟩
  go_wp2_with fail
  go_ret
  refine ⟨ret_str ?_, rfl⟩
  rw [data_B, unhide hfin, hk, Int.toNat_natCast, ByteArray.data_extract, Array.toList_extract]
  simp
  exact List.take_of_length_le (by rw [List.length_drop, Pu.len_eq]; omega)

theorem encs_set_ttl (m : Nat) : ∀ (rs : List Rec) (i : Nat) (h : i < rs.length), (encs rs).set (i * 4 + 1) (.int .i64 m) = encs (rs.set i (rs[i].owner, m, rs[i].type, rs[i].data))
  | [], i, h => by simp at h
  | r :: t, 0, _ => by simp [encs, Rec.enc, Rec.owner, Rec.ttl, Rec.type, Rec.data]
  | r :: t, i + 1, h => by
    have ih := encs_set_ttl m t i (by simpa using h)
    have e : (i + 1) * 4 + 1 = (i * 4 + 1) + 1 + 1 + 1 + 1 := by omega
    simp only [encs, List.flatMap_cons, List.set_cons_succ, List.getElem_cons_succ] at ih ⊢
    rw [← ih, e]
    simp [Rec.enc]

theorem atoi_any (l : Str) (m : Nat) (w : World) (hl : l.length ≤ 18) (h : Lib.atoi l = some (m : Int)) :
    Calls Tryz.prog 274 #[.string (B l)] w fun e w' => e = .returned (.tuple #[.int .i64 m, .nilIface]) ∧ Below w.heap.size w w' := by
  refine (Tryz.strconv_Atoi (B l) m (by rw [size_B]; exact hl) h w).mono ?_
  rintro e w' ⟨rfl, t, rfl⟩
  exact ⟨rfl, Go.Joins.below_bytesWorld _ _ _ _ (Nat.le_refl _)⟩

set_option maxRecDepth 100000 in
set_option maxHeartbeats 1600000 in
theorem denial_any (zb b off cap : Nat) (o : Str) (rs : List Rec) (w : World) (hz : TableAt w zb o b off cap rs) (hlen : rs.length ≤ 3001) (hok : ∀ r ∈ setP (ofP rs o) 6, soaOk r ∧ r.data.length ≤ 3000 ∧ r.ttl ≤ 1000000000) :
    Calls Tryz.prog 245 #[.pointer (some ⟨zb, 0, none⟩)] w fun e w' => ∃ v', e = .returned v' ∧ OwnR w' w.heap.size v' (denyP o rs) ∧ Below w.heap.size w w' := by
  have HS := hide (set_t zb b off cap o o 6 rs w hz hlen)
  have hz0 := hz.2.1
  have HR := hide hz.2.2.2.2
  have hsl : (setP (ofP rs o) 6).length ≤ 3001 := Nat.le_trans (setP_len _ _) (Nat.le_trans (ofP_len _ _) hlen)
  have hfin : Hid (denyP o rs = (setP (ofP rs o) 6).map denyR) := rfl
  have HOK := hide hok
  clear hz hok
  generalize setP (ofP rs o) 6 = ss at *
  go_enter Tryz.func245, Tryz.ntmps245
  go_wp2_with fail
  refine (unhide HS).mono ?_
  rintro e w1 ⟨⟨v1, rfl, hv1⟩, hb1⟩
  have HC := hide (clone_any v1 ss w1 (hv1.rv ((unhide HR).below hb1)) hsl)
  clear hv1
  go_wp2_with fail
  refine (unhide HC).mono ?_
  rintro e w2 ⟨v', rfl, hown, hb2⟩
  obtain ⟨a, c, rfl⟩ := hown.slice
  have hs1 := hb1.size
  have HO := hide (hown.base hs1)
  have hb12 := hb1.trans (hb2.mono hs1)
  clear hown
  go_wp2_with fail
  go_loopw [17] (fun i wr => ∃ k : Nat, i = .int .i64 k ∧ k ≤ ss.length ∧ OwnR wr w.heap.size (.slice a ss.length c) ((ss.take k).map denyR ++ ss.drop k) ∧ Below w.heap.size w wr) (fun i _ => ss.length - (intOf i).toNat)
  case atStart => exact ⟨0, rfl, Nat.zero_le _, by simpa using unhide HO, hb12⟩
  case round =>
    obtain ⟨k, rfl, hk, hown, hb⟩ := hrel
    clear HO hb1 hb2 hb12
    by_cases hlt : k < ss.length
    · obtain ⟨hk', hget, hset⟩ := map_step (f := denyR) hlt
      have hml := map_len (f := denyR) hk
      have hown' : wr.ownsRow w.heap.size 47 4 (.slice a ss.length c) ss.length (encs ((ss.take k).map denyR ++ ss.drop k)) := by
        have := hown; unfold OwnR at this; rwa [hml] at this
      have hra := hown.rv
      obtain ⟨⟨hok1, m, hok2, hok3⟩, hdl, httl⟩ := unhide HOK ss[k] (List.getElem_mem hlt)
      rcases hown'.2 with ⟨e1, e2⟩ | ⟨g, cap, cur, e1, hbg, hcur, hcc, hcm, hcsz, htk⟩
      · omega
      · cases e1
        have hra' : RecsAt wr g 0 ((ss.take k).map denyR ++ ss.drop k) := by
          rcases hra with ⟨e, _⟩ | ⟨b', off', cap', e, _, hr⟩
          · cases e
          · simp only [Value.slice.injEq, Option.some.injEq, Addr.mk.injEq] at e
            obtain ⟨⟨rfl, rfl, _⟩, _, _⟩ := e
            exact hr
        obtain ⟨c0, c1, c2, c3⟩ := hra'.four k hk'
        rw [hget] at c0 c1 c2 c3
        rw [Nat.zero_add] at c0 c1 c2 c3
        have hst := fun (W : World) (h : Below wr.heap.size wr W) => (own_below hown' h).stored (k * 4 + 1) (.int .i64 ((min ss[k].ttl m : Nat) : Int))
        have hfr := fun (W : World) (h : Below wr.heap.size wr W) => (own_below hown' h).frozenAt (k * 4 + 1)
        rw [encs_set_ttl _ _ k hk', hget] at hst
        have hdr : denyR ss[k] = (ss[k].owner, min ss[k].ttl m, ss[k].type, ss[k].data) := by
          unfold denyR minN; rw [hok2]; rfl
        rw [← hdr, hset] at hst
        have HST := hide hst
        have HFR := hide hfr
        have hglt : g < wr.heap.size := (Array.getElem?_eq_some_iff.1 hcur).1
        have HLW := hide (fun W => lastWord_any ss[k].data W hdl)
        have HAT := hide (fun W => atoi_any (lastW ss[k].data) m W hok1 hok2)
        clear hst hfr hown hown' hcur htk hget hset hdr hra hra' hok2
        generalize ss[k] = r at *
        go_wp2_with fail
        refine (unhide HLW _).mono ?_
        rintro e w4 ⟨rfl, hw4⟩
        have hb4 : Below wr.heap.size wr w4 := by rw [hw4]; exact (Below.refl _ _).alloc (Nat.le_refl _) _
        have d1 : w4.cell? ⟨wr.heap.size, 1, none⟩ = some (.int .i64 r.ttl) := by rw [hw4]; go_simp
        have l4 : wr.heap.size < w4.heap.size := by rw [hw4]; simp
        clear hw4
        go_wp2_with fail
        refine (unhide HAT _).mono ?_
        rintro e w5 ⟨rfl, hb5⟩
        have d5 := (hb5.cell (p := ⟨wr.heap.size, 1, none⟩) l4).trans d1
        have hb45 := hb4.trans (hb5.mono hb4.size)
        have q1 := (hb45.cell (p := ⟨g, k * 4 + 1, none⟩) hglt).trans c1
        have f1 := unhide HFR w5 hb45
        have S5 := hide (unhide HST w5 hb45)
        have hBS := hide (((hb.trans (hb45.mono hb.size))).setCell (p := ⟨g, k * 4 + 1, none⟩) hbg (.int .i64 ((min r.ttl m : Nat) : Int)))
        have hmin : (min (r.ttl : Int) (m : Int)) = ((min r.ttl m : Nat) : Int) := by omega
        clear HLW HAT HST HFR
        go_wp2_with fail
        go_roundw
        case rel =>
          refine ⟨k + 1, by go_num, by omega, ?_, by simpa using unhide hBS⟩
          have := (unhide S5).1
          unfold OwnR
          rw [map_len (by omega)]
          simpa using this
        case measure => simp [intOf]; omega
    · obtain rfl : k = ss.length := by omega
      have HO := hide hown
      clear hown
      go_wp2_with fail
      go_ret
      refine ⟨_, rfl, ?_, hb⟩
      have := unhide HO
      rw [List.take_length, List.drop_length, List.append_nil] at this
      rw [unhide hfin]
      exact this
end Le
end Go.Proofs.YtkkpahmoljiepaaGreatDoor
