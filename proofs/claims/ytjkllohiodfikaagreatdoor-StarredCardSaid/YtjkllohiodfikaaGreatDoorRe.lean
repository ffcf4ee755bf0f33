/- Contract: zone.readZone. -/
import Derived.Test.YtjkllohiodfikaaGreatDoorRd
set_option linter.unusedSimpArgs false
set_option linter.unusedVariables false
namespace Go.Proofs.YtjkllohiodfikaaGreatDoor
open Go.RowKit
open Pu (Str hide unhide)

def readAll : List Str → Option (List Rec)
  | [] => some []
  | l :: t => (readRec l).bind fun r => (readAll t).map (r :: ·)

/-- "origin " -/
def originW : Str := [111, 114, 105, 103, 105, 110, 32]

def readLines : List Str → Option (Str × List Rec)
  | [] => none
  | f :: t => if Lib.hasPrefix f originW && Sp.plain (Lib.trimPrefix f originW) then (readAll t).map (fun rs => (Lib.trimPrefix f originW, rs)) else none

def readZ (l : Str) : Option (Str × List Rec) :=
  if Lib.hasSuffix l [10] then readLines (Sp.spl 10 (Lib.trimSuffix l [10])) else none

def encs (rs : List Rec) : List Value := rs.flatMap Rec.enc
theorem encs_snoc (rs : List Rec) (r : Rec) : encs (rs ++ [r]) = encs rs ++ r.enc := by simp [encs]
theorem encs_len (rs : List Rec) : (encs rs).length = rs.length * 4 := by
  induction rs with
  | nil => rfl
  | cons r t ih => simp only [encs, List.flatMap_cons, List.length_append] at *; rw [ih]; simp [Rec.enc]; omega

/-- a slice of records in memory of the call's own. -/
def RecsOwn (w : World) (base : Nat) (v : Value) (rs : List Rec) : Prop := w.ownsRow base 47 4 v rs.length (encs rs) ∧ (v = .slice none 0 0 ↔ rs = [])

theorem own_below {w w' : World} {B e size n : Nat} {v : Value} {xs : List Value} (h : w.ownsRow B e size v n xs) (hb : Below w.heap.size w w') : w'.ownsRow B e size v n xs :=
  h.kept (row := none) ⟨hb.os, hb.tape, hb.output, hb.size, fun k hk _ => hb.block k hk⟩ (Classical.em _)
theorem own_base {w : World} {B B' e size n : Nat} {v : Value} {xs : List Value} (h : w.ownsRow B e size v n xs) (hb : B' ≤ B) : w.ownsRow B' e size v n xs := by
  obtain ⟨hl, h | ⟨g, cap, cur, hv, hg, h1, h2, h3, h4, h5⟩⟩ := h
  · exact ⟨hl, .inl h⟩
  · exact ⟨hl, .inr ⟨g, cap, cur, hv, Nat.le_trans hb hg, h1, h2, h3, h4, h5⟩⟩

theorem RecsOwn.below {w w' : World} {B : Nat} {v : Value} {rs : List Rec} (h : RecsOwn w B v rs) (hb : Below w.heap.size w w') : RecsOwn w' B v rs := ⟨own_below h.1 hb, h.2⟩
theorem RecsOwn.base {w : World} {B B' : Nat} {v : Value} {rs : List Rec} (h : RecsOwn w B v rs) (hb : B' ≤ B) : RecsOwn w B' v rs := ⟨own_base h.1 hb, h.2⟩

namespace Re
open Ka Kb Kd Ke Kf Rc Rd

theorem readRecord_no (s : ByteArray) (w : World) (hg : G w) (hs : s.size ≤ 3000) (h : readRec s.data.toList = none) :
    Calls Tryz.prog 72 #[.string s] w fun e w' => e = .returned (.tuple #[.agg #[.string ⟨#[]⟩, .int .i64 0, .int .i64 0, .string ⟨#[]⟩], .bool false]) ∧ Below w.heap.size w w' := by
  have := readRecord_any s w hg hs
  rw [h] at this
  exact this
theorem readRecord_yes (s : ByteArray) (r : Rec) (w : World) (hg : G w) (hs : s.size ≤ 3000) (h : readRec s.data.toList = some r) :
    Calls Tryz.prog 72 #[.string s] w fun e w' => e = .returned (.tuple #[.agg #[.string (B r.owner), .int .i64 r.ttl, .int .i64 r.type, .string (B r.data)], .bool true]) ∧ Below w.heap.size w w' := by
  have := readRecord_any s w hg hs
  rw [h] at this
  exact this

theorem infoR : (Tryz.prog.info? 47).map (fun i => (i.zero, i.size, i.bytes)) = some (some (.agg #[.string ⟨#[]⟩, .int .i64 0, .int .i64 0, .string ⟨#[]⟩]), 4, 48) := by kernel_rfl
theorem underR : Tryz.prog.underlying 41 = some (.slice 47) := by kernel_rfl

def noneV : Value := .tuple #[.string ⟨#[]⟩, .slice none 0 0, .bool false]
/-- what readZone hands back: nothing, or an origin and records in memory of its own. -/
def zoneR (o : Option (Str × List Rec)) (base : Nat) (e : Ending) (w' : World) : Prop :=
  match o with
  | none => e = .returned noneV
  | some (o, rs) => ∃ v, e = .returned (.tuple #[.string (B o), v, .bool true]) ∧ RecsOwn w' base v rs
theorem zoneR_none {base : Nat} {e : Ending} {w' : World} (h : e = .returned noneV) : zoneR none base e w' := h

set_option maxHeartbeats 1600000 in
theorem readZone_noend (s : ByteArray) (w : World) (hs : s.size ≤ 3000) (h : Lib.hasSuffix s.data.toList [10] = false) :
    Calls Tryz.prog 37 #[.string s] w fun e w' => e = .returned noneV ∧ Below w.heap.size w w' := by
  go_enter Tryz.func37, Tryz.ntmps37
  go_wp2_with (go_at_call 69; refine (Tryz.strings_CutSuffix s _ _ (by omega)).mono ?_; rintro e w' ⟨rfl, rfl⟩)
  go_ret3
  exact ⟨rfl, Below.refl _ _⟩

theorem trimSuffix_len (l p : Str) : (Lib.trimSuffix l p).length ≤ l.length := by
  unfold Lib.trimSuffix; split
  · simp
  · exact Nat.le_refl _
theorem trimPrefix_len (l p : Str) : (Lib.trimPrefix l p).length ≤ l.length := by
  unfold Lib.trimPrefix; split
  · simp
  · exact Nat.le_refl _

set_option maxHeartbeats 1600000 in
theorem readZone_end (s : ByteArray) (w : World) (hg : G w) (hs : s.size ≤ 3000) (h : Lib.hasSuffix s.data.toList [10] = true) :
    Calls Tryz.prog 37 #[.string s] w fun e w' =>
      zoneR (readZ s.data.toList) w.heap.size e w' ∧ Below w.heap.size w w' := by
  have hz : Hid (readZ s.data.toList = readLines (Sp.spl 10 (Lib.trimSuffix s.data.toList [10]))) := by unfold readZ; rw [Hid, if_pos h]
  have hcut := Tryz.strings_CutSuffix s ⟨#[10]⟩ w (by omega)
  rw [h] at hcut
  obtain ⟨body, hbody⟩ : ∃ body : ByteArray, ⟨(Lib.trimSuffix s.data.toList [10]).toArray⟩ = body := ⟨_, rfl⟩
  have hbd : body.data.toList = Lib.trimSuffix s.data.toList [10] := by rw [← hbody]
  have hbs : body.size ≤ 3000 := by
    have := trimSuffix_len s.data.toList [10]
    rw [← hbd, Pu.len_eq, Pu.len_eq] at this
    omega
  have hcut' : Calls Tryz.prog 69 #[.string s, .string ⟨#[10]⟩] w fun e w' => e = .returned (.tuple #[.string body, .bool true]) ∧ w' = w := by rw [← hbody]; exact hcut
  rw [← hbd, ← Sp.pieces_data] at hz
  have hps := hide (Sp.piece_size 10 body)
  have hlen : (Sp.pieces 10 body).length ≤ 3001 := by
    have := Sp.spl_len_le 10 body.data.toList
    rw [← Sp.pieces_data, List.length_map, Pu.len_eq] at this
    omega
  have hat := strsAt_alloc w (Sp.pieces 10 body)
  have hcall := split_any body 10 w hg (by omega)
  have hb0 : Below w.heap.size w (w.alloc (.cells ((Sp.pieces 10 body).map Value.string).toArray 9)) := (Below.refl _ _).alloc (Nat.le_refl _) _
  have hne' : 1 ≤ (Sp.pieces 10 body).length := by have := Sp.pieces_len 10 body; omega
  clear hbody hbd hcut
  generalize Sp.pieces 10 body = L at *
  cases L with
  | nil => simp at hne'
  | cons f t =>
  have hcf : _ := hat.2 0 (by simp)
  have hsf : f.size ≤ 3000 := Nat.le_trans (unhide hps f (by simp)) hbs
  have hst : ∀ x ∈ t, x.size ≤ 3000 := fun x hx => Nat.le_trans (unhide hps x (by simp [hx])) hbs
  have HST := hide hst
  clear hst hps
  generalize w.alloc (.cells ((f :: t).map Value.string).toArray 9) = W at *
  have hcf' : W.cell? ⟨w.heap.size, 0, none⟩ = some (.string f) := hcf
  have hgW := hg.below hb0
  have hlt : (t.length : Int) ≤ 3000 := by simp at hlen; omega
  rw [List.length_cons] at hcall
  have HC0 := hide hcut'
  have HC := hide hcall
  have HB := hide hb0
  have HA := hide hat
  clear hcall hb0 hat hcut' hcf hlen hne'
  have hcp := Tryz.strings_CutPrefix f ⟨#[111, 114, 105, 103, 105, 110, 32]⟩ W
  obtain ⟨org, horg⟩ : ∃ org : ByteArray, ⟨(Lib.trimPrefix f.data.toList originW).toArray⟩ = org := ⟨_, rfl⟩
  have hod : org.data.toList = Lib.trimPrefix f.data.toList originW := by rw [← horg]
  have hos : org.size ≤ maxLen := by
    have := trimPrefix_len f.data.toList originW
    rw [← hod, Pu.len_eq, Pu.len_eq] at this
    unfold maxLen
    omega
  obtain ⟨hp, hhp⟩ : ∃ hp, hp = Lib.hasPrefix f.data.toList originW := ⟨_, rfl⟩
  have hcp' : Calls Tryz.prog 71 #[.string f, .string ⟨#[111, 114, 105, 103, 105, 110, 32]⟩] W fun e w' => e = .returned (.tuple #[.string org, .bool hp]) ∧ w' = W := by rw [← horg, hhp]; exact hcp
  have HP := hide hcp'
  clear hcp hcp'
  have hrl : Hid (readZ s.data.toList = if hp && Sp.plain org.data.toList then (readAll (t.map (·.data.toList))).map (fun rs => (org.data.toList, rs)) else none) := by
    rw [Hid, unhide hz, List.map_cons, readLines, hhp, hod]
  clear hz horg hod hhp
  cases hp
  · go_enter Tryz.func37, Tryz.ntmps37
    go_wp2_with fail
    refine (unhide HC0).mono ?_
    rintro e w ⟨rfl, rfl⟩
    go_wp2_with fail
    refine (unhide HC).mono ?_
    rintro e W ⟨rfl, rfl⟩
    go_wp2_with fail
    refine (unhide HP).mono ?_
    rintro e W ⟨rfl, rfl⟩
    go_wp2_with fail
    go_ret3
    rw [unhide hrl]
    exact ⟨zoneR_none rfl, unhide HB⟩
  cases hpl : Sp.plain org.data.toList
  · go_enter Tryz.func37, Tryz.ntmps37
    go_wp2_with fail
    refine (unhide HC0).mono ?_
    rintro e w ⟨rfl, rfl⟩
    go_wp2_with fail
    refine (unhide HC).mono ?_
    rintro e W ⟨rfl, rfl⟩
    go_wp2_with fail
    refine (unhide HP).mono ?_
    rintro e W ⟨rfl, rfl⟩
    go_wp2_with fail
    refine (plain_any org _ hgW hos).mono ?_
    rintro e w1 ⟨rfl, hb1⟩
    go_wp2_with fail
    go_ret3
    rw [unhide hrl, hpl]
    exact ⟨zoneR_none rfl, (unhide HB).trans (hb1.mono (unhide HB).size)⟩
  have hrl' : Hid (readZ s.data.toList = (readAll (t.map (·.data.toList))).map (fun rs => (org.data.toList, rs))) := by
    rw [Hid, unhide hrl, hpl]; rfl
  clear hrl
  have hrl := hrl'
  clear hrl'
  cases t with
  | nil =>
    go_enter Tryz.func37, Tryz.ntmps37
    go_wp2_with fail
    refine (unhide HC0).mono ?_
    rintro e w ⟨rfl, rfl⟩
    go_wp2_with fail
    refine (unhide HC).mono ?_
    rintro e W ⟨rfl, rfl⟩
    go_wp2_with fail
    refine (unhide HP).mono ?_
    rintro e W ⟨rfl, rfl⟩
    go_wp2_with fail
    refine (plain_any org _ hgW hos).mono ?_
    rintro e w1 ⟨rfl, hb1⟩
    go_wp2_with fail
    go_loop [10, 41] (fun v i => v = .slice none 0 0 ∧ i = .int .i64 0) (fun _ _ => 0)
    case atStart => exact ⟨rfl, rfl⟩
    case round =>
      obtain ⟨rfl, rfl⟩ := hrel
      go_wp2
      go_ret3
      rw [unhide hrl]
      exact ⟨⟨_, by rw [B_data]; rfl, World.ownsRow_nil _ _ _ _, by simp⟩, (unhide HB).trans (hb1.mono (unhide HB).size)⟩
  | cons t0 ts =>
    generalize hT : t0 :: ts = t at *
    have htn : ¬ t = [] := by rw [← hT]; simp
    have htl : 0 < t.length := by rw [← hT]; simp
    clear hT
    go_enter Tryz.func37, Tryz.ntmps37
    go_wp2_with fail
    refine (unhide HC0).mono ?_
    rintro e w ⟨rfl, rfl⟩
    go_wp2_with fail
    refine (unhide HC).mono ?_
    rintro e W ⟨rfl, rfl⟩
    go_wp2_with fail
    refine (unhide HP).mono ?_
    rintro e W ⟨rfl, rfl⟩
    go_wp2_with fail
    refine (plain_any org _ hgW hos).mono ?_
    rintro e w1 ⟨rfl, hb1⟩
    go_wp2_with fail
    have hgw1 := hgW.below hb1
    have hbA : Below w.heap.size w w1 := (unhide HB).trans (hb1.mono (unhide HB).size)
    have hs1 := hbA.size
    have HBA := hide hbA
    clear hbA
    have hat1 := (unhide HA).below hb1
    have HA1 := hide hat1
    clear hat1 HC HC0 HP
    go_loopw [10, 41] (fun v i wr => ∃ (k : Nat) (rs : List Rec), k ≤ t.length ∧ i = .int .i64 k ∧ rs.length = k ∧ RecsOwn wr w1.heap.size v rs ∧ readAll (t.map (·.data.toList)) = (readAll ((t.map (·.data.toList)).drop k)).map (rs ++ ·) ∧ Below w1.heap.size w1 wr) (fun _ i _ => t.length - (intOf i).toNat)
    case atStart => exact ⟨0, [], Nat.zero_le _, rfl, rfl, ⟨World.ownsRow_nil _ _ _ _, by simp⟩, by simp, Below.refl _ _⟩
    case round =>
      obtain ⟨k, rs, hk, rfl, hrs, hown, hread, hbr⟩ := hrel
      have HR := hide hread
      have HO := hide hown
      clear hread hown
      have hgr := hgw1.below hbr
      have hsz1 := hbr.size
      by_cases hlk : k < t.length
      · have hck : wr.cell? ⟨w.heap.size, 1 + k, none⟩ = some (.string t[k]) := by
          have := ((unhide HA1).below hbr).2 (k + 1) (by simpa using hlk)
          rw [show 0 + (k + 1) = 1 + k from by omega] at this
          simpa using this
        have hdr : Hid ((t.map (·.data.toList)).drop k = t[k].data.toList :: (t.map (·.data.toList)).drop (k + 1)) := by
          rw [Hid, List.drop_eq_getElem_cons (by simpa using hlk), List.getElem_map]
        have hxs := unhide HST t[k] (List.getElem_mem hlk)
        generalize t[k] = x at *
        cases hr : readRec x.data.toList with
        | none =>
          have hfin : Hid (readZ s.data.toList = none) := by
            rw [Hid, unhide hrl, unhide HR, unhide hdr, readAll, hr]; rfl
          go_wp2_with fail
          refine (readRecord_no x _ hgr hxs hr).mono ?_
          rintro e w2 ⟨rfl, hb2⟩
          go_wp2_with fail
          go_ret3
          rw [unhide hfin]
          exact ⟨zoneR_none rfl, ((unhide HBA).trans ((hbr.mono hs1).trans (hb2.mono (by omega)))).alloc (by have := hb2.size; omega) _⟩
        | some r =>
          obtain ⟨i0, hi, hz0, hz1, hz2⟩ := info_parts infoR
          have hfin : Hid (readAll (t.map (·.data.toList)) = (readAll ((t.map (·.data.toList)).drop (k + 1))).map ((rs ++ [r]) ++ ·)) := by
            rw [Hid, unhide HR, unhide hdr, readAll, hr]
            simp [Option.map_map, Function.comp_def]
          go_wp2_with fail
          refine (readRecord_yes x r _ hgr hxs hr).mono ?_
          rintro e w2 ⟨rfl, hb2⟩
          have hown2 := (unhide HO).below hb2
          have HO2 := hide hown2
          clear hown2
          have hsz2 := hb2.size
          go_wp2_with (at_builtin; refine wpList_append_own _ rfl (.tmp 52) (.tmp 54) 41 rfl w1.heap.size 47 i0 (.agg #[.string ⟨#[]⟩, .int .i64 0, .int .i64 0, .string ⟨#[]⟩]) 4 48 underR hi hz0 hz1 hz2 rfl (by decide) _ rs.length (encs rs) rfl (((unhide HO2).1.alloc _).alloc _) ⟨w2.heap.size + 1, 0, none⟩ 1 1 r.enc rfl rfl ?c1 ?c2 ?c3 ?c4 ?c5 ?_)
          case c1 =>
            intro j u hj
            match j, hj with
            | 0, hj => simp [Rec.enc] at hj; subst hj; simp [Addr.add]
            | 1, hj => simp [Rec.enc] at hj; subst hj; simp [Addr.add]
            | 2, hj => simp [Rec.enc] at hj; subst hj; simp [Addr.add]
            | 3, hj => simp [Rec.enc] at hj; subst hj; simp [Addr.add]
            | n + 4, hj => simp [Rec.enc] at hj
          case c2 => intro u hu; simp [Rec.enc] at hu; rcases hu with rfl | rfl | rfl | rfl <;> rfl
          case c3 => unfold maxLen; omega
          case c4 => omega
          case c5 => simp; omega
          intro v' w3 hown' hgrow hnil
          have hO3 : RecsOwn w3 w1.heap.size v' (rs ++ [r]) := by
            refine ⟨?_, ?_⟩
            · rw [encs_snoc, List.length_append, hrs]; exact hown'
            · exact ⟨fun h => absurd h hnil, fun h => by simp at h⟩
          have hB3 : Below w1.heap.size w1 w3 := by
            refine ((((hbr.trans (hb2.mono (by omega))).alloc (by omega) _).alloc (by simp; omega) _)).grown hgrow (by simp; omega) ?_
            intro k' hk'
            exact ((unhide HO2).1.lt k' hk').1
          have HO3 := hide hO3
          have HB3 := hide hB3
          clear hO3 hB3 hown' hgrow hnil
          go_wp2
          go_roundw
          case rel => exact ⟨k + 1, rs ++ [r], by omega, by go_num, by simp [hrs], unhide HO3, unhide hfin, unhide HB3⟩
          case measure => simp [intOf]; omega
      · have hfin : Hid (readZ s.data.toList = some (org.data.toList, rs)) := by
          rw [Hid, unhide hrl, unhide HR, List.drop_of_length_le (by simp; omega)]
          simp [readAll]
        go_wp2
        go_ret3
        rw [unhide hfin]
        exact ⟨⟨_, by rw [B_data]; rfl, (unhide HO).base (unhide HBA).size⟩, (unhide HBA).trans (hbr.mono hs1)⟩

theorem readZone_any (s : ByteArray) (w : World) (hg : G w) (hs : s.size ≤ 3000) :
    Calls Tryz.prog 37 #[.string s] w fun e w' => zoneR (readZ s.data.toList) w.heap.size e w' ∧ Below w.heap.size w w' := by
  cases h : Lib.hasSuffix s.data.toList [10]
  · have e : readZ s.data.toList = none := by unfold readZ; rw [h]; rfl
    rw [e]
    exact readZone_noend s w hs h
  · exact readZone_end s w hg hs h
end Re
end Go.Proofs.YtjkllohiodfikaaGreatDoor
