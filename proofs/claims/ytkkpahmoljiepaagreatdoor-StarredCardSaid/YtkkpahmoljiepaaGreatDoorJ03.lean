/- Contract: zone.readZone. -/
import Derived.Test.YtkkpahmoljiepaaGreatDoorJ02
import Derived.Shelf.SlicesQ.Contains
import Derived.Shelf.SlicesQ.IndexFunc
import Derived.Shelf.SlicesE.Clone
import Derived.Shelf.SlSortCmp.InsertionK
import Derived.Ground.SlgqProg
import Derived.Ground.SlgfProg
import Derived.Ground.SlsfProg
import Derived.Ground.SlgnProg
import Derived.Test.YtkkpahmoljiepaaGreatDoorProg
import Derived.Laws.StructEq
import Derived.Deep.RegionWith
import Derived.Deep.QuietTactic
import Derived.BigQuiet
set_option linter.unusedSimpArgs false
set_option linter.unusedVariables false
namespace Go.Proofs.YtkkpahmoljiepaaGreatDoor
open Go.RowKit
open Pu (Str hide unhide)

def readAll : List Str → Option (List Rec)
  | [] => some []
  | l :: t => (readRec l).bind fun r => (readAll t).map (r :: ·)

/-- "origin " -/
def originW : Str := [111, 114, 105, 103, 105, 110, 32]

def readLines : List Str → Option (Str × List Rec)
  | [] => none
  | f :: t => if Lib.hasPrefix f originW && Sp.plain (Lib.trimPrefix f originW) then (readAll t).map (fun rs => (Lib.trimPrefix f originW, rs)) else none

def readZ (l : Str) : Option (Str × List Rec) :=
  if Lib.hasSuffix l [10] then readLines (Sp.spl 10 (Lib.trimSuffix l [10])) else none

def encs (rs : List Rec) : List Value := rs.flatMap Rec.enc
theorem encs_snoc (rs : List Rec) (r : Rec) : encs (rs ++ [r]) = encs rs ++ r.enc := by simp [encs]
theorem encs_len (rs : List Rec) : (encs rs).length = rs.length * 4 := by
  induction rs with
  | nil => rfl
  | cons r t ih => simp only [encs, List.flatMap_cons, List.length_append] at *; rw [ih]; simp [Rec.enc]; omega

/-- a slice of records in memory of the call's own. -/
def RecsOwn (w : World) (base : Nat) (v : Value) (rs : List Rec) : Prop := w.ownsRow base 47 4 v rs.length (encs rs) ∧ (v = .slice none 0 0 ↔ rs = [])

theorem own_below {w w' : World} {B e size n : Nat} {v : Value} {xs : List Value} (h : w.ownsRow B e size v n xs) (hb : Below w.heap.size w w') : w'.ownsRow B e size v n xs :=
  h.kept (row := none) ⟨hb.os, hb.tape, hb.output, hb.size, fun k hk _ => hb.block k hk⟩ (Classical.em _)
theorem own_base {w : World} {B B' e size n : Nat} {v : Value} {xs : List Value} (h : w.ownsRow B e size v n xs) (hb : B' ≤ B) : w.ownsRow B' e size v n xs := by
  obtain ⟨hl, h | ⟨g, cap, cur, hv, hg, h1, h2, h3, h4, h5⟩⟩ := h
  · exact ⟨hl, .inl h⟩
  · exact ⟨hl, .inr ⟨g, cap, cur, hv, Nat.le_trans hb hg, h1, h2, h3, h4, h5⟩⟩

theorem RecsOwn.below {w w' : World} {B : Nat} {v : Value} {rs : List Rec} (h : RecsOwn w B v rs) (hb : Below w.heap.size w w') : RecsOwn w' B v rs := ⟨own_below h.1 hb, h.2⟩
theorem RecsOwn.base {w : World} {B B' : Nat} {v : Value} {rs : List Rec} (h : RecsOwn w B v rs) (hb : B' ≤ B) : RecsOwn w B' v rs := ⟨own_base h.1 hb, h.2⟩

namespace Re
open Ka Kb Kd Ke Kf Rc Rd

theorem readRecord_no (s : ByteArray) (w : World) (hg : G w) (hs : s.size ≤ 3000) (h : readRec s.data.toList = none) :
    Calls Tryz.prog 99 #[.string s] w fun e w' => e = .returned (.tuple #[.agg #[.string ⟨#[]⟩, .int .i64 0, .int .i64 0, .string ⟨#[]⟩], .bool false]) ∧ Below w.heap.size w w' := by
  have := readRecord_any s w hg hs
  rw [h] at this
  exact this
theorem readRecord_yes (s : ByteArray) (r : Rec) (w : World) (hg : G w) (hs : s.size ≤ 3000) (h : readRec s.data.toList = some r) :
    Calls Tryz.prog 99 #[.string s] w fun e w' => e = .returned (.tuple #[.agg #[.string (B r.owner), .int .i64 r.ttl, .int .i64 r.type, .string (B r.data)], .bool true]) ∧ Below w.heap.size w w' := by
  have := readRecord_any s w hg hs
  rw [h] at this
  exact this

theorem infoR : (Tryz.prog.info? 47).map (fun i => (i.zero, i.size, i.bytes)) = some (some (.agg #[.string ⟨#[]⟩, .int .i64 0, .int .i64 0, .string ⟨#[]⟩]), 4, 48) := by kernel_rfl
theorem underR : Tryz.prog.underlying 41 = some (.slice 47) := by kernel_rfl

def noneV : Value := .tuple #[.string ⟨#[]⟩, .slice none 0 0, .bool false]
/-- what readZone hands back: nothing, or an origin and records in memory of its own. -/
def zoneR (o : Option (Str × List Rec)) (base : Nat) (e : Ending) (w' : World) : Prop :=
  match o with
  | none => e = .returned noneV
  | some (o, rs) => ∃ v, e = .returned (.tuple #[.string (B o), v, .bool true]) ∧ RecsOwn w' base v rs
theorem zoneR_none {base : Nat} {e : Ending} {w' : World} (h : e = .returned noneV) : zoneR none base e w' := h

set_option maxHeartbeats 1600000 in
theorem readZone_noend (s : ByteArray) (w : World) (hs : s.size ≤ 3000) (h : Lib.hasSuffix s.data.toList [10] = false) :
    Calls Tryz.prog 56 #[.string s] w fun e w' => e = .returned noneV ∧ Below w.heap.size w w' := by
  go_enter Tryz.func56, Tryz.ntmps56
  go_wp2_with (go_at_call 96; refine (Tryz.strings_CutSuffix s _ _ (by omega)).mono ?_; rintro e w' ⟨rfl, rfl⟩)
  go_ret3
  exact ⟨rfl, Below.refl _ _⟩

theorem trimSuffix_len (l p : Str) : (Lib.trimSuffix l p).length ≤ l.length := by
  unfold Lib.trimSuffix; split
  · simp
  · exact Nat.le_refl _
theorem trimPrefix_len (l p : Str) : (Lib.trimPrefix l p).length ≤ l.length := by
  unfold Lib.trimPrefix; split
  · simp
  · exact Nat.le_refl _

set_option maxHeartbeats 1600000 in
theorem readZone_end (s : ByteArray) (w : World) (hg : G w) (hs : s.size ≤ 3000) (h : Lib.hasSuffix s.data.toList [10] = true) :
    Calls Tryz.prog 56 #[.string s] w fun e w' =>
      zoneR (readZ s.data.toList) w.heap.size e w' ∧ Below w.heap.size w w' := by
  have hz : Hid (readZ s.data.toList = readLines (Sp.spl 10 (Lib.trimSuffix s.data.toList [10]))) := by unfold readZ; rw [Hid, if_pos h]
  have hcut := Tryz.strings_CutSuffix s ⟨#[10]⟩ w (by omega)
  rw [h] at hcut
  obtain ⟨body, hbody⟩ : ∃ body : ByteArray, ⟨(Lib.trimSuffix s.data.toList [10]).toArray⟩ = body := ⟨_, rfl⟩
  have hbd : body.data.toList = Lib.trimSuffix s.data.toList [10] := by rw [← hbody]
  have hbs : body.size ≤ 3000 := by
    have := trimSuffix_len s.data.toList [10]
    rw [← hbd, Pu.len_eq, Pu.len_eq] at this
    omega
  have hcut' : Calls Tryz.prog 96 #[.string s, .string ⟨#[10]⟩] w fun e w' => e = .returned (.tuple #[.string body, .bool true]) ∧ w' = w := by rw [← hbody]; exact hcut
  rw [← hbd, ← Sp.pieces_data] at hz
  have hps := hide (Sp.piece_size 10 body)
  have hlen : (Sp.pieces 10 body).length ≤ 3001 := by
    have := Sp.spl_len_le 10 body.data.toList
    rw [← Sp.pieces_data, List.length_map, Pu.len_eq] at this
    omega
  have hat := strsAt_alloc w (Sp.pieces 10 body)
  have hcall := split_any body 10 w hg (by omega)
  have hb0 : Below w.heap.size w (w.alloc (.cells ((Sp.pieces 10 body).map Value.string).toArray 9)) := (Below.refl _ _).alloc (Nat.le_refl _) _
  have hne' : 1 ≤ (Sp.pieces 10 body).length := by have := Sp.pieces_len 10 body; omega
  clear hbody hbd hcut
  generalize Sp.pieces 10 body = L at *
  cases L with
  | nil => simp at hne'
  | cons f t =>
  have hcf : _ := hat.2 0 (by simp)
  have hsf : f.size ≤ 3000 := Nat.le_trans (unhide hps f (by simp)) hbs
  have hst : ∀ x ∈ t, x.size ≤ 3000 := fun x hx => Nat.le_trans (unhide hps x (by simp [hx])) hbs
  have HST := hide hst
  clear hst hps
  generalize w.alloc (.cells ((f :: t).map Value.string).toArray 9) = W at *
  have hcf' : W.cell? ⟨w.heap.size, 0, none⟩ = some (.string f) := hcf
  have hgW := hg.below hb0
  have hlt : (t.length : Int) ≤ 3000 := by simp at hlen; omega
  rw [List.length_cons] at hcall
  have HC0 := hide hcut'
  have HC := hide hcall
  have HB := hide hb0
  have HA := hide hat
  clear hcall hb0 hat hcut' hcf hlen hne'
  have hcp := Tryz.strings_CutPrefix f ⟨#[111, 114, 105, 103, 105, 110, 32]⟩ W
  obtain ⟨org, horg⟩ : ∃ org : ByteArray, ⟨(Lib.trimPrefix f.data.toList originW).toArray⟩ = org := ⟨_, rfl⟩
  have hod : org.data.toList = Lib.trimPrefix f.data.toList originW := by rw [← horg]
  have hos : org.size ≤ maxLen := by
    have := trimPrefix_len f.data.toList originW
    rw [← hod, Pu.len_eq, Pu.len_eq] at this
    unfold maxLen
    omega
  obtain ⟨hp, hhp⟩ : ∃ hp, hp = Lib.hasPrefix f.data.toList originW := ⟨_, rfl⟩
  have hcp' : Calls Tryz.prog 98 #[.string f, .string ⟨#[111, 114, 105, 103, 105, 110, 32]⟩] W fun e w' => e = .returned (.tuple #[.string org, .bool hp]) ∧ w' = W := by rw [← horg, hhp]; exact hcp
  have HP := hide hcp'
  clear hcp hcp'
  have hrl : Hid (readZ s.data.toList = if hp && Sp.plain org.data.toList then (readAll (t.map (·.data.toList))).map (fun rs => (org.data.toList, rs)) else none) := by
    rw [Hid, unhide hz, List.map_cons, readLines, hhp, hod]
  clear hz horg hod hhp
  cases hp
  · go_enter Tryz.func56, Tryz.ntmps56
    go_wp2_with fail
    refine (unhide HC0).mono ?_
    rintro e w ⟨rfl, rfl⟩
    go_wp2_with fail
    refine (unhide HC).mono ?_
    rintro e W ⟨rfl, rfl⟩
    go_wp2_with fail
    refine (unhide HP).mono ?_
    rintro e W ⟨rfl, rfl⟩
    go_wp2_with fail
    go_ret3
    rw [unhide hrl]
    exact ⟨zoneR_none rfl, unhide HB⟩
  cases hpl : Sp.plain org.data.toList
  · go_enter Tryz.func56, Tryz.ntmps56
    go_wp2_with fail
    refine (unhide HC0).mono ?_
    rintro e w ⟨rfl, rfl⟩
    go_wp2_with fail
    refine (unhide HC).mono ?_
    rintro e W ⟨rfl, rfl⟩
    go_wp2_with fail
    refine (unhide HP).mono ?_
    rintro e W ⟨rfl, rfl⟩
    go_wp2_with fail
    refine (plain_any org _ hgW hos).mono ?_
    rintro e w1 ⟨rfl, hb1⟩
    go_wp2_with fail
    go_ret3
    rw [unhide hrl, hpl]
    exact ⟨zoneR_none rfl, (unhide HB).trans (hb1.mono (unhide HB).size)⟩
  have hrl' : Hid (readZ s.data.toList = (readAll (t.map (·.data.toList))).map (fun rs => (org.data.toList, rs))) := by
    rw [Hid, unhide hrl, hpl]; rfl
  clear hrl
  have hrl := hrl'
  clear hrl'
  cases t with
  | nil =>
    go_enter Tryz.func56, Tryz.ntmps56
    go_wp2_with fail
    refine (unhide HC0).mono ?_
    rintro e w ⟨rfl, rfl⟩
    go_wp2_with fail
    refine (unhide HC).mono ?_
    rintro e W ⟨rfl, rfl⟩
    go_wp2_with fail
    refine (unhide HP).mono ?_
    rintro e W ⟨rfl, rfl⟩
    go_wp2_with fail
    refine (plain_any org _ hgW hos).mono ?_
    rintro e w1 ⟨rfl, hb1⟩
    go_wp2_with fail
    go_loop [10, 41] (fun v i => v = .slice none 0 0 ∧ i = .int .i64 0) (fun _ _ => 0)
    case atStart => exact ⟨rfl, rfl⟩
    case round =>
      obtain ⟨rfl, rfl⟩ := hrel
      go_wp2
      go_ret3
      rw [unhide hrl]
      exact ⟨⟨_, by rw [B_data]; rfl, World.ownsRow_nil _ _ _ _, by simp⟩, (unhide HB).trans (hb1.mono (unhide HB).size)⟩
  | cons t0 ts =>
    generalize hT : t0 :: ts = t at *
    have htn : ¬ t = [] := by rw [← hT]; simp
    have htl : 0 < t.length := by rw [← hT]; simp
    clear hT
    go_enter Tryz.func56, Tryz.ntmps56
    go_wp2_with fail
    refine (unhide HC0).mono ?_
    rintro e w ⟨rfl, rfl⟩
    go_wp2_with fail
    refine (unhide HC).mono ?_
    rintro e W ⟨rfl, rfl⟩
    go_wp2_with fail
    refine (unhide HP).mono ?_
    rintro e W ⟨rfl, rfl⟩
    go_wp2_with fail
    refine (plain_any org _ hgW hos).mono ?_
    rintro e w1 ⟨rfl, hb1⟩
    go_wp2_with fail
    have hgw1 := hgW.below hb1
    have hbA : Below w.heap.size w w1 := (unhide HB).trans (hb1.mono (unhide HB).size)
    have hs1 := hbA.size
    have HBA := hide hbA
    clear hbA
    have hat1 := (unhide HA).below hb1
    have HA1 := hide hat1
    clear hat1 HC HC0 HP
    go_loopw [10, 41] (fun v i wr => ∃ (k : Nat) (rs : List Rec), k ≤ t.length ∧ i = .int .i64 k ∧ rs.length = k ∧ RecsOwn wr w1.heap.size v rs ∧ readAll (t.map (·.data.toList)) = (readAll ((t.map (·.data.toList)).drop k)).map (rs ++ ·) ∧ Below w1.heap.size w1 wr) (fun _ i _ => t.length - (intOf i).toNat)
    case atStart => exact ⟨0, [], Nat.zero_le _, rfl, rfl, ⟨World.ownsRow_nil _ _ _ _, by simp⟩, by simp, Below.refl _ _⟩
    case round =>
      obtain ⟨k, rs, hk, rfl, hrs, hown, hread, hbr⟩ := hrel
      have HR := hide hread
      have HO := hide hown
      clear hread hown
      have hgr := hgw1.below hbr
      have hsz1 := hbr.size
      by_cases hlk : k < t.length
      · have hck : wr.cell? ⟨w.heap.size, 1 + k, none⟩ = some (.string t[k]) := by
          have := ((unhide HA1).below hbr).2 (k + 1) (by simpa using hlk)
          rw [show 0 + (k + 1) = 1 + k from by omega] at this
          simpa using this
        have hdr : Hid ((t.map (·.data.toList)).drop k = t[k].data.toList :: (t.map (·.data.toList)).drop (k + 1)) := by
          rw [Hid, List.drop_eq_getElem_cons (by simpa using hlk), List.getElem_map]
        have hxs := unhide HST t[k] (List.getElem_mem hlk)
        generalize t[k] = x at *
        cases hr : readRec x.data.toList with
        | none =>
          have hfin : Hid (readZ s.data.toList = none) := by
            rw [Hid, unhide hrl, unhide HR, unhide hdr, readAll, hr]; rfl
          go_wp2_with fail
          refine (readRecord_no x _ hgr hxs hr).mono ?_
          rintro e w2 ⟨rfl, hb2⟩
          go_wp2_with fail
          go_ret3
          rw [unhide hfin]
          exact ⟨zoneR_none rfl, ((unhide HBA).trans ((hbr.mono hs1).trans (hb2.mono (by omega)))).alloc (by have := hb2.size; omega) _⟩
        | some r =>
          obtain ⟨i0, hi, hz0, hz1, hz2⟩ := info_parts infoR
          have hfin : Hid (readAll (t.map (·.data.toList)) = (readAll ((t.map (·.data.toList)).drop (k + 1))).map ((rs ++ [r]) ++ ·)) := by
            rw [Hid, unhide HR, unhide hdr, readAll, hr]
            simp [Option.map_map, Function.comp_def]
          go_wp2_with fail
          refine (readRecord_yes x r _ hgr hxs hr).mono ?_
          rintro e w2 ⟨rfl, hb2⟩
          have hown2 := (unhide HO).below hb2
          have HO2 := hide hown2
          clear hown2
          have hsz2 := hb2.size
          go_wp2_with (at_builtin; refine wpList_append_own _ rfl (.tmp 52) (.tmp 54) 41 rfl w1.heap.size 47 i0 (.agg #[.string ⟨#[]⟩, .int .i64 0, .int .i64 0, .string ⟨#[]⟩]) 4 48 underR hi hz0 hz1 hz2 rfl (by decide) _ rs.length (encs rs) rfl (((unhide HO2).1.alloc _).alloc _) ⟨w2.heap.size + 1, 0, none⟩ 1 1 r.enc rfl rfl ?c1 ?c2 ?c3 ?c4 ?c5 ?_)
          case c1 =>
            intro j u hj
            match j, hj with
            | 0, hj => simp [Rec.enc] at hj; subst hj; simp [Addr.add]
            | 1, hj => simp [Rec.enc] at hj; subst hj; simp [Addr.add]
            | 2, hj => simp [Rec.enc] at hj; subst hj; simp [Addr.add]
            | 3, hj => simp [Rec.enc] at hj; subst hj; simp [Addr.add]
            | n + 4, hj => simp [Rec.enc] at hj
          case c2 => intro u hu; simp [Rec.enc] at hu; rcases hu with rfl | rfl | rfl | rfl <;> rfl
          case c3 => unfold maxLen; omega
          case c4 => omega
          case c5 => simp; omega
          intro v' w3 hown' hgrow hnil
          have hO3 : RecsOwn w3 w1.heap.size v' (rs ++ [r]) := by
            refine ⟨?_, ?_⟩
            · rw [encs_snoc, List.length_append, hrs]; exact hown'
            · exact ⟨fun h => absurd h hnil, fun h => by simp at h⟩
          have hB3 : Below w1.heap.size w1 w3 := by
            refine ((((hbr.trans (hb2.mono (by omega))).alloc (by omega) _).alloc (by simp; omega) _)).grown hgrow (by simp; omega) ?_
            intro k' hk'
            exact ((unhide HO2).1.lt k' hk').1
          have HO3 := hide hO3
          have HB3 := hide hB3
          clear hO3 hB3 hown' hgrow hnil
          go_wp2
          go_roundw
          case rel => exact ⟨k + 1, rs ++ [r], by omega, by go_num, by simp [hrs], unhide HO3, unhide hfin, unhide HB3⟩
          case measure => simp [intOf]; omega
      · have hfin : Hid (readZ s.data.toList = some (org.data.toList, rs)) := by
          rw [Hid, unhide hrl, unhide HR, List.drop_of_length_le (by simp; omega)]
          simp [readAll]
        go_wp2
        go_ret3
        rw [unhide hfin]
        exact ⟨⟨_, by rw [B_data]; rfl, (unhide HO).base (unhide HBA).size⟩, (unhide HBA).trans (hbr.mono hs1)⟩

theorem readZone_any (s : ByteArray) (w : World) (hg : G w) (hs : s.size ≤ 3000) :
    Calls Tryz.prog 56 #[.string s] w fun e w' => zoneR (readZ s.data.toList) w.heap.size e w' ∧ Below w.heap.size w w' := by
  cases h : Lib.hasSuffix s.data.toList [10]
  · have e : readZ s.data.toList = none := by unfold readZ; rw [h]; rfl
    rw [e]
    exact readZone_noend s w hs h
  · exact readZone_end s w hg hs h
end Re
end Go.Proofs.YtkkpahmoljiepaaGreatDoor

/- The contracts of library functions that the proof uses, laid at this program: tables of numbers and closed facts. -/
namespace Go.Proofs
open Go.Shelf
def Tryz.lContainsFunc_ren : Go.Shelf.Ren := ⟨fun | 8 => 171 | 6 => 230 | n => n, fun | 22 => 41 | 23 => 47 | 25 => 258 | 4 => 4 | 3 => 3 | 0 => 0 | n => n, fun | n => n⟩
theorem Tryz.lContainsFunc : Go.Proofs.SlLaysH0.n8 Tryz.prog Tryz.lContainsFunc_ren := {
  mixed := by kernel_rfl
  f6 := ⟨Tryz.f230.name, by decide, Tryz.func230.trans (congrArg some (by kernel_rfl))⟩
  f8 := ⟨Tryz.f171.name, by decide, Tryz.func171.trans (congrArg some (by kernel_rfl))⟩
  t0 := Tryz.underlying0
  a0 := Tryz.isAgg0
  z0 := Tryz.sizeOf0
  v0 := Tryz.zeroValue0
  t3 := Tryz.underlying3
  a3 := Tryz.isAgg3
  z3 := Tryz.sizeOf3
  v3 := Tryz.zeroValue3
  t4 := Tryz.underlying4
  a4 := Tryz.isAgg4
  z4 := Tryz.sizeOf4
  v4 := Tryz.zeroValue4
  t22 := Tryz.underlying41
  a22 := Tryz.isAgg41
  z22 := Tryz.sizeOf41
  v22 := Tryz.zeroValue41
  t25 := Tryz.underlying258
  a25 := Tryz.isAgg258
  z25 := Tryz.sizeOf258
  v25 := Tryz.zeroValue258 }
def Tryz.lContains_ren : Go.Shelf.Ren := ⟨fun | 7 => 178 | 6 => 234 | n => n, fun | 22 => 41 | 24 => 47 | 4 => 4 | 0 => 0 | 3 => 3 | n => n, fun | n => n⟩
theorem Tryz.lContains : Go.Proofs.SlLaysQ.n7 Tryz.prog Tryz.lContains_ren := {
  mixed := by kernel_rfl
  f6 := ⟨Tryz.f234.name, by decide, Tryz.func234.trans (congrArg some (by kernel_rfl))⟩
  f7 := ⟨Tryz.f178.name, by decide, Tryz.func178.trans (congrArg some (by kernel_rfl))⟩
  t0 := Tryz.underlying0
  a0 := Tryz.isAgg0
  z0 := Tryz.sizeOf0
  v0 := Tryz.zeroValue0
  t3 := Tryz.underlying3
  a3 := Tryz.isAgg3
  z3 := Tryz.sizeOf3
  v3 := Tryz.zeroValue3
  t4 := Tryz.underlying4
  a4 := Tryz.isAgg4
  z4 := Tryz.sizeOf4
  v4 := Tryz.zeroValue4
  t22 := Tryz.underlying41
  a22 := Tryz.isAgg41
  z22 := Tryz.sizeOf41
  v22 := Tryz.zeroValue41 }
def Tryz.lClone_ren : Go.Shelf.Ren := ⟨fun | 41 => 243 | n => n, fun | 22 => 41 | 23 => 47 | 4 => 4 | n => n, fun | n => n⟩
theorem Tryz.lClone : Go.Proofs.SlLaysE0.n41 Tryz.prog Tryz.lClone_ren := {
  mixed := by kernel_rfl
  f41 := ⟨Tryz.f243.name, by decide, Tryz.func243.trans (congrArg some (by kernel_rfl))⟩
  t4 := Tryz.underlying4
  a4 := Tryz.isAgg4
  z4 := Tryz.sizeOf4
  v4 := Tryz.zeroValue4
  t22 := Tryz.underlying41
  a22 := Tryz.isAgg41
  z22 := Tryz.sizeOf41
  v22 := Tryz.zeroValue41 }
def Tryz.lInsertion_ren : Go.Shelf.Ren := ⟨fun | 20 => 231 | n => n, fun | 24 => 47 | 22 => 41 | 3 => 3 | 25 => 186 | 4 => 4 | 0 => 0 | n => n, fun | n => n⟩
theorem Tryz.lInsertion : Go.Proofs.SlLaysF0.n20 Tryz.prog Tryz.lInsertion_ren := {
  mixed := by kernel_rfl
  f20 := ⟨Tryz.f231.name, by decide, Tryz.func231.trans (congrArg some (by kernel_rfl))⟩
  t0 := Tryz.underlying0
  a0 := Tryz.isAgg0
  z0 := Tryz.sizeOf0
  v0 := Tryz.zeroValue0
  t3 := Tryz.underlying3
  a3 := Tryz.isAgg3
  z3 := Tryz.sizeOf3
  v3 := Tryz.zeroValue3
  t4 := Tryz.underlying4
  a4 := Tryz.isAgg4
  z4 := Tryz.sizeOf4
  v4 := Tryz.zeroValue4
  t22 := Tryz.underlying41
  a22 := Tryz.isAgg41
  z22 := Tryz.sizeOf41
  v22 := Tryz.zeroValue41
  t25 := Tryz.underlying186
  a25 := Tryz.isAgg186
  z25 := Tryz.sizeOf186
  v25 := Tryz.zeroValue186 }
end Go.Proofs

/- Records in memory; contracts: zone.has. -/
namespace Go.Proofs.YtkkpahmoljiepaaGreatDoor
open Go.RowKit
open Pu (Str hide unhide)

/-- records that lie side by side. -/
def RecsAt (w : World) (b off : Nat) (rs : List Rec) : Prop := b < w.heap.size ∧ ∀ j, j < rs.length → ∀ i u, (Rec.enc rs[j]!)[i]? = some u → w.cell? ⟨b, off + j * 4 + i, none⟩ = some u
theorem RecsAt.below {w w' : World} {b off : Nat} {rs : List Rec} (h : RecsAt w b off rs) (hb : Below w.heap.size w w') : RecsAt w' b off rs :=
  ⟨Nat.lt_of_lt_of_le h.1 hb.size, fun j hj i u hu => (hb.cell (p := ⟨b, off + j * 4 + i, none⟩) h.1).trans (h.2 j hj i u hu)⟩
/-- a slice value that holds records: nil, or a piece of memory. -/
def RV (w : World) (v : Value) (rs : List Rec) : Prop := (v = .slice none 0 0 ∧ rs = []) ∨ ∃ b off cap, v = .slice (some ⟨b, off, none⟩) rs.length cap ∧ rs.length ≤ cap ∧ RecsAt w b off rs
theorem RV.below {w w' : World} {v : Value} {rs : List Rec} (h : RV w v rs) (hb : Below w.heap.size w w') : RV w' v rs := by
  rcases h with h | ⟨b, off, cap, hv, hc, hr⟩
  · exact .inl h
  · exact .inr ⟨b, off, cap, hv, hc, hr.below hb⟩

theorem encs_get (rs : List Rec) (j i : Nat) (hj : j < rs.length) (hi : i < 4) : (encs rs)[j * 4 + i]? = (Rec.enc rs[j]!)[i]? := by
  induction rs generalizing j with
  | nil => simp at hj
  | cons r t ih =>
    have e : encs (r :: t) = r.enc ++ encs t := by simp [encs]
    have hl : r.enc.length = 4 := rfl
    rw [e]
    cases j with
    | zero => rw [List.getElem?_append_left (by omega)]; simp
    | succ j =>
      rw [List.getElem?_append_right (by omega), hl, show (j + 1) * 4 + i - 4 = j * 4 + i from by omega, ih j (by simpa using hj)]
      simp

theorem recsAt_of_encs {w : World} {b off : Nat} {rs : List Rec} (hb : b < w.heap.size) (h : ∀ j u, (encs rs)[j]? = some u → w.cell? ⟨b, off + j, none⟩ = some u) : RecsAt w b off rs := by
  refine ⟨hb, fun j hj i u hu => ?_⟩
  have hi : i < 4 := by
    rcases Nat.lt_or_ge i 4 with h | h
    · exact h
    · rw [List.getElem?_eq_none (by simpa [Rec.enc] using h)] at hu; cases hu
  have := h (j * 4 + i) u (by rw [encs_get rs j i hj hi]; exact hu)
  rwa [← Nat.add_assoc] at this

theorem RecsOwn.rv {w : World} {B : Nat} {v : Value} {rs : List Rec} (h : RecsOwn w B v rs) : RV w v rs := by
  obtain ⟨⟨hl, h | ⟨g, cap, cur, hv, hg, h1, h2, h3, h4, h5⟩⟩, hn⟩ := h
  · exact .inl ⟨h.1, hn.1 h.1⟩
  · refine .inr ⟨g, 0, cap, hv, h2, recsAt_of_encs (Array.getElem?_eq_some_iff.1 h1).1 fun j u hu => ?_⟩
    have hj : cur[j]? = some u := by
      rw [← h5] at hu
      have hjl : j < (cur.toList.take (rs.length * 4)).length := (List.getElem?_eq_some_iff.1 hu).1
      rw [List.getElem?_take] at hu
      split at hu
      · simpa using hu
      · cases hu
    simp [World.cell?, h1, hj]

theorem RecsAt.drop {w : World} {b off : Nat} {rs : List Rec} (h : RecsAt w b off rs) (k : Nat) : RecsAt w b (off + k * 4) (rs.drop k) := by
  refine ⟨h.1, fun j hj i u hu => ?_⟩
  rw [List.length_drop] at hj
  have e : (rs.drop k)[j]! = rs[k + j]! := by simp
  rw [e] at hu
  have := h.2 (k + j) (by omega) i u hu
  rwa [show off + (k + j) * 4 + i = off + k * 4 + j * 4 + i from by omega] at this
theorem RecsAt.take {w : World} {b off : Nat} {rs : List Rec} (h : RecsAt w b off rs) (k : Nat) : RecsAt w b off (rs.take k) := by
  refine ⟨h.1, fun j hj i u hu => ?_⟩
  rw [List.length_take] at hj
  have e : (rs.take k)[j]! = rs[j]! := by
    rw [List.getElem!_eq_getElem?_getD, List.getElem!_eq_getElem?_getD, List.getElem?_take, if_pos (by omega)]
  rw [e] at hu
  exact h.2 j (by omega) i u hu

/-- a record's four cells. -/
theorem RecsAt.four {w : World} {b off : Nat} {rs : List Rec} (h : RecsAt w b off rs) (j : Nat) (hj : j < rs.length) :
    w.cell? ⟨b, off + j * 4, none⟩ = some (.string (B rs[j].owner)) ∧ w.cell? ⟨b, off + j * 4 + 1, none⟩ = some (.int .i64 rs[j].ttl) ∧
    w.cell? ⟨b, off + j * 4 + 2, none⟩ = some (.int .i64 rs[j].type) ∧ w.cell? ⟨b, off + j * 4 + 3, none⟩ = some (.string (B rs[j].data)) := by
  have e : rs[j]! = rs[j] := getElem!_pos rs j hj
  have := h.2 j hj
  rw [e] at this
  exact ⟨this 0 _ rfl, this 1 _ rfl, this 2 _ rfl, this 3 _ rfl⟩

namespace Rf
open Ka Kb Kd Ke Kf Rc Rd Re

def hasP (k : Int) (r : Rec) : Bool := r.type == k

set_option maxHeartbeats 400000 in
theorem has1_any (r : Rec) (k : Int) (bk : Nat) (W : World) (hc : W.cell? ⟨bk, 0, none⟩ = some (.int .i64 k)) (hb : bk < W.heap.size) :
    Calls Tryz.prog 172 #[.agg #[.string (B r.owner), .int .i64 r.ttl, .int .i64 r.type, .string (B r.data)], .pointer (some ⟨bk, 0, none⟩)] W fun e w' => e = .returned (.bool (hasP k r)) ∧ Below W.heap.size W w' := by
  go_enter Tryz.func172, Tryz.ntmps172
  go_wp2
  go_ret
  exact ⟨rfl, (Below.refl _ _).alloc (Nat.le_refl _) _⟩

theorem hasPred (k : Int) (bk : Nat) (w : World) (hc : w.cell? ⟨bk, 0, none⟩ = some (.int .i64 k)) (hb : bk < w.heap.size) :
    PredBelow Tryz.prog 172 #[.pointer (some ⟨bk, 0, none⟩)] (fun x => .agg (Rec.enc x).toArray) (hasP k) w := by
  intro W r hB
  refine (has1_any r k bk W ((hB.cell (p := ⟨bk, 0, none⟩) hb).trans hc) (Nat.lt_of_lt_of_le hb hB.size)).mono ?_
  rintro e w' ⟨rfl, hb'⟩
  exact ⟨rfl, hB.trans (hb'.mono hB.size)⟩

theorem containsFunc_some (k : Int) (bk b off cap : Nat) (rs : List Rec) (w : World) (hc : w.cell? ⟨bk, 0, none⟩ = some (.int .i64 k)) (hb : bk < w.heap.size) (hr : RecsAt w b off rs) (hl : rs.length ≤ 3001) :
    Calls Tryz.prog 171 #[.slice (some ⟨b, off, none⟩) rs.length cap, .func (.func 172) #[] #[.pointer (some ⟨bk, 0, none⟩)]] w fun e w' =>
      e = .returned (.bool (rs.any (hasP k))) ∧ Below w.heap.size w w' := by
  have := AnyQ.slices_ContainsFunc Tryz.lContainsFunc 4 Tryz.isAgg47 Tryz.sizeOf47 Rec.enc (fun _ => rfl) (hasP k) 172 #[.pointer (some ⟨bk, 0, none⟩)] (enters_of Tryz.func172 (by kernel_rfl) rfl) b off rs.length cap rs w (hasPred k bk w hc hb) (Nat.le_refl _) (by omega) hr.1 hr.2
  rw [List.take_length] at this
  exact this

set_option maxHeartbeats 400000 in
theorem has_some (k : Int) (b off cap : Nat) (rs : List Rec) (w : World) (hr : RecsAt w b off rs) (hl : rs.length ≤ 3001) :
    Calls Tryz.prog 101 #[.slice (some ⟨b, off, none⟩) rs.length cap, .int .i64 k] w fun e w' => e = .returned (.bool (rs.any (hasP k))) ∧ Below w.heap.size w w' := by
  have hb0 : Below w.heap.size w (w.alloc (.cells #[.int .i64 k] 3)) := (Below.refl _ _).alloc (Nat.le_refl _) _
  have HC := hide (containsFunc_some k w.heap.size b off cap rs (w.alloc (.cells #[.int .i64 k] 3)) (by simp) (by simp) (hr.below hb0) hl)
  clear hr
  go_enter Tryz.func101, Tryz.ntmps101
  go_wp2_with fail
  refine (unhide HC).mono ?_
  rintro e w' ⟨rfl, hb'⟩
  go_wp2_with fail
  go_ret
  exact ⟨rfl, hb0.trans (hb'.mono (by simp))⟩

set_option maxHeartbeats 400000 in
theorem indexFunc_nil (f : Value) (w : World) :
    Calls Tryz.prog 230 #[.slice none 0 0, f] w fun e w' => e = .returned (.int .i64 (-1)) ∧ w' = w := by
  go_enter Tryz.func230, Tryz.ntmps230
  go_wp2_with fail
  go_loop [8] (fun i => i = .int .i64 0) (fun _ => 0)
  case atStart => rfl
  case round =>
    obtain rfl := hrel
    go_wp2
    go_ret
    exact ⟨rfl, rfl⟩

set_option maxHeartbeats 400000 in
theorem has_nil (k : Int) (w : World) :
    Calls Tryz.prog 101 #[.slice none 0 0, .int .i64 k] w fun e w' => e = .returned (.bool false) ∧ Below w.heap.size w w' := by
  have HC : Hid (∀ f w, Calls Tryz.prog 171 #[.slice none 0 0, f] w fun e w' => e = .returned (.bool false) ∧ w' = w) := by
    intro f w
    go_enter Tryz.func171, Tryz.ntmps171
    go_wp2_with (go_at_call 230; refine (indexFunc_nil _ _).mono ?_; rintro e w' ⟨rfl, rfl⟩)
    go_ret
    exact ⟨rfl, rfl⟩
  go_enter Tryz.func101, Tryz.ntmps101
  go_wp2_with fail
  refine (unhide HC _ _).mono ?_
  rintro e w' ⟨rfl, rfl⟩
  go_wp2_with fail
  go_ret
  exact ⟨rfl, (Below.refl _ _).alloc (Nat.le_refl _) _⟩

theorem has_any (k : Int) (v : Value) (rs : List Rec) (w : World) (hv : RV w v rs) (hl : rs.length ≤ 3001) :
    Calls Tryz.prog 101 #[v, .int .i64 k] w fun e w' => e = .returned (.bool (rs.any (hasP k))) ∧ Below w.heap.size w w' := by
  rcases hv with ⟨rfl, rfl⟩ | ⟨b, off, cap, rfl, _, hr⟩
  · exact has_nil k w
  · exact has_some k b off cap rs w hr hl

/-- what startsRight tells. -/
def startsR (o : Str) (rs : List Rec) : Bool :=
  match rs with
  | [] => false
  | r :: t => decide (rs.length ≤ 60) && (r.owner == o && r.type == 6 && !t.any (hasP 6))

set_option maxHeartbeats 800000 in
theorem startsRight_any (o : Str) (v : Value) (rs : List Rec) (w : World) (hv : RV w v rs) (hl : rs.length ≤ 3001) :
    Calls Tryz.prog 58 #[.string (B o), v] w fun e w' => e = .returned (.bool (startsR o rs)) ∧ Below w.heap.size w w' := by
  rcases hv with ⟨rfl, rfl⟩ | ⟨b, off, cap, rfl, hcap, hr⟩
  · go_enter Tryz.func58, Tryz.ntmps58
    go_wp2
    go_ret
    exact ⟨rfl, Below.refl _ _⟩
  cases rs with
  | nil =>
    go_enter Tryz.func58, Tryz.ntmps58
    go_wp2
    go_ret
    exact ⟨rfl, Below.refl _ _⟩
  | cons r t =>
    rw [List.length_cons] at hcap hl ⊢
    obtain ⟨c0, _, c2, _⟩ := hr.four 0 (by simp)
    have hd := hr.drop 1
    have he : RecsAt w b off [] := ⟨hr.1, fun j hj => by simp at hj⟩
    simp only [Nat.zero_mul, Nat.add_zero, List.getElem_cons_zero, Nat.one_mul, List.drop_succ_cons, List.drop_zero] at c0 c2 hd
    have HD := hide hd
    have HE := hide he
    have hb := hr.1
    clear hd he hr
    by_cases h60 : (60 : Int) < (t.length : Int) + 1
    · have hfin : Hid (startsR o (r :: t) = false) := by
        unfold startsR; rw [Hid, List.length_cons, decide_eq_false (by omega)]; rfl
      go_enter Tryz.func58, Tryz.ntmps58
      go_wp2
      go_ret
      exact ⟨ret_bool (unhide hfin).symm, Below.refl _ _⟩
    have hfin : Hid (startsR o (r :: t) = (r.owner == o && r.type == 6 && !t.any (hasP 6))) := by
      unfold startsR; rw [Hid, List.length_cons, decide_eq_true (by omega)]; rfl
    have hBB : ((B r.owner).toList == (B o).toList) = (r.owner == o) := by rw [str_eq]; rfl
    cases ho : r.owner == o
    · rw [ho] at hBB
      go_enter Tryz.func58, Tryz.ntmps58
      go_wp2
      go_ret
      exact ⟨ret_bool (by rw [unhide hfin, ho]; rfl), Below.refl _ _⟩
    rw [ho] at hBB
    cases ht : r.type == 6
    · go_enter Tryz.func58, Tryz.ntmps58
      go_wp2
      go_ret
      exact ⟨ret_bool (by rw [unhide hfin, ho, ht]; rfl), Below.refl _ _⟩
    by_cases hc1 : cap = 1
    · subst hc1
      obtain rfl : t = [] := List.eq_nil_of_length_eq_zero (by omega)
      go_enter Tryz.func58, Tryz.ntmps58
      go_wp2_with fail
      refine (has_some 6 b off 0 [] w (unhide HE) (by simp)).mono ?_
      rintro e w' ⟨rfl, hb'⟩
      go_wp2_with fail
      go_ret
      exact ⟨ret_bool (by rw [unhide hfin, ho, ht]; rfl), hb'⟩
    · have hcap2 : 2 ≤ cap := by omega
      go_enter Tryz.func58, Tryz.ntmps58
      go_wp2_with fail
      refine (has_some 6 b (off + 4) _ t w (unhide HD) (by omega)).mono ?_
      rintro e w' ⟨rfl, hb'⟩
      go_wp2_with fail
      go_ret
      exact ⟨ret_bool (by rw [unhide hfin, ho, ht]; rfl), hb'⟩
end Rf
end Go.Proofs.YtkkpahmoljiepaaGreatDoor

/- '==' on records; slices.Contains at records; zone.isRightSet. -/
namespace Go.Proofs.YtkkpahmoljiepaaGreatDoor
open Go.RowKit
open Pu (Str hide unhide)
namespace Rg
open Ka Kb Kd Ke Kf Rc Rd Re Rf

theorem B_inj {a b : Str} : ((B a).toList == (B b).toList) = (a == b) := by rw [str_eq]; rfl

theorem eqR : EqlAt Tryz.prog 47 (fun x : Rec => .agg (Rec.enc x).toArray) (fun x y => x == y) := by
  refine ⟨fun x y w => ?_, GuardAt.agg _ (by kernel_rfl)⟩
  have u3 := Tryz.underlying3
  have a3 := Tryz.isAgg3
  have z3 := Tryz.sizeOf3
  have u9 := Tryz.underlying9
  have a9 := Tryz.isAgg9
  have z9 := Tryz.sizeOf9
  have hS : Tryz.prog.underlying 47 = some (.struct (Tryz.prog.fieldsOf 47)) := by kernel_rfl
  have hp : Tryz.prog.stoodInHeld 47 = false := by kernel_rfl
  simp only [Rec.enc]
  rw [run_eql_struct, show (10000 : Nat) = 9999 + 1 from rfl, run_equalIn_agg w 9999 47 _ _ hS hp]
  simp only [Program.fieldsOf, Tryz.underlying47]
  obtain ⟨x0, x1, x2, x3⟩ := x
  obtain ⟨y0, y1, y2, y3⟩ := y
  simp only [Rec.owner, Rec.ttl, Rec.type, Rec.data]
  have e1 : ∀ a : Str, (B a).toList = a := fun a => by rw [ByteArray.toList_eq]; rfl
  have e2 : ((x1 : Int) = (y1 : Int)) = (x1 = y1) := by apply propext; omega
  go_simp
  by_cases h0 : x0 = y0 <;> by_cases h1 : x1 = y1 <;> by_cases h2 : x2 = y2 <;> by_cases h3 : x3 = y3 <;> simp [e1, e2, h0, h1, h2, h3]

theorem contains_some (x : Rec) (b off cap : Nat) (rs : List Rec) (w : World) (hr : RecsAt w b off rs) (hl : rs.length ≤ 3001) :
    Calls Tryz.prog 178 #[.slice (some ⟨b, off, none⟩) rs.length cap, .agg #[.string (B x.owner), .int .i64 x.ttl, .int .i64 x.type, .string (B x.data)]] w fun e w' =>
      e = .returned (.bool (rs.any (x == ·))) ∧ Below w.heap.size w w' := by
  have := AnyQ.slices_Contains Tryz.lContains 4 Tryz.isAgg47 Tryz.sizeOf47 Rec.enc (fun _ => rfl) (fun x y => x == y) eqR b off rs.length cap rs x w (Nat.le_refl _) (by omega) hr.2
  rw [List.take_length] at this
  exact this

theorem below_drewN {B : Nat} {a w : World} (h : Below B a w) (n : Nat) : Below B a (w.drewN n) := ⟨h.os, h.tape, h.output, h.size, h.block⟩
theorem below_drew {B : Nat} {a w : World} (h : Below B a w) : Below B a w.drew := h.drew

/-- an RRset has one TTL and no record twice. -/
def setOk (t0 : Nat) : List Rec → List Rec → Bool
  | _, [] => true
  | pre, r :: t => r.ttl == t0 && !pre.any (r == ·) && setOk t0 (pre ++ [r]) t
def rightSet (rs : List Rec) : Bool :=
  match rs with
  | [] => true
  | r :: _ => setOk r.ttl [] rs

set_option maxHeartbeats 1600000 in
theorem isRightSet_any (r0 : Rec) (t : List Rec) (b off cap : Nat) (w : World) (hr : RecsAt w b off (r0 :: t)) (hl : (r0 :: t).length ≤ 3001) (hcap : (r0 :: t).length ≤ cap) :
    Calls Tryz.prog 108 #[.slice (some ⟨b, off, none⟩) (r0 :: t).length cap] w fun e w' => e = .returned (.bool (rightSet (r0 :: t))) ∧ Below w.heap.size w w' := by
  have hfin : Hid (rightSet (r0 :: t) = setOk r0.ttl [] (r0 :: t)) := rfl
  obtain ⟨q0, q1, q2, q3⟩ := hr.four 0 (by simp)
  clear q2 q3
  simp only [Nat.zero_mul, Nat.add_zero, List.getElem_cons_zero] at q0 q1
  have hrl : 0 < (r0 :: t).length := by simp
  generalize htl : r0.ttl = t0 at *
  generalize r0 :: t = rs at *
  have HA := hide hr
  have hb := hr.1
  clear hr htl
  go_enter Tryz.func108, Tryz.ntmps108
  go_wp2_with fail
  go_loopw [7] (fun i wr => ∃ k : Nat, k ≤ rs.length ∧ i = .int .i64 k ∧ setOk t0 (rs.take k) (rs.drop k) = setOk t0 [] rs ∧ Below w.heap.size w wr) (fun i _ => rs.length - (intOf i).toNat)
  case atStart => exact ⟨0, Nat.zero_le _, rfl, by simp, Below.refl _ _⟩
  case round =>
    obtain ⟨k, hk, rfl, hok, hbr⟩ := hrel
    have H := hide hok
    clear hok
    have hA := (unhide HA).below hbr
    have c1 : wr.cell? ⟨b, off + 1, none⟩ = some (.int .i64 t0) := (hbr.cell (p := ⟨b, off + 1, none⟩) hb).trans q1
    have hsz := hbr.size
    have hbw : b < wr.heap.size := by omega
    have hbne : ¬ b = wr.heap.size := by omega
    have hrl' : (0 : Int) < (rs.length : Int) := by omega
    by_cases hlt : k < rs.length
    · obtain ⟨k0, k1, k2, k3⟩ := hA.four k hlt
      have hltI : (k : Int) < (rs.length : Int) := by omega
      have hdr : Hid (rs.drop k = rs[k] :: rs.drop (k + 1)) := List.drop_eq_getElem_cons hlt
      have htk : Hid (rs.take (k + 1) = rs.take k ++ [rs[k]]) := List.take_succ_eq_append_getElem hlt
      have htake := hA.take k
      have HT := hide htake
      have hlk : (rs.take k).length = k := by rw [List.length_take]; omega
      have HL := hide hlk
      clear htake hlk hA
      generalize rs[k] = x at *
      have hcallC : ∀ W, Below wr.heap.size wr W → ∀ c, Calls Tryz.prog 178 #[.slice (some ⟨b, off, none⟩) k c, .agg #[.string (B x.owner), .int .i64 x.ttl, .int .i64 x.type, .string (B x.data)]] W fun e w' => e = .returned (.bool ((rs.take k).any (x == ·))) ∧ Below W.heap.size W w' := by
        intro W hW c
        have := contains_some x b off c (rs.take k) W ((unhide HT).below hW) (by rw [unhide HL]; omega)
        rw [unhide HL] at this
        exact this
      have HCC := hide hcallC
      clear hcallC
      by_cases htt : x.ttl = t0
      · subst htt
        have htt' : ((x.ttl : Int) != (x.ttl : Int)) = false := by simp
        cases hany : (rs.take k).any (x == ·)
        · have hstep : Hid (setOk x.ttl (rs.take (k + 1)) (rs.drop (k + 1)) = setOk x.ttl [] rs) := by
            rw [Hid, ← unhide H, unhide hdr, setOk, hany, unhide htk]; simp
          go_wp2_with fail
          go_region_with (go_at_call 178; refine ((unhide HCC) _ (by exact below_drew ((Below.refl _ _).alloc (Nat.le_refl _) _)) _).mono ?_; rintro e w2 ⟨rfl, hb2⟩)
          all_goals
            have hB2 : Below w.heap.size w w2 := (below_drew (hbr.alloc hsz _)).trans (hb2.mono (by simp; omega))
            have HB2 := hide hB2
            clear hB2 hb2
            go_wp2_with fail
            go_roundw
            case rel => exact ⟨k + 1, by omega, by go_num, unhide hstep, unhide HB2⟩
            case measure => simp [intOf]; omega
        · have hfin2 : Hid (rightSet rs = false) := by
            rw [Hid, unhide hfin, ← unhide H, unhide hdr, setOk, hany]; simp
          go_wp2_with fail
          go_region_with (go_at_call 178; refine ((unhide HCC) _ (by exact below_drew ((Below.refl _ _).alloc (Nat.le_refl _) _)) _).mono ?_; rintro e w2 ⟨rfl, hb2⟩)
          all_goals
            have hB2 : Below w.heap.size w w2 := (below_drew (hbr.alloc hsz _)).trans (hb2.mono (by simp; omega))
            have HB2 := hide hB2
            clear hB2 hb2
            go_wp2_with fail
            go_ret
            exact ⟨ret_bool (unhide hfin2).symm, unhide HB2⟩
      · have htt' : ((x.ttl : Int) != (t0 : Int)) = true := by rw [bne_iff_ne]; omega
        have hfin2 : Hid (rightSet rs = false) := by
          have hb0 : (x.ttl == t0) = false := beq_eq_false_iff_ne.2 htt
          rw [Hid, unhide hfin, ← unhide H, unhide hdr, setOk, hb0]; rfl
        clear htt
        go_wp2_with fail
        go_quiet (fail)
        go_wp2_with fail
        go_ret
        exact ⟨ret_bool (unhide hfin2).symm, below_drewN (hbr.alloc hsz _) _⟩
    · have hfin2 : Hid (rightSet rs = true) := by
        rw [Hid, unhide hfin, ← unhide H, List.drop_of_length_le (by omega)]; rfl
      go_wp2
      go_ret
      exact ⟨ret_bool (unhide hfin2).symm, hbr⟩
end Rg
end Go.Proofs.YtkkpahmoljiepaaGreatDoor
