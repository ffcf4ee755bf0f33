/- Contracts: records.Of. -/
import Derived.Test.YtkkpahmoljiepaaGreatDoorJ07
import Derived.Test.YtkkpahmoljiepaaGreatDoorJ03
set_option linter.unusedSimpArgs false
set_option linter.unusedVariables false
namespace Go.Proofs.YtkkpahmoljiepaaGreatDoor
open Go.RowKit
open Pu (Str hide unhide)
attribute [local go_sem] Oper.semAt_some

/-- a name's records. -/
def ofP (rs : List Rec) (n : Str) : List Rec :=
  match (runs sameOwner rs).find? (fun x => ownerOf x == n) with
  | some x => x.2
  | none => []

/-- where a list of records lies. -/
def Lies (v : Value) (b off : Nat) (rs : List Rec) : Prop := (v = .slice none 0 0 ∧ rs = []) ∨ ∃ cap, v = .slice (some ⟨b, off, none⟩) rs.length cap ∧ rs.length ≤ cap
/-- a slice is a piece of a list of records, or nil. -/
def Piece (b off : Nat) (rs : List Rec) (v : Value) (l : List Rec) : Prop := (v = .slice none 0 0 ∧ l = []) ∨ ∃ k, (v = .slice (some ⟨b, off + k * 4, none⟩) l.length l.length ∧ k + l.length ≤ rs.length ∧ l = (rs.drop k).take l.length)

theorem Piece.at {w : World} {b off : Nat} {rs l : List Rec} {v : Value} (h : Piece b off rs v l) (hr : RecsAt w b off rs) : ∃ o', RecsAt w b o' l ∧ Lies v b o' l ∧ ∀ same, ∀ x ∈ runs same l, Piece b off rs (.slice (some ⟨b, o' + x.1 * 4, none⟩) x.2.length x.2.length) x.2 := by
  rcases h with ⟨rfl, rfl⟩ | ⟨k, rfl, hk, hl⟩
  · exact ⟨off, ⟨hr.1, fun j hj => by simp at hj⟩, .inl ⟨rfl, rfl⟩, fun same x hx => by simp [runs, runsP] at hx⟩
  · refine ⟨off + k * 4, by rw [hl]; exact (hr.drop k).take _, .inr ⟨_, rfl, Nat.le_refl _⟩, fun same x hx => .inr ⟨k + x.1, ?_, ?_, ?_⟩⟩
    · rw [Nat.add_assoc, ← Nat.add_mul]
    · have := (Iow.runs_piece hx).1; omega
    · obtain ⟨h1, _, h3⟩ := Iow.runs_piece hx
      conv => lhs; rw [h3, hl]
      rw [List.drop_take, List.take_take, List.drop_drop, Nat.min_eq_left (by omega)]
theorem Piece.rv {w : World} {b off : Nat} {rs l : List Rec} {v : Value} (h : Piece b off rs v l) (hr : RecsAt w b off rs) : RV w v l := by
  obtain ⟨o', h1, h2, _⟩ := h.at hr
  rcases h2 with h2 | ⟨cap, rfl, hc⟩
  · exact .inl h2
  · exact .inr ⟨b, o', cap, rfl, hc, h1⟩
theorem Piece.slice {b off : Nat} {rs l : List Rec} {v : Value} (h : Piece b off rs v l) : ∃ a c, v = .slice a l.length c := by
  rcases h with ⟨rfl, rfl⟩ | ⟨k, rfl, _, _⟩
  · exact ⟨none, 0, rfl⟩
  · exact ⟨_, _, rfl⟩
theorem Piece.len {b off : Nat} {rs l : List Rec} {v : Value} (h : Piece b off rs v l) : l.length ≤ rs.length := by
  rcases h with ⟨rfl, rfl⟩ | ⟨k, rfl, _, _⟩
  · simp
  · omega
theorem Piece.of_run {b off : Nat} {rs : List Rec} {same : Rec → Rec → Bool} {x : Nat × List Rec} (hx : x ∈ runs same rs) : Piece b off rs (.slice (some ⟨b, off + x.1 * 4, none⟩) x.2.length x.2.length) x.2 :=
  .inr ⟨x.1, rfl, (Iow.runs_piece hx).1, (Iow.runs_piece hx).2.2⟩

namespace Zb
open Ka Kd Rg Ia Iow Ie

theorem find_step {p : Nat × List Rec → Bool} {l : List (Nat × List Rec)} {i : Nat} {x : Nat × List Rec} (h : l[i]? = some x) : (l.drop i).find? p = if p x then some x else (l.drop (i + 1)).find? p := by
  obtain ⟨hi, rfl⟩ := List.getElem?_eq_some_iff.1 h
  rw [List.drop_eq_getElem_cons hi, List.find?_cons]
  cases p l[i] <;> rfl

set_option maxHeartbeats 1600000 in
theorem of_any (b off cap : Nat) (n : Str) (rs : List Rec) (w : World) (hr : RecsAt w b off rs) (hcap : rs.length ≤ cap) (hlen : rs.length ≤ 3001) :
    Calls Tryz.prog 184 #[.slice (some ⟨b, off, none⟩) rs.length cap, .string (B n)] w fun e w' => (∃ v, e = .returned v ∧ Piece b off rs v (ofP rs n)) ∧ Below w.heap.size w w' := by
  refine (callsIn_wide (n := 0)).1 ?_
  refine callsIn_of_wp_marks Tryz.func184 rfl trivial ?_
  simp only [Tryz.ntmps184, List.size_toArray, List.length_cons, List.length_nil, Nat.reduceAdd, Nat.reduceSub, Array.replicate_succ, Array.replicate_zero, List.push_toArray, List.append_toArray, List.nil_append, List.cons_append]
  have HR := hide hr
  have hb := hr.1
  clear hr
  gi_wp2_with (refine ⟨trivial, rfl, ?_⟩; gi_at_call 109; refine (callsIn_wide.2 (owners_any _ _ _ _)).mono ?_; rintro e w' ⟨rfl, rfl⟩)
  have e0 : It.Box (((w.alloc (.cells #[.string (B n)] 9)).alloc (.cells #[.slice none 0 0] 41)).alloc (.cells #[.slice (some ⟨b, off, none⟩) rs.length cap] 41)) w.heap.size (.string (B n)) 9 := ((It.Box.new _ _ _).alloc _).alloc _
  have e1 : It.Box (((w.alloc (.cells #[.string (B n)] 9)).alloc (.cells #[.slice none 0 0] 41)).alloc (.cells #[.slice (some ⟨b, off, none⟩) rs.length cap] 41)) (w.heap.size + 1) (.slice none 0 0) 41 := by
    have := (It.Box.new (w.alloc (.cells #[.string (B n)] 9)) (.slice none 0 0) 41).alloc (.cells #[.slice (some ⟨b, off, none⟩) rs.length cap] 41)
    rwa [World.size_alloc] at this
  have e2 : (((w.alloc (.cells #[.string (B n)] 9)).alloc (.cells #[.slice none 0 0] 41)).alloc (.cells #[.slice (some ⟨b, off, none⟩) rs.length cap] 41)).cell? ⟨w.heap.size + 1 + 1, 0, none⟩ = some (.slice (some ⟨b, off, none⟩) rs.length cap) := by go_simp
  have e4 : (((w.alloc (.cells #[.string (B n)] 9)).alloc (.cells #[.slice none 0 0] 41)).alloc (.cells #[.slice (some ⟨b, off, none⟩) rs.length cap] 41)).heap.size = w.heap.size + 3 := by simp
  have e5 : Below w.heap.size w (((w.alloc (.cells #[.string (B n)] 9)).alloc (.cells #[.slice none 0 0] 41)).alloc (.cells #[.slice (some ⟨b, off, none⟩) rs.length cap] 41)) := (((Below.refl _ _).alloc (Nat.le_refl _) _).alloc (by simp) _).alloc (by simp; omega) _
  generalize ((w.alloc (.cells #[.string (B n)] 9)).alloc (.cells #[.slice none 0 0] 41)).alloc (.cells #[.slice (some ⟨b, off, none⟩) rs.length cap] 41) = W2 at *
  have hgrow : ∀ r, Below W2.heap.size W2 ((W2.alloc (.deferred (some []))).alloc (.loop r)) := fun r => ((Below.refl _ _).alloc (Nat.le_refl _) _).alloc (by simp) _
  have hgsz : ∀ r, ((W2.alloc (.deferred (some []))).alloc (.loop r)).heap.size = W2.heap.size + 2 := fun r => by simp
  refine It.rangeB (xs := runs sameOwner rs) (encs := fun x : Nat × List Rec => #[.string (B (ownerOf x)), .slice (some ⟨b, off + x.1 * 4, none⟩) x.2.length x.2.length]) (St := fun A B => Below (W2.heap.size + 2) A B) (Kp := fun A B => B.heap[b]? = A.heap[b]? ∧ It.Above (W2.heap.size + 2) A B) (Kx := fun A B => It.Above (W2.heap.size + 2) A B)
    (gf := 179) (lb := #[.pointer (some ⟨w.heap.size + 1 + 1, 0, none⟩)]) rfl (enters_of Tryz.func179 (by kernel_rfl) rfl) (fun _ => rfl) ?seq
    [b] (by simp; omega) (fun _ _ _ h => h) (fun A B h h' => ⟨h _ (by simp), h'⟩) (fun _ _ h => h)
    (fun i W => ((runs sameOwner rs).drop i).find? (fun x => ownerOf x == n) = (runs sameOwner rs).find? (fun x => ownerOf x == n) ∧ Below w.heap.size w W ∧ It.Box W w.heap.size (.string (B n)) 9 ∧ It.Box W (w.heap.size + 1) (.slice none 0 0) 41)
    (fun c W => c = .ret ∧ Below w.heap.size w W ∧ ∃ x, x ∈ runs sameOwner rs ∧ ofP rs n = x.2 ∧ It.Box W (w.heap.size + 1) (.slice (some ⟨b, off + x.1 * 4, none⟩) x.2.length x.2.length) 41)
    (fun i A B h hb => ⟨h.1, h.2.1.trans (hb.mono (by omega)), h.2.2.1.below hb (by omega), h.2.2.2.below hb (by omega)⟩)
    (fun c A B h hb => ⟨h.1, h.2.1.trans (hb.mono (by omega)), by obtain ⟨x, h1, h2, h3⟩ := h.2.2; exact ⟨x, h1, h2, h3.below hb (by omega)⟩⟩)
    ⟨rfl, e5, e0, e1⟩
    ?round ?done ?stop
  case seq =>
    intro r
    have hg := hgrow r
    have := owners_seq b off cap (w.heap.size + 1 + 1) rs ((W2.alloc (.deferred (some []))).alloc (.loop r)) ((hg.cell (p := ⟨w.heap.size + 1 + 1, 0, none⟩) (by show w.heap.size + 1 + 1 < W2.heap.size; omega)).trans e2) (((unhide HR).below e5).below hg) (by have := hg.size; omega) hlen hcap
    rw [hgsz r] at this
    exact this
  case round =>
    intro l' i x V W hx hI hsz
    gi_wp2_with fail
    refine ⟨trivial, ?_⟩
    obtain ⟨hf, hB, hn', hc⟩ := hI
    have cn := hn'.cell
    have cb := hc.cell
    have cf := hc.frozen
    have hBB : ((B (ownerOf x)).toList == (B n).toList) = (ownerOf x == n) := B_inj
    have hst := find_step (p := fun x => ownerOf x == n) hx
    rw [hf] at hst
    have HS := hide hst
    have HNB := hide hn'
    have HCB := hide hc
    clear hf hst hn' hc
    cases ho : ownerOf x == n
    · rw [ho] at hBB
      have HF : Hid (((runs sameOwner rs).drop (i + 1)).find? (fun x => ownerOf x == n) = (runs sameOwner rs).find? (fun x => ownerOf x == n)) := by
        rw [Hid, unhide HS, if_neg (by simp [ho])]
      gi_wp2_with fail
      exact ⟨It.Above.refl _ _, by simp, unhide HF, hB, unhide HNB, unhide HCB⟩
    · rw [ho] at hBB
      have HF : Hid (ofP rs n = x.2) := by
        unfold ofP
        rw [Hid, unhide HS, if_pos ho]
      gi_wp2_with fail
      exact ⟨It.Above.setCell W _ _ (by omega), rfl, hB.setCell (by show w.heap.size ≤ w.heap.size + 1; omega) _, x, List.mem_of_getElem? hx, unhide HF, (unhide HCB).set _⟩
  case done =>
    intro W hI hdef hsz
    obtain ⟨hf, hB, hn', hc⟩ := hI
    have cb := hc.cell
    have cf := hc.frozen
    have HF : Hid (ofP rs n = []) := by
      unfold ofP
      rw [Hid, ← hf, List.drop_of_length_le (Nat.le_refl _)]; rfl
    clear hf
    gi_wp2_with fail
    have hd' := (Below.heap_setCell W ⟨w.heap.size + 1, 0, none⟩ (.slice none 0 0) W2.heap.size (by show W2.heap.size ≠ w.heap.size + 1; omega)).trans hdef
    refine ⟨by simp, .inl ⟨_, _, rfl, run_takeDeferred hd', ?_⟩⟩
    have cr := ((hc.set (.slice none 0 0)).put (d := W2.heap.size) (o := .deferred none) (by omega)).cell
    refine ⟨.slice none 0 0, by simp [results, Tryz.results184, go_sem, cr], ⟨_, rfl, .inl ⟨rfl, unhide HF⟩⟩, ?_⟩
    exact (hB.setCell (by show w.heap.size ≤ w.heap.size + 1; omega) _).trans (belowK_b (w := W2) (by omega) _ _ _ _ (Nat.le_refl _) hd' rfl rfl)
  case stop =>
    intro c W hI hdef hsz
    obtain ⟨rfl, hB, x, hx, hof, hc⟩ := hI
    have HF := hide hof
    clear hof
    have cb := hc.cell
    gi_wp2_with fail
    refine ⟨by simp, .inl ⟨_, _, rfl, run_takeDeferred hdef, ?_⟩⟩
    have cr := (hc.put (d := W2.heap.size) (o := .deferred none) (by omega)).cell
    have hB' := hB.trans (belowK_b (w := W2) (show w.heap.size ≤ W2.heap.size by omega) W _ _ (.deferred none) (Nat.le_refl _) hdef rfl rfl)
    refine ⟨_, by simp [results, Tryz.results184, go_sem, cr]; rfl, ⟨_, rfl, ?_⟩, hB'⟩
    rw [unhide HF]
    exact Piece.of_run hx
end Zb
end Go.Proofs.YtkkpahmoljiepaaGreatDoor

/- Contracts: records.Sets, records.Set. -/
namespace Go.Proofs.YtkkpahmoljiepaaGreatDoor
open Go.RowKit
open Pu (Str hide unhide)
attribute [local go_sem] Oper.semAt_some

/-- the type of a run. -/
def typeOf (x : Nat × List Rec) : Int := (x.2.headD Rec.zero).type
/-- the records of one type. -/
def setP (rs : List Rec) (k : Int) : List Rec :=
  match (runs sameSet rs).find? (fun x => typeOf x == k) with
  | some x => x.2
  | none => []

namespace Zc
open Ka Kd Rg Ia Iow Ie Zb

set_option maxHeartbeats 400000 in
theorem sets_any (a : Option Addr) (n c : Nat) (w : World) :
    Calls Tryz.prog 107 #[.slice a n c] w fun e w' => e = .returned (.func (.func 233) #[] #[.pointer (some ⟨w.heap.size, 0, none⟩), .pointer (some ⟨w.heap.size + 1, 0, none⟩)]) ∧ w' = (w.alloc (.cells #[.slice a n c] 41)).alloc (.cells #[.func (.func 177) #[] #[]] 261) := by
  go_enter Tryz.func107, Tryz.ntmps107
  go_wp2_with (go_at_call 176; refine (runs_any _ _ _ _ _).mono ?_; rintro e w' ⟨rfl, rfl⟩)
  go_ret
  exact ⟨rfl, rfl⟩

theorem type_head (x : Nat × List Rec) (h : 0 < x.2.length) : x.2[0].type = typeOf x := by
  obtain ⟨k, l⟩ := x
  cases l with
  | nil => simp at h
  | cons a t => rfl

theorem rv_slice {w : World} {v : Value} {rs : List Rec} (h : RV w v rs) : ∃ a c, v = .slice a rs.length c := by
  rcases h with ⟨rfl, rfl⟩ | ⟨b, off, cap, rfl, _, _⟩
  · exact ⟨none, 0, rfl⟩
  · exact ⟨_, _, rfl⟩

set_option maxHeartbeats 400000 in
theorem sets_o (v : Value) (rs : List Rec) (w : World) (hv : RV w v rs) :
    Calls Tryz.prog 107 #[v] w fun e w' => e = .returned (.func (.func 233) #[] #[.pointer (some ⟨w.heap.size, 0, none⟩), .pointer (some ⟨w.heap.size + 1, 0, none⟩)]) ∧ w'.heap.size = w.heap.size + 2 ∧ Below w.heap.size w w' ∧
      w'.cell? ⟨w.heap.size, 0, none⟩ = some v ∧ w'.cell? ⟨w.heap.size + 1, 0, none⟩ = some (.func (.func 177) #[] #[]) := by
  obtain ⟨a, c, rfl⟩ := rv_slice hv
  refine (sets_any a rs.length c w).mono ?_
  rintro e w' ⟨rfl, rfl⟩
  exact ⟨rfl, by simp, ((Below.refl _ _).alloc (Nat.le_refl _) _).alloc (by simp) _, by go_simp, by go_simp⟩

theorem seqV (v : Value) (b off bl bs : Nat) (rs : List Rec) (W0 : World) (hv : Lies v b off rs)
    (hl : W0.cell? ⟨bl, 0, none⟩ = some v) (hs : W0.cell? ⟨bs, 0, none⟩ = some (.func (.func 177) #[] #[]))
    (hr : RecsAt W0 b off rs) (h1 : bl < W0.heap.size) (h2 : bs < W0.heap.size) (hlen : rs.length ≤ 3001) :
    It.Seq Tryz.prog 233 #[.pointer (some ⟨bl, 0, none⟩), .pointer (some ⟨bs, 0, none⟩)] (fun x : Nat × List Rec => #[.slice (some ⟨b, off + x.1 * 4, none⟩) x.2.length x.2.length]) (runs sameSet rs)
      (fun A B => Below A.heap.size A B) (It.Keep3 bl bs b) (fun _ _ => True) W0 := by
  rcases hv with ⟨rfl, rfl⟩ | ⟨cap, rfl, hc⟩
  · exact Ib.seq_nil b off bl bs W0 hl _
  · exact Ib.seq b off cap bl bs rs W0 hl hs hr h1 h2 hlen hc

theorem runs_len {same : Rec → Rec → Bool} {rs : List Rec} {x : Nat × List Rec} (h : x ∈ runs same rs) : x.2.length ≤ rs.length := by
  have := (runs_piece h).1; omega
theorem ofP_len (rs : List Rec) (n : Str) : (ofP rs n).length ≤ rs.length := by
  unfold ofP
  split
  · rename_i x hx
    exact runs_len (List.mem_of_find?_eq_some hx)
  · simp
theorem setP_len (rs : List Rec) (k : Int) : (setP rs k).length ≤ rs.length := by
  unfold setP
  split
  · rename_i x hx
    exact runs_len (List.mem_of_find?_eq_some hx)
  · simp

set_option maxHeartbeats 1600000 in
theorem set_any (b off cap : Nat) (n : Str) (k : Int) (l0 : List Rec) (w : World) (hr : RecsAt w b off l0) (hcap : l0.length ≤ cap) (hlen0 : l0.length ≤ 3001) :
    Calls Tryz.prog 112 #[.slice (some ⟨b, off, none⟩) l0.length cap, .string (B n), .int .i64 k] w fun e w' => (∃ v, e = .returned v ∧ Piece b off l0 v (setP (ofP l0 n) k)) ∧ Below w.heap.size w w' := by
  refine (callsIn_wide (n := 0)).1 ?_
  refine callsIn_of_wp_marks Tryz.func112 rfl trivial ?_
  simp only [Tryz.ntmps112, List.size_toArray, List.length_cons, List.length_nil, Nat.reduceAdd, Nat.reduceSub, Array.replicate_succ, Array.replicate_zero, List.push_toArray, List.append_toArray, List.nil_append, List.cons_append]
  have hlen := ofP_len l0 n
  have hbx : Below w.heap.size w ((w.alloc (.cells #[.int .i64 k] 3)).alloc (.cells #[.slice none 0 0] 41)) := ((Below.refl _ _).alloc (Nat.le_refl _) _).alloc (by simp) _
  have HC := hide (of_any b off cap n l0 _ (hr.below hbx) hcap hlen0)
  have HR0 := hide hr
  have hb := hr.1
  clear hr
  gi_wp2_with fail
  refine ⟨trivial, rfl, ?_⟩
  refine (callsIn_wide.2 (unhide HC)).mono ?_
  rintro e w1 ⟨⟨v, rfl, hv⟩, hb1⟩
  have e0 : It.Box w1 w.heap.size (.int .i64 k) 3 := ((It.Box.new _ _ _).alloc _).below hb1 (by simp <;> omega)
  have e1 : It.Box w1 (w.heap.size + 1) (.slice none 0 0) 41 := by
    have := (It.Box.new (w.alloc (.cells #[.int .i64 k] 3)) (.slice none 0 0) 41).below hb1 (by simp <;> omega)
    rwa [World.size_alloc] at this
  have hB1 : Below w.heap.size w w1 := hbx.trans (hb1.mono (by simp <;> omega))
  have hs1 : w.heap.size + 2 ≤ w1.heap.size := by have := hb1.size; simp at this; omega
  generalize hrs : ofP l0 n = rs at *
  clear hb1 hbx
  obtain ⟨o', hr, hL, hpc⟩ := hv.at (unhide HR0)
  have HR := hide hr
  have HLies := hide hL
  have HPC := hide hpc
  have HV := hide (hv.rv ((unhide HR0).below hB1))
  obtain ⟨av, cv, rfl⟩ := hv.slice
  clear hv hr hL hpc
  gi_wp2_with fail
  refine ⟨trivial, rfl, ?_⟩
  refine (callsIn_wide.2 (sets_o _ rs _ (unhide HV))).mono ?_
  rintro e W2 ⟨rfl, e4, hb2, e2, e3⟩
  have e0' := e0.below hb2 e0.lt
  have e1' := e1.below hb2 e1.lt
  have e5 := hB1.trans (hb2.mono hB1.size)
  have HR2 := hide ((unhide HR).below e5)
  clear e0 e1
  gi_wp2_with fail
  have hgrow : ∀ r, Below W2.heap.size W2 ((W2.alloc (.deferred (some []))).alloc (.loop r)) := fun r => ((Below.refl _ _).alloc (Nat.le_refl _) _).alloc (by simp) _
  refine It.rangeB (xs := runs sameSet rs) (encs := fun x : Nat × List Rec => #[.slice (some ⟨b, o' + x.1 * 4, none⟩) x.2.length x.2.length]) (St := fun A B => Below A.heap.size A B) (Kp := It.Keep3 w1.heap.size (w1.heap.size + 1) b) (Kx := fun _ _ => True)
    (gf := 233) (lb := #[.pointer (some ⟨w1.heap.size, 0, none⟩), .pointer (some ⟨w1.heap.size + 1, 0, none⟩)]) rfl (enters_of Tryz.func233 (by kernel_rfl) rfl) (fun _ => rfl) ?seq
    [w1.heap.size, w1.heap.size + 1, b] (by simp; omega) (fun A B hA h => h.mono hA) (fun A B h h' => ⟨h'.1, h _ (by simp), h _ (by simp), h _ (by simp)⟩) (fun _ _ _ => trivial)
    (fun i W => ((runs sameSet rs).drop i).find? (fun x => typeOf x == k) = (runs sameSet rs).find? (fun x => typeOf x == k) ∧ Below w.heap.size w W ∧ It.Box W w.heap.size (.int .i64 k) 3 ∧ It.Box W (w.heap.size + 1) (.slice none 0 0) 41)
    (fun c W => c = .ret ∧ Below w.heap.size w W ∧ ∃ x, x ∈ runs sameSet rs ∧ setP rs k = x.2 ∧ It.Box W (w.heap.size + 1) (.slice (some ⟨b, o' + x.1 * 4, none⟩) x.2.length x.2.length) 41)
    (fun i A B h hb' => ⟨h.1, h.2.1.trans (hb'.mono (by omega)), h.2.2.1.below hb' (by omega), h.2.2.2.below hb' (by omega)⟩)
    (fun c A B h hb' => ⟨h.1, h.2.1.trans (hb'.mono (by omega)), by obtain ⟨x, h1, h2, h3⟩ := h.2.2; exact ⟨x, h1, h2, h3.below hb' (by omega)⟩⟩)
    ⟨rfl, e5, e0', e1'⟩
    ?round ?done ?stop
  case seq =>
    intro r
    have hg := hgrow r
    exact seqV _ b o' _ _ rs _ (unhide HLies) ((hg.cell (p := ⟨w1.heap.size, 0, none⟩) (by show w1.heap.size < W2.heap.size; omega)).trans e2) ((hg.cell (p := ⟨w1.heap.size + 1, 0, none⟩) (by show w1.heap.size + 1 < W2.heap.size; omega)).trans e3) ((unhide HR2).below hg) (by have := hg.size; omega) (by have := hg.size; omega) (by omega)
  case round =>
    intro l' i x V W hx hI hsz
    gi_wp2_with fail
    refine ⟨trivial, ?_⟩
    obtain ⟨hf, hB, hn', hc⟩ := hI
    have cn := hn'.cell
    have cb := hc.cell
    have cf := hc.frozen
    have hmem : x ∈ runs sameSet rs := List.mem_of_getElem? hx
    have hP := RecsAt.piece ((unhide HR).below hB) hmem
    have hpos := (runs_piece hmem).2.1
    obtain ⟨q0, q1, q2, q3⟩ := hP.four 0 hpos
    clear q0 q1 q3 hP
    rw [Nat.zero_mul, Nat.add_zero, type_head x hpos] at q2
    have hposI : (0 : Int) < (x.2.length : Int) := by omega
    have hmx : Tryz.prog.follows .mixedOrders = true := by kernel_rfl
    have hst := find_step (p := fun x => typeOf x == k) hx
    rw [hf] at hst
    have HS := hide hst
    have HNB := hide hn'
    have HCB := hide hc
    have HM := hide hmem
    clear hf hst hn' hc hmem
    cases ho : typeOf x == k
    · have HF : Hid (((runs sameSet rs).drop (i + 1)).find? (fun x => typeOf x == k) = (runs sameSet rs).find? (fun x => typeOf x == k)) := by
        rw [Hid, unhide HS, if_neg (by simp [ho])]
      have HE : Hid (It.Above W2.heap.size W W.drew ∧ (∀ k' ∈ [w1.heap.size, w1.heap.size + 1, b], W.drew.heap[k']? = W.heap[k']?) ∧ (((runs sameSet rs).drop (i + 1)).find? (fun x => typeOf x == k) = (runs sameSet rs).find? (fun x => typeOf x == k) ∧ Below w.heap.size w W.drew ∧ It.Box W.drew w.heap.size (.int .i64 k) 3 ∧ It.Box W.drew (w.heap.size + 1) (.slice none 0 0) 41)) :=
        ⟨It.Above.refl _ W, fun _ _ => rfl, unhide HF, hB.drew, unhide HNB, unhide HCB⟩
      gi_wp2_with fail
      refine Ir.region_round hmx (Ir.noDefer_spec (by kernel_rfl)) ?_
      refine wpAnyIn_take (i := 0) (v := ?_) rfl rfl (by kernel_rfl) (by kernel_rfl) (by kernel_rfl) (fun _ _ _ h => h) ⟨Or.inl ⟨by rfl, by intro w; go_simp; first | done | with_reducible rfl⟩, fun _ => rfl⟩ ?_
      refine wpAnyIn_take (i := 1) (v := ?_) rfl rfl (by kernel_rfl) (by kernel_rfl) (by kernel_rfl) (fun _ _ _ h => h) ⟨Or.inl ⟨by rfl, by intro w; go_simp; first | done | with_reducible rfl⟩, fun _ => rfl⟩ ?_
      refine wpAnyIn_take (i := 2) (v := ?_) rfl rfl (by kernel_rfl) (by kernel_rfl) (by kernel_rfl) (fun _ _ _ h => h) ⟨Or.inl ⟨by rfl, by intro w; go_simp; first | done | with_reducible rfl⟩, fun _ => rfl⟩ ?_
      refine wpAnyIn_ready (rs := [3, 4]) (by kernel_rfl) (by simp) ?_
      refine AllReadyIn.cons rfl (fun K hK => ?_) (AllReadyIn.cons rfl (fun K hK => ?_) AllReadyIn.nil)
      · go_simp
        refine hK _ _ ?_
        clear hK K
        refine wpAnyIn_ready (rs := [4]) (by kernel_rfl) (by simp) ?_
        refine AllReadyIn.cons rfl (fun K hK => ?_) AllReadyIn.nil
        go_simp
        refine hK _ _ ?_
        clear hK K
        refine wpAnyIn_ready (rs := [5]) (by kernel_rfl) (by simp) ?_
        refine AllReadyIn.cons rfl (fun K hK => ?_) AllReadyIn.nil
        go_simp
        refine hK _ _ ?_
        clear hK K
        refine wpAnyIn_done (by kernel_rfl) ?_ _
        gi_wp2_with fail
        exact unhide HE
      · go_simp
        refine hK _ _ ?_
        clear hK K
        refine wpAnyIn_ready (rs := [3]) (by kernel_rfl) (by simp) ?_
        refine AllReadyIn.cons rfl (fun K hK => ?_) AllReadyIn.nil
        go_simp
        refine hK _ _ ?_
        clear hK K
        refine wpAnyIn_ready (rs := [5]) (by kernel_rfl) (by simp) ?_
        refine AllReadyIn.cons rfl (fun K hK => ?_) AllReadyIn.nil
        go_simp
        refine hK _ _ ?_
        clear hK K
        refine wpAnyIn_done (by kernel_rfl) ?_ _
        gi_wp2_with fail
        exact unhide HE
    · have HF : Hid (setP rs k = x.2) := by
        unfold setP
        rw [Hid, unhide HS, if_pos ho]
      have HE : Hid (It.Above W2.heap.size W (W.setCell ⟨w.heap.size + 1, 0, none⟩ (.slice (some ⟨b, o' + x.1 * 4, none⟩) x.2.length x.2.length)).drew ∧ (Below w.heap.size w (W.setCell ⟨w.heap.size + 1, 0, none⟩ (.slice (some ⟨b, o' + x.1 * 4, none⟩) x.2.length x.2.length)).drew ∧ ∃ x', x' ∈ runs sameSet rs ∧ setP rs k = x'.2 ∧ It.Box (W.setCell ⟨w.heap.size + 1, 0, none⟩ (.slice (some ⟨b, o' + x.1 * 4, none⟩) x.2.length x.2.length)).drew (w.heap.size + 1) (.slice (some ⟨b, o' + x'.1 * 4, none⟩) x'.2.length x'.2.length) 41)) :=
        ⟨It.Above.setCell W _ _ (by omega), (hB.setCell (by show w.heap.size ≤ w.heap.size + 1; omega) _).drew, x, unhide HM, unhide HF, (unhide HCB).set _⟩
      gi_wp2_with fail
      refine Ir.region_round hmx (Ir.noDefer_spec (by kernel_rfl)) ?_
      refine wpAnyIn_take (i := 0) (v := ?_) rfl rfl (by kernel_rfl) (by kernel_rfl) (by kernel_rfl) (fun _ _ _ h => h) ⟨Or.inl ⟨by rfl, by intro w; go_simp; first | done | with_reducible rfl⟩, fun _ => rfl⟩ ?_
      refine wpAnyIn_take (i := 1) (v := ?_) rfl rfl (by kernel_rfl) (by kernel_rfl) (by kernel_rfl) (fun _ _ _ h => h) ⟨Or.inl ⟨by rfl, by intro w; go_simp; first | done | with_reducible rfl⟩, fun _ => rfl⟩ ?_
      refine wpAnyIn_take (i := 2) (v := ?_) rfl rfl (by kernel_rfl) (by kernel_rfl) (by kernel_rfl) (fun _ _ _ h => h) ⟨Or.inl ⟨by rfl, by intro w; go_simp; first | done | with_reducible rfl⟩, fun _ => rfl⟩ ?_
      refine wpAnyIn_ready (rs := [3, 4]) (by kernel_rfl) (by simp) ?_
      refine AllReadyIn.cons rfl (fun K hK => ?_) (AllReadyIn.cons rfl (fun K hK => ?_) AllReadyIn.nil)
      · go_simp
        refine hK _ _ ?_
        clear hK K
        refine wpAnyIn_ready (rs := [4]) (by kernel_rfl) (by simp) ?_
        refine AllReadyIn.cons rfl (fun K hK => ?_) AllReadyIn.nil
        go_simp
        refine hK _ _ ?_
        clear hK K
        refine wpAnyIn_ready (rs := [5]) (by kernel_rfl) (by simp) ?_
        refine AllReadyIn.cons rfl (fun K hK => ?_) AllReadyIn.nil
        go_simp
        refine hK _ _ ?_
        clear hK K
        refine wpAnyIn_done (by kernel_rfl) ?_ _
        gi_wp2_with fail
        exact ⟨(unhide HE).1, rfl, (unhide HE).2⟩
      · go_simp
        refine hK _ _ ?_
        clear hK K
        refine wpAnyIn_ready (rs := [3]) (by kernel_rfl) (by simp) ?_
        refine AllReadyIn.cons rfl (fun K hK => ?_) AllReadyIn.nil
        go_simp
        refine hK _ _ ?_
        clear hK K
        refine wpAnyIn_ready (rs := [5]) (by kernel_rfl) (by simp) ?_
        refine AllReadyIn.cons rfl (fun K hK => ?_) AllReadyIn.nil
        go_simp
        refine hK _ _ ?_
        clear hK K
        refine wpAnyIn_done (by kernel_rfl) ?_ _
        gi_wp2_with fail
        exact ⟨(unhide HE).1, rfl, (unhide HE).2⟩
  case done =>
    intro W hI hdef hsz
    obtain ⟨hf, hB, hn', hc⟩ := hI
    have cb := hc.cell
    have cf := hc.frozen
    have HF : Hid (setP rs k = []) := by
      unfold setP
      rw [Hid, ← hf, List.drop_of_length_le (Nat.le_refl _)]; rfl
    clear hf
    gi_wp2_with fail
    have hd' := (Below.heap_setCell W ⟨w.heap.size + 1, 0, none⟩ (.slice none 0 0) W2.heap.size (by show W2.heap.size ≠ w.heap.size + 1; omega)).trans hdef
    refine ⟨by simp, .inl ⟨_, _, rfl, run_takeDeferred hd', ?_⟩⟩
    have cr := ((hc.set (.slice none 0 0)).put (d := W2.heap.size) (o := .deferred none) (by omega)).cell
    refine ⟨.slice none 0 0, by simp [results, Tryz.results112, go_sem, cr], ⟨_, rfl, .inl ⟨rfl, by rw [hrs]; exact unhide HF⟩⟩, ?_⟩
    exact (hB.setCell (by show w.heap.size ≤ w.heap.size + 1; omega) _).trans (belowK_b (w := W2) (by omega) _ _ _ _ (Nat.le_refl _) hd' rfl rfl)
  case stop =>
    intro c W hI hdef hsz
    obtain ⟨rfl, hB, x, hx, hof, hc⟩ := hI
    have HF := hide hof
    clear hof
    have cb := hc.cell
    gi_wp2_with fail
    refine ⟨by simp, .inl ⟨_, _, rfl, run_takeDeferred hdef, ?_⟩⟩
    have cr := (hc.put (d := W2.heap.size) (o := .deferred none) (by omega)).cell
    have hB' := hB.trans (belowK_b (w := W2) (show w.heap.size ≤ W2.heap.size by omega) W _ _ (.deferred none) (Nat.le_refl _) hdef rfl rfl)
    refine ⟨_, by simp [results, Tryz.results112, go_sem, cr]; rfl, ⟨_, rfl, ?_⟩, hB'⟩
    rw [hrs, unhide HF]
    exact unhide HPC _ x hx
end Zc
end Go.Proofs.YtkkpahmoljiepaaGreatDoor

/- Contracts: the methods of lookup.Table that ask its list: of, set, isThere. -/
namespace Go.Proofs.YtkkpahmoljiepaaGreatDoor
open Go.RowKit
open Pu (Str hide unhide)
attribute [local go_sem] Oper.semAt_some

/-- a table in memory: its origin and its list. -/
def TableAt (w : World) (zb : Nat) (o : Str) (b off cap : Nat) (rs : List Rec) : Prop :=
  zb < w.heap.size ∧ w.cell? ⟨zb, 0, none⟩ = some (.string (B o)) ∧ w.cell? ⟨zb, 1, none⟩ = some (.slice (some ⟨b, off, none⟩) rs.length cap) ∧ rs.length ≤ cap ∧ RecsAt w b off rs
theorem TableAt.below {w w' : World} {zb b off cap : Nat} {o : Str} {rs : List Rec} (h : TableAt w zb o b off cap rs) (hb : Below w.heap.size w w') : TableAt w' zb o b off cap rs :=
  ⟨Nat.lt_of_lt_of_le h.1 hb.size, (hb.cell (p := ⟨zb, 0, none⟩) h.1).trans h.2.1, (hb.cell (p := ⟨zb, 1, none⟩) h.1).trans h.2.2.1, h.2.2.2.1, h.2.2.2.2.below hb⟩
theorem TableAt.low {w w' : World} {zb b off cap n : Nat} {o : Str} {rs : List Rec} (h : TableAt w zb o b off cap rs) (hb : Below n w w') (h1 : zb < n) (h2 : b < n) : TableAt w' zb o b off cap rs :=
  ⟨Nat.lt_of_lt_of_le h.1 hb.size, (hb.cell (p := ⟨zb, 0, none⟩) h1).trans h.2.1, (hb.cell (p := ⟨zb, 1, none⟩) h1).trans h.2.2.1, h.2.2.2.1, Ia.RecsAt.low h.2.2.2.2 hb h2⟩
/-- the bounds of a zone. -/
def Fit (o : Str) (rs : List Rec) : Prop := rs.length ≤ 3001 ∧ o.length ≤ 3000 ∧ ∀ r ∈ rs, r.owner.length ≤ 3000 ∧ r.data.length ≤ 3000

/-- does a name, or one under it, have records? -/
def there (rs : List Rec) (n : Str) : Bool := !(underRuns n rs).isEmpty

namespace Za
open Ka Kd Rg Ia Iow Ie Zb Zc

set_option maxHeartbeats 400000 in
theorem of_t (zb b off cap : Nat) (o n : Str) (rs : List Rec) (w : World) (hz : TableAt w zb o b off cap rs) (hlen : rs.length ≤ 3001) :
    Calls Tryz.prog 270 #[.pointer (some ⟨zb, 0, none⟩), .string (B n)] w fun e w' => (∃ v, e = .returned v ∧ Piece b off rs v (ofP rs n)) ∧ Below w.heap.size w w' := by
  obtain ⟨hzb, hz0, hz1, hcap, hr⟩ := hz
  have HC := hide (of_any b off cap n rs w hr hcap hlen)
  clear hr
  go_enter Tryz.func270, Tryz.ntmps270
  go_wp2_with fail
  refine (unhide HC).mono ?_
  rintro e w1 ⟨⟨v, rfl, hv⟩, hb1⟩
  have HV := hide hv
  clear hv
  go_wp2_with fail
  go_ret
  exact ⟨⟨_, rfl, unhide HV⟩, hb1⟩

set_option maxHeartbeats 400000 in
theorem set_t (zb b off cap : Nat) (o n : Str) (k : Int) (rs : List Rec) (w : World) (hz : TableAt w zb o b off cap rs) (hlen : rs.length ≤ 3001) :
    Calls Tryz.prog 192 #[.pointer (some ⟨zb, 0, none⟩), .string (B n), .int .i64 k] w fun e w' => (∃ v, e = .returned v ∧ Piece b off rs v (setP (ofP rs n) k)) ∧ Below w.heap.size w w' := by
  obtain ⟨hzb, hz0, hz1, hcap, hr⟩ := hz
  have HC := hide (set_any b off cap n k rs w hr hcap hlen)
  clear hr
  go_enter Tryz.func192, Tryz.ntmps192
  go_wp2_with fail
  refine (unhide HC).mono ?_
  rintro e w1 ⟨⟨v, rfl, hv⟩, hb1⟩
  have HV := hide hv
  clear hv
  go_wp2_with fail
  go_ret
  exact ⟨⟨_, rfl, unhide HV⟩, hb1⟩

set_option maxHeartbeats 1600000 in
theorem isThere_any (zb b off cap : Nat) (o n : Str) (rs : List Rec) (w : World) (hz : TableAt w zb o b off cap rs) (hlen : rs.length ≤ 3001) (hn : n.length ≤ 3000) (ho : ∀ r ∈ rs, r.owner.length ≤ 3000) :
    Calls Tryz.prog 269 #[.pointer (some ⟨zb, 0, none⟩), .string (B n)] w fun e w' => e = .returned (.bool (there rs n)) ∧ Below w.heap.size w w' := by
  refine (callsIn_wide (n := 0)).1 ?_
  refine callsIn_of_wp_marks Tryz.func269 rfl trivial ?_
  simp only [Tryz.ntmps269, List.size_toArray, List.length_cons, List.length_nil, Nat.reduceAdd, Nat.reduceSub, Array.replicate_succ, Array.replicate_zero, List.push_toArray, List.append_toArray, List.nil_append, List.cons_append]
  have HO := hide ho
  obtain ⟨hzb, hz0, hz1, hcap, hr⟩ := hz
  have HR := hide hr
  have hb := hr.1
  clear hr ho
  gi_wp2_with fail
  refine ⟨trivial, rfl, ?_⟩
  refine (callsIn_wide.2 (under_o _ _ _ _ _)).mono ?_
  rintro e W2 ⟨rfl, e4, hb2, e1, e2⟩
  have e0 : It.Box W2 w.heap.size (.bool false) 4 := (It.Box.new _ _ _).below hb2 (by simp <;> omega)
  have e5 : Below w.heap.size w W2 := ((Below.refl _ _).alloc (Nat.le_refl _) _).trans (hb2.mono (by simp <;> omega))
  simp only [World.size_alloc] at e4 e1 e2
  gi_wp2_with fail
  have hgrow : ∀ r, Below W2.heap.size W2 ((W2.alloc (.deferred (some []))).alloc (.loop r)) := fun r => ((Below.refl _ _).alloc (Nat.le_refl _) _).alloc (by simp) _
  have hgsz : ∀ r, ((W2.alloc (.deferred (some []))).alloc (.loop r)).heap.size = W2.heap.size + 2 := fun r => by simp
  refine It.rangeB (xs := underRuns n rs) (encs := fun x : Nat × List Rec => #[.string (B (ownerOf x)), .slice (some ⟨b, off + x.1 * 4, none⟩) x.2.length x.2.length]) (St := fun A B => Below (W2.heap.size + 2) A B) (Kp := fun A B => (B.heap[b]? = A.heap[b]? ∧ B.heap[w.heap.size + 1 + 1]? = A.heap[w.heap.size + 1 + 1]?) ∧ It.Above (W2.heap.size + 2) A B) (Kx := fun A B => It.Above (W2.heap.size + 2) A B)
    (gf := 235) (lb := #[.pointer (some ⟨w.heap.size + 1, 0, none⟩), .pointer (some ⟨w.heap.size + 1 + 1, 0, none⟩)]) rfl (enters_of Tryz.func235 (by kernel_rfl) rfl) (fun _ => rfl) ?seq
    [b, w.heap.size + 1 + 1] (by simp; omega) (fun _ _ _ h => h) (fun A B h h' => ⟨⟨h _ (by simp), h _ (by simp)⟩, h'⟩) (fun _ _ h => h)
    (fun i W => i = 0 ∧ Below w.heap.size w W ∧ It.Box W w.heap.size (.bool false) 4)
    (fun c W => c = .ret ∧ there rs n = true ∧ Below w.heap.size w W ∧ It.Box W w.heap.size (.bool true) 4)
    (fun i A B h hb => ⟨h.1, h.2.1.trans (hb.mono (by omega)), h.2.2.below hb (by omega)⟩)
    (fun c A B h hb => ⟨h.1, h.2.1, h.2.2.1.trans (hb.mono (by omega)), h.2.2.2.below hb (by omega)⟩)
    ⟨rfl, e5, e0⟩
    ?round ?done ?stop
  case seq =>
    intro r
    have hg := hgrow r
    have := under_seq b off cap (w.heap.size + 1) (w.heap.size + 1 + 1) n rs ((W2.alloc (.deferred (some []))).alloc (.loop r)) (((unhide HR).below e5).below hg) hcap ((hg.cell (p := ⟨w.heap.size + 1, 0, none⟩) (by show w.heap.size + 1 < W2.heap.size; omega)).trans e1) ((hg.cell (p := ⟨w.heap.size + 1 + 1, 0, none⟩) (by show w.heap.size + 1 + 1 < W2.heap.size; omega)).trans e2) (by have := hg.size; omega) (by have := hg.size; omega) hlen hn (unhide HO)
    rw [hgsz r] at this
    exact this
  case round =>
    intro l' i x V W hx hI hsz
    gi_wp2_with fail
    refine ⟨trivial, ?_⟩
    obtain ⟨rfl, hB, hc⟩ := hI
    have cb := hc.cell
    have cf := hc.frozen
    have hth : there rs n = true := by
      unfold there
      cases h : underRuns n rs with
      | nil => rw [h] at hx; simp at hx
      | cons y t => rfl
    gi_wp2_with fail
    exact ⟨It.Above.setCell W _ _ (by omega), rfl, hth, hB.setCell (Nat.le_refl _) _, hc.set _⟩
  case done =>
    intro W hI hdef hsz
    obtain ⟨h0, hB, hc⟩ := hI
    have cb := hc.cell
    have cf := hc.frozen
    have hth : there rs n = false := by
      unfold there
      cases h : underRuns n rs with
      | nil => rfl
      | cons y t => rw [h] at h0; simp at h0
    gi_wp2_with fail
    refine ⟨by simp, .inl ⟨_, _, rfl, run_takeDeferred ((Below.heap_setCell _ _ _ _ (by show W2.heap.size ≠ w.heap.size; omega)).trans hdef), ?_⟩⟩
    have cr := ((hc.set (.bool false)).put (d := W2.heap.size) (o := .deferred none) (by omega)).cell
    refine ⟨.bool false, by simp [results, Tryz.results269, go_sem, cr], by rw [hth], ?_⟩
    exact (hB.setCell (Nat.le_refl _) _).trans (belowK_b (w := W2) (by omega) _ _ _ _ (Nat.le_refl _) ((Below.heap_setCell _ _ _ _ (by show W2.heap.size ≠ w.heap.size; omega)).trans hdef) rfl rfl)
  case stop =>
    intro c W hI hdef hsz
    obtain ⟨rfl, ht, hB, hc⟩ := hI
    have cb := hc.cell
    gi_wp2_with fail
    refine ⟨by simp, .inl ⟨_, _, rfl, run_takeDeferred hdef, ?_⟩⟩
    have cr := (hc.put (d := W2.heap.size) (o := .deferred none) (by omega)).cell
    refine ⟨.bool true, by simp [results, Tryz.results269, go_sem, cr], by rw [ht], ?_⟩
    exact hB.trans (belowK_b (w := W2) (by omega) _ _ _ _ (Nat.le_refl _) hdef rfl rfl)
end Za
end Go.Proofs.YtkkpahmoljiepaaGreatDoor
