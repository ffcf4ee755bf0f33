/- The zone of the statement Starred: what its text reads as. -/
import Derived.Test.YtjkllohiodfikaaGreatDoorPa
set_option linter.unusedSimpArgs false
set_option linter.unusedVariables false
namespace Go.Proofs.YtjkllohiodfikaaGreatDoor
open Go.RowKit
open Pu (Str hide unhide)

namespace Ta
open Go.Sort
def headS : Str := [111, 114, 105, 103, 105, 110, 32, 122, 122, 10, 122, 122, 32, 53, 48, 32, 83, 79, 65, 32, 97, 46, 122, 122, 32, 98, 46, 122, 122, 32, 57, 32, 52, 48, 10, 122, 122, 32, 53, 48, 32, 78, 83, 32, 97, 46, 122, 122, 10]
def linesS : Str := [42, 46, 119, 46, 122, 122, 32, 51, 32, 84, 88, 84, 32, 115, 116, 97, 114, 10, 116, 104, 101, 114, 101, 46, 119, 46, 122, 122, 32, 51, 32, 65, 32, 49, 46, 49, 46, 49, 46, 49, 10, 120, 46, 105, 110, 110, 101, 114, 46, 119, 46, 122, 122, 32, 51, 32, 65, 32, 50, 46, 50, 46, 50, 46, 50, 10]
def zz : Str := [122, 122]
def recs0 : List Rec := [([122, 122], 50, 6, [97, 46, 122, 122, 32, 98, 46, 122, 122, 32, 57, 32, 52, 48]), ([122, 122], 50, 2, [97, 46, 122, 122]), ([42, 46, 119, 46, 122, 122], 3, 16, [115, 116, 97, 114]), ([116, 104, 101, 114, 101, 46, 119, 46, 122, 122], 3, 1, [49, 46, 49, 46, 49, 46, 49]), ([120, 46, 105, 110, 110, 101, 114, 46, 119, 46, 122, 122], 3, 1, [50, 46, 50, 46, 50, 46, 50])]
def recs : List Rec := [([42, 46, 119, 46, 122, 122], 3, 16, [115, 116, 97, 114]), ([116, 104, 101, 114, 101, 46, 119, 46, 122, 122], 3, 1, [49, 46, 49, 46, 49, 46, 49]), ([120, 46, 105, 110, 110, 101, 114, 46, 119, 46, 122, 122], 3, 1, [50, 46, 50, 46, 50, 46, 50]), ([122, 122], 50, 2, [97, 46, 122, 122]), ([122, 122], 50, 6, [97, 46, 122, 122, 32, 98, 46, 122, 122, 32, 57, 32, 52, 48])]

theorem read1 : readZ (headS ++ linesS) = some (zz, recs0) := by kernel_rfl
theorem read2 : readZ (headS ++ linesS ++ [10]) = none := by kernel_rfl
theorem sort1 : sortL recs0 = recs := by
  unfold sortL Sort.insertionSort
  simp only [show recs0.length = 5 from rfl]
  rw [insOuter_go _ _ _ _ _ (by decide), insOuter_go _ _ _ _ _ (by decide), insOuter_go _ _ _ _ _ (by decide), insOuter_go _ _ _ _ _ (by decide), insOuter_stop _ _ _ _ _ (by decide)]
  kernel_rfl
theorem starts1 : Rf.startsR zz recs0 = true := by kernel_rfl
theorem right1 : rightP zz recs = true := by kernel_rfl
theorem parse1 : parseP (headS ++ linesS) = some (zz, recs) := by
  unfold parseP
  rw [read1]
  show (if Rf.startsR zz recs0 && rightP zz (sortL recs0) then some (zz, sortL recs0) else none) = _
  rw [sort1, starts1, right1]; rfl
theorem parse2 : parseP (headS ++ linesS ++ [10]) = none := by
  unfold parseP
  rw [read2]; rfl
end Ta
end Go.Proofs.YtjkllohiodfikaaGreatDoor
