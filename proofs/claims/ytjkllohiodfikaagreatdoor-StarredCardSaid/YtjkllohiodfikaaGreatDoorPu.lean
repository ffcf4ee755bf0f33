/- Plain functions on lists of bytes: what the small functions of the program compute. Nothing of the translation is named here. -/
import Derived.WalkKit
set_option linter.unusedSimpArgs false
set_option linter.unusedVariables false
namespace Go.Proofs.YtjkllohiodfikaaGreatDoor
namespace Pu

abbrev Str := List UInt8

/-- kept from the walk's rewriting. -/
theorem hide {p : Prop} (h : p) : Go.RowKit.Hid p := h
theorem unhide {p : Prop} (h : Go.RowKit.Hid p) : p := h

def signI (n : Int) : Bool := (decide (97 ≤ n) && decide (n ≤ 122)) || (decide (48 ≤ n) && decide (n ≤ 57)) || n == 45 || n == 95
def sign (c : UInt8) : Bool := signI c.toNat
def label (l : Str) : Bool := decide (1 ≤ l.length) && decide (l.length ≤ 20) && l.all sign
def wordI (n : Int) : Bool := decide (33 ≤ n) && decide (n ≤ 126)
def word (l : Str) : Bool := l.all (fun c => wordI c.toNat) && decide (1 ≤ l.length) && decide (l.length ≤ 40)
def digitI (n : Int) : Bool := decide (48 ≤ n) && decide (n ≤ 57)

/-- the number that digits say, each step held against the greatest; none: a sign that is no digit, or too great. -/
def numFrom (most : Nat) : Nat → Str → Option Nat
  | n, [] => some n
  | n, c :: r => if digitI c.toNat then (if 10 * n + (c.toNat - 48) ≤ most then numFrom most (10 * n + (c.toNat - 48)) r else none) else none
/-- a number as it is written: 0, or digits, the first not 0. -/
def num (most : Nat) (l : Str) : Option Nat :=
  match l with
  | [] => none
  | c :: r => if c.toNat = 48 ∧ r ≠ [] then none else numFrom most 0 (c :: r)

def kindOf (l : Str) : Int :=
  if l = [65] then 1 else if l = [78, 83] then 2 else if l = [67, 78, 65, 77, 69] then 5 else if l = [83, 79, 65] then 6
  else if l = [77, 88] then 15 else if l = [84, 88, 84] then 16 else 0

/-- which of n things a raw number speaks of. -/
def pick (c n : Int) : Int := if c < 0 then (-(c + 1)) % n else c % n

/-- a number's digits, the last one's place first reckoned. -/
def digitsAux : Nat → Nat → Str → Str
  | 0, _, s => s
  | f + 1, n, s => if n < 10 then s else digitsAux f (n / 10) (UInt8.ofNat (48 + n / 10 % 10) :: s)
def digits (n : Nat) : Str := digitsAux 20 n [UInt8.ofNat (48 + n % 10)]

theorem take_snoc (s : ByteArray) (k : Nat) (h : k < s.size) : s.data.toList.take (k + 1) = s.data.toList.take k ++ [s[k]] := by
  rw [List.take_succ_eq_append_getElem (by simpa using h)]; rfl

theorem drop_cons (s : ByteArray) (k : Nat) (h : k < s.size) : s.data.toList.drop k = s[k] :: s.data.toList.drop (k + 1) := by
  rw [List.drop_eq_getElem_cons (by simpa using h)]; rfl

theorem drop_end (s : ByteArray) : s.data.toList.drop s.size = [] := by
  rw [List.drop_eq_nil_iff]; simp

theorem len_eq (s : ByteArray) : s.data.toList.length = s.size := by simp

end Pu
end Go.Proofs.YtjkllohiodfikaaGreatDoor
