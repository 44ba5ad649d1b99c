/-
  CONTRACTS of package host's isDigit, isLowerLetter, allDigits, isLabel and isName, over this seat's translation: what each call returns.
  Conditions: none.
  CONTRACT of package host's isName, over this seat's translation: what the call returns.
  Conditions: none.
-/
import Derived.Test.YtmhnailcmlomiaaDoorR2
namespace Go.Proofs.YtmhnailcmlomiaaDoor
open Go.ChangeShapes Go.WideShapes Go.ChangeAt Go.RowKit
set_option linter.unusedVariables false

def isDig (c : UInt8) : Bool := decide (48 ≤ c.toNat) && decide (c.toNat ≤ 57)
def isLow (c : UInt8) : Bool := decide (97 ≤ c.toNat) && decide (c.toNat ≤ 122)
def isLab (c : UInt8) : Bool := isDig c || isLow c || decide (c = 45)
/-- Whether these bytes are a label. -/
def labV (x : List UInt8) : Bool := decide (1 ≤ x.length) && decide (x.length ≤ 63) && decide (x.head? ≠ some 45) && decide (x.getLast? ≠ some 45) && x.all isLab
/-- Whether these bytes are a host name. -/
def nameV (l : List UInt8) : Bool := decide (l.length ≤ 253) && (splitc 46 l).all labV && !((splitc 46 l).getLastD []).all isDig

theorem all_no {p : UInt8 → Bool} {l : List UInt8} {i : Nat} {c : UInt8} (h : l[i]? = some c) (hc : p c = false) : l.all p = false := by
  cases ha : l.all p with
  | false => rfl
  | true => rw [List.all_eq_true.1 ha c (List.mem_of_getElem? h)] at hc; cases hc
theorem all_yes {p : UInt8 → Bool} {l : List UInt8} (h : ∀ j c, j < l.length → l[j]? = some c → p c = true) : l.all p = true := by
  rw [List.all_eq_true]
  intro c hc
  obtain ⟨k, hk, he⟩ := List.mem_iff_getElem.1 hc
  exact h k c hk (by rw [List.getElem?_eq_getElem hk, he])

end Go.Proofs.YtmhnailcmlomiaaDoor
namespace Go.Proofs.YtmhnailcmlomiaaDoor
open Go.ChangeShapes Go.WideShapes Go.ChangeAt Go.RowKit
set_option linter.unusedVariables false

theorem name_end {l x : List UInt8} {done : List (List UInt8)} (hl : l.length ≤ 253) (hs : splitc 46 l = done ++ [x]) (hd : done.all labV = true) : nameV l = (labV x && !x.all isDig) := by
  unfold nameV
  rw [decide_eq_true hl, hs, List.all_append, hd, List.getLastD_concat]
  simp
theorem name_bad {l x : List UInt8} {done r : List (List UInt8)} (hs : splitc 46 l = (done ++ [x]) ++ r) (hx : labV x = false) : nameV l = false := by
  unfold nameV
  rw [hs, List.all_append, List.all_append]
  simp [hx]

end Go.Proofs.YtmhnailcmlomiaaDoor
