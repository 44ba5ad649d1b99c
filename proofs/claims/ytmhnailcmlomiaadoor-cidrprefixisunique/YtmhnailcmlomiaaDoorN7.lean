/-
  CONTRACTS of the library's strings.HasSuffix, strings.Count at one byte and strings.LastIndexByte, over this seat's translation: what each call returns.
  Conditions: none.
  CONTRACT of package host's ParsePort, over this seat's translation: what the call returns.
  Conditions: the string is shorter than 2 to the 31.
  CONTRACTS of package host's IsSubdomain and LabelCount, over this seat's translation: what each call returns.
  Conditions: the strings are shorter than 2 to the 31.
-/
import Derived.Test.YtmhnailcmlomiaaDoorN2
import Derived.Test.YtmhnailcmlomiaaDoorP3
import Derived.Lib.Bytealg
import Derived.Test.YtmhnailcmlomiaaDoorR2
namespace Go.Proofs.YtmhnailcmlomiaaDoor
open Go.ChangeShapes Go.WideShapes Go.ChangeAt Go.RowKit
set_option linter.unusedVariables false

/-- Whether the first bytes end with the second. -/
def sufV (l m : List UInt8) : Bool := decide (m.length ≤ l.length) && decide (l.drop (l.length - m.length) = m)

/-- Where a byte stands last. -/
def lastc (c : UInt8) : List UInt8 → Option Nat
  | [] => none
  | x :: r => match lastc c r with
    | some i => some (i + 1)
    | none => if x = c then some 0 else none
def lastN : Option Nat → Int
  | some i => i
  | none => -1
theorem lastc_none {c : UInt8} : ∀ {l : List UInt8}, (∀ (j : Nat) (x : UInt8), l[j]? = some x → x ≠ c) → lastc c l = none
  | [], h => rfl
  | x :: r, h => by
    have ih := lastc_none (c := c) (l := r) (fun (j : Nat) (y : UInt8) hy => h (j + 1) y (by rw [List.getElem?_cons_succ]; exact hy))
    rw [lastc, ih]
    exact if_neg (h 0 x rfl)
theorem lastc_some {c : UInt8} : ∀ {l : List UInt8} {i : Nat}, l[i]? = some c → (∀ (j : Nat) (x : UInt8), i < j → l[j]? = some x → x ≠ c) → lastc c l = some i
  | x :: r, 0, h, hn => by
    have ih := lastc_none (c := c) (l := r) (fun (j : Nat) (y : UInt8) hy => hn (j + 1) y (by omega) (by rw [List.getElem?_cons_succ]; exact hy))
    rw [lastc, ih]
    cases h
    exact if_pos rfl
  | x :: r, i + 1, h, hn => by
    rw [List.getElem?_cons_succ] at h
    have ih := lastc_some (c := c) (l := r) h (fun (j : Nat) (y : UInt8) hj hy => hn (j + 1) y (by omega) (by rw [List.getElem?_cons_succ]; exact hy))
    rw [lastc, ih]
theorem lastc_lt {c : UInt8} : ∀ {l : List UInt8} {i : Nat}, lastc c l = some i → l[i]? = some c
  | x :: r, i, h => by
    rw [lastc] at h
    cases hr : lastc c r with
    | some k => rw [hr] at h; cases h; rw [List.getElem?_cons_succ]; exact lastc_lt hr
    | none =>
      rw [hr] at h
      by_cases hx : x = c
      · rw [if_pos hx] at h; cases h; rw [hx]; rfl
      · rw [if_neg hx] at h; cases h

end Go.Proofs.YtmhnailcmlomiaaDoor
namespace Go.Proofs.YtmhnailcmlomiaaDoor
open Go.ChangeShapes Go.WideShapes Go.ChangeAt Go.RowKit
set_option linter.unusedVariables false

/-- A port and whether there is one. -/
def ansP (o : Option Nat) : Value := .tuple #[.int .i64 (portN o : Nat), .bool o.isSome]

end Go.Proofs.YtmhnailcmlomiaaDoor
namespace Go.Proofs.YtmhnailcmlomiaaDoor
open Go.ChangeShapes Go.WideShapes Go.ChangeAt Go.RowKit
set_option linter.unusedVariables false

/-- Whether a name is a suffix or below it. -/
def subV (a b : List UInt8) : Bool := nameV a && nameV b && (decide (a = b) || sufV a (46 :: b))
/-- A name's labels. -/
def cntV (a : List UInt8) : Nat := if nameV a then (splitc 46 a).length else 0

theorem splitc_count (c : UInt8) : ∀ l : List UInt8, (splitc c l).length = l.count c + 1
  | [] => by simp [splitc]
  | x :: l => by
    have ih := splitc_count c l
    rw [splitc]
    by_cases h : x = c
    · subst h
      simp [ih]
    · rw [List.count_cons_of_ne (by simpa using h)]
      split
      · rename_i h2; exact absurd h2 h
      · split
        · rename_i e; rw [e] at ih; simp at ih
        · rename_i a t e; rw [e] at ih; simpa using ih
theorem bs_append (a b : List UInt8) : bs a ++ bs b = bs (a ++ b) := by
  apply ByteArray.ext
  apply Array.toList_inj.1
  simp [bs]

end Go.Proofs.YtmhnailcmlomiaaDoor
