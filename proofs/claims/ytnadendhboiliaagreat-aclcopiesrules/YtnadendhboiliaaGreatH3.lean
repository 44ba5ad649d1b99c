/-
  CONTRACTS of joinGroups, formatV4, formatV6 and Format, over this seat's translation: what each call returns.
  Conditions: the argument is an address; the groups lie in memory; the package variables are as Glob says.
  CONTRACTS of strconv.Itoa of a byte, formatV4, formatV6 and Format, over this seat's translation: what each call returns.
  Conditions: the argument is an address; the package variables are as Gl says.
-/
import Derived.Test.YtnadendhboiliaaGreatGr
import Derived.Test.YtnadendhboiliaaGreatA
import Derived.Deep.RegionHeld3
import Derived.Lib.Join
import Derived.Lib.ItoaNum
import Derived.Lib.Strings
import Derived.Lib.Bytealg
import Derived.Shelf.Strings.Cut
namespace Go.Proofs.YtnadendhboiliaaGreat
open Go.ChangeShapes Go.WideShapes Go.ChangeAt Go.RowKit
set_option linter.unusedVariables false

/-- Strings with a sign between them. -/
def joinN (sep : Nat) : List (List Nat) → List Nat
  | [] => []
  | [x] => x
  | x :: y :: r => x ++ sep :: joinN sep (y :: r)

end Go.Proofs.YtnadendhboiliaaGreat
namespace Go.Proofs.YtnadendhboiliaaGreat
open Go.ChangeShapes Go.WideShapes Go.ChangeAt Go.RowKit
set_option linter.unusedVariables false

/-- A number's decimal digits. -/
def decN (n : Nat) : List Nat := if h : n < 10 then [48 + n] else decN (n / 10) ++ [48 + n % 10]
termination_by n
decreasing_by omega

theorem decN_small {n : Nat} (h : n < 10) : decN n = [48 + n] := by rw [decN, dif_pos h]
theorem decN_big {n : Nat} (h : 10 ≤ n) : decN n = decN (n / 10) ++ [48 + n % 10] := by rw [decN, dif_neg (by omega)]
theorem decN_digits (n : Nat) : Lib.decDigits n = (decN n).map UInt8.ofNat := by
  induction n using Nat.strongRecOn with
  | ind n ih =>
    by_cases h : n < 10
    · rw [decN_small h, Lib.decDigits, dif_pos h]; rfl
    · rw [decN_big (by omega), Lib.decDigits, dif_neg h, ih (n / 10) (by omega)]; simp
/-- An IPv4 address's text. -/
def fmt4 (xs : List Nat) : List Nat := joinN 46 ((xs.take 4).map decN)

/-- An IPv6 address's text, of its groups. -/
def fmt6 (gs : List Nat) : List Nat := if (scanZ gs 0 0 0 0).2 < 2 then joinN 58 (gs.map hexN) else joinN 58 ((gs.take (scanZ gs 0 0 0 0).1).map hexN) ++ [58, 58] ++ joinN 58 ((gs.drop ((scanZ gs 0 0 0 0).1 + (scanZ gs 0 0 0 0).2)).map hexN)

/-- An address's text. -/
def fmtA (b : Bool) (xs : List Nat) : List Nat := if validA b xs then (if b then fmt6 (grps xs) else fmt4 xs) else []

end Go.Proofs.YtnadendhboiliaaGreat
