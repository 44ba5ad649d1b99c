/-
  CONTRACT of the reference's ValidPrefix, over this seat's translation: what the call returns.
  Conditions: the argument is a prefix.
-/
import Derived.Test.YtmhnailcmlomiaaDoorCf
import Derived.Deep.RegionHeld3
namespace Go.Proofs.YtmhnailcmlomiaaDoor
open Go.ChangeShapes Go.WideShapes Go.ChangeAt Go.RowKit
set_option linter.unusedVariables false

theorem bitX_lt (xs : List Nat) (i : Nat) : bitX xs i < 2 := Nat.mod_lt _ (by decide)

end Go.Proofs.YtmhnailcmlomiaaDoor
