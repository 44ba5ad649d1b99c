/-
  CONTRACTS of the reference's Contains and Covers, over this seat's translation: what each call returns.
  Conditions: the arguments are addresses and prefixes.
-/
import Derived.Test.YtmhnailcmlomiaaDoorCg
namespace Go.Proofs.YtmhnailcmlomiaaDoor
open Go.ChangeShapes Go.WideShapes Go.ChangeAt Go.RowKit
set_option linter.unusedVariables false

end Go.Proofs.YtmhnailcmlomiaaDoor
