/-
  CONTRACTS of the reference's parseGroup, over this seat's translation: what the call returns.
  Conditions: none.
-/
import Derived.Test.YtmhnailcmlomiaaDoorR2
import Derived.Test.YtmhnailcmlomiaaDoorP3
namespace Go.Proofs.YtmhnailcmlomiaaDoor
open Go.ChangeShapes Go.WideShapes Go.ChangeAt Go.RowKit
set_option linter.unusedVariables false

end Go.Proofs.YtmhnailcmlomiaaDoor
