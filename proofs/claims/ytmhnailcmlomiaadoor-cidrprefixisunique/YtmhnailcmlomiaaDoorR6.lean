/-
  CONTRACTS of the reference's V6, over this seat's translation: what the call returns.
  Conditions: the groups lie in memory.
-/
import Derived.Test.YtmhnailcmlomiaaDoorW
import Derived.Deep.RegionHeld3
namespace Go.Proofs.YtmhnailcmlomiaaDoor
open Go.ChangeShapes Go.WideShapes Go.ChangeAt Go.RowKit
set_option linter.unusedVariables false

end Go.Proofs.YtmhnailcmlomiaaDoor
