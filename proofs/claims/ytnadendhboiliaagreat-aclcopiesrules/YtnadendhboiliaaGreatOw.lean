/-
  CONTRACT of Overwrite at prefixes, over this seat's translation: it writes into the row that it is given alone.
  Conditions: the row is the call's own.
-/
import Derived.Test.YtnadendhboiliaaGreatEq
import Derived.Test.YtnadendhboiliaaGreatGb
import Derived.Test.YtnadendhboiliaaGreatMa
namespace Go.Proofs.YtnadendhboiliaaGreat
open Go.ChangeShapes Go.WideShapes Go.ChangeAt Go.RowKit
set_option linter.unusedVariables false

end Go.Proofs.YtnadendhboiliaaGreat
