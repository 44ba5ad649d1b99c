/-
  CONTRACT of the reference's PrefixOf, over this seat's translation: what the call returns.
  Conditions: the argument is an address.
-/
import Derived.Test.YtgbbgkbpafpnbaaCb
import Derived.Test.YtgbbgkbpafpnbaaR10
namespace Go.Proofs.Ytgbbgkbpafpnbaa
open Go.ChangeShapes Go.WideShapes Go.ChangeAt Go.RowKit
set_option linter.unusedVariables false

end Go.Proofs.Ytgbbgkbpafpnbaa
