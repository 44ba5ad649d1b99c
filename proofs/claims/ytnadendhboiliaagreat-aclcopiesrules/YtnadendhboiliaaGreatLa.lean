/-
  THE LAW AclTargetDecision: its walk; what New gives of generated rules.
  Conditions: the list lies in memory.
-/
import Derived.Test.YtnadendhboiliaaGreatRs
import Derived.Test.YtnadendhboiliaaGreatRw
import Derived.Test.YtnadendhboiliaaGreatRo
import Derived.Test.YtnadendhboiliaaGreatLd
import Derived.Deep.DeepCutAuto
import Derived.Deep.CutBlock
namespace Go.Proofs.YtnadendhboiliaaGreat
open Go.ChangeShapes Go.WideShapes Go.ChangeAt Go.RowKit
set_option linter.unusedVariables false

end Go.Proofs.YtnadendhboiliaaGreat
