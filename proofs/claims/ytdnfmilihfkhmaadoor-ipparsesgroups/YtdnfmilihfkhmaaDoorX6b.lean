/-
  THE WALK of the law IpParsesGroups, in the frame's order.
  Conditions: as in its walk.
-/
import Derived.Test.YtdnfmilihfkhmaaDoorX6
namespace Go.Proofs.YtdnfmilihfkhmaaDoor
open Go.ChangeShapes Go.WideShapes Go.ChangeAt Go.RowKit
set_option linter.unusedVariables false
theorem groups_law (ad : Option Addr) (n cp : Nat) (gs : List Nat) (t : Int) (four upper : Bool) {w : World} (hat : At w ad (nums .u16 gs)) (hgl : gs.length = n) (hnc : n ≤ cp) (hnl : ad = none → cp = 0) (hg6 : ∀ g ∈ gs, g < 65536) (ht : -9223372036854775808 ≤ t ∧ t ≤ 9223372036854775807) (w' : World) (hG : Gl w) :
    Calls Tryd.prog 6 #[.slice ad n cp, .int .i64 t, .bool four, .bool upper] w fun e w' => e = .returned (.bool true) ∧ Fr No w w' := groups_walk ad n cp gs t four upper w hG hat hgl hg6
end Go.Proofs.YtdnfmilihfkhmaaDoor
