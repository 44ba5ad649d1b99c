/-
  CONTRACT of Overwrite at prefixes, over this seat's translation: it writes into the row that it is given alone.
  Conditions: the row is the call's own.
-/
import Derived.Test.YtnadendhboiliaaGreatEq
import Derived.Test.YtnadendhboiliaaGreatGb
import Derived.Test.YtnadendhboiliaaGreatMa
namespace Go.Proofs.YtnadendhboiliaaGreat
open Go.ChangeShapes Go.WideShapes Go.ChangeAt Go.RowKit
set_option linter.unusedVariables false

theorem store_at' {P : Program} {w : World} {B o : Nat} {cs : Array Value} {t : TypeId} (xs : List Value) (h : w.heap[B]? = some (.cells cs t (0, 0))) (hl : o + xs.length ≤ cs.size) (h1 : ∀ u ∈ xs, u.oneCell' = true) :
    ∃ y, Sem.run P (storeCells ⟨B, o, none⟩ xs 0) w = .ok () y ∧ (∃ c2, y.heap[B]? = some (.cells c2 t (0, 0)) ∧ c2.size = cs.size) ∧ Fr (fun k => k = B) w y := by
  obtain ⟨y, h2, h3, h4⟩ := store_at xs h hl h1
  refine ⟨y, h2, ⟨_, h3, ?_⟩, h4⟩
  simp
  omega
end Go.Proofs.YtnadendhboiliaaGreat
