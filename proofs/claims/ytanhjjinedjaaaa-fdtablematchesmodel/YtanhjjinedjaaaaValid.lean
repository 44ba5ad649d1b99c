/-
  CONTRACTS of valid and of the reference's ValidEndpoint, over this seat's translation: what each call returns.
  Conditions: none.
-/
import Derived.Test.YtanhjjinedjaaaaMem
namespace Go.Proofs.Ytanhjjinedjaaaa
open Go.ChangeShapes Go.WideShapes Go.ChangeAt Go.RowKit
set_option linter.unusedVariables false

/-- Whether an endpoint can be opened. -/
def Valid (x : Int × Int) : Prop := 0 ≤ x.1 ∧ x.1 < 1048576 ∧ 0 ≤ x.2 ∧ x.2 ≤ 64
instance (x : Int × Int) : Decidable (Valid x) := by unfold Valid; exact inferInstance

theorem valid_yes (xc xa : Int) (w : World) (h : Valid (xc, xa)) : Calls Try.prog 39 #[.agg #[.int .i64 xc, .int .i64 xa]] w fun e w' => e = .returned (.bool true) ∧ Fr No w w' := by
  obtain ⟨p1, p2, p3, p4⟩ := h
  simp only at p1 p2 p3 p4
  go_enter Try.func39, Try.ntmps39
  go_wp2
  go_ret
  exact ⟨rfl, Fr.alloc No _ _⟩

theorem valid_no (xc xa : Int) (w : World) (h : ¬ Valid (xc, xa)) : Calls Try.prog 39 #[.agg #[.int .i64 xc, .int .i64 xa]] w fun e w' => e = .returned (.bool false) ∧ Fr No w w' := by
  by_cases p1 : 0 ≤ xc
  · by_cases p2 : xc < 1048576
    · by_cases p3 : 0 ≤ xa
      · have p4 : ¬ (xa ≤ 64) := fun p4 => h ⟨p1, p2, p3, p4⟩
        clear h
        go_enter Try.func39, Try.ntmps39
        go_wp2
        go_ret
        exact ⟨rfl, Fr.alloc No _ _⟩
      · clear h
        go_enter Try.func39, Try.ntmps39
        go_wp2
        go_ret
        exact ⟨rfl, Fr.alloc No _ _⟩
    · clear h
      go_enter Try.func39, Try.ntmps39
      go_wp2
      go_ret
      exact ⟨rfl, Fr.alloc No _ _⟩
  · clear h
    go_enter Try.func39, Try.ntmps39
    go_wp2
    go_ret
    exact ⟨rfl, Fr.alloc No _ _⟩

end Go.Proofs.Ytanhjjinedjaaaa
