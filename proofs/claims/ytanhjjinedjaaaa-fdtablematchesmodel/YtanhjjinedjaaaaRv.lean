/-
  CONTRACT of the reference's ValidEndpoint, over this seat's translation: what the call returns.
  Conditions: none.
-/
import Derived.Test.YtanhjjinedjaaaaValid
namespace Go.Proofs.Ytanhjjinedjaaaa
open Go.ChangeShapes Go.WideShapes Go.ChangeAt Go.RowKit
set_option linter.unusedVariables false

theorem refValid_yes (xc xa : Int) (w : World) (h : Valid (xc, xa)) : Calls Try.prog 30 #[.agg #[.int .i64 xc, .int .i64 xa]] w fun e w' => e = .returned (.bool true) ∧ Fr No w w' := by
  obtain ⟨p1, p2, p3, p4⟩ := h
  simp only at p1 p2 p3 p4
  go_enter Try.func30, Try.ntmps30
  go_wp2
  go_ret
  exact ⟨rfl, Fr.alloc No _ _⟩

theorem refValid_no (xc xa : Int) (w : World) (h : ¬ Valid (xc, xa)) : Calls Try.prog 30 #[.agg #[.int .i64 xc, .int .i64 xa]] w fun e w' => e = .returned (.bool false) ∧ Fr No w w' := by
  by_cases p1 : 0 ≤ xc
  · by_cases p2 : xc < 1048576
    · by_cases p3 : 0 ≤ xa
      · have p4 : ¬ (xa ≤ 64) := fun p4 => h ⟨p1, p2, p3, p4⟩
        clear h
        go_enter Try.func30, Try.ntmps30
        go_wp2
        go_ret
        exact ⟨rfl, Fr.alloc No _ _⟩
      · clear h
        go_enter Try.func30, Try.ntmps30
        go_wp2
        go_ret
        exact ⟨rfl, Fr.alloc No _ _⟩
    · clear h
      go_enter Try.func30, Try.ntmps30
      go_wp2
      go_ret
      exact ⟨rfl, Fr.alloc No _ _⟩
  · clear h
    go_enter Try.func30, Try.ntmps30
    go_wp2
    go_ret
    exact ⟨rfl, Fr.alloc No _ _⟩

end Go.Proofs.Ytanhjjinedjaaaa
