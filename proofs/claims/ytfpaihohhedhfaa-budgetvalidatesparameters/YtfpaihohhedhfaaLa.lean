/-
  THE LAW BudgetValidatesParameters: its walk.
  Conditions: the arguments lie in their kinds' ranges.
-/
import Derived.Test.YtfpaihohhedhfaaC
namespace Go.Proofs.Ytfpaihohhedhfaa
open Go.ChangeShapes Go.WideShapes Go.ChangeAt Go.RowKit
set_option linter.unusedVariables false

set_option maxHeartbeats 4000000 in
theorem validates_walk (n wd : Int) (w : World) (hn : -9223372036854775808 ≤ n ∧ n ≤ 9223372036854775807) (hw : U64 wd) :
    Calls Try.prog 3 #[.int .i64 n, .int .u64 wd] w fun e w' => e = .returned (.bool true) ∧ Fr No w w' := by
  obtain ⟨v, hv⟩ : ∃ v, okB n wd = v := ⟨_, rfl⟩
  have HV := Lib.hid (valid_any n wd)
  rw [hv] at HV
  have HA := Lib.hid (And.intro hn hw)
  by_cases h : 0 ≤ n ∧ n ≤ 1000 ∧ 1 ≤ wd ∧ wd ≤ 1099511627776
  · have e1 : v = true := by rw [← hv]; exact decide_eq_true h
    subst e1
    have HN := Lib.hid (new_one n wd w w (Fr.refl _ _) h)
    have q0 : (n == n) = true := by simp
    have HQ := Lib.hid (show (0 : Int) / wd = 0 ∧ n - cu 0 0 0 = n from ⟨Int.zero_ediv _, by unfold cu; rw [if_neg (by omega)]; omega⟩)
    clear hv h hn hw
    go_enter Try.func3, Try.ntmps3
    go_wp2_with fail
    refine HN.out.mono ?_
    rintro e w1 ⟨b, rfl, H1⟩
    have H1 := Lib.hid H1
    go_wp2_with fail
    refine (HV.out w1 HA.out.1 HA.out.2).mono ?_
    rintro e w2 ⟨rfl, hw2⟩
    subst hw2
    go_wp2_with fail
    refine (awake_any _).mono ?_
    rintro e w3 ⟨rfl, hf3⟩
    have H3 := Lib.hid (H1.out.no hf3)
    clear hf3
    go_wp2_with fail
    refine (H3.out.used).mono ?_
    rintro e w4 ⟨rfl, hw4⟩
    subst hw4
    go_wp2_with fail
    refine (H3.out.win).mono ?_
    rintro e w4 ⟨rfl, hw4⟩
    subst hw4
    go_wp2_with fail
    refine (H3.out.rem (a := 0) (q := 0) (r := n) (by unfold U64; omega) HQ.out.1 HQ.out.2).mono ?_
    rintro e w5 ⟨rfl, H5⟩
    have H5 := Lib.hid H5
    go_wp2_with fail
    go_ret
    exact ⟨rfl, H5.out.fr⟩
  · have e1 : v = false := by rw [← hv]; exact decide_eq_false h
    subst e1
    have HN := Lib.hid (new_no n wd w hn hw h)
    clear hv h hn hw
    go_enter Try.func3, Try.ntmps3
    go_wp2_with fail
    refine HN.out.mono ?_
    rintro e w1 ⟨rfl, hw1⟩
    subst hw1
    go_wp2_with fail
    refine (HV.out _ HA.out.1 HA.out.2).mono ?_
    rintro e w2 ⟨rfl, hw2⟩
    subst hw2
    go_wp2_with fail
    refine (awake_any _).mono ?_
    rintro e w3 ⟨rfl, hf3⟩
    have H3 := Lib.hid hf3
    clear hf3
    go_wp2_with fail
    go_ret
    exact ⟨rfl, H3.out⟩
end Go.Proofs.Ytfpaihohhedhfaa
