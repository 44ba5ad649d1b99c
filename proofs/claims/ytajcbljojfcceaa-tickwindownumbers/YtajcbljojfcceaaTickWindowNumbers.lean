/-
  The law TickWindowNumbers returns true for all three ticks, and changes nothing that was in memory before.
  Conditions: none beyond the row's own.
-/
import Derived.Test.YtajcbljojfcceaaBase
import Derived.WalkKit
import Derived.ProofKit
import Derived.OpenShut
import Derived.ShutString
import Derived.ChangeOld
import Derived.Below
namespace Go.Proofs.Ytajcbljojfcceaa.tickWindowNumbers
open Go.ChangeShapes Go.WideShapes Go.ChangeAt Go.RowKit
open Go.ChangeMaps (open_string shut_string)
set_option linter.unusedVariables false      -- a walk need not use every 'w<i>' (that an integer argument fits its kind)

theorem own : ownKnob Try.prog.godebug = none := by kernel_rfl

theorem div_mono {a b c : Int} (h : a ≤ b) (hc : 1 ≤ c) : a / c ≤ b / c := Int.ediv_le_ediv (by omega) h
theorem div_mul_div {a c : Int} (hc : 1 ≤ c) : a / c * c / c = a / c := Int.mul_ediv_cancel _ (by omega)
theorem mul_bd {a c : Int} (ha : 0 ≤ a) (hc : 1 ≤ c) : 0 ≤ a / c * c ∧ a / c * c ≤ a :=
  ⟨Int.mul_nonneg (Int.ediv_nonneg ha (by omega)) (by omega), Int.ediv_mul_le a (by omega)⟩
theorem le_addT {a b : Int} (ha : a ≤ 18446744073709551615) (hb : 0 ≤ b) : a ≤ addT a b := by unfold addT; split <;> omega

set_option maxHeartbeats 800000 in
theorem walk (a0 : Int) (a1 : Int) (a2 : Int) (w0 : (Lit.int .u64 a0).wf = true) (w1 : (Lit.int .u64 a1).wf = true) (w2 : (Lit.int .u64 a2).wf = true) (w : World) :
    Calls Try.prog 6 #[.int .u64 a0, .int .u64 a1, .int .u64 a2] w fun e w' => e = .returned (.bool true) ∧ Below w.heap.size w w' := by
  obtain ⟨b00, b01⟩ := bounds_u64 w0
  obtain ⟨b10, b11⟩ := bounds_u64 w1
  obtain ⟨b20, b21⟩ := bounds_u64 w2
  by_cases hz : a2 = 0
  · subst hz
    go_enter Try.func6, Try.ntmps6
    go_wp2_with fail
    refine (window_zero a0 _).mono ?_
    rintro e w' ⟨rfl, rfl⟩
    go_wp2_with fail
    refine (awake_any _).mono ?_
    rintro e w' ⟨rfl, hb⟩
    have HB := Lib.hid hb
    clear hb
    go_wp2
    go_ret
    exact ⟨rfl, HB.out⟩
  · have h1 : 1 ≤ a2 := by omega
    have HA := Lib.hid (addT_bd b00 b10)
    have HM := Lib.hid (mul_bd b00 h1)
    have hq : a0 / a2 ≤ addT a0 a1 / a2 := div_mono (le_addT b01 b10) h1
    have HD := Lib.hid (div_mul_div (a := a0) h1)
    have hm0 : 0 ≤ a0 / a2 * a2 := HM.out.1
    have hm1 : a0 / a2 * a2 ≤ 18446744073709551615 := by have := HM.out.2; omega
    go_enter Try.func6, Try.ntmps6
    go_wp2_with fail
    refine (window_pos a0 a2 _ ⟨b00, b01⟩ h1).mono ?_
    rintro e w' ⟨rfl, rfl⟩
    go_wp2_with fail
    refine (awake_any _).mono ?_
    rintro e w' ⟨rfl, hb⟩
    have HB := Lib.hid hb
    clear hb
    go_wp2_with fail
    refine (tickAdd_any a0 a1 _ ⟨b00, b01⟩ ⟨b10, b11⟩).mono ?_
    rintro e w'' ⟨rfl, rfl⟩
    go_wp2_with fail
    refine (window_pos (addT a0 a1) a2 _ HA.out h1).mono ?_
    rintro e w'' ⟨rfl, rfl⟩
    go_wp2_with fail
    refine (window_pos (a0 / a2 * a2) a2 _ ⟨hm0, hm1⟩ h1).mono ?_
    rintro e w'' ⟨rfl, rfl⟩
    rw [HD.out]
    go_wp2
    go_ret
    exact ⟨rfl, HB.out⟩

set_option maxRecDepth 100000 in
theorem lifted (os : Os) (started : os.Started) (H : Type) (enc : TypeId × Value → H) :
    ReturnsInHanded {} Try.checked os 6 .any (Rows.tickWindowNumbersSpec.pre6 enc Try.prog Try.f6 Rows.tickWindowNumbersRow.domain false) (Rows.tickWindowNumbersSpec.post enc Try.prog Try.f6 false true false false) := by
  refine returnsInHanded_of_change (C := Try.checked) own started (by kernel_rfl) Try.func6
    (ChangeSpec.witness6 (enc := enc) (C := Try.checked) false ⟨#[], #[.int .u64 0, .int .u64 0, .int .u64 0], []⟩ 8 (by kernel_rfl) (by kernel_rfl) (by kernel_rfl) (by kernel_rfl)) ?_
  intro W base args ds gs before hval0 hW hcnd _
  have hval : ∀ (j : Nat) t v, Try.f6.params[j]? = some t → args[j]? = some v → Value.okWide Try.prog W .any base t v := hval0
  have hW' := hW
  obtain ⟨p, q, hA0, hV, rfl, hfz, hnd⟩ := hW
  have hA : DataW.TrodAll enc Try.prog W 0 (fun _ => true) true Try.f6.params.toList args.toList ds p := hA0
  rw [Try.params6] at hA hval
  obtain ⟨v0, vs0, d0, ds0, p0, q0, hargs, rfl, rfl, h0, r0⟩ := trodAll_cons hA
  obtain ⟨v1, vs1, d1, ds1, p1, q1, rfl, rfl, rfl, h1, r1⟩ := trodAll_cons r0
  obtain ⟨v2, vs2, d2, ds2, p2, q2, rfl, rfl, rfl, h2, r2⟩ := trodAll_cons r1
  obtain ⟨rfl, rfl, rfl⟩ := trodAll_nil r2
  obtain rfl : args = #[v0, v1, v2] := by cases args; simp_all
  obtain ⟨rfl, rfl⟩ := trodVars_none hV
  obtain ⟨a0, rfl, rfl, rfl, w0⟩ := open_int Try.underlying22 (hval 0 22 v0 rfl rfl) h0
  obtain ⟨a1, rfl, rfl, rfl, w1⟩ := open_int Try.underlying22 (hval 1 22 v1 rfl rfl) h1
  obtain ⟨a2, rfl, rfl, rfl, w2⟩ := open_int Try.underlying22 (hval 2 22 v2 rfl rfl) h2
  clear hA0 hval0
  refine (walk a0 a1 a2 w0 w1 w2 W).mono fun e W' ⟨he, bel⟩ => ?_
  subst he
  exact ⟨_, rfl, _, _, _, [], _, [], hW', trodAll_mk1 (shut_bool Try.underlying4 _), (trodAll_cons_mk (shut_int Try.underlying22 w0) (trodAll_cons_mk (shut_int Try.underlying22 w1) (trodAll_cons_mk (shut_int Try.underlying22 w2) trodAll_mk0))), rfl, bel.frame _, fun h => by cases h⟩

theorem over : Rows.tickWindowNumbersRow.holds Try.pinned (OpenSpec.ofChange Rows.tickWindowNumbersSpec) :=
  OpenClaim.holds_of_wide 6 Try.f6 rfl rfl rfl rfl rfl rfl rfl ⟨rfl, rfl, rfl, rfl, rfl⟩ rfl rfl rfl rfl rfl (by kernel_rfl) Try.func6 (by kernel_rfl)
    (of_decide_eq_true (by kernel_rfl)) (by unfold Func.isWrapper; first | (rw [if_pos (by decide +kernel)]; kernel_rfl) | (rw [if_neg (by decide +kernel)]; exact ⟨rfl, rfl⟩))
    (fun os started H enc _ => lifted os started H enc)

end Go.Proofs.Ytajcbljojfcceaa.tickWindowNumbers

namespace Go.Proofs.Ytajcbljojfcceaa
/-- The statement. -/
theorem tickWindowNumbers_holds : Rows.TickWindowNumbersSaid := tickWindowNumbers.over
#print axioms tickWindowNumbers_holds
end Go.Proofs.Ytajcbljojfcceaa
