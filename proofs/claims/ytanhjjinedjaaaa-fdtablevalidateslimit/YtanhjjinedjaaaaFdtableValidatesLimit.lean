/-
  The law FdtableValidatesLimit returns true for every number, and changes nothing that was in memory before.
  Conditions: none beyond the row's own.
-/
import Derived.Test.YtanhjjinedjaaaaAwake
import Derived.WalkKit
import Derived.ProofKit
import Derived.OpenShut
import Derived.ShutString
import Derived.ChangeOld
import Derived.Below
namespace Go.Proofs.Ytanhjjinedjaaaa.fdtableValidatesLimit
open Go.ChangeShapes Go.WideShapes Go.ChangeAt Go.RowKit
open Go.ChangeMaps (open_string shut_string)
set_option linter.unusedVariables false      -- a walk need not use every 'w<i>' (that an integer argument fits its kind)

theorem own : ownKnob Try.prog.godebug = none := by kernel_rfl

set_option maxHeartbeats 800000 in
theorem walk (a0 : Int) (w0 : (Lit.int .i64 a0).wf = true) (w : World) :
    Calls Try.prog 3 #[.int .i64 a0] w fun e w' => e = .returned (.bool true) ∧ Below w.heap.size w w' := by
  by_cases hok : 1 ≤ a0 ∧ a0 ≤ 256
  · obtain ⟨n, rfl⟩ : ∃ n : Nat, a0 = n := ⟨a0.toNat, by omega⟩
    obtain ⟨p1, p2⟩ := hok
    clear w0
    go_enter Try.func3, Try.ntmps3
    go_wp2_with fail
    refine (new_ok (fun k => w.heap.size ≤ k) n _ (by omega) (by omega) (fun k hk => hk)).mono ?_
    rintro e w1 ⟨hb, rfl, hA1, hf1⟩
    have H1 : Hid (Duo w w1 No (Tab hb [] n 0) Nil) := (duo_born (tab_mov hb [] n 0) hA1 (fun k hk => hk) hf1 (Fr.refl _ _)).less fun k hk => hk.elim
    clear hA1 hf1
    go_wp2_with fail
    refine (awake_any _).mono ?_
    rintro e w2 ⟨rfl, hf2⟩
    have H2 := Lib.hid (H1.out.frNo hf2)
    clear hf2 H1
    go_wp2_with fail
    refine (duo_free H2.out 0 n rfl (by omega)).mono ?_
    rintro e w3 ⟨rfl, hf3⟩
    have H3 := Lib.hid (H2.out.frNo hf3)
    clear hf3 H2
    go_wp2_with fail
    refine (duo_len H3.out 0 rfl).mono ?_
    rintro e w4 ⟨rfl, hw⟩
    have hw' := hw.symm
    subst hw'
    clear hw
    go_wp2_with fail
    refine (duo_total H3.out).mono ?_
    rintro e w5 ⟨rfl, hw⟩
    have hw' := hw.symm
    subst hw'
    clear hw
    go_wp2_with fail
    refine (duo_ends H3.out).mono ?_
    rintro e w6 ⟨ra, rn, rc, rfl, hE, hf6⟩
    obtain rfl : rn = 0 := hE.len
    have H6 := Lib.hid (H3.out.frNo hf6)
    clear hf6 hE H3
    go_wp2_with fail
    go_ret
    exact ⟨rfl, H6.out.fr.below (fun k hk => hk) (Nat.le_refl _)⟩
  · have hbad : a0 < 1 ∨ 256 < a0 := by omega
    by_cases h1 : a0 < 1
    · have q1 : ¬ (1 ≤ a0) := by omega
      clear hok w0
      go_enter Try.func3, Try.ntmps3
      go_wp2_with fail
      refine (new_bad a0 _ (.inl h1)).mono ?_
      rintro e w1 ⟨rfl, hw1⟩
      have H1 : Hid (w1 = w) := hw1
      clear hw1
      go_wp2_with fail
      refine (awake_any _).mono ?_
      rintro e w2 ⟨rfl, hf2⟩
      have H2 := Lib.hid hf2
      clear hf2
      go_wp2_with fail
      go_ret
      rw [H1.out] at H2
      exact ⟨rfl, (H2.out.no (S := fun k => w.heap.size ≤ k)).below (fun k hk => hk) (Nat.le_refl _)⟩
    · have q1 : 1 ≤ a0 := by omega
      have q2 : ¬ (a0 ≤ 256) := by omega
      have q3 : 256 < a0 := by omega
      clear hok w0
      go_enter Try.func3, Try.ntmps3
      go_wp2_with fail
      refine (new_bad a0 _ (.inr q3)).mono ?_
      rintro e w1 ⟨rfl, hw1⟩
      have H1 : Hid (w1 = w) := hw1
      clear hw1
      go_wp2_with fail
      refine (awake_any _).mono ?_
      rintro e w2 ⟨rfl, hf2⟩
      have H2 := Lib.hid hf2
      clear hf2
      go_wp2_with fail
      go_ret
      rw [H1.out] at H2
      exact ⟨rfl, (H2.out.no (S := fun k => w.heap.size ≤ k)).below (fun k hk => hk) (Nat.le_refl _)⟩

set_option maxRecDepth 100000 in
theorem lifted (os : Os) (started : os.Started) (H : Type) (enc : TypeId × Value → H) :
    ReturnsInHanded {} Try.checked os 3 .any (Rows.fdtableValidatesLimitSpec.pre6 enc Try.prog Try.f3 Rows.fdtableValidatesLimitRow.domain false) (Rows.fdtableValidatesLimitSpec.post enc Try.prog Try.f3 false true false false) := by
  refine returnsInHanded_of_change (C := Try.checked) own started (by kernel_rfl) Try.func3
    (ChangeSpec.witness6 (enc := enc) (C := Try.checked) false ⟨#[], #[.int .i64 0], []⟩ 8 (by kernel_rfl) (by kernel_rfl) (by kernel_rfl) (by kernel_rfl)) ?_
  intro W base args ds gs before hval0 hW hcnd _
  have hval : ∀ (j : Nat) t v, Try.f3.params[j]? = some t → args[j]? = some v → Value.okWide Try.prog W .any base t v := hval0
  have hW' := hW
  obtain ⟨p, q, hA0, hV, rfl, hfz, hnd⟩ := hW
  have hA : DataW.TrodAll enc Try.prog W 0 (fun _ => true) true Try.f3.params.toList args.toList ds p := hA0
  rw [Try.params3] at hA hval
  obtain ⟨v0, vs0, d0, ds0, p0, q0, hargs, rfl, rfl, h0, r0⟩ := trodAll_cons hA
  obtain ⟨rfl, rfl, rfl⟩ := trodAll_nil r0
  obtain rfl : args = #[v0] := by cases args; simp_all
  obtain ⟨rfl, rfl⟩ := trodVars_none hV
  obtain ⟨a0, rfl, rfl, rfl, w0⟩ := open_int Try.underlying3 (hval 0 3 v0 rfl rfl) h0
  clear hA0 hval0
  refine (walk a0 w0 W).mono fun e W' ⟨he, bel⟩ => ?_
  subst he
  exact ⟨_, rfl, _, _, _, [], _, [], hW', trodAll_mk1 (shut_bool Try.underlying4 _), (trodAll_cons_mk (shut_int Try.underlying3 w0) trodAll_mk0), rfl, bel.frame _, fun h => by cases h⟩

theorem over : Rows.fdtableValidatesLimitRow.holds Try.pinned (OpenSpec.ofChange Rows.fdtableValidatesLimitSpec) :=
  OpenClaim.holds_of_wide 3 Try.f3 rfl rfl rfl rfl rfl rfl rfl ⟨rfl, rfl, rfl, rfl, rfl⟩ rfl rfl rfl rfl rfl (by kernel_rfl) Try.func3 (by kernel_rfl)
    (of_decide_eq_true (by kernel_rfl)) (by unfold Func.isWrapper; first | (rw [if_pos (by decide +kernel)]; kernel_rfl) | (rw [if_neg (by decide +kernel)]; exact ⟨rfl, rfl⟩))
    (fun os started H enc _ => lifted os started H enc)

end Go.Proofs.Ytanhjjinedjaaaa.fdtableValidatesLimit

namespace Go.Proofs.Ytanhjjinedjaaaa
/-- The statement. -/
theorem fdtableValidatesLimit_holds : Rows.FdtableValidatesLimitSaid := fdtableValidatesLimit.over
#print axioms fdtableValidatesLimit_holds
end Go.Proofs.Ytanhjjinedjaaaa
