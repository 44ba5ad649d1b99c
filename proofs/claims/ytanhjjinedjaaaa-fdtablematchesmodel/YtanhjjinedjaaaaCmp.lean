/-
  CONTRACTS of cmp.Compare, cmp.Or and the comparison of a descriptor's endpoint with an endpoint, over this seat's translation: what each call returns for every argument.
  Conditions: none.
-/
import Derived.Test.YtanhjjinedjaaaaMem
namespace Go.Proofs.Ytanhjjinedjaaaa
open Go.ChangeShapes Go.WideShapes Go.ChangeAt Go.RowKit
set_option linter.unusedVariables false

def cmpI (x y : Int) : Int := if x < y then -1 else if y < x then 1 else 0

theorem cmpS_any (x y : Int) (w : World) : Calls Try.prog 47 #[.int .i64 x, .int .i64 y] w fun e w' => e = .returned (.int .i64 (cmpI x y)) ∧ w' = w := by
  by_cases h1 : x < y
  · go_enter Try.func47, Try.ntmps47
    go_wp2
    go_ret
    exact ⟨ret_int (by unfold cmpI; rw [if_pos (by omega)]), rfl⟩
  · by_cases h2 : y < x
    · go_enter Try.func47, Try.ntmps47
      go_wp2
      go_ret
      exact ⟨ret_int (by unfold cmpI; rw [if_neg (by omega), if_pos (by omega)]), rfl⟩
    · go_enter Try.func47, Try.ntmps47
      go_wp2
      go_ret
      exact ⟨ret_int (by unfold cmpI; rw [if_neg (by omega), if_neg (by omega)]), rfl⟩

def orI (x y : Int) : Int := if x = 0 then y else x

theorem or_any (b : Nat) (x y : Int) (w : World) (h0 : w.cell? ⟨b, 0, none⟩ = some (.int .i64 x)) (h1 : w.cell? ⟨b, 1, none⟩ = some (.int .i64 y)) :
    Calls Try.prog 46 #[.slice (some ⟨b, 0, none⟩) 2 2] w fun e w' => e = .returned (.int .i64 (orI x y)) ∧ w' = w := by
  by_cases hx : x = 0
  · subst hx
    by_cases hy : y = 0
    · subst hy
      go_enter Try.func46, Try.ntmps46
      go_wp2
      refine wp_loop_rounds 3 ?_
      rw [rounds_succ]
      go_wp2
      rw [rounds_succ]
      go_wp2
      rw [rounds_succ]
      go_wp2
      go_ret
      exact ⟨rfl, rfl⟩
    · go_enter Try.func46, Try.ntmps46
      go_wp2
      refine wp_loop_rounds 2 ?_
      rw [rounds_succ]
      go_wp2
      rw [rounds_succ]
      go_wp2
      go_ret
      exact ⟨ret_int (by simp [orI]), rfl⟩
  · go_enter Try.func46, Try.ntmps46
    go_wp2
    refine wp_loop_rounds 1 ?_
    rw [rounds_succ]
    go_wp2
    go_ret
    exact ⟨ret_int (by simp [orI, hx]), rfl⟩

def lexI (x y : Int × Int) : Int := orI (cmpI x.1 y.1) (cmpI x.2 y.2)

theorem lexI_neg (x y : Int × Int) : lexI x y < 0 ↔ lt x y := by
  unfold lexI orI cmpI lt
  repeat' split
  all_goals omega
theorem lexI_zero (x y : Int × Int) : lexI x y = 0 ↔ x = y := by
  rw [Prod.ext_iff]
  unfold lexI orI cmpI
  repeat' split
  all_goals omega

set_option maxHeartbeats 1000000 in
set_option maxRecDepth 100000 in
theorem compare_any (d1 i1 n1 s1 d2 i2 : Int) (w : World) :
    Calls Try.prog 45 #[.agg #[.int .i64 d1, .int .i64 i1, .int .i64 n1, .int .i64 s1], .agg #[.int .i64 d2, .int .i64 i2]] w fun e w' => e = .returned (.int .i64 (lexI (d1, i1) (d2, i2))) ∧ Fr No w w' := by
  go_enter Try.func45, Try.ntmps45
  go_wp2
  generalize hx : (w.alloc (Obj.cells #[Value.int IntKind.i64 d1, Value.int IntKind.i64 i1, Value.int IntKind.i64 n1, Value.int IntKind.i64 s1] 61)).alloc (Obj.cells #[Value.int IntKind.i64 d2, Value.int IntKind.i64 i2] 38) = x
  refine region_tail 12 (by kernel_rfl) (by kernel_rfl) ?_
  intro y hy
  have c1 : y.cell? ⟨w.heap.size, 0, none⟩ = some (.int .i64 d1) := by subst hy hx; simp
  have c2 : y.cell? ⟨w.heap.size, 1, none⟩ = some (.int .i64 i1) := by subst hy hx; simp
  have c3 : y.cell? ⟨w.heap.size + 1, 0, none⟩ = some (.int .i64 d2) := by subst hy hx; simp
  have c4 : y.cell? ⟨w.heap.size + 1, 1, none⟩ = some (.int .i64 i2) := by subst hy hx; simp
  have HF : Hid (Fr No w y) := by subst hy hx; exact ((Fr.alloc No w _).trans (Fr.alloc No _ _)).trans (Fr.drew No _)
  clear hx hy
  simp only [List.take_succ_cons, List.take_zero, List.drop_succ_cons, List.drop_zero]
  iterate 5 still_step
  still_call (cmpS_any _ _ _)
  iterate 5 still_step
  still_call (cmpS_any _ _ _)
  refine wpStill_nil ?_
  have HL : Hid (orI (cmpI d1 d2) (cmpI i1 i2) = lexI (d1, i1) (d2, i2)) := rfl
  generalize cmpI d1 d2 = u at HL ⊢
  generalize cmpI i1 i2 = v at HL ⊢
  clear c1 c2 c3 c4
  go_wp2_with (go_at_call 46; refine (or_any _ u v _ (by simp) (by simp)).mono ?_; rintro e w' ⟨rfl, rfl⟩)
  go_ret
  exact ⟨ret_int HL.out, HF.out.trans (Fr.alloc No _ _)⟩

end Go.Proofs.Ytanhjjinedjaaaa
