/-
  CONTRACTS of cmp.Compare, cmp.Or and heap.compare over this seat's translation: what each call returns for every argument.
  Conditions: integer arguments lie in their kind's range.
-/
import Derived.Test.YtbgddldkpjeieaaGreatRows
import Derived.WalkKit
import Derived.ProofKit
import Derived.OpenShut
import Derived.Below
import Derived.Lib.Hide
import Derived.StillTailTactics
import Derived.Sort.Grow
import Derived.Deep.Draws
namespace Go.Proofs.YtbgddldkpjeieaaGreat
open Go.ChangeShapes Go.WideShapes Go.ChangeAt Go.RowKit
set_option linter.unusedVariables false

def cmpI (x y : Int) : Int := if x < y then -1 else if y < x then 1 else 0

theorem ret_int {k : IntKind} {a b : Int} (h : a = b) : Ending.returned (.int k a) = .returned (.int k b) := by rw [h]

theorem cmpU_any (x y : Int) (w : World) : Calls Tryz.prog 80 #[.int .u64 x, .int .u64 y] w fun e w' => e = .returned (.int .i64 (cmpI x y)) ∧ w' = w := by
  by_cases h1 : x < y
  · go_enter Tryz.func80, Tryz.ntmps80
    go_wp2
    go_ret
    exact ⟨ret_int (by unfold cmpI; rw [if_pos (by omega)]), rfl⟩
  · by_cases h2 : y < x
    · go_enter Tryz.func80, Tryz.ntmps80
      go_wp2
      go_ret
      exact ⟨ret_int (by unfold cmpI; rw [if_neg (by omega), if_pos (by omega)]), rfl⟩
    · go_enter Tryz.func80, Tryz.ntmps80
      go_wp2
      go_ret
      exact ⟨ret_int (by unfold cmpI; rw [if_neg (by omega), if_neg (by omega)]), rfl⟩

theorem cmpS_any (x y : Int) (w : World) : Calls Tryz.prog 81 #[.int .i64 x, .int .i64 y] w fun e w' => e = .returned (.int .i64 (cmpI x y)) ∧ w' = w := by
  by_cases h1 : x < y
  · go_enter Tryz.func81, Tryz.ntmps81
    go_wp2
    go_ret
    exact ⟨ret_int (by unfold cmpI; rw [if_pos (by omega)]), rfl⟩
  · by_cases h2 : y < x
    · go_enter Tryz.func81, Tryz.ntmps81
      go_wp2
      go_ret
      exact ⟨ret_int (by unfold cmpI; rw [if_neg (by omega), if_pos (by omega)]), rfl⟩
    · go_enter Tryz.func81, Tryz.ntmps81
      go_wp2
      go_ret
      exact ⟨ret_int (by unfold cmpI; rw [if_neg (by omega), if_neg (by omega)]), rfl⟩

def orI (x y : Int) : Int := if x = 0 then y else x

theorem or_any (b : Nat) (x y : Int) (w : World) (h0 : w.cell? ⟨b, 0, none⟩ = some (.int .i64 x)) (h1 : w.cell? ⟨b, 1, none⟩ = some (.int .i64 y)) :
    Calls Tryz.prog 79 #[.slice (some ⟨b, 0, none⟩) 2 2] w fun e w' => e = .returned (.int .i64 (orI x y)) ∧ w' = w := by
  by_cases hx : x = 0
  · subst hx
    by_cases hy : y = 0
    · subst hy
      go_enter Tryz.func79, Tryz.ntmps79
      go_wp2
      refine wp_loop_rounds 3 ?_
      rw [rounds_succ]
      go_wp2
      rw [rounds_succ]
      go_wp2
      rw [rounds_succ]
      go_wp2
      go_ret
      exact ⟨rfl, rfl⟩
    · go_enter Tryz.func79, Tryz.ntmps79
      go_wp2
      refine wp_loop_rounds 2 ?_
      rw [rounds_succ]
      go_wp2
      rw [rounds_succ]
      go_wp2
      go_ret
      exact ⟨ret_int (by simp [orI]), rfl⟩
  · go_enter Tryz.func79, Tryz.ntmps79
    go_wp2
    refine wp_loop_rounds 1 ?_
    rw [rounds_succ]
    go_wp2
    go_ret
    exact ⟨ret_int (by simp [orI, hx]), rfl⟩

def lexI (d1 i1 d2 i2 : Int) : Int := orI (cmpI d1 d2) (cmpI i1 i2)

theorem region_tail {P : Program} {id : Nat} {Q : Exit → Act → World → Prop} {a : Act} {w : World} {l : List Oper} (n : Nat) (hm : P.follows .mixedOrders = true) (hB : Region.lexTailB .any l.toArray n = true)
    (h : ∀ y, y = w.drew → wpStill P l.toArray y (fun a' => wpList P l.toArray Q (l.drop n) a' y) (l.take n) a) : (Code.region id l.toArray true).wp P Q a w := wp_region_still_tail n hm hB (h _ rfl)

set_option maxHeartbeats 1000000 in
set_option maxRecDepth 100000 in
theorem compare_any (d1 i1 d2 i2 : Int) (w : World) :
    Calls Tryz.prog 63 #[.agg #[.int .u64 d1, .int .i64 i1], .agg #[.int .u64 d2, .int .i64 i2]] w fun e w' => e = .returned (.int .i64 (lexI d1 i1 d2 i2)) ∧ ∃ q os', w' = Go.Sort.grow (w.drewN q) os' := by
  go_enter Tryz.func63, Tryz.ntmps63
  go_wp2
  generalize hx : (w.alloc (Obj.cells #[Value.int IntKind.u64 d1, Value.int IntKind.i64 i1] 80)).alloc (Obj.cells #[Value.int IntKind.u64 d2, Value.int IntKind.i64 i2] 80) = x
  refine region_tail 10 (by kernel_rfl) (by kernel_rfl) ?_
  intro y hy
  have c1 : y.cell? ⟨w.heap.size, 0, none⟩ = some (.int .u64 d1) := by subst hy hx; simp
  have c2 : y.cell? ⟨w.heap.size, 1, none⟩ = some (.int .i64 i1) := by subst hy hx; simp
  have c3 : y.cell? ⟨w.heap.size + 1, 0, none⟩ = some (.int .u64 d2) := by subst hy hx; simp
  have c4 : y.cell? ⟨w.heap.size + 1, 1, none⟩ = some (.int .i64 i2) := by subst hy hx; simp
  have HX := Lib.hid hx
  have HY := Lib.hid hy
  clear hx hy
  simp only [List.take_succ_cons, List.take_zero, List.drop_succ_cons, List.drop_zero]
  iterate 4 still_step
  still_call (cmpU_any _ _ _)
  iterate 4 still_step
  still_call (cmpS_any _ _ _)
  refine wpStill_nil ?_
  have HL : Hid (orI (cmpI d1 d2) (cmpI i1 i2) = lexI d1 i1 d2 i2) := rfl
  generalize cmpI d1 d2 = u at HL ⊢
  generalize cmpI i1 i2 = v at HL ⊢
  clear c1 c2 c3 c4
  go_wp2_with (go_at_call 79; refine (or_any _ u v _ (by simp) (by simp)).mono ?_; rintro e w' ⟨rfl, rfl⟩)
  go_ret
  have hx := HX.out
  have hy := HY.out
  subst hy hx
  refine ⟨ret_int HL.out, 1, #[.cells #[.int .u64 d1, .int .i64 i1] 80, .cells #[.int .u64 d2, .int .i64 i2] 80, .cells #[.int .i64 u, .int .i64 v] 3], ?_⟩
  rw [Go.Sort.alloc_eq_grow, Go.Sort.alloc_eq_grow, Go.Sort.alloc_eq_grow, Go.Sort.grow_grow, Go.Sort.drew_grow, Go.Sort.grow_grow]
  rfl

end Go.Proofs.YtbgddldkpjeieaaGreat
