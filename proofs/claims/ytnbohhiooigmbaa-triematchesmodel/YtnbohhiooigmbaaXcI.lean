/-
  CONTRACTS of New, Len, root and Get of package trie at one value type, over this seat's translation.
  Conditions: the trie lies in memory.
-/
import Derived.Test.YtnbohhiooigmbaaXbI
namespace Go.Proofs.Ytnbohhiooigmbaa
open Go.ChangeShapes Go.WideShapes Go.ChangeAt Go.RowKit
set_option linter.unusedVariables false

theorem zeroTI : ∀ w, (zeroValue 75).run Try.prog w = .ok (.agg #[.pointer none, .pointer none, .int .i64 0]) w := by
  intro w
  kernel_rfl

set_option maxHeartbeats 4000000 in
set_option maxRecDepth 100000 in
theorem newI (w : World) :
    Calls Try.prog 7 #[] w fun e w' => ∃ a, e = .returned (.pointer (some ⟨a, 0, none⟩)) ∧ w.heap.size ≤ a ∧ Fr No w w' ∧ Tri 81 3 75 w' a .nil .nil := by
  have v := zeroTI
  go_enter Try.func7, Try.ntmps7
  go_wp2_with fail
  go_ret
  refine ⟨w.heap.size, rfl, Nat.le_refl _, Fr.alloc _ _ _, heap_alloc_new w _, trivial, trivial, ?_, trivial, trivial, fun q hq => (by cases hq), fun q hq => (by cases hq)⟩
  exact List.nodup_cons.2 ⟨List.not_mem_nil, List.nodup_nil⟩

set_option maxHeartbeats 4000000 in
set_option maxRecDepth 100000 in
theorem lenI (w : World) (a : Nat) (t4 t6 : Tr) (hT : Tri 81 3 75 w a t4 t6) :
    Calls Try.prog 16 #[.pointer (some ⟨a, 0, none⟩)] w fun e w' => e = .returned (.int .i64 ((t4.toL ++ t6.toL).length : Nat)) ∧ w' = w := by
  have c2 : w.cell? ⟨a, 2, none⟩ = some (.int .i64 ((t4.toL ++ t6.toL).length : Nat)) := cell_of hT.head rfl
  generalize (((t4.toL ++ t6.toL).length : Nat) : Int) = n at c2 ⊢
  go_enter Try.func16, Try.ntmps16
  go_wp2_with fail
  go_ret
  exact ⟨rfl, rfl⟩

set_option maxHeartbeats 4000000 in
set_option maxRecDepth 100000 in
theorem rootI (a : Nat) (c : Bool) (ys : List Nat) (hy : Bytes ys) (w : World) :
    Calls Try.prog 40 #[.pointer (some ⟨a, 0, none⟩), .agg (adr c ys).toArray] w fun e w' => e = .returned (.pointer (some ⟨a, if c = true then 1 else 0, none⟩)) ∧ Fr No w w' := by
  obtain ⟨A, hA, h0, hsz, -⟩ := adr_letter c ys hy
  rw [hA]
  have c0 : (w.alloc (.cells A 29)).cell? ⟨w.heap.size, 0, none⟩ = some (.bool c) := cell_of (heap_alloc_new w _) h0
  clear hA h0 hsz hy
  cases c
  all_goals (
    go_enter Try.func40, Try.ntmps40
    go_wp2_with fail
    go_ret
    exact ⟨rfl, Fr.alloc _ _ _⟩)

end Go.Proofs.Ytnbohhiooigmbaa
