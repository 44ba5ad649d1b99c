/-
  Whole blocks, read and written at once; no walk.
  Conditions: as each theorem says.
-/
import Derived.Test.YtbobokhlcbojkaaA0
namespace Go.Proofs.Ytbobokhlcbojkaa
open Go.ChangeShapes Go.WideShapes Go.ChangeAt Go.RowKit Go.Maps
set_option linter.unusedVariables false

theorem load_block {P : Program} {w : World} {B o n : Nat} {cs : Array Value} {t : TypeId} {fr : Nat × Nat} {xs : Array Value} (h : w.heap[B]? = some (.cells cs t fr)) (hn : xs.size = n) (hx : ∀ j v, xs[j]? = some v → cs[o + j]? = some v) :
    Sem.run P (loadCellsFrom ⟨B, o, none⟩ 0 n #[]) w = .ok xs w := by
  have := run_loadCellsFrom_list P w ⟨B, o, none⟩ xs.toList n (by simpa using hn) (fun j v hv => by
    rw [Addr.add_lit, cell_of_row w B (o + j) cs t fr h]
    exact hx j v (by simpa using hv))
  simpa using this

theorem heap_setCells_same (B : Nat) (t : TypeId) : ∀ (vs us : List Value) (pre : List Value) (w : World), us.length = vs.length → w.heap[B]? = some (.cells (pre ++ us).toArray t (0, 0)) → (w.setCells B pre.length vs).heap[B]? = some (.cells (pre ++ vs).toArray t (0, 0)) := by
  intro vs
  induction vs with
  | nil =>
    intro us pre w hl h
    cases us with
    | nil => exact h
    | cons _ _ => simp at hl
  | cons v r ih =>
    intro us pre w hl h
    cases us with
    | nil => simp at hl
    | cons u us =>
      rw [World.setCells]
      have h1 := heap_setCell_same w B pre.length _ _ v h
      have h2 := ih us (pre ++ [v]) (w.setCell ⟨B, pre.length, none⟩ v) (by simpa using hl) (by rw [h1]; simp)
      simpa using h2

theorem store_block {P : Program} {w : World} {B : Nat} {cs : Array Value} {t : TypeId} (xs : List Value) (h : w.heap[B]? = some (.cells cs t (0, 0))) (hl : xs.length = cs.size) (h1 : ∀ u ∈ xs, u.oneCell' = true) :
    ∃ y, Sem.run P (storeCells ⟨B, 0, none⟩ xs 0) w = .ok () y ∧ y.heap[B]? = some (.cells xs.toArray t (0, 0)) ∧ Fr (fun k => k = B) w y := by
  refine ⟨w.setCells B 0 xs, ?_, ?_, A.fr_cells (S := fun k => k = B) rfl _ _ _⟩
  · have := run_storeCells_cells (P := P) B 0 xs 0 w (fun j hj => by
      rw [cell_of_row w B _ cs t _ h]; simp; omega) (fun j hj => frozen_of_row w B _ _ _ h) h1
    simpa using this
  · have := heap_setCells_same B t xs cs.toList [] w (by simpa using hl.symm) (by simpa using h)
    simpa using this

end Go.Proofs.Ytbobokhlcbojkaa
