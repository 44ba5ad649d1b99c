/-
  What an allocation does to a list of slots; the result variable of a struct of two numbers; no walk.
  Conditions: as each theorem says.
-/
import Derived.Test.YtgelgnakhghpkaaMem
namespace Go.Proofs.Ytgelgnakhghpkaa
open Go.ChangeShapes Go.WideShapes Go.ChangeAt Go.RowKit
set_option linter.unusedVariables false

theorem results_hd {P : Program} {fn : Func} (h : fn.results = #[.cell 4 38, .tmp 5]) (tmps : Array Value) {w : World} {b : Nat} {x y : Value} (hg : Sem.run P (isAgg 38) w = .ok true w) (hz : Sem.run P (Go.sizeOf 38) w = .ok 2 w)
    (hp : tmps.getD 4 undef = .pointer (some ⟨b, 0, none⟩)) (h0 : w.cell? ⟨b, 0, none⟩ = some x) (h1 : w.cell? ⟨b, 1, none⟩ = some y) :
    (results fn tmps).run P w = .ok (.tuple #[.agg #[x, y], tmps.getD 5 undef]) w := by
  simp only [results, h]
  simp [Sem.run_bind, Result.andThen, loadVar, loadCells] at hp ⊢
  simp [hp, asAddr, hg, hz, loadCellsFrom, Go.WideShapes.add_plain, h0, h1]

theorem two_set {w : World} {rb : Nat} {a b : Value} {t : TypeId} (h : w.heap[rb]? = some (.cells #[a, b] t (0, 0))) (x y : Value) : ((w.setCell ⟨rb, 0, none⟩ x).setCell ⟨rb, 1, none⟩ y).heap[rb]? = some (.cells #[x, y] t (0, 0)) := by
  have h1 : (w.setCell ⟨rb, 0, none⟩ x).heap[rb]? = some (.cells #[x, b] t (0, 0)) := by rw [heap_setCell_same w rb 0 _ _ x h]; rfl
  rw [heap_setCell_same _ rb 1 _ _ y h1]; rfl

theorem two_cells {w : World} {rb : Nat} {a b : Value} {t : TypeId} (h : w.heap[rb]? = some (.cells #[a, b] t (0, 0))) (x y : Value) :
    ((w.setCell ⟨rb, 0, none⟩ x).setCell ⟨rb, 1, none⟩ y).cell? ⟨rb, 0, none⟩ = some x ∧ ((w.setCell ⟨rb, 0, none⟩ x).setCell ⟨rb, 1, none⟩ y).cell? ⟨rb, 1, none⟩ = some y := by
  have h3 := two_set h x y
  refine ⟨?_, ?_⟩ <;> rw [cell_of_row _ rb _ _ _ _ h3] <;> rfl

theorem two_fr {w : World} {rb : Nat} (x y : Value) : Fr (fun k => k = rb) w ((w.setCell ⟨rb, 0, none⟩ x).setCell ⟨rb, 1, none⟩ y) :=
  (Fr.setCell (fun k => k = rb) w ⟨rb, 0, none⟩ x rfl).trans (Fr.setCell (fun k => k = rb) _ ⟨rb, 1, none⟩ y rfl)

theorem Fr.drewN (S : Nat → Prop) (w : World) (q : Nat) : Fr S w (w.drewN q) := ⟨rfl, rfl, rfl, Nat.le_refl _, fun _ _ _ => rfl⟩

/-- A value is stored in the free slot with the smallest index. -/
def Put (A : List Slot) (i : Nat) (gn : Int) (vs : List Value) (A' : List Slot) : Prop :=
  Free A i ∧ ((∃ s, A[i]? = some s ∧ s.used = false ∧ gn = s.gen + 1 ∧ A' = A.set i ⟨true, gn, vs⟩) ∨ (i = A.length ∧ gn = 1 ∧ A' = A ++ [⟨true, 1, vs⟩]))

theorem Put.cnt {A A' : List Slot} {i : Nat} {gn : Int} {vs : List Value} (h : Put A i gn vs A') : cnt A' = cnt A + 1 := by
  obtain ⟨_, ⟨s, hs, hu, rfl, rfl⟩ | ⟨rfl, rfl, rfl⟩⟩ := h
  · have := cnt_set i s ⟨true, s.gen + 1, vs⟩ hs
    rw [hu] at this
    simpa using this
  · rw [cnt_push]; rfl

theorem push_set {A : List Slot} {i : Nat} {s t : Slot} (h : A.length = i) : (A ++ [s]).set i t = A ++ [t] := by
  subst h
  rw [List.set_append_right _ _ (Nat.le_refl _), Nat.sub_self]; rfl

end Go.Proofs.Ytgelgnakhghpkaa
