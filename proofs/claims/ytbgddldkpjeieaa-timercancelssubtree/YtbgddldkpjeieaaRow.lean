/-
  Slices of integers that came in; no walk.
  Conditions: as each theorem says.
-/
import Derived.Test.YtbgddldkpjeieaaAwake
namespace Go.Proofs.Ytbgddldkpjeieaa
open Go.ChangeShapes Go.WideShapes Go.ChangeAt Go.RowKit Go.Maps
set_option linter.unusedVariables false

/-- What a walk is told of a slice of integers that came in. -/
def IsRow (k : IntKind) (w : World) (a : Option Addr) (len cap : Nat) (zs : List Int) : Prop :=
  (a = none ∧ len = 0 ∧ cap = 0 ∧ zs = []) ∨
  ∃ x, a = some x ∧ len ≤ cap ∧ cap ≤ maxLen ∧ zs.length = cap ∧ (∀ i, i < zs.length → w.cell? (x.add i) = some (.int k (zs.getD i 0))) ∧ ∀ n ∈ zs, (Lit.int k n).wf = true

def InRow (k : IntKind) (w : World) (a : Option Addr) (n : Nat) (z : Nat → Int) : Prop := n ≤ 9223372036854775807 ∧ ∀ i, i < n → (∃ b off, a = some ⟨b, off, none⟩ ∧ w.cell? ⟨b, off + i, none⟩ = some (.int k (z i))) ∧ (Lit.int k (z i)).wf = true

theorem IsRow.row {k : IntKind} {w : World} {a : Option Addr} {len cap : Nat} {zs : List Int} (h : IsRow k w a len cap zs) : InRow k w a len (fun i => zs.getD i 0) := by
  rcases h with ⟨rfl, rfl, rfl, rfl⟩ | ⟨x, rfl, h1, h2, h3, h4, h5⟩
  · exact ⟨by omega, fun i hi => by omega⟩
  · unfold maxLen at h2
    refine ⟨by omega, fun i hi => ?_⟩
    have hm : zs.getD i 0 ∈ zs := by
      rw [List.getD_eq_getElem?_getD, List.getElem?_eq_getElem (by omega)]
      exact List.getElem_mem _
    obtain ⟨b, off, rfl, hj⟩ := ints_at h4 (by omega)
    exact ⟨⟨b, off, rfl, hj i (by omega)⟩, h5 _ hm⟩

theorem InRow.cell {k : IntKind} {w w' : World} {a : Option Addr} {n : Nat} {z : Nat → Int} (h : InRow k w a n z) {S : Nat → Prop} (hf : Fr S w w') (hS : ∀ j, S j → w.heap.size ≤ j) {i : Nat} (hi : i < n) : ∃ b off, a = some ⟨b, off, none⟩ ∧ w'.cell? ⟨b, off + i, none⟩ = some (.int k (z i)) := by
  obtain ⟨⟨b, off, hx, hc⟩, _⟩ := h.2 i hi
  have hlt : b < w.heap.size := block_lt_of_cell hc
  exact ⟨b, off, hx, (World.cell?_of_block (a := ⟨b, off + i, none⟩) (hf.block b hlt (fun hs => Nat.not_lt.2 (hS b hs) hlt))).trans hc⟩

end Go.Proofs.Ytbgddldkpjeieaa
