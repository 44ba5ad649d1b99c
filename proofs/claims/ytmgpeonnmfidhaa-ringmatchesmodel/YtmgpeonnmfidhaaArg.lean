/-
  What is told of a slice of integers that came in; no walk.
  Conditions: as each theorem says.
-/
import Derived.Test.YtmgpeonnmfidhaaSpare
namespace Go.Proofs.Ytmgpeonnmfidhaa
open Go.ChangeShapes Go.WideShapes Go.ChangeAt Go.RowKit
set_option linter.unusedVariables false

/-- A slice of integers that came in: it is nil; or it leads to a row of cap cells, the integers zs, each fitting its kind. -/
def IsRow (k : IntKind) (w : World) (a : Option Addr) (len cap : Nat) (zs : List Int) : Prop :=
  (a = none ∧ len = 0 ∧ cap = 0 ∧ zs = []) ∨
  ∃ x, a = some x ∧ len ≤ cap ∧ cap ≤ maxLen ∧ zs.length = cap ∧ (∀ i, i < zs.length → w.cell? (x.add i) = some (.int k (zs.getD i 0))) ∧ ∀ n ∈ zs, (Lit.int k n).wf = true

theorem IsRow.parts {w : World} {a : Option Addr} {len cap : Nat} {zs : List Int} (h : IsRow .i64 w a len cap zs) : At w a (zs.take len) ∧ (zs.take len).length = len ∧ len ≤ cap ∧ (a = none → cap = 0) := by
  rcases h with ⟨rfl, rfl, rfl, rfl⟩ | ⟨x, rfl, h1, h2, h3, h4, h5⟩
  · exact ⟨At.nil _ _, rfl, Nat.le_refl _, fun _ => rfl⟩
  · refine ⟨At.take ?_ len, by rw [List.length_take]; omega, h1, (fun h => by cases h)⟩
    intro i z hz
    have hi : i < zs.length := (List.getElem?_eq_some_iff.1 hz).1
    have hc := h4 i hi
    have hsp := World.cell?_spot (h4 0 (by omega))
    obtain ⟨b, off, spot⟩ := x
    cases spot with
    | none =>
      refine ⟨b, off, rfl, ?_⟩
      rw [Go.WideShapes.add_plain] at hc
      rw [hc]
      simp [List.getD, hz]
    | some s => simp [Addr.add] at hsp

theorem At.old {w w' : World} {a : Option Addr} {xs : List Int} (h : At w a xs) (hf : Fr (fun k => w.heap.size ≤ k) w w') : At w' a xs :=
  h.keep fun ad ha hb => hf.block _ hb (by omega)

theorem bytes3 : Try.prog.bytesOf 3 = 8 := by kernel_rfl

end Go.Proofs.Ytmgpeonnmfidhaa
