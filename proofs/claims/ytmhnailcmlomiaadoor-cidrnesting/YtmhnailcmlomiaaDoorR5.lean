/-
  CONTRACTS of the reference's parseIPv4, over this seat's translation: what the call returns.
  Conditions: the string is shorter than 2 to the 31.
-/
import Derived.Test.YtmhnailcmlomiaaDoorR2
import Derived.Test.YtmhnailcmlomiaaDoorP2
namespace Go.Proofs.YtmhnailcmlomiaaDoor
open Go.ChangeShapes Go.WideShapes Go.ChangeAt Go.RowKit
set_option linter.unusedVariables false

/-- The sixteen bytes when the first numbers have been written. -/
def qpart (ns : List Nat) : List Nat := ns ++ List.replicate (16 - ns.length) 0
theorem qpart_nil : qpart [] = zeros := rfl
theorem qpart_length {ns : List Nat} (h : ns.length ≤ 16) : (qpart ns).length = 16 := by rw [qpart, List.length_append, List.length_replicate]; omega
theorem qpart_set {ns : List Nat} {x : Nat} (h : ns.length < 16) : (qpart ns).set ns.length x = qpart (ns ++ [x]) := by
  rw [qpart, qpart, List.set_append_right _ _ (Nat.le_refl _), Nat.sub_self, List.length_append, show 16 - ns.length = (16 - (ns.length + 1)) + 1 by omega, List.replicate_succ, List.set_cons_zero]
  simp
theorem qpart_quad {ns : List Nat} (h : ns.length = 4) : qpart ns = quad (some ns) := by
  match ns, h with
  | [a, b, c, d], _ => rfl

theorem strs_at {w : World} {a : Option Addr} {xs : List ByteArray} {i : Nat} {x : ByteArray} (h : At w a (strs xs)) (hx : xs[i]? = some x) : ∃ b off, a = some ⟨b, off, none⟩ ∧ w.cell? ⟨b, off + i, none⟩ = some (.string x) := h i _ (strs_get hx)

end Go.Proofs.YtmhnailcmlomiaaDoor
