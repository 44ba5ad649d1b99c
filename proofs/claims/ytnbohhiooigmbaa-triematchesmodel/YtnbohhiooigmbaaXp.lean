/-
  CONTRACT of Prefixes of package trie at integers, over this seat's translation, said of the trie's list.
  Conditions: the trie lies in memory.
-/
import Derived.Test.YtnbohhiooigmbaaXmI
import Derived.Test.YtnbohhiooigmbaaXgI
namespace Go.Proofs.Ytnbohhiooigmbaa
open Go.ChangeShapes Go.WideShapes Go.ChangeAt Go.RowKit
set_option linter.unusedVariables false

theorem prefixesSI {w : World} {a : Nat} {L : List (Px × Value)} {X : Nat → Prop} (hS : StI w a L X) (hM : L.length ≤ 100000) :
    Calls Try.prog 19 #[.pointer (some ⟨a, 0, none⟩)] w fun e w' => ∃ ad cp, e = .returned (.slice ad L.length cp) ∧ w'.ownsRow w.heap.size 31 18 (.slice ad L.length cp) L.length (flatP (L.map fun e => e.1)) ∧ Fr No w w' := by
  obtain ⟨t4, t6, hT, rfl, -⟩ := hS
  exact prefixesI a t4 t6 w hT hM
end Go.Proofs.Ytnbohhiooigmbaa
