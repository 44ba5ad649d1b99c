/-
  CONTRACT of Matches of package trie at one value type, over this seat's translation, said of the trie's list.
  Conditions: the trie lies in memory.
-/
import Derived.Test.YtnbohhiooigmbaaXmI
import Derived.Test.YtnbohhiooigmbaaXfI
namespace Go.Proofs.Ytnbohhiooigmbaa
open Go.ChangeShapes Go.WideShapes Go.ChangeAt Go.RowKit
set_option linter.unusedVariables false

theorem matchesSI {w : World} {a : Nat} {L : List (Px × Value)} {X : Nat → Prop} (hS : StI w a L X) (c : Bool) (ys : List Nat) (hy : Bytes ys) :
    Calls Try.prog 26 #[.pointer (some ⟨a, 0, none⟩), .agg (adr c ys).toArray] w fun e w' => ∃ ad cp, e = .returned (.slice ad (inL L c ys).length cp) ∧ w'.ownsRow w.heap.size 31 18 (.slice ad (inL L c ys).length cp) (inL L c ys).length (flatP ((inL L c ys).map fun e => e.1)) ∧ Fr No w w' := by
  obtain ⟨t4, t6, hT, rfl, -⟩ := hS
  have h := matchesI c ys hy a t4 t6 w hT
  have h1 := pth_inL hT (c := c) hy
  have h2 : (pth c ys (if c = true then t6 else t4)).length = (inL (t4.toL ++ t6.toL) c ys).length := by rw [← h1, List.length_map]
  have h3 : (pth c ys (if c = true then t6 else t4)).map (fun e => e.2.1) = (inL (t4.toL ++ t6.toL) c ys).map fun e => e.1 := by rw [← h1, List.map_map]; rfl
  rw [h2, h3] at h
  exact h
end Go.Proofs.Ytnbohhiooigmbaa
