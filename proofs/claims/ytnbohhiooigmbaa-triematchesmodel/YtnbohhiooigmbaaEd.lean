/-
  TrieMatchesModel: where a prefix stands in the model's list, and what is left when it is taken out; no walk.
  Conditions: none.
-/
import Derived.Test.YtnbohhiooigmbaaEg
import Derived.Test.YtnbohhiooigmbaaWm
import Derived.Test.YtnbohhiooigmbaaLo
namespace Go.Proofs.Ytnbohhiooigmbaa
open Go.ChangeShapes Go.WideShapes Go.ChangeAt Go.RowKit
set_option linter.unusedVariables false

/-- Found or not, as the trie tells it. -/
theorem findX_two {L : List (Px × Value)} (hs : Srt L) (p : Px) : (findX p L = -1 ∧ valL L p = none) ∨ ∃ (j : Nat) (x : Value), findX p L = j ∧ L[j]? = some (p, x) ∧ valL L p = some x := by
  cases hv : valL L p with
  | none =>
    left
    refine ⟨?_, rfl⟩
    have : L.findIdx? (fun e => decide (e.1 = p)) = none := by
      rw [List.findIdx?_eq_none_iff]
      intro e he
      simpa using valL_none.1 hv e he
    unfold findX
    rw [this]
  | some x =>
    right
    obtain ⟨j, h1, h2⟩ := findX_at hs ((valL_iff hs).1 hv)
    exact ⟨j, x, h1, h2, rfl⟩
/-- A list without the prefix at j. -/
theorem del_at {L : List (Px × Value)} (hs : Srt L) {p : Px} {x : Value} {j : Nat} (h : L[j]? = some (p, x)) : del p L = L.take j ++ L.drop (j + 1) := by
  have hlt := (List.getElem?_eq_some_iff.1 h).1
  have hL : L = L.take j ++ (p, x) :: L.drop (j + 1) := by
    rw [← (List.getElem?_eq_some_iff.1 h).2, ← List.drop_eq_getElem_cons hlt, List.take_append_drop]
  have hp := hs
  rw [hL] at hp
  obtain ⟨-, h2, h3⟩ := List.pairwise_append.1 hp
  obtain ⟨h4, -⟩ := List.pairwise_cons.1 h2
  have n1 : ∀ e ∈ L.take j, e.1 ≠ p := fun e he hc => by
    have := h3 e he (p, x) List.mem_cons_self
    rw [hc] at this
    exact lt_irr _ this
  have n2 : ∀ e ∈ L.drop (j + 1), e.1 ≠ p := fun e he hc => by
    have := h4 e he
    rw [hc] at this
    exact lt_irr _ this
  conv => lhs; rw [hL]
  rw [del_append, del_none n1]
  congr 1
  unfold del
  rw [List.filter_cons_of_neg (by simp)]
  exact List.filter_eq_self.2 fun e he => by rw [decide_eq_false (n2 e he)]; rfl
theorem del_srt {L : List (Px × Value)} (hs : Srt L) (p : Px) : Srt (del p L) := List.Pairwise.filter _ hs
end Go.Proofs.Ytnbohhiooigmbaa
