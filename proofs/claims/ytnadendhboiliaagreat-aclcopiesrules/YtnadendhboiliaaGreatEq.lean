/-
  CONTRACTS of the helpers Equal and Overwrite at prefixes, over this seat's translation.
  Conditions: the rows lie in memory.
-/
import Derived.Test.YtnadendhboiliaaGreatWd
import Derived.Deep.RegionHeld3
import Derived.BigQuiet
namespace Go.Proofs.YtnadendhboiliaaGreat
open Go.ChangeShapes Go.WideShapes Go.ChangeAt Go.RowKit
set_option linter.unusedVariables false

/-- A row of prefixes in memory. -/
def RowP (w : World) (a : Option Addr) (A : List Px) : Prop := (∀ q ∈ A, Bytes q.xs) ∧ (A ≠ [] → ∃ b o cs T f, a = some ⟨b, o, none⟩ ∧ w.heap[b]? = some (.cells cs T f) ∧ ∀ (j : Nat) v, (flatP A)[j]? = some v → cs[o + j]? = some v)
theorem RowP.no {w w' : World} {a : Option Addr} {A : List Px} (h : RowP w a A) (hf : Fr No w w') : RowP w' a A :=
  ⟨h.1, fun hn => by obtain ⟨b, o, cs, T, f, h1, h2, h3⟩ := h.2 hn; exact ⟨b, o, cs, T, f, h1, hf.keep h2, h3⟩⟩
theorem RowP.fr {S : Nat → Prop} {w w' : World} {a : Option Addr} {A : List Px} (h : RowP w a A) (hf : Fr S w w') (hS : ∀ ad, a = some ad → ¬ S ad.block) : RowP w' a A :=
  ⟨h.1, fun hn => by
    obtain ⟨b, o, cs, T, f, h1, h2, h3⟩ := h.2 hn
    exact ⟨b, o, cs, T, f, h1, (hf.block b (some_lt h2) (hS _ h1)).trans h2, h3⟩⟩
theorem flatP_get {A : List Px} (hb : ∀ q ∈ A, Bytes q.xs) {i : Nat} {q : Px} (h : A[i]? = some q) {j : Nat} {v : Value} (hv : (pfx q.b q.xs q.n)[j]? = some v) : (flatP A)[i * 18 + j]? = some v := by
  have hlt := (List.getElem?_eq_some_iff.1 h).1
  have hA : A = A.take i ++ q :: A.drop (i + 1) := by
    rw [← (List.getElem?_eq_some_iff.1 h).2, ← List.drop_eq_getElem_cons hlt, List.take_append_drop]
  have hl : (flatP (A.take i)).length = i * 18 := by rw [flatP_length fun x hx => hb x (List.mem_of_mem_take hx), List.length_take]; congr 1; omega
  rw [hA, flatP_append, List.getElem?_append_right (by omega), hl, show i * 18 + j - i * 18 = j by omega, flatP, List.flatMap_cons, List.getElem?_append_left (List.getElem?_eq_some_iff.1 hv).1]
  exact hv
theorem RowP.load {w : World} {a : Option Addr} {A : List Px} (h : RowP w a A) {i : Nat} {q : Px} (hq : A[i]? = some q) : ∃ b o, a = some ⟨b, o, none⟩ ∧ ∀ (P : Program) (w' : World), Fr No w w' → Sem.run P (loadCellsFrom ⟨b, o + i * 18, none⟩ 0 18 #[]) w' = .ok (pfx q.b q.xs q.n).toArray w' := by
  have hn : A ≠ [] := fun hc => by rw [hc] at hq; cases hq
  obtain ⟨b, o, cs, T, f, h1, h2, h3⟩ := h.2 hn
  refine ⟨b, o, h1, fun P w' hf => ?_⟩
  refine load_block (hf.keep h2) (by rw [List.size_toArray]; exact pfx_length (h.1 q (List.mem_of_getElem? hq)).1) fun j v hv => ?_
  rw [List.getElem?_toArray] at hv
  rw [Nat.add_assoc]
  exact h3 _ _ (flatP_get h.1 hq hv)
theorem RowP.own {w : World} {base n cap : Nat} {a : Option Addr} {A : List Px} (hb : ∀ q ∈ A, Bytes q.xs) (h : w.ownsRow base 29 18 (.slice a n cap) n (flatP A)) : RowP w a A ∧ A.length = n := by
  have hl := h.1
  rw [flatP_length hb] at hl
  refine ⟨⟨hb, fun hn => ?_⟩, by omega⟩
  rcases h.2 with ⟨hv, h0⟩ | ⟨g, cap', cur, hv, _, hg, _, _, _, ht⟩
  · cases hv
    exact absurd (List.length_eq_zero_iff.1 (by omega)) hn
  · cases hv
    refine ⟨g, 0, cur, 29, (0, 0), rfl, hg, fun j v hj => ?_⟩
    rw [← ht, List.getElem?_take] at hj
    split at hj
    · rw [Nat.zero_add, ← Array.getElem?_toList]; exact hj
    · cases hj

end Go.Proofs.YtnadendhboiliaaGreat
