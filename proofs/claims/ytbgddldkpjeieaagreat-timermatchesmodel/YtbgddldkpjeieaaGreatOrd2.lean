/-
  More on the order in a list, and what a removal leaves; no walk.
  Conditions: as each theorem says.
-/
import Derived.Test.YtbgddldkpjeieaaGreatOrd
namespace Go.Proofs.YtbgddldkpjeieaaGreat
open Go.ChangeShapes Go.WideShapes Go.ChangeAt Go.RowKit Go.Maps
set_option linter.unusedVariables false

theorem ordered_of_down {A : List Ent} {n : Nat} (h : DownOK n A) (hl : A.length ≤ n + 1) : Ordered A := by
  intro j hj
  by_cases e : (j - 1) / 2 = n
  · intro a b ha hb
    have := (List.getElem?_eq_some_iff.1 ha).1
    omega
  · exact h.1 j hj e

theorem own_eq {hb mb : Nat} {sv sv' : Value} (h : sv'.ownBlock = sv.ownBlock) : Own hb mb sv' = Own hb mb sv := by funext k; simp [Own, h]

theorem take_get {A : List Ent} {m k : Nat} {b : Ent} (h : (A.take m)[k]? = some b) : k < m ∧ A[k]? = some b := by
  rw [List.getElem?_take] at h
  split at h
  · exact ⟨by assumption, h⟩
  · cases h

/-- The last entry takes the place of the one at index i. -/
theorem cut_agree {A : List Ent} {i m : Nat} {ei el : Ent} (hi : A[i]? = some ei) (hl : A[m]? = some el) : ∀ (k : Nat) (b : Ent), k ≠ i → ((swp A i m ei el).take m)[k]? = some b → A[k]? = some b := by
  intro k b hk hb
  obtain ⟨hkm, hb⟩ := take_get hb
  rw [swp_get hi hl, if_neg (by omega), if_neg hk] at hb
  exact hb

theorem cut_eq {A : List Ent} {i m : Nat} {ei el : Ent} (hi : A[i]? = some ei) (hl : A[m]? = some el) (hm : A.length = m + 1) : swp A i m ei el = (swp A i m ei el).take m ++ [ei] :=
  take_last (by rw [swp_get hi hl, if_pos rfl]) (by rw [swp_length]; exact hm)

theorem cut_perm {A : List Ent} {i m : Nat} {ei el : Ent} (hi : A[i]? = some ei) (hl : A[m]? = some el) (hm : A.length = m + 1) : (ei :: (swp A i m ei el).take m).Perm A := by
  have h1 := swp_perm hi hl
  rw [cut_eq hi hl hm] at h1
  exact (List.perm_append_singleton _ _).symm.trans h1

theorem set_take {A : List Ent} (m : Nat) (e : Ent) : (A.set m e).take m = A.take m := by
  rw [List.take_set]
  exact List.set_eq_of_length_le (by simp; omega)

theorem set_get {A : List Ent} {i : Nat} {e : Ent} (hi : A[i]? = some e) (e' : Ent) (k : Nat) : (A.set i e')[k]? = if k = i then some e' else A[k]? := by
  have hil : i < A.length := (List.getElem?_eq_some_iff.1 hi).1
  rw [List.getElem?_set]
  by_cases hk : i = k
  · subst hk; simp [hil]
  · rw [if_neg hk, if_neg (fun e => hk e.symm)]

theorem Sound.due' {V : Value → Prop} {A : List Ent} {last : Int} (h : Sound V A last) {i : Nat} {e : Ent} (hi : A[i]? = some e) (d : Int) (hd : 0 ≤ d ∧ d ≤ 18446744073709551615) : Sound V (A.set i { e with due := d }) last := by
  refine ⟨fun k e' hk => ?_, fun k e' hk => ?_, fun k e' hk => ?_, by simpa using h.len, h.last⟩ <;> rw [set_get hi] at hk <;> split at hk
  · cases hk; exact hd
  · exact h.due k e' hk
  · cases hk; exact h.id i e hi
  · exact h.id k e' hk
  · cases hk; exact h.val i e hi
  · exact h.val k e' hk

/-- What the map says of a handle. -/
theorem Tied.look {D : DataW Unit} {A : List Ent} (h : Tied D A) {k c : Int} (hat : D.atKey (key k) (lit 0) = lit c) :
    (Maps.has D (key k) = true ∧ ∃ i e, A[i]? = some e ∧ e.id = k ∧ c = (i : Nat)) ∨ (Maps.has D (key k) = false ∧ ∀ (i : Nat) (e : Ent), A[i]? = some e → e.id ≠ k) := by
  cases hh : Maps.has D (key k) with
  | true =>
    left
    obtain ⟨i, e, hi, he⟩ := h.only k hh
    have := (h.at_ i e hi).2
    rw [he, hat] at this
    exact ⟨rfl, i, e, hi, he, by simpa using this⟩
  | false =>
    right
    refine ⟨rfl, fun i e hi he => ?_⟩
    have := (h.at_ i e hi).1
    rw [he, hh] at this
    cases this

end Go.Proofs.YtbgddldkpjeieaaGreat
