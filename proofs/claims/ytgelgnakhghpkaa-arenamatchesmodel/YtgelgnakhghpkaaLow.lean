/-
  Which slot is allocated: arenas that are filled from the front, and two of whose slots are freed; no walk.
  Conditions: as each theorem says.
-/
import Derived.Test.YtgelgnakhghpkaaAwake
import Derived.Test.YtgelgnakhghpkaaHand
namespace Go.Proofs.Ytgelgnakhghpkaa
open Go.ChangeShapes Go.WideShapes Go.ChangeAt Go.RowKit
set_option linter.unusedVariables false

abbrev UI := Uno I.V 64 73 3

theorem put_at {A A' : List Slot} {i j : Nat} {gn : Int} {vs : List Value} {s : Slot} (h : Put A i gn vs A') (hf : Free A j) (hj : A[j]? = some s) : i = j ∧ gn = s.gen + 1 ∧ A' = A.set j ⟨true, s.gen + 1, vs⟩ := by
  obtain rfl := h.1.unique hf
  obtain ⟨_, ⟨t, ht, hu, rfl, rfl⟩ | ⟨h1, rfl, rfl⟩⟩ := h
  · rw [hj] at ht
    cases ht
    exact ⟨rfl, rfl, rfl⟩
  · have := (List.getElem?_eq_some_iff.1 hj).1
    omega

theorem put_end {A A' : List Slot} {i : Nat} {gn : Int} {vs : List Value} (h : Put A i gn vs A') (hf : cnt A = A.length) : i = A.length ∧ gn = 1 ∧ A' = A ++ [⟨true, 1, vs⟩] := by
  obtain rfl := h.1.unique (Free.full hf)
  obtain ⟨_, ⟨t, ht, _⟩ | ⟨h1, rfl, rfl⟩⟩ := h
  · have := (List.getElem?_eq_some_iff.1 ht).1
    omega
  · exact ⟨rfl, rfl, rfl⟩

def filled (n : Nat) : List Slot := (List.range n).map fun (j : Nat) => ⟨true, 1, [.int .i64 (j : Int)]⟩
def firsts (n : Nat) : List (Int × Int) := (List.range n).map fun (j : Nat) => ((j : Int), (1 : Int))

theorem filled_length (n : Nat) : (filled n).length = n := by simp [filled]
theorem firsts_length (n : Nat) : (firsts n).length = n := by simp [firsts]
theorem filled_succ (n : Nat) : filled (n + 1) = filled n ++ [⟨true, 1, [.int .i64 (n : Int)]⟩] := by simp [filled, List.range_succ]
theorem firsts_succ (n : Nat) : firsts (n + 1) = firsts n ++ [((n : Int), (1 : Int))] := by simp [firsts, List.range_succ]
theorem filled_get {n j : Nat} (h : j < n) : (filled n)[j]? = some ⟨true, 1, [.int .i64 (j : Int)]⟩ := by simp [filled, h]
theorem firsts_get {n j : Nat} (h : j < n) : (firsts n)[j]? = some ((j : Int), (1 : Int)) := by simp [firsts, h]
theorem filled_cnt (n : Nat) : cnt (filled n) = n := by
  rw [cnt_all, filled_length]
  intro i s hs
  have hi := (List.getElem?_eq_some_iff.1 hs).1
  rw [filled_length] at hi
  rw [filled_get hi] at hs
  cases hs
  rfl

def two (n f g : Nat) : List Slot := ((filled n).set f ⟨false, 1, I.zs⟩).set g ⟨false, 1, I.zs⟩

theorem two_length (n f g : Nat) : (two n f g).length = n := by simp [two, filled_length]

theorem two_get {n f g j : Nat} (hf : f < n) (hg : g < n) (hj : j < n) : (two n f g)[j]? = if j = f ∨ j = g then some ⟨false, 1, I.zs⟩ else some ⟨true, 1, [.int .i64 (j : Int)]⟩ := by
  unfold two
  rw [List.getElem?_set]
  by_cases h1 : g = j
  · subst h1; simp [filled_length, hj]
  · rw [if_neg h1, List.getElem?_set]
    by_cases h2 : f = j
    · subst h2; simp [filled_length, hj]
    · rw [if_neg h2, filled_get hj, if_neg]
      omega

theorem one_live {n f g : Nat} (hne : f ≠ g) (hg : g < n) : ((filled n).set f ⟨false, 1, I.zs⟩)[g]? = some ⟨true, 1, [.int .i64 (g : Int)]⟩ := by
  rw [List.getElem?_set, if_neg hne, filled_get hg]

theorem two_cnt {n f g : Nat} (hne : f ≠ g) (hf : f < n) (hg : g < n) : cnt (two n f g) + 2 = n := by
  have h1 := cnt_set f _ ⟨false, 1, I.zs⟩ (filled_get hf)
  have h2 := cnt_set g _ ⟨false, 1, I.zs⟩ (one_live hne hg)
  rw [filled_cnt] at h1
  simp at h1 h2
  unfold two
  omega

/-- The lower of two free slots is allocated first, then the other. -/
theorem low_first {n f g i : Nat} {gn : Int} {vs : List Value} {A' : List Slot} (hf : f < n) (hg : g < n) (h : Put (two n f g) i gn vs A') : i = min f g ∧ gn = 2 ∧ A' = (two n f g).set (min f g) ⟨true, 2, vs⟩ := by
  have hm : (two n f g)[min f g]? = some ⟨false, 1, I.zs⟩ := by
    rw [two_get hf hg (by omega), if_pos (by omega)]
  have hF : Free (two n f g) (min f g) := by
    refine ⟨fun j s hj hs => ?_, fun _ => ⟨_, hm, rfl⟩, by rw [two_length]; omega⟩
    rw [two_get hf hg (by omega), if_neg (by omega)] at hs
    cases hs; rfl
  exact put_at h hF hm

theorem low_second {n f g i : Nat} {gn : Int} {vs us : List Value} {A' : List Slot} (hne : f ≠ g) (hf : f < n) (hg : g < n) (h : Put ((two n f g).set (min f g) ⟨true, 2, us⟩) i gn vs A') : i = max f g ∧ gn = 2 := by
  have hget : ∀ j, j < n → ((two n f g).set (min f g) ⟨true, 2, us⟩)[j]? = if j = min f g then some ⟨true, 2, us⟩ else (two n f g)[j]? := by
    intro j hj
    rw [List.getElem?_set]
    by_cases h1 : min f g = j
    · rw [if_pos h1, if_pos h1.symm, if_pos (by rw [two_length]; omega)]
    · rw [if_neg h1, if_neg (fun e => h1 e.symm)]
  have hm : ((two n f g).set (min f g) ⟨true, 2, us⟩)[max f g]? = some ⟨false, 1, I.zs⟩ := by
    rw [hget _ (by omega), if_neg (by omega), two_get hf hg (by omega), if_pos (by omega)]
  have hF : Free ((two n f g).set (min f g) ⟨true, 2, us⟩) (max f g) := by
    refine ⟨fun j s hj hs => ?_, fun _ => ⟨_, hm, rfl⟩, by rw [List.length_set, two_length]; omega⟩
    rw [hget _ (by omega)] at hs
    split at hs
    · cases hs; rfl
    · rw [two_get hf hg (by omega), if_neg (by omega)] at hs
      cases hs; rfl
  have := put_at h hF hm
  exact ⟨this.1, this.2.1⟩

/-- One handle of a row. -/
theorem rowH_cell {w : World} {base : Nat} {a : Option Addr} {n cp : Nat} {L : List (Int × Int)} (h : w.ownsRow base 38 2 (.slice a n cp) n (flatH L)) {i : Nat} {p : Int × Int} (hp : L[i]? = some p) :
    ∃ b, a = some ⟨b, 0, none⟩ ∧ w.cell? ⟨b, i * 2, none⟩ = some (.int .i64 p.1) ∧ w.cell? ⟨b, i * 2 + 1, none⟩ = some (.int .i64 p.2) := by
  have hl : L.length = n := by have := h.1; rw [flatH_length] at this; omega
  have hi := (List.getElem?_eq_some_iff.1 hp).1
  obtain ⟨g, cap, hv, _⟩ := h.form (by omega)
  cases hv
  obtain ⟨h1, h2⟩ := flatH_get L i p hp
  refine ⟨g, rfl, ?_, ?_⟩
  · rw [h.cellAt _ (by omega)]; exact h1
  · rw [h.cellAt _ (by omega)]; exact h2

theorem slice_form {w : World} {base : Nat} {e : TypeId} {K n : Nat} {v : Value} {xs : List Value} (h : w.ownsRow base e K v n xs) : ∃ a cp, v = .slice a n cp := by
  rcases h.2 with ⟨hv, hn'⟩ | ⟨g, cap, cur, hv, _⟩
  · exact ⟨none, 0, by rw [hv, hn']⟩
  · exact ⟨_, cap, by rw [hv]⟩

end Go.Proofs.Ytgelgnakhghpkaa
