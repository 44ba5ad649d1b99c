/-
  CONTRACTS of the reference's Parse, over this seat's translation: what the call returns.
  Conditions: the string is shorter than 2 to the 31.
-/
import Derived.Test.YtmhnailcmlomiaaDoorR7
import Derived.Test.YtmhnailcmlomiaaDoorR6
import Derived.Test.YtmhnailcmlomiaaDoorP7
namespace Go.Proofs.YtmhnailcmlomiaaDoor
open Go.ChangeShapes Go.WideShapes Go.ChangeAt Go.RowKit
set_option linter.unusedVariables false

theorem two_pre (x : UInt8) (l : List UInt8) : [58, 58].isPrefixOf (x :: l) = true ↔ x = 58 ∧ l[0]? = some 58 := by
  cases l with
  | nil => simp [List.isPrefixOf]
  | cons y r =>
    simp [List.isPrefixOf]
    constructor
    · rintro ⟨h1, h2⟩; exact ⟨h1.symm, h2.symm⟩
    · rintro ⟨h1, h2⟩; exact ⟨h1.symm, h2.symm⟩
theorem cut2_no : ∀ {l : List UInt8}, (∀ j : Nat, l[j]? = some (58 : UInt8) → l[j + 1]? = some (58 : UInt8) → False) → cut2 l = none
  | [], _ => rfl
  | x :: l, h => by
    rw [cut2, if_neg, cut2_no (l := l) (fun j h1 h2 => h (j + 1) (by simpa using h1) (by simpa using h2))]
    · rfl
    · intro hp
      obtain ⟨rfl, h1⟩ := (two_pre x l).1 hp
      exact h 0 rfl (by simpa using h1)
theorem cut2_hit : ∀ {l : List UInt8} {i : Nat}, (∀ j : Nat, j < i → l[j]? = some (58 : UInt8) → l[j + 1]? = some (58 : UInt8) → False) → l[i]? = some 58 → l[i + 1]? = some 58 → cut2 l = some (l.take i, l.drop (i + 2))
  | [], i, _, h1, _ => by simp at h1
  | x :: l, 0, _, h1, h2 => by
    have hx : x = 58 := by simpa using h1
    rw [cut2, if_pos ((two_pre x l).2 ⟨hx, by simpa using h2⟩)]
    rfl
  | x :: l, i + 1, h, h1, h2 => by
    rw [cut2, if_neg, cut2_hit (l := l) (i := i) (fun j hj h3 h4 => h (j + 1) (by omega) (by simpa using h3) (by simpa using h4)) (by simpa using h1) (by simpa using h2)]
    · rfl
    · intro hp
      obtain ⟨rfl, h3⟩ := (two_pre x l).1 hp
      exact h 0 (by omega) rfl (by simpa using h3)

theorem no_colon {l : List UInt8} (h : l.contains 58 = false) : ∀ x ∈ l, x ≠ 58 := by
  intro x hx e
  subst e
  have : l.contains 58 = true := by simpa using hx
  rw [this] at h
  cases h
/-- Without the two colons, and no IPv4 address. -/
theorem parse_plain {l : List UInt8} (h4 : par 3 l = none) (h2 : cut2 l = none) : parseS l = (eight (grpP true l)).map fun gs => (true, pack gs) := by
  cases hc : l.contains 58 with
  | true => rw [parseS, if_pos hc, parse6, h2]
  | false =>
    rw [parseS, hc, if_neg (by decide), h4]
    have : eight (grpP true l) = none := by
      unfold grpP
      split
      · rfl
      · rw [splitc_none (no_colon hc), grpGo_one, if_pos rfl, h4]
        show eight ((hexV l).map _) = none
        cases hexV l <;> rfl
    rw [this]; rfl
theorem parse_cut {l a b : List UInt8} (h2 : cut2 l = some (a, b)) : parseS l = (fill (grpP false a) (grpP true b)).map fun gs => (true, pack gs) := by
  have hc : l.contains 58 = true := by
    have : ∀ {l a b : List UInt8}, cut2 l = some (a, b) → (58 : UInt8) ∈ l := by
      intro l
      induction l with
      | nil => intro a b h; cases h
      | cons x l ih =>
        intro a b h
        rw [cut2] at h
        split at h
        · rename_i hp
          rw [((two_pre x l).1 hp).1]; simp
        · obtain ⟨p, hp, _⟩ := Option.map_eq_some_iff.1 h
          exact List.mem_cons_of_mem _ (ih (a := p.1) (b := p.2) hp)
    simpa using this h2
  rw [parseS, if_pos hc, parse6, h2]

theorem own_other {o o6 : Option Nat} {ws wr w4 b : Nat} (h : o6 = o ∨ o6 = some ws) (ho : o ≠ some b) (hb : b < w4) (hs : ws = wr + 1) (hw : w4 ≤ wr) : o6 ≠ some b := by
  rcases h with h | h
  · rw [h]; exact ho
  · rw [h]; intro e; have := Option.some.inj e; omega
theorem grpGo_length (last : Bool) : ∀ (ps : List (List UInt8)) (gs : List Nat), grpGo last ps = some gs → gs.length ≤ ps.length + 1
  | [], gs, h => by rw [grpGo] at h; cases h; simp
  | [p], gs, h => by
    rw [grpGo_one] at h
    split at h
    · rename_i xs hx
      cases h
      have := two_length xs
      simp; omega
    · obtain ⟨x, hx, rfl⟩ := Option.map_eq_some_iff.1 h
      simp
  | p :: q :: r, gs, h => by
    rw [grpGo_more last p (by simp)] at h
    split at h
    · rename_i hr
      cases h
      have := grpGo_length last (q :: r) _ hr
      simp at this ⊢
      omega
    · cases h
theorem grpP_length {last : Bool} {l : List UInt8} {gs : List Nat} (h : grpP last l = some gs) : gs.length ≤ l.length + 2 := by
  unfold grpP at h
  split at h
  · cases h; simp
  · have := grpGo_length last _ _ h
    have := splitc_len 58 l
    omega
theorem fill_eight {l : List UInt8} {gs : List Nat} {n : Nat} (h : parseS l = (eight (grpP true l)).map fun gs => (true, pack gs)) (hg : grpP true l = some gs) (hn : gs.length = n) : adr (decide (n = 8)) (v6Of gs) = adr (resB (parseS l)) (resX (parseS l)) ∧ decide (n = 8) = (parseS l).isSome := by
  rw [h, hg]
  subst hn
  by_cases h8 : gs.length = 8
  · simp [eight, h8, v6Of, resB, resX]
  · simp [eight, h8, v6Of, resB, resX]

end Go.Proofs.YtmhnailcmlomiaaDoor
