/-
  Where the last colon stands as a string is read on, and that an IPv4 address holds no colon; no walk.
  Conditions: as each theorem says.
-/
import Derived.Test.YtmhnailcmlomiaaGreatDoorPt
import Derived.Test.YtmhnailcmlomiaaGreatDoorR5
namespace Go.Proofs.YtmhnailcmlomiaaGreatDoor
open Go.ChangeShapes Go.WideShapes Go.ChangeAt Go.RowKit
set_option linter.unusedVariables false

theorem lastc_snoc (c x : UInt8) : ∀ a : List UInt8, lastc c (a ++ [x]) = if x = c then some a.length else lastc c a
  | [] => by
    show lastc c [x] = _
    rw [lastc]
    simp [lastc]
  | y :: a => by
    rw [List.cons_append, lastc, lastc_snoc c x a]
    by_cases h : x = c
    · rw [if_pos h, if_pos h]
      simp
    · rw [if_neg h, if_neg h, lastc]
theorem dec58 {a : List UInt8} {x : Nat} (h : decV a = some x) : ∀ y ∈ a, y ≠ 58 := by
  rw [decV_decR] at h
  rw [decR_unique h]
  intro y hy e
  have h1 := List.all_eq_true.1 (oct8_dig x) y hy
  rw [dig_iff, e] at h1
  exact absurd (of_decide_eq_true h1) (by decide)
theorem par58 : ∀ (k : Nat) (l : List UInt8) (xs : List Nat), par k l = some xs → ∀ y ∈ l, y ≠ 58
  | 0, l, xs, h => by
    unfold par at h
    cases hc : cutc 46 l with
    | some p => rw [hc] at h; cases h
    | none =>
      rw [hc] at h
      cases hd : decV l with
      | none => simp [hd] at h
      | some x => exact dec58 hd
  | k + 1, l, xs, h => by
    unfold par at h
    cases hc : cutc 46 l with
    | none => rw [hc] at h; cases h
    | some p =>
      obtain ⟨a, b⟩ := p
      rw [hc] at h
      cases hd : decV a with
      | none => simp [hd] at h
      | some x =>
        cases hp : par k b with
        | none => simp [hd, hp] at h
        | some r =>
          rw [cutc_eq hc]
          intro y hy
          rcases List.mem_append.1 hy with hy | hy
          · exact dec58 hd y hy
          · rcases List.mem_cons.1 hy with rfl | hy
            · decide
            · exact par58 k b r hp y hy
/-- The reference's way to an IPv4 address is the program's. -/
theorem quad_pa (l : List UInt8) : isQ (par 3 l) = pa l false ∧ (pa l false = true → quad (par 3 l) = resX (parseS l) ∧ resB (parseS l) = false) := by
  cases hc : l.contains 58 with
  | true =>
    have hp : par 3 l = none := by
      cases hp : par 3 l with
      | none => rfl
      | some xs => exact absurd rfl (par58 3 l xs hp 58 (by simpa using hc))
    have h1 : pa l false = false := by
      unfold pa parseS
      rw [hc, if_pos rfl]
      cases parse6 l <;> rfl
    rw [hp, h1]
    exact ⟨rfl, fun h => by cases h⟩
  | false =>
    have hS : parseS l = (par 3 l).map fun xs => (false, xs ++ [0, 0, 0, 0, 0, 0, 0, 0, 0, 0, 0, 0]) := by
      unfold parseS
      rw [hc]
      rfl
    unfold pa
    rw [hS]
    cases hp : par 3 l with
    | none => exact ⟨rfl, fun h => by cases h⟩
    | some xs =>
      have h4 := par_length 3 l xs hp
      match xs, h4 with
      | [a, b, c, d], _ => exact ⟨rfl, fun _ => ⟨rfl, rfl⟩⟩
end Go.Proofs.YtmhnailcmlomiaaGreatDoor
