/-
  CONTRACT of the reference's ParsePrefix, over this seat's translation: what the call returns.
  Conditions: the string is shorter than 2 to the 31.
-/
import Derived.Test.YtmhnailcmlomiaaDoorDb
import Derived.Test.YtmhnailcmlomiaaDoorCg
import Derived.Test.YtmhnailcmlomiaaDoorR8
namespace Go.Proofs.YtmhnailcmlomiaaDoor
open Go.ChangeShapes Go.WideShapes Go.ChangeAt Go.RowKit
set_option linter.unusedVariables false

theorem bitsV_nil : bitsV [] = none := rfl
/-- The number behind the slash, as the reference reads it. -/
theorem bits_valid {b : Bool} {xs : List Nat} (y : List UInt8) : ((bitsV y).isSome && validP b xs ((bitsV y).getD 0)) = validP b xs (decI (decR 128 y)) := by
  cases hd : decR 128 y with
  | some n =>
    rw [bitsV_dec hd]
    rfl
  | none =>
    have h1 : validP b xs (decI none) = false := by
      cases hv : validP b xs (decI none) with
      | false => rfl
      | true => exact absurd (validP_parts hv).2.1 (by decide)
    rw [h1]
    cases hb : bitsV y with
    | none => rfl
    | some v =>
      cases hv : validP b xs v with
      | false => simp [hv]
      | true =>
        have hp := validP_parts hv
        have := bitsV_inv hb hp.2.1 (Int.le_trans hp.2.2.1 (bitsOf_le b).2)
        rw [hd] at this
        cases this
theorem cp_two {l x y : List UInt8} (h : splitc 47 l = [x, y]) : cpX l = x ∧ cpY l = y := by
  rw [split_cut] at h
  cases hc : cutc 47 l with
  | none => rw [hc] at h; cases h
  | some p =>
    obtain ⟨a, b⟩ := p
    rw [hc] at h
    have h1 : a :: splitc 47 b = [x, y] := h
    have hx : a = x := (List.cons.inj h1).1
    have hy : splitc 47 b = [y] := (List.cons.inj h1).2
    have hb : b = y := by
      rw [split_cut] at hy
      cases hc2 : cutc 47 b with
      | none => rw [hc2] at hy; exact (List.cons.inj hy).1
      | some q =>
        obtain ⟨q1, q2⟩ := q
        rw [hc2] at hy
        exact absurd (List.cons.inj hy).2 (split_ne 47 q2)
    unfold cpX cpY
    rw [hc]
    exact ⟨hx, hb⟩
theorem cp_other {l : List UInt8} (h : (splitc 47 l).length ≠ 2) : cpB l = false := by
  unfold cpB
  rw [Bool.and_assoc]
  unfold cpN
  rw [bits_valid]
  cases hv : validP (resB (parseS (cpX l))) (resX (parseS (cpX l))) (decI (decR 128 (cpY l))) with
  | false => simp
  | true =>
    exfalso
    cases hd : decR 128 (cpY l) with
    | none => rw [hd] at hv; exact absurd (validP_parts hv).2.1 (by decide)
    | some n =>
      have hall := decR_all hd
      rw [split_cut] at h
      unfold cpY at hd hall
      cases hc : cutc 47 l with
      | none =>
        rw [hc] at hd
        cases hd
      | some p =>
        obtain ⟨a, b⟩ := p
        rw [hc] at h hall
        have hb : splitc 47 b = [b] := splitc_none fun x hx e => by
          have := hall x hx
          rw [e] at this
          exact absurd this.1 (by decide)
        exact h (by show (a :: splitc 47 b).length = 2; rw [hb]; rfl)
theorem cp_ref {l : List UInt8} : cpB l = ((parseS (cpX l)).isSome && validP (resB (parseS (cpX l))) (resX (parseS (cpX l))) (decI (decR 128 (cpY l)))) := by
  unfold cpB cpN
  rw [Bool.and_assoc, bits_valid]
theorem cp_num {l : List UInt8} (h : cpB l = true) : cpN l = decI (decR 128 (cpY l)) := by
  have h2 := h
  rw [cp_ref, Bool.and_eq_true] at h2
  have hp := validP_parts h2.2
  cases hd : decR 128 (cpY l) with
  | none => rw [hd] at hp; exact absurd hp.2.1 (by decide)
  | some n => unfold cpN; rw [bitsV_dec hd]; rfl

end Go.Proofs.YtmhnailcmlomiaaDoor
