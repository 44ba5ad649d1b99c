/-
  What holds of names that are joined; IsSubdomain of strings of any length; no loop.
  Conditions: none.
-/
import Derived.Test.YtdnfmilihfkhmaaDoorVc
namespace Go.Proofs.YtdnfmilihfkhmaaDoor
open Go.ChangeShapes Go.WideShapes Go.ChangeAt Go.RowKit
set_option linter.unusedVariables false

theorem splitc_nonempty (c : UInt8) (l : List UInt8) : splitc c l ≠ [] := by
  intro e
  have := splitc_count c l
  rw [e] at this
  simp at this
theorem splitc_app (c : UInt8) (y : List UInt8) : ∀ x : List UInt8, splitc c (x ++ c :: y) = splitc c x ++ splitc c y
  | [] => by
    show splitc c (c :: y) = [[]] ++ splitc c y
    conv => lhs; rw [splitc]
    rw [if_pos rfl]; rfl
  | a :: x => by
    have ih := splitc_app c y x
    rw [List.cons_append, splitc, splitc]
    by_cases h : a = c
    · rw [if_pos h, if_pos h, ih]; rfl
    · rw [if_neg h, if_neg h, ih]
      cases hs : splitc c x with
      | nil => exact absurd hs (splitc_nonempty c x)
      | cons h t => rfl
theorem nameV_join {x y : List UInt8} (hx : nameV x = true) (hy : nameV y = true) (hl : x.length + y.length ≤ 252) : nameV (x ++ 46 :: y) = true := by
  unfold nameV at hx hy ⊢
  simp only [Bool.and_eq_true] at hx hy
  rw [splitc_app, decide_eq_true (by simp; omega), List.all_append, hx.1.2, hy.1.2]
  have h1 : (splitc 46 x ++ splitc 46 y).getLastD [] = (splitc 46 y).getLastD [] := by
    rw [List.getLastD_eq_getLast?, List.getLastD_eq_getLast?, List.getLast?_append]
    cases hs : (splitc 46 y).getLast? with
    | none => exact absurd (List.getLast?_eq_none_iff.1 hs) (splitc_nonempty 46 y)
    | some z => rfl
  rw [h1, hy.2]
  rfl
theorem sufV_app (a m : List UInt8) : sufV (a ++ m) m = true := by
  unfold sufV
  rw [decide_eq_true (by simp), show (a ++ m).length - m.length = a.length by simp, List.drop_left]
  simp
theorem cntV_join {x y : List UInt8} (hx : nameV x = true) (hy : nameV y = true) (hl : x.length + y.length ≤ 252) : cntV (x ++ 46 :: y) = cntV x + cntV y := by
  unfold cntV
  rw [if_pos (nameV_join hx hy hl), if_pos hx, if_pos hy, splitc_app, List.length_append]
theorem sub1 {x y : List UInt8} (hx : nameV x = true) (hy : nameV y = true) (hl : x.length + y.length ≤ 252) : subV (x ++ 46 :: y) y = true := by
  unfold subV
  rw [nameV_join hx hy hl, hy, sufV_app]
  simp
theorem sub2 {y : List UInt8} (hy : nameV y = true) : subV y y = true := by
  unfold subV
  rw [hy]; simp
theorem sub3 (x y : List UInt8) : subV y (x ++ 46 :: y) = false := by
  have h1 : ¬ y = x ++ 46 :: y := fun e => by have := congrArg List.length e; simp at this; omega
  unfold subV
  rw [decide_eq_false h1, sufV_none (by simp; omega)]
  simp
theorem sub4 {x y : List UInt8} (hx : nameV x = true) (hy : nameV y = true) (hl : x.length + y.length ≤ 250) : subV (107 :: 46 :: (x ++ 46 :: y)) y = true := by
  have e : 107 :: 46 :: (x ++ 46 :: y) = ([107] ++ 46 :: x) ++ 46 :: y := rfl
  have h1 : nameV ([107] ++ 46 :: x) = true := nameV_join (by decide +kernel) hx (by simp; omega)
  rw [e]
  exact sub1 h1 hy (by simp; omega)
theorem sub5 (y : List UInt8) : subV (107 :: y) y = false := by
  have h1 : ¬ 107 :: y = y := fun e => by have := congrArg List.length e; simp at this
  have h2 : sufV (107 :: y) (46 :: y) = false := by
    unfold sufV
    rw [show (107 :: y).length - (46 :: y).length = 0 by simp, List.drop_zero]
    rw [decide_eq_false (p := (107 :: y : List UInt8) = 46 :: y) (by intro e; cases e)]
    simp
  unfold subV
  rw [decide_eq_false h1, h2]
  simp
theorem nameP_name {l x : List UInt8} (h : nameP l = some x) : nameV x = true := by
  unfold nameP at h
  split at h
  · rename_i hh; cases h; exact hh
  · cases h

set_option maxHeartbeats 2000000 in
set_option maxRecDepth 100000 in
theorem sub_all (a b : List UInt8) (w : World) : Calls Tryd.prog 30 #[.string (bs a), .string (bs b)] w fun e w' => e = .returned (.bool (subV a b)) ∧ w' = w := by
  by_cases hs : a.length < 4611686018427387904 ∧ b.length < 4611686018427387904
  · exact sub_any a b hs.1 hs.2 w
  · have HN1 := Lib.hid (name_any a)
    have HN2 := Lib.hid (name_any b)
    have hor : nameV a = false ∨ (nameV a = true ∧ nameV b = false) := by
      cases h1 : nameV a with
      | false => exact .inl rfl
      | true =>
        cases h2 : nameV b with
        | false => exact .inr ⟨rfl, rfl⟩
        | true => have := nameV_short h1; have := nameV_short h2; exact absurd ⟨by omega, by omega⟩ hs
    rcases hor with h1 | ⟨h1, h2⟩
    · have HV : Hid (subV a b = false) := by show _ = _; unfold subV; rw [h1]; rfl
      rw [h1] at HN1
      generalize bs a = x at HN1 ⊢
      generalize bs b = y at HN2 ⊢
      clear h1 hs
      go_enter Tryd.func30, Tryd.ntmps30
      go_wp2_with (first | (go_at_call 50; with_reducible refine (HN1.out _).mono ?_; rintro e w3 ⟨rfl, rfl⟩) | fail)
      go_ret
      exact ⟨by rw [HV.out]; rfl, rfl⟩
    · have HV : Hid (subV a b = false) := by show _ = _; unfold subV; rw [h1, h2]; rfl
      rw [h1] at HN1
      rw [h2] at HN2
      generalize bs a = x at HN1 ⊢
      generalize bs b = y at HN2 ⊢
      clear h1 h2 hs
      go_enter Tryd.func30, Tryd.ntmps30
      go_wp2_with (first | (go_at_call 50; with_reducible refine (HN1.out _).mono ?_; rintro e w3 ⟨rfl, rfl⟩) | (go_at_call 50; with_reducible refine (HN2.out _).mono ?_; rintro e w3 ⟨rfl, rfl⟩) | fail)
      go_ret
      exact ⟨by rw [HV.out]; rfl, rfl⟩
end Go.Proofs.YtdnfmilihfkhmaaDoor
