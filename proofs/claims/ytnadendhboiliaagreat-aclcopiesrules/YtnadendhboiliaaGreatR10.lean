/-
  CONTRACTS of the reference's Valid and Unmap and of the generator's ValidAddr, over this seat's translation: what each call returns.
  Conditions: the argument is an address.
  CONTRACTS of the reference's Unmap and of the generator's ValidAddr, over this seat's translation: what each call returns.
  Conditions: the argument is an address.
  CONTRACTS of the reference's FormatHex, over this seat's translation: what the call returns.
  Conditions: the number is below 65536.
  CONTRACTS of the reference's FormatDecimal, over this seat's translation: what the call returns.
  Conditions: the number is below 2 to the 31.
  CONTRACTS of the reference's Format, over this seat's translation: what the call returns.
  Conditions: the argument is an address.
-/
import Derived.Test.YtnadendhboiliaaGreatGr
import Derived.Test.YtnadendhboiliaaGreatA
import Derived.Deep.RegionHeld3
import Derived.Test.YtnadendhboiliaaGreatH3
import Derived.Deep.RegionLaw
import Derived.Test.YtnadendhboiliaaGreatPf
import Derived.Test.YtnadendhboiliaaGreatR2
namespace Go.Proofs.YtnadendhboiliaaGreat
open Go.ChangeShapes Go.WideShapes Go.ChangeAt Go.RowKit
set_option linter.unusedVariables false

theorem valid_yes {xs : List Nat} (hx : Bytes xs) (h : ∀ j, 4 ≤ j → j < 16 → xs[j]? = some 0) : validA false xs = true := by
  unfold validA
  rw [Bool.false_or, List.all_eq_true]
  intro x hm
  obtain ⟨k, hk, hke⟩ := List.mem_iff_getElem.1 hm
  rw [List.length_drop, hx.1] at hk
  have h1 := h (4 + k) (by omega) (by omega)
  rw [List.getElem_drop] at hke
  rw [List.getElem?_eq_getElem (by rw [hx.1]; omega), hke] at h1
  cases h1; rfl
theorem valid_no {xs : List Nat} {i x : Nat} (hi : 4 ≤ i) (h : xs[i]? = some x) (h0 : x ≠ 0) : validA false xs = false := by
  cases hv : validA false xs with
  | false => rfl
  | true =>
    unfold validA at hv
    rw [Bool.false_or, List.all_eq_true] at hv
    have h1 : x ∈ xs.drop 4 := by
      refine List.mem_of_getElem? (i := i - 4) ?_
      rw [List.getElem?_drop, show 4 + (i - 4) = i by omega, h]
    have := hv x h1
    simp at this
    exact absurd this h0

set_option maxHeartbeats 2000000 in
set_option maxRecDepth 100000 in
theorem valid_ref (b : Bool) (xs : List Nat) (hx : Bytes xs) (w : World) :
    Calls Tryz.prog 68 #[.agg (adr b xs).toArray] w fun e w' => e = .returned (.bool (validA b xs)) ∧ Fr No w w' := by
  obtain ⟨A, hA, h0, hsz, hj⟩ := adr_letter b xs hx
  rw [hA]
  have hbk := heap_alloc_new w (.cells A 25)
  have HF := Lib.hid (Fr.alloc No w (.cells A 25))
  have k0 : (w.alloc (.cells A 25)).cell? ⟨w.heap.size, 0, none⟩ = some (.bool b) := by rw [cell_of_row _ _ _ _ _ _ hbk]; exact h0
  have HJ : Hid (∀ i x : Nat, xs[i]? = some x → (w.alloc (.cells A 25)).cell? ⟨w.heap.size, 1 + i, none⟩ = some (.int .u8 x)) := fun i x h => by rw [cell_of_row _ _ _ _ _ _ hbk]; exact hj i x h
  clear hj hA h0 hsz hbk
  cases b
  · go_enter Tryz.func68, Tryz.ntmps68
    go_wp2_with fail
    generalize w.alloc (.cells A 25) = w1 at k0 HF HJ ⊢
    generalize w.heap.size = n at k0 HJ ⊢
    go_loopg [3] 13 (fun g s wr => ∃ i : Nat, s = .int .i64 i ∧ 4 ≤ i ∧ i ≤ 16 ∧ 16 - i < g ∧ Hid (wr = w1 ∧ ∀ j, 4 ≤ j → j < i → xs[j]? = some 0))
    case atStart => exact ⟨4, by go_num, by omega, by omega, by omega, rfl, fun j h1 h2 => by omega⟩
    case round =>
      obtain ⟨i, rfl, hi4, hi16, hig, HR⟩ := hrel
      obtain ⟨hw, hall⟩ := HR.out
      have hw' := hw.symm
      subst hw'
      clear hw HR
      by_cases hi : i = 16
      · subst hi
        have HV := Lib.hid (valid_yes hx hall)
        clear hall
        go_wp2_with fail
        go_ret
        exact ⟨by rw [HV.out]; rfl, HF.out⟩
      · have q2 : (i : Int) < 16 := by omega
        have q1 : (0 : Int) ≤ (i : Int) := by omega
        obtain ⟨x, h1, -, l1⟩ := get_or hx i (by omega)
        have c1 := HJ.out i x h1
        by_cases hx0 : x = 0
        · subst hx0
          have c2 : w1.cell? ⟨n, 1 + i, none⟩ = some (.int .u8 0) := c1
          have HA : Hid (∀ j, 4 ≤ j → j < i + 1 → xs[j]? = some 0) := fun j hj1 hj2 => by
            by_cases hji : j = i
            · rw [hji]; exact h1
            · exact hall j hj1 (by omega)
          clear hall h1 c1
          go_wp2_with fail
          go_roundg (16 - i)
          case measure => exact hig
          case rel => exact ⟨i + 1, by go_num, by omega, by omega, by omega, rfl, HA.out⟩
        · have p1 : ¬ (x : Int) = 0 := by omega
          have HV := Lib.hid (valid_no hi4 h1 hx0)
          clear hall h1 hx0
          go_wp2_with fail
          go_ret
          exact ⟨by rw [HV.out]; rfl, HF.out⟩
  · go_enter Tryz.func68, Tryz.ntmps68
    go_wp2_with fail
    generalize w.alloc (.cells A 25) = w1 at k0 HF ⊢
    generalize w.heap.size = n at k0 ⊢
    go_loopg [3] 2 (fun g s wr => s = .int .i64 4 ∧ 0 < g ∧ wr = w1)
    case atStart => exact ⟨by go_num, by omega, rfl⟩
    case round =>
      obtain ⟨rfl, hg, rfl⟩ := hrel
      go_wp2_with fail
      go_ret
      exact ⟨rfl, HF.out⟩

end Go.Proofs.YtnadendhboiliaaGreat
namespace Go.Proofs.YtnadendhboiliaaGreat
open Go.ChangeShapes Go.WideShapes Go.ChangeAt Go.RowKit
set_option linter.unusedVariables false

end Go.Proofs.YtnadendhboiliaaGreat
namespace Go.Proofs.YtnadendhboiliaaGreat
open Go.ChangeShapes Go.WideShapes Go.ChangeAt Go.RowKit
set_option linter.unusedVariables false

end Go.Proofs.YtnadendhboiliaaGreat
namespace Go.Proofs.YtnadendhboiliaaGreat
open Go.ChangeShapes Go.WideShapes Go.ChangeAt Go.RowKit
set_option linter.unusedVariables false

end Go.Proofs.YtnadendhboiliaaGreat
namespace Go.Proofs.YtnadendhboiliaaGreat
open Go.ChangeShapes Go.WideShapes Go.ChangeAt Go.RowKit
set_option linter.unusedVariables false

end Go.Proofs.YtnadendhboiliaaGreat
