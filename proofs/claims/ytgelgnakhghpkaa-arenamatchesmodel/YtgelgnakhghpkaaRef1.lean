/-
  CONTRACTS of Valid, Alloc and Handles of the reference arena, over this seat's translation: what each call returns, what it leaves in memory.
  Conditions: the reference arena lies in memory as RefAt says.
-/
import Derived.Test.YtgelgnakhghpkaaRef
namespace Go.Proofs.Ytgelgnakhghpkaa
open Go.ChangeShapes Go.WideShapes Go.ChangeAt Go.RowKit
set_option linter.unusedVariables false

theorem fr_box {w : World} {o : Obj} {q : Nat} : Fr No w ((w.alloc o).drewN q) := (Fr.alloc No w o).trans (Fr.drewN No _ q)

set_option maxHeartbeats 2000000 in
set_option maxRecDepth 100000 in
theorem valid_hit (xb g k : Nat) (R : List RS) (B ix gn : Int) (i : Nat) (r : RS) (w : World) (h : RefAt w xb g k R B) (hl : LiveR R ix gn i r) :
    Calls Try.prog 13 #[.pointer (some ⟨xb, 0, none⟩), .agg #[.int .i64 ix, .int .i64 gn]] w fun e w' => e = .returned (.bool true) ∧ Fr No w w' := by
  obtain ⟨rfl, hr, hu, rfl⟩ := hl
  have hik : i < k := by rw [← h.len]; exact (List.getElem?_eq_some_iff.1 hr).1
  have hk8 := h.small
  have h1 := h.frNo (Fr.alloc No w (.cells #[.int .i64 (i : Int), .int .i64 r.gen] 38))
  have c0 := h1.hcell
  obtain ⟨e0, e1, e2⟩ := h1.ecells hr
  rw [hu] at e1
  generalize r.gen = gn at *
  have q1 : (0 : Int) ≤ (i : Int) := by omega
  have q2 : (i : Int) < (k : Int) := by omega
  clear h h1 hr hu
  go_enter Try.func13, Try.ntmps13
  go_wp2_with fail
  go_quiet (fail)
  go_wp2_with fail
  go_ret
  exact ⟨rfl, fr_box⟩

set_option maxHeartbeats 4000000 in
set_option maxRecDepth 100000 in
theorem valid_miss (xb g k : Nat) (R : List RS) (B ix gn : Int) (w : World) (h : RefAt w xb g k R B) (hl : ∀ i r, ¬ LiveR R ix gn i r) :
    Calls Try.prog 13 #[.pointer (some ⟨xb, 0, none⟩), .agg #[.int .i64 ix, .int .i64 gn]] w fun e w' => e = .returned (.bool false) ∧ Fr No w w' := by
  have hk8 := h.small
  have h1 := h.frNo (Fr.alloc No w (.cells #[.int .i64 ix, .int .i64 gn] 38))
  have c0 := h1.hcell
  by_cases h0 : 0 ≤ ix
  · obtain ⟨i, rfl⟩ : ∃ i : Nat, ix = i := ⟨ix.toNat, by omega⟩
    by_cases hik : i < k
    · obtain ⟨r, hr⟩ : ∃ r, R[i]? = some r := ⟨_, List.getElem?_eq_getElem (by rw [h.len]; exact hik)⟩
      obtain ⟨e0, e1, e2⟩ := h1.ecells hr
      have q2 : (i : Int) < (k : Int) := by omega
      obtain ⟨gen, used, val⟩ := r
      simp only at e0 e1 e2
      cases used with
      | false =>
        clear h h1 hr hl
        go_enter Try.func13, Try.ntmps13
        go_wp2_with fail
        go_quiet (fail)
        go_wp2_with fail
        go_ret
        exact ⟨rfl, fr_box⟩
      | true =>
        have hne : gen ≠ gn := fun e => hl i _ ⟨rfl, hr, rfl, e⟩
        have hne' : (gen == gn) = false := by simpa using hne
        clear h h1 hr hl
        go_enter Try.func13, Try.ntmps13
        go_wp2_with fail
        go_quiet (fail)
        go_wp2_with fail
        go_ret
        exact ⟨rfl, fr_box⟩
    · have q2 : decide ((i : Int) < (k : Int)) = false := decide_eq_false (by omega)
      clear h h1 hl
      go_enter Try.func13, Try.ntmps13
      go_wp2_with fail
      go_quiet (fail)
      go_wp2_with fail
      go_ret
      exact ⟨rfl, fr_box⟩
  · have q1 : decide (0 ≤ ix) = false := decide_eq_false h0
    clear h h1 hl
    go_enter Try.func13, Try.ntmps13
    go_wp2_with fail
    go_quiet (fail)
    go_wp2_with fail
    go_ret
    exact ⟨rfl, fr_box⟩

end Go.Proofs.Ytgelgnakhghpkaa
