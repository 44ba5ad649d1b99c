/-
  CONTRACTS of find where it finds nothing, Get, Set and Free of the arena of endpoints, over this seat's translation: what each call returns, what it leaves in memory.
  Conditions: the arena lies in memory as ArenaAt says.
-/
import Derived.Test.YtgelgnakhghpkaaP1
namespace Go.Proofs.Ytgelgnakhghpkaa.P
open Go.ChangeShapes Go.WideShapes Go.ChangeAt Go.RowKit
set_option linter.unusedVariables false

set_option maxHeartbeats 1000000 in
set_option maxRecDepth 100000 in
theorem find_miss (hb : Nat) (sv : Value) (A : List Slot) (size : Nat) (c ix gn : Int) (w : World) (h : RA w hb sv A size c) (hlen : A.length ≤ 4096) (hl : ∀ i s, ¬ Live A ix gn i s) :
    Calls Try.prog 38 #[.pointer (some ⟨hb, 0, none⟩), .agg #[.int .i64 ix, .int .i64 gn]] w fun e w' => e = .returned (.pointer none) ∧ Fr No w w' := by
  have hr := h.frNo (Fr.alloc No w (.cells #[.int .i64 ix, .int .i64 gn] 38))
  obtain ⟨a, cap, rfl⟩ := hr.any
  obtain ⟨c0, -, -⟩ := hr.hcell
  obtain ⟨n, hn⟩ : ∃ n, A.length = n := ⟨_, rfl⟩
  rw [hn] at c0 hlen
  by_cases h0 : ix < 0
  · have q3 : decide (ix < 0) = true := decide_eq_true h0
    clear h hr hl hn
    go_enter Try.func38, Try.ntmps38
    go_wp2_with fail
    go_quiet (fail)
    go_wp2_with fail
    go_ret
    refine ⟨rfl, ⟨rfl, rfl, rfl, ?_, ?_⟩⟩
    · simp [World.drewN]
    · intro k hk _
      exact Below.heap_alloc _ _ _ hk
  · have q3 : decide (ix < 0) = false := decide_eq_false h0
    obtain ⟨i, rfl⟩ : ∃ i : Nat, ix = i := ⟨ix.toNat, by omega⟩
    by_cases h1 : n ≤ i
    · have q4 : (n : Int) ≤ (i : Int) := by omega
      clear h hr hl hn
      go_enter Try.func38, Try.ntmps38
      go_wp2_with fail
      go_quiet (fail)
      go_wp2_with fail
      go_ret
      refine ⟨rfl, ⟨rfl, rfl, rfl, ?_, ?_⟩⟩
      · simp [World.drewN]
      · intro k hk _
        exact Below.heap_alloc _ _ _ hk
    · have q1 : (0 : Int) ≤ (i : Int) := by omega
      have q2 : (i : Int) < (n : Int) := by omega
      obtain ⟨s, gs⟩ : ∃ s, A[i]? = some s := ⟨_, List.getElem?_eq_getElem (by omega)⟩
      obtain ⟨g, cap', hv⟩ := hr.form (by omega)
      obtain rfl : a = some ⟨g, 0, none⟩ := by cases hv; rfl
      have e0 := hr.ecells gs 0 _ rfl
      have e1 := hr.ecells gs 1 _ rfl
      rw [Nat.add_zero] at e0
      obtain ⟨u, gen, val⟩ := s
      cases u with
      | false =>
        clear h hr hl hn gs hv
        simp only at e0 e1
        go_enter Try.func38, Try.ntmps38
        go_wp2_with fail
        go_quiet (fail)
        go_wp2_with fail
        go_quiet (fail)
        go_wp2_with fail
        go_quiet (fail)
        go_wp2_with fail
        go_ret
        refine ⟨rfl, ⟨rfl, rfl, rfl, ?_, ?_⟩⟩
        · simp [World.drewN]
        · intro k hk _
          exact Below.heap_alloc _ _ _ hk
      | true =>
        have hne : gen ≠ gn := fun e => hl i _ ⟨rfl, gs, rfl, e⟩
        have hne' : (gen == gn) = false := by simpa using hne
        clear h hr hl hn gs hv
        simp only at e0 e1
        go_enter Try.func38, Try.ntmps38
        go_wp2_with fail
        go_quiet (fail)
        go_wp2_with fail
        go_quiet (fail)
        go_wp2_with fail
        go_quiet (fail)
        go_wp2_with fail
        go_ret
        refine ⟨rfl, ⟨rfl, rfl, rfl, ?_, ?_⟩⟩
        · simp [World.drewN]
        · intro k hk _
          exact Below.heap_alloc _ _ _ hk


end Go.Proofs.Ytgelgnakhghpkaa.P
