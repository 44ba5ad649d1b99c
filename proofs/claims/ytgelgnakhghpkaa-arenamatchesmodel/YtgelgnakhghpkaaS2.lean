/-
  CONTRACTS of find where it finds nothing, Get, Set and Free of the arena of strings, over this seat's translation: what each call returns, what it leaves in memory.
  Conditions: the arena lies in memory as ArenaAt says.
-/
import Derived.Test.YtgelgnakhghpkaaS1
namespace Go.Proofs.Ytgelgnakhghpkaa.S
open Go.ChangeShapes Go.WideShapes Go.ChangeAt Go.RowKit
set_option linter.unusedVariables false

set_option maxHeartbeats 1000000 in
set_option maxRecDepth 100000 in
theorem find_miss (hb : Nat) (sv : Value) (A : List Slot) (size : Nat) (c ix gn : Int) (w : World) (h : RA w hb sv A size c) (hlen : A.length ≤ 4096) (hl : ∀ i s, ¬ Live A ix gn i s) :
    Calls Try.prog 40 #[.pointer (some ⟨hb, 0, none⟩), .agg #[.int .i64 ix, .int .i64 gn]] w fun e w' => e = .returned (.pointer none) ∧ Fr No w w' := by
  have hr := h.frNo (Fr.alloc No w (.cells #[.int .i64 ix, .int .i64 gn] 38))
  obtain ⟨a, cap, rfl⟩ := hr.any
  obtain ⟨c0, -, -⟩ := hr.hcell
  obtain ⟨n, hn⟩ : ∃ n, A.length = n := ⟨_, rfl⟩
  rw [hn] at c0 hlen
  by_cases h0 : ix < 0
  · have q3 : decide (ix < 0) = true := decide_eq_true h0
    clear h hr hl hn
    go_enter Try.func40, Try.ntmps40
    go_wp2_with fail
    go_quiet (fail)
    go_wp2_with fail
    go_ret
    refine ⟨rfl, ⟨rfl, rfl, rfl, ?_, ?_⟩⟩
    · simp [World.drewN]
    · intro k hk _
      exact Below.heap_alloc _ _ _ hk
  · have q3 : decide (ix < 0) = false := decide_eq_false h0
    obtain ⟨i, rfl⟩ : ∃ i : Nat, ix = i := ⟨ix.toNat, by omega⟩
    by_cases h1 : n ≤ i
    · have q4 : (n : Int) ≤ (i : Int) := by omega
      clear h hr hl hn
      go_enter Try.func40, Try.ntmps40
      go_wp2_with fail
      go_quiet (fail)
      go_wp2_with fail
      go_ret
      refine ⟨rfl, ⟨rfl, rfl, rfl, ?_, ?_⟩⟩
      · simp [World.drewN]
      · intro k hk _
        exact Below.heap_alloc _ _ _ hk
    · have q1 : (0 : Int) ≤ (i : Int) := by omega
      have q2 : (i : Int) < (n : Int) := by omega
      obtain ⟨s, gs⟩ : ∃ s, A[i]? = some s := ⟨_, List.getElem?_eq_getElem (by omega)⟩
      obtain ⟨g, cap', hv⟩ := hr.form (by omega)
      obtain rfl : a = some ⟨g, 0, none⟩ := by cases hv; rfl
      have e0 := hr.ecells gs 0 _ rfl
      have e1 := hr.ecells gs 1 _ rfl
      rw [Nat.add_zero] at e0
      obtain ⟨u, gen, val⟩ := s
      cases u with
      | false =>
        clear h hr hl hn gs hv
        simp only at e0 e1
        go_enter Try.func40, Try.ntmps40
        go_wp2_with fail
        go_quiet (fail)
        go_wp2_with fail
        go_quiet (fail)
        go_wp2_with fail
        go_quiet (fail)
        go_wp2_with fail
        go_ret
        refine ⟨rfl, ⟨rfl, rfl, rfl, ?_, ?_⟩⟩
        · simp [World.drewN]
        · intro k hk _
          exact Below.heap_alloc _ _ _ hk
      | true =>
        have hne : gen ≠ gn := fun e => hl i _ ⟨rfl, gs, rfl, e⟩
        have hne' : (gen == gn) = false := by simpa using hne
        clear h hr hl hn gs hv
        simp only at e0 e1
        go_enter Try.func40, Try.ntmps40
        go_wp2_with fail
        go_quiet (fail)
        go_wp2_with fail
        go_quiet (fail)
        go_wp2_with fail
        go_quiet (fail)
        go_wp2_with fail
        go_ret
        refine ⟨rfl, ⟨rfl, rfl, rfl, ?_, ?_⟩⟩
        · simp [World.drewN]
        · intro k hk _
          exact Below.heap_alloc _ _ _ hk

theorem get_miss (S : Nat → Prop) (hb : Nat) (A : List Slot) (size : Nat) (B ix gn : Int) (w : World) (h : AI S w hb A size B) (hl : ∀ i s, ¬ Live A ix gn i s) :
    Calls Try.prog 30 #[.pointer (some ⟨hb, 0, none⟩), .agg #[.int .i64 ix, .int .i64 gn]] w fun e w' => e = .returned (.tuple #[.string { data := #[] }, .bool false]) ∧ Fr No w w' := by
  have hl4 : A.length ≤ 4096 := Nat.le_trans h.good.len h.good.size
  obtain ⟨⟨sv, hr, _⟩, _⟩ := h
  have HS := Lib.hid (And.intro (hr.frNo (Fr.alloc No w (.cells #[.int .i64 ix, .int .i64 gn] 38))) (And.intro hl4 hl))
  clear hr hl hl4
  go_enter Try.func30, Try.ntmps30
  go_wp2_with fail
  refine (find_miss hb sv A size (cnt A) ix gn _ HS.out.1 HS.out.2.1 HS.out.2.2).mono ?_
  rintro e w1 ⟨rfl, hf1⟩
  have H1 := Lib.hid hf1
  clear hf1
  go_wp2_with fail
  go_ret2
  exact ⟨rfl, (Fr.alloc No w _).trans H1.out⟩

theorem get_hit (S : Nat → Prop) (hb : Nat) (A : List Slot) (size : Nat) (B ix gn : Int) (i : Nat) (x : ByteArray) (w : World) (h : AI S w hb A size B) (hl : Live A ix gn i ⟨true, gn, [.string x]⟩) :
    Calls Try.prog 30 #[.pointer (some ⟨hb, 0, none⟩), .agg #[.int .i64 ix, .int .i64 gn]] w fun e w' => e = .returned (.tuple #[(.string x), .bool true]) ∧ Fr No w w' := by
  have hl4 : A.length ≤ 4096 := Nat.le_trans h.good.len h.good.size
  have hi := hl.2.1
  have hil : i < A.length := (List.getElem?_eq_some_iff.1 hi).1
  obtain ⟨⟨sv, hr, _⟩, _⟩ := h
  obtain ⟨n, hn⟩ : ∃ n, A.length = n := ⟨_, rfl⟩
  obtain ⟨g, cap, rfl⟩ := hr.form (by omega)
  rw [hn] at hr hl4 hil
  have HS := Lib.hid (And.intro (hr.frNo (Fr.alloc No w (.cells #[.int .i64 ix, .int .i64 gn] 38))) (And.intro hl4 (And.intro hl (And.intro hn hi))))
  clear hr hl hl4 hn hi
  go_enter Try.func30, Try.ntmps30
  go_wp2_with fail
  refine (find_hit hb g n cap A size (cnt A) ix gn i _ _ HS.out.1 HS.out.2.2.2.1 HS.out.2.1 HS.out.2.2.1).mono ?_
  rintro e w1 ⟨rfl, hf1⟩
  have e2 := (HS.out.1.frNo hf1).ecells HS.out.2.2.2.2 2 _ rfl
  have H1 := Lib.hid hf1
  clear hf1
  go_wp2_with fail
  go_ret2
  exact ⟨rfl, (Fr.alloc No w _).trans H1.out⟩

end Go.Proofs.Ytgelgnakhghpkaa.S
