/-
  Consecutive integers; rows of integers that grow by one; no walk.
  Conditions: as each theorem says.
-/
import Derived.Test.YtmgpeonnmfidhaaAwake
namespace Go.Proofs.Ytmgpeonnmfidhaa
open Go.ChangeShapes Go.WideShapes Go.ChangeAt Go.RowKit
set_option linter.unusedVariables false

/-- The c integers from f on. -/
def seqI (f c : Nat) : List Int := (List.range c).map fun j => ((f + j : Nat) : Int)

theorem seq_length (f c : Nat) : (seqI f c).length = c := by simp [seqI]
theorem seq_get (f c j : Nat) (h : j < c) : (seqI f c)[j]? = some ((f + j : Nat) : Int) := by simp [seqI, h]
theorem seq_none (f c j : Nat) (h : c ≤ j) : (seqI f c)[j]? = none := by
  apply List.getElem?_eq_none
  rw [seq_length]
  exact h
theorem seq_append (f c d : Nat) : seqI f c ++ seqI (f + c) d = seqI f (c + d) := by
  apply List.ext_getElem?
  intro j
  by_cases h1 : j < c
  · rw [List.getElem?_append_left (by rw [seq_length]; exact h1), seq_get _ _ _ h1, seq_get _ _ _ (by omega)]
  · rw [List.getElem?_append_right (by rw [seq_length]; omega), seq_length]
    by_cases h2 : j < c + d
    · rw [seq_get _ _ _ (by omega), seq_get _ _ _ h2]
      congr 2
      omega
    · rw [seq_none _ _ _ (by omega), seq_none _ _ _ (by omega)]
theorem seq_take (f c m : Nat) (h : m ≤ c) : (seqI f c).take m = seqI f m := by
  apply List.ext_getElem?
  intro j
  rw [List.getElem?_take]
  by_cases h1 : j < m
  · rw [if_pos h1, seq_get _ _ _ h1, seq_get _ _ _ (by omega)]
  · rw [if_neg h1, seq_none _ _ _ (by omega)]
theorem seq_drop (f c m : Nat) : (seqI f c).drop m = seqI (f + m) (c - m) := by
  apply List.ext_getElem?
  intro j
  rw [List.getElem?_drop]
  by_cases h1 : m + j < c
  · rw [seq_get _ _ _ h1, seq_get _ _ _ (by omega)]
    congr 2
    omega
  · rw [seq_none _ _ _ (by omega), seq_none _ _ _ (by omega)]

theorem row_cap {w : World} {base n cap : Nat} {a : Option Addr} {xs : List Value} (h : w.ownsRow base 3 1 (.slice a n cap) n xs) : n ≤ cap ∧ cap ≤ 9223372036854775807 ∧ (a = none → cap = 0) := by
  rcases h.2 with ⟨hv, hn⟩ | ⟨g, c, cur, hv, hb, hg, h1, h2, _⟩
  · cases hv
    exact ⟨by omega, by omega, fun _ => rfl⟩
  · cases hv
    unfold maxLen at h2
    exact ⟨h1, by omega, fun h => by cases h⟩

theorem at_one (w : World) (x : Int) : At (w.alloc (.cells #[.int .i64 x] 3)) (some ⟨w.heap.size, 0, none⟩) [x] := At.block (xs := [x]) (t := 3) (heap_alloc_new w _)

/-- The block of a slice that is not the ring buffer's. -/
def Blk (a : Option Addr) (k : Nat) : Prop := ∃ ad, a = some ad ∧ ad.block = k

theorem blk_own {a : Option Addr} {n cap k : Nat} : (Value.slice a n cap).ownBlock = some k ↔ Blk a k := by
  cases a with
  | none =>
    constructor
    · intro h; cases h
    · rintro ⟨ad, h, _⟩; cases h
  | some ad =>
    constructor
    · intro h; exact ⟨ad, rfl, by simpa [Value.ownBlock] using h⟩
    · rintro ⟨ad', h, rfl⟩; cases h; rfl

end Go.Proofs.Ytmgpeonnmfidhaa
