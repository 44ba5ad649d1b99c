/-
  What the reference's Format gives, that it is what Format gives, and that Parse gives the address back; no walk.
  Conditions: as each theorem says.
  Parse gives the address back whose text Format has written; what the decimal text of a number is read as; no walk.
  Conditions: as each theorem says.
-/
import Derived.Test.YtnadendhboiliaaGreatA
import Derived.Test.YtnadendhboiliaaGreatH3
import Derived.Test.YtnadendhboiliaaGreatP
namespace Go.Proofs.YtnadendhboiliaaGreat
open Go.ChangeShapes Go.WideShapes Go.ChangeAt Go.RowKit
set_option linter.unusedVariables false

/-! ### the text, piece by piece -/

end Go.Proofs.YtnadendhboiliaaGreat
namespace Go.Proofs.YtnadendhboiliaaGreat
open Go.ChangeShapes Go.WideShapes Go.ChangeAt Go.RowKit
set_option linter.unusedVariables false

/-- Numbers as bytes. -/
def oct8 (t : List Nat) : List UInt8 := t.map UInt8.ofNat
theorem oct8_append (s t : List Nat) : oct8 (s ++ t) = oct8 s ++ oct8 t := by simp [oct8]
theorem oct8_length (t : List Nat) : (oct8 t).length = t.length := by simp [oct8]
theorem ofNat_ne {x c : Nat} (hx : x < 256) (hc : c < 256) (h : x ≠ c) : UInt8.ofNat x ≠ UInt8.ofNat c := by
  intro e
  have := congrArg UInt8.toNat e
  simp [Nat.mod_eq_of_lt hx, Nat.mod_eq_of_lt hc] at this
  exact h this
/-! ### decimal -/
theorem digGo_snoc : ∀ (l : List UInt8) (acc : Nat) (c : UInt8), digGo acc (l ++ [c]) = match digGo acc l with
    | some v => if 48 ≤ c.toNat ∧ c.toNat ≤ 57 then some (10 * v + (c.toNat - 48)) else none
    | none => none
  | [], acc, c => by simp [digGo]
  | x :: l, acc, c => by
    rw [List.cons_append, digGo, digGo]
    split
    · exact digGo_snoc l _ c
    · rfl
theorem digGo_decN (n : Nat) : digGo 0 (oct8 (decN n)) = some n := by
  induction n using Nat.strongRecOn with
  | ind n ih =>
    have hd : ∀ d, d < 10 → (UInt8.ofNat (48 + d)).toNat = 48 + d := fun d h => by simp; omega
    by_cases h : n < 10
    · rw [decN_small h]
      show digGo 0 [UInt8.ofNat (48 + n)] = _
      rw [digGo, hd n h, if_pos (by omega), digGo]
      congr 1; omega
    · rw [decN_big (by omega), oct8_append, show oct8 [48 + n % 10] = [UInt8.ofNat (48 + n % 10)] from rfl, digGo_snoc, ih (n / 10) (by omega)]
      show (if _ then _ else _) = _
      rw [hd _ (by omega), if_pos (by omega)]
      congr 1; omega
theorem decN_nil (n : Nat) : decN n ≠ [] := by
  by_cases h : n < 10
  · rw [decN_small h]; simp
  · rw [decN_big (by omega)]; simp
theorem decN_head {n : Nat} (h1 : 1 ≤ n) : ∃ x r, decN n = x :: r ∧ 49 ≤ x ∧ x ≤ 57 := by
  induction n using Nat.strongRecOn with
  | ind n ih =>
    by_cases h : n < 10
    · exact ⟨48 + n, [], decN_small h, by omega, by omega⟩
    · obtain ⟨x, r, e, h2, h3⟩ := ih (n / 10) (by omega) (by omega)
      exact ⟨x, r ++ [48 + n % 10], by rw [decN_big (by omega), e]; rfl, h2, h3⟩
theorem decR_decN {M n : Nat} (hM : M < 1000000) (h : n ≤ M) : decR M (oct8 (decN n)) = some n := by
  rw [decR_lim hM, if_neg, limGo_dig M _ 0 (by omega), digGo_decN]
  · show (if n ≤ M then some n else none) = _
    rw [if_pos h]
  · rintro (e | ⟨e, e2⟩)
    · have := congrArg List.length e
      rw [oct8_length] at this
      exact decN_nil n (List.length_eq_zero_iff.1 (by simpa using this))
    · by_cases h0 : n = 0
      · subst h0
        rw [decN_small (by omega)] at e2
        simp [oct8] at e2
      · obtain ⟨x, r, e3, h2, h3⟩ := decN_head (n := n) (by omega)
        rw [e3] at e
        have h4 : UInt8.ofNat x = 48 := Option.some.inj e
        exact ofNat_ne (x := x) (c := 48) (by omega) (by omega) (by omega) h4
/-! ### hexadecimal -/
/-! ### the two colons -/
end Go.Proofs.YtnadendhboiliaaGreat
