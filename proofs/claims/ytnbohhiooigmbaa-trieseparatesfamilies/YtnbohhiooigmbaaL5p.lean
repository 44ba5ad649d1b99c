/-
  TrieSeparatesFamilies: the lists of its trie; no walk.
  Conditions: none.
-/
import Derived.Test.YtnbohhiooigmbaaTl
import Derived.Test.YtnbohhiooigmbaaR10
import Derived.Test.YtnbohhiooigmbaaXnB
namespace Go.Proofs.Ytnbohhiooigmbaa
open Go.ChangeShapes Go.WideShapes Go.ChangeAt Go.RowKit
set_option linter.unusedVariables false

/-- The prefix of length 0 of a family. -/
def p0 (b : Bool) : Px := ⟨b, zeros, 0⟩
theorem zB : Bytes zeros := zeros_bytes
theorem bits0 : ∀ i, i < 128 → bitX zeros i = 0 := by decide +kernel
theorem valid0 (b : Bool) : validP (p0 b).b (p0 b).xs (p0 b).n = true := by cases b <;> kernel_rfl
theorem has0 (b c : Bool) (ys : List Nat) : has (p0 b) c ys = (validA c ys && decide (b = c)) := by
  rw [Bool.eq_iff_iff, has_iff, Bool.and_eq_true, decide_eq_true_eq]
  exact ⟨fun h => ⟨h.2.1, h.2.2.1⟩, fun h => ⟨valid0 b, h.1, h.2, fun i _ hi => by have : (i : Int) < 0 := hi; omega⟩⟩
def L0 (x : Value) : List (Px × Value) := [(p0 false, x)]
def L2 (x : Value) : List (Px × Value) := [(p0 false, x), (p0 true, x)]
theorem put0 (x : Value) : putL (p0 false) x [] = L0 x := rfl
theorem put6 (x : Value) : putL (p0 true) x (L0 x) = L2 x := by
  rw [L0, putL, if_pos (by kernel_rfl : cmpX (p0 false) (p0 true) = -1)]; rfl
theorem val2 (x : Value) : valL (L2 x) (p0 true) = some x := rfl
theorem del2 (x : Value) : del (p0 true) (L2 x) = L0 x := rfl
theorem val0 (x : Value) : valL (L0 x) (p0 true) = none := rfl
theorem inZ (x : Value) (c : Bool) (ys : List Nat) : inL (L0 x) c ys = if (!c && validA c ys) = true then L0 x else [] := by
  unfold inL L0
  rw [List.filter_cons, has0]
  cases c <;> cases validA _ ys <;> rfl
theorem inW (x : Value) (c : Bool) (ys : List Nat) : inL (L2 x) c ys = if validA c ys = true then [(p0 c, x)] else [] := by
  unfold inL L2
  rw [List.filter_cons, List.filter_cons, has0, has0]
  cases c <;> cases validA _ ys <;> rfl
def tTr : Value := .bool true
/-- Lookup in the first and in the second trie. -/
theorem lookup0 {w : World} {a : Nat} {X : Nat → Prop} (hS : StB w a (L0 tTr) X) (c : Bool) (ys : List Nat) (hy : Bytes ys) :
    Calls Try.prog 29 #[.pointer (some ⟨a, 0, none⟩), .agg (adr c ys).toArray] w fun e w' => e = .returned (.tuple #[.agg (pfx false zeros 0).toArray, .bool (!c && validA c ys), .bool (!c && validA c ys)]) ∧ Fr No w w' := by
  have h := lookupSB hS c ys hy
  rw [inZ] at h
  cases hv : (!c && validA c ys)
  · rw [hv, if_neg (by decide)] at h; exact h
  · rw [hv, if_pos rfl] at h; exact h
theorem lookup2 {w : World} {a : Nat} {X : Nat → Prop} (hS : StB w a (L2 tTr) X) (c : Bool) (ys : List Nat) (hy : Bytes ys) :
    Calls Try.prog 29 #[.pointer (some ⟨a, 0, none⟩), .agg (adr c ys).toArray] w fun e w' => e = .returned (.tuple #[.agg (pfx (c && validA c ys) zeros 0).toArray, .bool (validA c ys), .bool (validA c ys)]) ∧ Fr No w w' := by
  have h := lookupSB hS c ys hy
  rw [inW] at h
  cases hv : validA c ys
  · rw [hv, if_neg (by decide)] at h; rw [Bool.and_false]; exact h
  · rw [hv, if_pos rfl] at h; rw [Bool.and_true]; exact h
theorem pof0 {b : Bool} {xs : List Nat} (hx : Bytes xs) (hv : validA b xs = true) : pofX b xs 0 = zeros := bits_ext (pofX_bytes hx 0) zB fun i hi => by
  rw [pofX_bit hx (Int.le_refl 0) (bitsOf_le b).1, bits0 i hi]
  by_cases h : (i : Int) < bitsOf b
  · rw [if_pos ⟨by omega, h⟩]
  · rw [if_neg (by omega)]; exact valid_bit hx hv (by omega)
theorem val_q (x : Value) {b : Bool} {xs : List Nat} (hx : Bytes xs) (hv : validA b xs = true) (m : Nat) : (valL (L2 x) ⟨b, pofX b xs m, m⟩).isSome = decide (m = 0) := by
  by_cases h : m = 0
  · subst h
    rw [decide_eq_true rfl, show ((0 : Nat) : Int) = 0 from rfl, pof0 hx hv]
    cases b <;> rfl
  · rw [decide_eq_false h]
    have : valL (L2 x) ⟨b, pofX b xs m, m⟩ = none := valL_none.2 fun e he hc => by
      unfold L2 at he
      simp only [List.mem_cons, List.not_mem_nil, or_false] at he
      have hn : e.1.n = 0 := by rcases he with rfl | rfl <;> rfl
      rw [hc] at hn
      have : (m : Int) = 0 := hn
      omega
    rw [this]; rfl
theorem pof_q {b : Bool} {xs : List Nat} (hv : validA b xs = true) {m : Nat} (hm : m < 33) : pofB b xs m = true := by
  unfold pofB
  have h : (m : Int) ≤ bitsOf b := by
    cases b
    · show (m : Int) ≤ 32
      omega
    · show (m : Int) ≤ 128
      omega
  rw [hv, decide_eq_true (by omega : (0 : Int) ≤ m), decide_eq_true h]
  rfl
end Go.Proofs.Ytnbohhiooigmbaa
