/-
  CONTRACT of package host's parseHost, over this seat's translation: what the call returns.
  Conditions: the string is shorter than 2 to the 31; the package variables are as Glob says.
  CONTRACT of package host's ParseTarget, over this seat's translation: what the call returns.
  Conditions: the string is shorter than 2 to the 31; the package variables are as Glob says.
-/
import Derived.Test.YtmhnailcmlomiaaDoorN8
import Derived.Test.YtmhnailcmlomiaaDoorN7
namespace Go.Proofs.YtmhnailcmlomiaaDoor
open Go.ChangeShapes Go.WideShapes Go.ChangeAt Go.RowKit
set_option linter.unusedVariables false

/-- Whether these bytes stand in brackets. -/
def brk (l : List UInt8) : Bool := decide (2 ≤ l.length) && decide (l.head? = some 91) && decide (l.getLast? = some 93)
/-- What stands between the first byte and the last. -/
def mid (l : List UInt8) : List UInt8 := (l.drop 1).take (l.length - 2)
/-- What a name, where there is one, is as a string. -/
def nmS : Option (List UInt8) → ByteArray
  | some n => bs n
  | none => ⟨#[]⟩
/-- The target without a port that these bytes are written for, and whether there is one. -/
def phT (l : List UInt8) : List Value := if brk l then paT (mid l) true else if pa l false then paT l false else tgt (nmS (nameP l)) false zeros 0
def phB (l : List UInt8) : Bool := if brk l then pa (mid l) true else if pa l false then true else (nameP l).isSome
theorem ansN_eq (o : Option (List UInt8)) : ansN o = .tuple #[.string (nmS o), .bool o.isSome] := by cases o <;> rfl
theorem paT_tgt (l : List UInt8) (v6 : Bool) : ∃ b xs, paT l v6 = tgt ⟨#[]⟩ b xs 0 ∧ Bytes xs := by
  by_cases h : pa l v6 = true
  · exact ⟨_, _, by rw [paT, if_pos h], resX_bytes l⟩
  · exact ⟨false, zeros, by rw [paT, if_neg h]; rfl, zeros_bytes⟩
theorem phT_tgt (l : List UInt8) : ∃ n b xs, phT l = tgt n b xs 0 ∧ Bytes xs := by
  unfold phT
  split
  · obtain ⟨b, xs, h, k⟩ := paT_tgt (mid l) true; exact ⟨_, b, xs, h, k⟩
  · split
    · obtain ⟨b, xs, h, k⟩ := paT_tgt l false; exact ⟨_, b, xs, h, k⟩
    · exact ⟨_, false, zeros, rfl, zeros_bytes⟩
theorem paT_len (l : List UInt8) (v6 : Bool) : (paT l v6).toArray.size = 19 ∧ ∀ u ∈ (paT l v6).toArray.toList, u.oneCell' = true := by
  obtain ⟨b, xs, h, k⟩ := paT_tgt l v6
  rw [h]
  exact ⟨by rw [List.size_toArray]; exact tgt_length _ _ _ _ k.1, by intro u hu; exact tgt_one _ _ _ _ u (by simpa using hu)⟩

end Go.Proofs.YtmhnailcmlomiaaDoor
namespace Go.Proofs.YtmhnailcmlomiaaDoor
open Go.ChangeShapes Go.WideShapes Go.ChangeAt Go.RowKit
set_option linter.unusedVariables false

/-- A target with another port. -/
def withP (T : List Value) (p : Nat) : List Value := T.set 18 (.int .i64 p)
theorem withP_tgt (n : ByteArray) (b : Bool) (xs : List Nat) (h : xs.length = 16) (p : Nat) : withP (tgt n b xs 0) p = tgt n b xs p := by
  have h17 : (adr b xs).length = 17 := by rw [adr_length, h]
  unfold withP tgt
  rw [List.set_cons_succ, List.set_append_right _ _ (by omega), h17]
  rfl
/-- The target that these bytes are written for, and whether there is one. -/
def ptB (l : List UInt8) : Bool := match lastc 58 l with
  | some i => phB (l.take i) && (portV (l.drop (i + 1))).isSome
  | none => false
def ptT (l : List UInt8) : List Value := match lastc 58 l with
  | some i => if phB (l.take i) && (portV (l.drop (i + 1))).isSome then withP (phT (l.take i)) (portN (portV (l.drop (i + 1)))) else noT
  | none => noT
theorem phT_len (l : List UInt8) : (phT l).toArray.size = 19 ∧ ∀ u ∈ (phT l).toArray.toList, u.oneCell' = true := by
  obtain ⟨n, b, xs, h, k⟩ := phT_tgt l
  rw [h]
  exact ⟨by rw [List.size_toArray]; exact tgt_length _ _ _ _ k.1, by intro u hu; exact tgt_one _ _ _ _ u (by simpa using hu)⟩

end Go.Proofs.YtmhnailcmlomiaaDoor
