/-
  CONTRACTS of the reference's Split, over this seat's translation: what the call returns.
  Conditions: the string is shorter than 2 to the 31.
  CONTRACTS of the reference's ParseDecimal and ParsePort, over this seat's translation: what each call returns.
  Conditions: none.
-/
import Derived.Test.YtmhnailcmlomiaaDoorW
import Derived.Test.YtmhnailcmlomiaaDoorAp
import Derived.Test.YtmhnailcmlomiaaDoorA
import Derived.Deep.RegionLawGrows
namespace Go.Proofs.YtmhnailcmlomiaaDoor
open Go.ChangeShapes Go.WideShapes Go.ChangeAt Go.RowKit
set_option linter.unusedVariables false

theorem bs_index {l : List UInt8} {i : Nat} {c : UInt8} (h : l[i]? = some c) (w : World) : Sem.run PD (Instr.index 9 (.string (bs l)) (.int .i64 i)) w = .ok (.int .u8 (c.toNat : Int)) w := by
  obtain ⟨h1, e1⟩ := List.getElem?_eq_some_iff.1 h
  have h2 : (0 : Int) ≤ (i : Int) ∧ (i : Int) < ((bs l).size : Int) := by rw [bs_size]; omega
  show Sem.run Tryd.prog _ w = _
  have e2 : (bs l)[i]? = some c := by rw [getElem?_pos (bs l) i (by rw [bs_size]; exact h1)]; exact congrArg some e1
  simp [Instr.index, asIntOf, run_underlying Tryd.underlying9, e2]
theorem zero9 : ∀ w, (zeroValue 9).run Tryd.prog w = .ok (.string ⟨#[]⟩) w := by
  intro w
  kernel_rfl
theorem bs_extract (l : List UInt8) (a b : Nat) : (bs l).extract a b = bs ((l.drop a).take (b - a)) := by
  apply ByteArray.ext
  apply Array.toList_inj.1
  simp [bs]
end Go.Proofs.YtmhnailcmlomiaaDoor
namespace Go.Proofs.YtmhnailcmlomiaaDoor
open Go.ChangeShapes Go.WideShapes Go.ChangeAt Go.RowKit
set_option linter.unusedVariables false

/-- A number, or -1. -/
def decI : Option Nat → Int
  | none => -1
  | some n => n
theorem bs_isEmpty (l : List UInt8) : (bs l).toList.isEmpty = l.isEmpty := by
  have : (bs l).toList = l := by rw [ByteArray.toList_eq]; rfl
  rw [this]
theorem pow10_le {i : Nat} (h : i ≤ 5) : 10 ^ i * 10 ≤ 1000000 := by
  have : i = 0 ∨ i = 1 ∨ i = 2 ∨ i = 3 ∨ i = 4 ∨ i = 5 := by omega
  rcases this with rfl | rfl | rfl | rfl | rfl | rfl <;> decide

/-- What ParsePort gives. -/
def portN : Option Nat → Nat
  | none => 0
  | some n => n

end Go.Proofs.YtmhnailcmlomiaaDoor
