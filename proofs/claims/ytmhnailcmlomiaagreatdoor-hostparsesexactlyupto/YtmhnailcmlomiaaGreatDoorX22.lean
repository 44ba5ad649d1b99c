/-
  CONTRACTS of addressChars, over this seat's translation: what the call returns.
  Conditions: the numbers lie in memory.
-/
import Derived.Test.YtmhnailcmlomiaaGreatDoorR11
import Derived.Test.YtmhnailcmlomiaaGreatDoorAp
import Derived.Test.YtmhnailcmlomiaaGreatDoorPg
import Derived.Test.YtmhnailcmlomiaaGreatDoorR2
namespace Go.Proofs.YtmhnailcmlomiaaGreatDoor
open Go.ChangeShapes Go.WideShapes Go.ChangeAt Go.RowKit
set_option linter.unusedVariables false

def allC : List Nat := [58, 58, 58, 46, 46, 48, 49, 50, 51, 52, 53, 54, 55, 56, 57, 97, 98, 99, 102, 70, 37, 120]
def allS : ByteArray := ⟨#[58, 58, 58, 46, 46, 48, 49, 50, 51, 52, 53, 54, 55, 56, 57, 97, 98, 99, 102, 70, 37, 120]⟩
theorem conv_own {w : World} {base m c : Nat} {a : Option Addr} {D : List Nat} (h : w.ownsRow base 5 1 (.slice a m c) m (nums .u8 D)) : Sem.run Tryz.prog (convert 22 9 (.slice a m c)) w = .ok (.string (str D)) w := by
  have hat := At.own h
  have hm : D.length = m := by have := h.1; rw [nums_length] at this; omega
  rw [← strOfNums_str]
  rcases h.2 with ⟨hv, -⟩ | ⟨g, cap, cur, hv, -⟩
  · cases hv
    obtain rfl : D = [] := List.length_eq_zero_iff.1 hm
    exact run_convert_bytes_nil w 22 5 Tryz.underlying22 Tryz.underlying5 0 0 9 Tryz.underlying9
  · cases hv
    refine run_convert_bytes_arg w 22 5 Tryz.underlying22 Tryz.underlying5 g 0 m c _ (by rw [List.length_map]; exact hm) ?_ 9 Tryz.underlying9
    intro i hi
    have hi' : i < D.length := by omega
    obtain ⟨b', off', he, hc⟩ := hat i _ (nums_get (List.getElem?_eq_getElem hi'))
    cases he
    rw [hc, List.getD, List.getElem?_map, List.getElem?_eq_getElem hi']
    rfl
/-- The signs that the numbers choose. -/
def chars (gs : List Nat) : List Nat := (gs.take 45).map fun g => allC.getD (g % 22) 0
theorem chars_lt (gs : List Nat) : ∀ x ∈ chars gs, x < 256 := by
  intro x hx
  obtain ⟨g, -, rfl⟩ := List.mem_map.1 hx
  have h : ∀ k, k < 22 → allC.getD k 0 < 256 := by decide
  exact h _ (Nat.mod_lt _ (by omega))
theorem allS_index (d : Nat) (hd : d < 22) (w : World) : Sem.run Tryz.prog (Instr.index 9 (.string ⟨#[58, 58, 58, 46, 46, 48, 49, 50, 51, 52, 53, 54, 55, 56, 57, 97, 98, 99, 102, 70, 37, 120]⟩) (.int .i64 d)) w = .ok (.int .u8 (allC.getD d 0 : Nat)) w := by
  have h : ∀ d, d < 22 → (oct8 allC)[d]? = some (UInt8.ofNat (allC.getD d 0)) ∧ ((UInt8.ofNat (allC.getD d 0)).toNat : Int) = (allC.getD d 0 : Nat) := by decide
  have h1 := bs_index (h d hd).1 w
  rw [(h d hd).2] at h1
  exact h1

end Go.Proofs.YtmhnailcmlomiaaGreatDoor
