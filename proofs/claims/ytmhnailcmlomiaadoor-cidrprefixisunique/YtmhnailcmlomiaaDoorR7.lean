/-
  CONTRACTS of the reference's parseGroups, over this seat's translation: what the call returns.
  Conditions: the string is shorter than 2 to the 31.
-/
import Derived.Test.YtmhnailcmlomiaaDoorR4
import Derived.Test.YtmhnailcmlomiaaDoorR5
import Derived.Test.YtmhnailcmlomiaaDoorP5
namespace Go.Proofs.YtmhnailcmlomiaaDoor
open Go.ChangeShapes Go.WideShapes Go.ChangeAt Go.RowKit
set_option linter.unusedVariables false

theorem grpGo_one (last : Bool) (p : List UInt8) : grpGo last [p] = match (if last then par 3 p else none) with
    | some xs => some (two xs)
    | none => (hexV p).map fun g => [g] := by
  rw [grpGo]
  generalize (if last = true then par 3 p else none) = o
  cases o <;> rfl
theorem grpGo_more (last : Bool) (p : List UInt8) {r : List (List UInt8)} (h : r ≠ []) : grpGo last (p :: r) = match hexV p, grpGo last r with
    | some g, some gs => some (g :: gs)
    | _, _ => none := by
  match r, h with
  | q :: r, _ => rw [grpGo]; cases hexV p <;> cases grpGo last (q :: r) <;> rfl
theorem two_quad {xs : List Nat} (h : xs.length = 4) (hb : ∀ x ∈ xs, x < 256) : ∃ a b c d, xs = [a, b, c, d] ∧ a < 256 ∧ b < 256 ∧ c < 256 ∧ d < 256 := by
  match xs, h with
  | [a, b, c, d], _ => exact ⟨a, b, c, d, rfl, hb a (by simp), hb b (by simp), hb c (by simp), hb d (by simp)⟩

/-- What parseGroups hands back: the groups in a row of its own, or nothing. -/
def GrpQ (w0 w : World) (o : Option (List Nat)) (e : Ending) : Prop := (∃ gs a n cap, o = some gs ∧ gs.length = n ∧ e = .returned (.tuple #[.slice a n cap, .bool true]) ∧ w.ownsRow w0.heap.size 70 1 (.slice a n cap) n (nums .u16 gs)) ∨ (o = none ∧ e = .returned (.tuple #[.slice none 0 0, .bool false]))

theorem zero70 : ∀ w, (zeroValue 70).run Tryd.prog w = .ok (.int .u16 0) w := by
  intro w
  kernel_rfl
theorem sh8 {a b : Nat} (ha : a < 256) (hb : b < 256) : bits .or .u16 (IntKind.u16.wrap ((a : Int) * 256)) (b : Int) = ((a * 256 + b : Nat) : Int) := by
  rw [show IntKind.u16.wrap ((a : Int) * 256) = (a : Int) * 256 by simp [IntKind.wrap, IntKind.bits, IntKind.signed]; omega]
  exact or_group' ha hb

theorem row_base {w : World} {b b' e K n : Nat} {v : Value} {xs : List Value} (h : w.ownsRow b e K v n xs) (hb : b' ≤ b) : w.ownsRow b' e K v n xs := by
  refine ⟨h.1, ?_⟩
  rcases h.2 with h1 | ⟨g, cap, cur, hv, hb', hg, hr⟩
  · exact .inl h1
  · exact .inr ⟨g, cap, cur, hv, Nat.le_trans hb hb', hg, hr⟩

end Go.Proofs.YtmhnailcmlomiaaDoor
