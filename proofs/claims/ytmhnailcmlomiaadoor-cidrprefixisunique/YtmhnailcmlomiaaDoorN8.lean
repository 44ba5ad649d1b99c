/-
  CONTRACT of package host's parseAddr, over this seat's translation: what the call returns.
  Conditions: the string is shorter than 2 to the 31; the package variables are as Glob says.
-/
import Derived.Test.YtmhnailcmlomiaaDoorN4
import Derived.Test.YtmhnailcmlomiaaDoorP7
namespace Go.Proofs.YtmhnailcmlomiaaDoor
open Go.ChangeShapes Go.WideShapes Go.ChangeAt Go.RowKit
set_option linter.unusedVariables false

/-- A target's cells. -/
def tgt (n : ByteArray) (b : Bool) (xs : List Nat) (p : Int) : List Value := .string n :: (adr b xs ++ [.int .i64 p])
theorem tgt_length (n : ByteArray) (b : Bool) (xs : List Nat) (p : Int) (h : xs.length = 16) : (tgt n b xs p).length = 19 := by simp [tgt, adr_length, h]
theorem tgt_one (n : ByteArray) (b : Bool) (xs : List Nat) (p : Int) : ∀ u ∈ tgt n b xs p, u.oneCell' = true := by
  intro u hu
  rcases List.mem_cons.1 hu with rfl | hu
  · rfl
  · rcases List.mem_append.1 hu with hu | hu
    · exact adr_one _ _ u hu
    · cases List.mem_singleton.1 hu; rfl
def noT : List Value := tgt ⟨#[]⟩ false zeros 0
set_option maxRecDepth 10000 in
theorem put16 (b : Bool) (a0 a1 a2 a3 a4 a5 a6 a7 a8 a9 a10 a11 a12 a13 a14 a15 : Nat) : Array.foldl (fun (cs : Array Value) (x : Value × Nat) => cs.setIfInBounds (1 + x.snd) x.fst) noT.toArray (adr b [a0, a1, a2, a3, a4, a5, a6, a7, a8, a9, a10, a11, a12, a13, a14, a15]).toArray.zipIdx 0 17 = (tgt ⟨#[]⟩ b [a0, a1, a2, a3, a4, a5, a6, a7, a8, a9, a10, a11, a12, a13, a14, a15] 0).toArray := by
  kernel_rfl
theorem put_addr (b : Bool) (xs : List Nat) (h : xs.length = 16) : Array.foldl (fun (cs : Array Value) (x : Value × Nat) => cs.setIfInBounds (1 + x.snd) x.fst) noT.toArray (adr b xs).toArray.zipIdx 0 17 = (tgt ⟨#[]⟩ b xs 0).toArray := by
  match xs, h with
  | [a0, a1, a2, a3, a4, a5, a6, a7, a8, a9, a10, a11, a12, a13, a14, a15], _ => exact put16 b a0 a1 a2 a3 a4 a5 a6 a7 a8 a9 a10 a11 a12 a13 a14 a15
/-- The target without a port that these bytes, an address, are written for. -/
def pa (l : List UInt8) (v6 : Bool) : Bool := (parseS l).isSome && decide (resB (parseS l) = v6)
def paT (l : List UInt8) (v6 : Bool) : List Value := if pa l v6 then tgt ⟨#[]⟩ (resB (parseS l)) (resX (parseS l)) 0 else noT

end Go.Proofs.YtmhnailcmlomiaaDoor
