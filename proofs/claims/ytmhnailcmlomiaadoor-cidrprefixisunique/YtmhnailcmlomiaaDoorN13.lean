/-
  What the pure functions give at the texts of package host's fixed example; equality of targets; no walk.
  Conditions: none.
  CONTRACT of the fixed example of the laws about package host, over this seat's translation: the call returns true.
  Conditions: the package variables are as Gl says.
-/
import Derived.Test.YtmhnailcmlomiaaDoorN10
import Derived.Test.YtmhnailcmlomiaaDoorN7
import Derived.Test.YtmhnailcmlomiaaDoorN12
namespace Go.Proofs.YtmhnailcmlomiaaDoor
open Go.ChangeShapes Go.WideShapes Go.ChangeAt Go.RowKit
set_option linter.unusedVariables false

def hxW : List UInt8 := [87, 87, 87, 46, 69, 120, 97, 109, 112, 108, 101, 46, 111, 114, 103, 46]
def hxN : List UInt8 := [119, 119, 119, 46, 101, 120, 97, 109, 112, 108, 101, 46, 111, 114, 103]
def hxA : List UInt8 := [91, 58, 58, 49, 93, 58, 52, 52, 51]
def hxB : List UInt8 := [49, 46, 50, 46, 51, 58, 52]
def hxOne : List Nat := [0, 0, 0, 0, 0, 0, 0, 0, 0, 0, 0, 0, 0, 0, 0, 1]

theorem hx1 : nameP hxW = some hxN := by decide +kernel
theorem hx2a : lastc 58 hxA = some 5 := by decide +kernel
theorem hx2b : brk (hxA.take 5) = true := by decide +kernel
theorem hx2c : parseS (mid (hxA.take 5)) = some (true, hxOne) := by decide +kernel
theorem hx2d : portV (hxA.drop 6) = some 443 := by decide +kernel
theorem hx2e : pa (mid (hxA.take 5)) true = true := by unfold pa; rw [hx2c]; rfl
theorem hx2f : phT (hxA.take 5) = tgt ⟨#[]⟩ true hxOne 0 ∧ phB (hxA.take 5) = true := by
  refine ⟨?_, ?_⟩
  · rw [phT, if_pos hx2b, paT, if_pos hx2e, hx2c]; rfl
  · rw [phB, if_pos hx2b]; exact hx2e
theorem hx2 : ptT hxA = tgt ⟨#[]⟩ true hxOne 443 ∧ ptB hxA = true := by
  refine ⟨?_, ?_⟩
  · rw [ptT, hx2a]
    show (if phB (hxA.take 5) && (portV (hxA.drop 6)).isSome then withP (phT (hxA.take 5)) (portN (portV (hxA.drop 6))) else noT) = _
    rw [hx2d, hx2f.1, hx2f.2]
    exact withP_tgt _ _ _ rfl _
  · rw [ptB, hx2a]
    show (phB (hxA.take 5) && (portV (hxA.drop 6)).isSome) = true
    rw [hx2d, hx2f.2]; rfl
theorem hx3a : lastc 58 hxB = some 5 := by decide +kernel
theorem hx3b : phB (hxB.take 5) = false := by decide +kernel
theorem hx3 : ptB hxB = false ∧ ptT hxB = noT := by
  refine ⟨?_, ?_⟩
  · rw [ptB, hx3a]
    show (phB (hxB.take 5) && _) = false
    rw [hx3b]; rfl
  · rw [ptT, hx3a]
    show (if phB (hxB.take 5) && (portV (hxB.drop 6)).isSome then withP (phT (hxB.take 5)) (portN (portV (hxB.drop 6))) else noT) = _
    rw [hx3b]; rfl
theorem hx4 : subV [97, 46, 98, 46, 99] [98, 46, 99] = true := by decide +kernel
theorem hx5 : subV [97, 98, 46, 99] [98, 46, 99] = false := by decide +kernel
theorem hx6 : cntV [97, 46, 98, 46, 99] = 3 := by decide +kernel
theorem hx7 : vT [] true hxOne 443 = true := by decide +kernel
theorem hx8 : fT [] true hxOne 443 = hxA := by
  rw [fT, if_pos hx7]
  simp [fhV, fmtA, validA, fmt6, hxOne, grps, grp, scanZ, joinN, hexN, hexD, oct8, decN, hxA]

theorem adr_eq1 {b c : Bool} {xs ys : List Nat} (hx : Bytes xs) (hy : Bytes ys) (w : World) : Sem.run Tryd.prog (Op.equalIn 9999 24 (.agg (adr b xs).toArray) (.agg (adr c ys).toArray)) w = .ok (decide (b = c ∧ xs = ys)) w := by
  have hS : Tryd.prog.underlying 24 = some (.struct (Tryd.prog.fieldsOf 24)) := by kernel_rfl
  have hF : Tryd.prog.fieldsOf 24 = #[{ name := "IPv6", type := 4, offset := 0, embedded := false, tag := "", pkgPath := "", byteOffset := 0 }, { name := "Bytes", type := 22, offset := 1, embedded := false, tag := "", pkgPath := "", byteOffset := 1 }] := by kernel_rfl
  have ex : ∀ (b : Bool) (xs : List Nat), Bytes xs → (adr b xs).toArray.extract 1 (1 + 16) = ((xs.map UInt8.ofNat).map Extern.Stop.cell).toArray := by
    intro b xs hx
    rw [← nums_u8 hx.2]
    apply Array.ext'
    simp [adr]
    rw [List.take_of_length_le (by rw [nums_length, hx.1]; omega)]
  have hE : Sem.run Tryd.prog (Op.equalIn 9998 22 (.agg ((adr b xs).toArray.extract 1 (1 + 16))) (.agg ((adr c ys).toArray.extract 1 (1 + 16)))) w = .ok (decide (xs = ys)) w := by
    rw [ex b xs hx, ex c ys hy, run_equalIn_bytes w 9996 22 5 16 Tryd.underlying22 Tryd.underlying5 Tryd.sizeOf5 _ _ (by simpa using hx.1) (by simpa using hy.1), ofNat_inj hx.2 hy.2]
  have hB : Sem.run Tryd.prog (Op.equalIn 9998 4 (.bool b) (.bool c)) w = .ok (b == c) w := by rw [run_equalIn_bool' w 9997 4 b c Tryd.underlying4]
  have h0 : ∀ (b : Bool) (xs : List Nat), (adr b xs).toArray[0]? = some (.bool b) := fun b xs => rfl
  rw [show (9999 : Nat) = 9998 + 1 from rfl, run_equalIn_agg w 9998 24 _ _ hS Tryd.stoodInHeld24, hF]
  have e1 : ∀ (b : Bool) (xs : List Nat), (adr b xs).toArray.extract 1 17 = (List.take 16 (adr b xs).tail).toArray := fun b xs => by apply Array.ext'; simp [adr]
  rw [show 1 + 16 = 17 from rfl, e1 b xs, e1 c ys] at hE
  simp [Op.eqFields, Go.part, Tryd.isAgg4, Tryd.isAgg22, Tryd.sizeOf22, h0, hB, hE]
  by_cases hxy : xs = ys <;> cases b <;> cases c <;> simp [hxy]

end Go.Proofs.YtmhnailcmlomiaaDoor
namespace Go.Proofs.YtmhnailcmlomiaaDoor
open Go.ChangeShapes Go.WideShapes Go.ChangeAt Go.RowKit
set_option linter.unusedVariables false

theorem zero22 : ∀ w, (zeroValue 22).run Tryd.prog w = .ok (.agg (nums .u8 zeros).toArray) w := by
  intro w
  kernel_rfl
set_option maxRecDepth 10000 in
theorem hxB1 : (nums .u8 zeros).toArray.setIfInBounds 15 (.int .u8 1) = (nums .u8 hxOne).toArray := by kernel_rfl
set_option maxRecDepth 10000 in
theorem hxE1 : Array.foldl (fun (cs : Array Value) (x : Value × Nat) => cs.setIfInBounds (1 + x.snd) x.fst) ((adr false zeros).toArray.setIfInBounds 0 (.bool true)) (nums .u8 hxOne).toArray.zipIdx 0 16 = (adr true hxOne).toArray := by kernel_rfl
theorem hxM1 : Array.foldl (fun (cs : Array Value) (x : Value × Nat) => cs.setIfInBounds (1 + x.snd) x.fst) noT.toArray (adr true hxOne).toArray.zipIdx 0 17 = (tgt ⟨#[]⟩ true hxOne 0).toArray := put_addr true hxOne rfl
set_option maxRecDepth 10000 in
theorem hxT1 : (tgt ⟨#[]⟩ true hxOne 0).toArray.setIfInBounds 18 (.int .i64 443) = (tgt ⟨#[]⟩ true hxOne 443).toArray := by kernel_rfl
theorem hxOne_bytes : Bytes hxOne := ⟨rfl, by decide⟩

end Go.Proofs.YtmhnailcmlomiaaDoor
