/-
  What the pure functions give at the texts and addresses of the fixed example; no walk.
  Conditions: none.
-/
import Derived.Test.YtdnfmilihfkhmaaDoorP6
import Derived.Test.YtdnfmilihfkhmaaDoorU
import Derived.Test.YtdnfmilihfkhmaaDoorC
namespace Go.Proofs.YtdnfmilihfkhmaaDoor
open Go.ChangeShapes Go.WideShapes Go.ChangeAt Go.RowKit
set_option linter.unusedVariables false

/-- The groups of the first address. -/
def exG : List Nat := [8193, 3512, 0, 0, 1, 0, 0, 1]
def exA : List Nat := [32, 1, 13, 184, 0, 0, 0, 0, 0, 1, 0, 0, 0, 0, 0, 1]
def exB : List Nat := [0, 0, 0, 0, 0, 0, 0, 0, 0, 0, 255, 255, 10, 0, 0, 1]
def exT : List UInt8 := [58, 58, 102, 102, 102, 102, 58, 49, 48, 46, 48, 46, 48, 46, 49]
def exU : List UInt8 := [48, 49, 46, 50, 46, 51, 46, 52]

theorem ex1 : v6Of exG = exA := by decide
theorem ex2 : str (fmtA true exA) = ⟨#[50, 48, 48, 49, 58, 100, 98, 56, 58, 58, 49, 58, 48, 58, 48, 58, 49]⟩ := by
  simp [fmtA, validA, fmt6, exA, grps, grp, scanZ, joinN, hexN, hexD, str]
theorem ex3 : str (fmtA true exB) = ⟨#[58, 58, 102, 102, 102, 102, 58, 97, 48, 48, 58, 49]⟩ := by
  simp [fmtA, validA, fmt6, exB, grps, grp, scanZ, joinN, hexN, hexD, str]
theorem ex4 : parseS exT = some (true, exB) := by decide +kernel
theorem ex5 : parseS exU = none := by decide +kernel
theorem ex6 : unmapB true exB = false ∧ unmapX true exB = v4Of 10 0 0 1 := by decide
theorem ex7 : cmpA false true (v4Of 1 2 3 4) exA = -1 := by decide
theorem ex8 : bitA true exA 2 = 1 := by decide
theorem ex9 : Bytes exA ∧ Bytes exB := ⟨⟨rfl, by decide⟩, ⟨rfl, by decide⟩⟩
end Go.Proofs.YtdnfmilihfkhmaaDoor
