/-
  CONTRACT of package host's lower, over this seat's translation: what the call returns.
  Conditions: the string is shorter than 2 to the 62.
  CONTRACT of package host's ParseName, over this seat's translation: what the call returns.
  Conditions: the string is shorter than 2 to the 31.
-/
import Derived.Test.YtmhnailcmlomiaaDoorN2
import Derived.Test.YtmhnailcmlomiaaDoorP3
namespace Go.Proofs.YtmhnailcmlomiaaDoor
open Go.ChangeShapes Go.WideShapes Go.ChangeAt Go.RowKit
set_option linter.unusedVariables false

/-- A letter from A to Z made small. -/
def lowC (c : UInt8) : UInt8 := if 65 ≤ c.toNat ∧ c.toNat ≤ 90 then UInt8.ofNat (c.toNat + 32) else c
def lowV (l : List UInt8) : List UInt8 := l.map lowC

theorem lowC_in {c : UInt8} (h1 : 65 ≤ c.toNat) (h2 : c.toNat ≤ 90) : (lowC c).toNat = c.toNat + 32 := by
  rw [lowC, if_pos ⟨h1, h2⟩]; simp; omega
theorem lowC_out {c : UInt8} (h : ¬ (65 ≤ c.toNat ∧ c.toNat ≤ 90)) : lowC c = c := by rw [lowC, if_neg h]
theorem strOfNums_low (l : List UInt8) : strOfNums (l.map fun c => ((lowC c).toNat : Int)) = bs (lowV l) := by
  rw [strOfNums, bs, lowV, List.map_map]
  congr 2
  apply List.map_congr_left
  intro c _
  simp

/-- The bytes that the loop has made small so far. -/
def LowTo (l : List UInt8) (n i : Nat) (w : World) : Prop := ∀ j c, l[j]? = some c → w.cell? ⟨n, j, none⟩ = some (.int .u8 ((if j < i then lowC c else c).toNat : Int)) ∧ w.frozen? ⟨n, j, none⟩ = false
theorem LowTo.same {l : List UInt8} {n i : Nat} {w : World} (h : LowTo l n i w) {x : UInt8} (hx : l[i]? = some x) (he : lowC x = x) : LowTo l n (i + 1) w := fun j c hc => by
  refine ⟨?_, (h j c hc).2⟩
  rw [(h j c hc).1]
  by_cases hj : j = i
  · subst hj; rw [hx] at hc; cases hc; rw [if_neg (Nat.lt_irrefl _), if_pos (by omega), he]
  · by_cases h2 : j < i
    · rw [if_pos h2, if_pos (by omega)]
    · rw [if_neg h2, if_neg (by omega)]
theorem LowTo.set {l : List UInt8} {n i : Nat} {w : World} (h : LowTo l n i w) {x : UInt8} (hx : l[i]? = some x) {v : Int} (he : ((lowC x).toNat : Int) = v) : LowTo l n (i + 1) (w.setCell ⟨n, i, none⟩ (.int .u8 v)) := fun j c hc => by
  refine ⟨?_, (World.frozen?_setCell _ _ _ _).trans (h j c hc).2⟩
  by_cases hj : j = i
  · subst hj; rw [hx] at hc; cases hc; rw [if_pos (by omega), World.cell?_setCell_same _ _ _ (h j x hx).1, he]
  · rw [World.cell?_setCell_other _ _ _ _ (by intro e; cases e; exact hj rfl), (h j c hc).1]
    by_cases h2 : j < i
    · rw [if_pos h2, if_pos (by omega)]
    · rw [if_neg h2, if_neg (by omega)]
theorem bytes_thaw (w : World) (t : TypeId) (s : ByteArray) {j : Nat} {v : Value} (h : (Lib.bytesWorld w t s).cell? ⟨w.heap.size, j, none⟩ = some v) : (Lib.bytesWorld w t s).frozen? ⟨w.heap.size, j, none⟩ = false := by
  have hb := Lib.bytesWorld_at_new w t s
  have hj : j < (Lib.bytesCells w t s).size := by
    simp only [World.cell?, hb] at h
    rcases Nat.lt_or_ge j (Lib.bytesCells w t s).size with h1 | h1
    · exact h1
    · simp [Array.getElem?_eq_none h1] at h
  simp only [World.frozen?, hb]
  simp; omega

end Go.Proofs.YtmhnailcmlomiaaDoor
namespace Go.Proofs.YtmhnailcmlomiaaDoor
open Go.ChangeShapes Go.WideShapes Go.ChangeAt Go.RowKit
set_option linter.unusedVariables false

/-- These bytes without the dot that may end them. -/
def trimV (l : List UInt8) : List UInt8 := if l.getLast? = some 46 then l.dropLast else l
/-- The host name that these bytes are written for. -/
def nameP (l : List UInt8) : Option (List UInt8) := if nameV (lowV (trimV l)) then some (lowV (trimV l)) else none
/-- A string and whether there is one. -/
def ansN : Option (List UInt8) → Value
  | some n => .tuple #[.string (bs n), .bool true]
  | none => .tuple #[.string ⟨#[]⟩, .bool false]

theorem nameP_of {l m : List UInt8} (hm : trimV l = m) (h : nameV (lowV m) = true) : nameP l = some (lowV m) := by rw [nameP, hm, if_pos h]
theorem nameP_no {l m : List UInt8} (hm : trimV l = m) (h : nameV (lowV m) = false) : nameP l = none := by rw [nameP, hm, if_neg (by rw [h]; simp)]
theorem nameV_long {m : List UInt8} (h : 253 < m.length) : nameV (lowV m) = false := by
  unfold nameV
  rw [decide_eq_false (by rw [lowV, List.length_map]; omega)]; rfl

end Go.Proofs.YtmhnailcmlomiaaDoor
