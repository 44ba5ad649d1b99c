/-
  FRAME PARTS: how prefixes and targets that came in are told to the walks; no walk.
  Conditions: as each theorem says.
-/
import Derived.Test.YtmhnailcmlomiaaDoorLa
import Derived.Test.YtmhnailcmlomiaaDoorCa
import Derived.ChangeMaps5
namespace Go.Proofs.YtmhnailcmlomiaaDoor
open Go.ChangeShapes Go.WideShapes Go.ChangeAt Go.RowKit
set_option linter.unusedVariables false

theorem part_at {L : List Value} {r : Nat} {v : Value} (h : (L.drop r).take 1 = [v]) : L[r]? = some v := by
  have h1 : ((L.drop r).take 1)[0]? = some v := by rw [h]; rfl
  simpa using h1

set_option maxRecDepth 100000 in
/-- The cells of an address that is a part. -/
theorem adr_cells {H : Type} {enc : TypeId × Value → H} {w : World} {base : Nat} {spare : Nat → Bool} {held : Bool} {fuel : Nat} {L : List Value} {d : DataW H × List MemPlace}
    (hl : L.length = 17) (hf : DataW.trod enc Tryd.prog w base spare held fuel 24 L = some d) : ∃ b xs, L = adr b xs ∧ Bytes xs := by
  have h4 : Tryd.prog.cellsOf 4 = 1 := by kernel_rfl
  have h22 : Tryd.prog.cellsOf 22 = 16 := by kernel_rfl
  have h5 : Tryd.prog.cellsOf 5 = 1 := by kernel_rfl
  obtain ⟨xs, n, _, _, _, hxl, hx⟩ := DataW.trod_struct Tryd.underlying24 hf
  have e0 : DataW.trod enc Tryd.prog w base spare held n 4 ((L.drop 0).take (Tryd.prog.cellsOf 4)) = xs[0]? := hx 0 _ rfl
  have e1 : DataW.trod enc Tryd.prog w base spare held n 22 ((L.drop 1).take (Tryd.prog.cellsOf 22)) = xs[1]? := hx 1 _ rfl
  rw [h4] at e0
  rw [h22] at e1
  have hx2 : xs.length = 2 := hxl
  rw [List.getElem?_eq_getElem (by omega)] at e0
  obtain ⟨b, hb, _⟩ := DataW.trod_bool Tryd.underlying4 e0
  have hb0 := part_at (L := L) (r := 0) hb
  have hcell : ∀ j, j < 16 → ∃ k : Nat, L[j + 1]? = some (.int .u8 k) ∧ k < 256 := by
    intro j hj
    rw [List.getElem?_eq_getElem (by omega)] at e1
    obtain ⟨ys, m, _, _, hl1, hyl, hy⟩ := DataW.trod_array Tryd.underlying22 e1
    have ej := hy j hj
    rw [h5, List.getElem?_eq_getElem (by omega)] at ej
    obtain ⟨k, hk, _, hwf⟩ := DataW.trod_int Tryd.underlying5 ej
    have := part_at hk
    rw [Nat.mul_one, List.getElem?_take, if_pos hj, List.getElem?_drop, Nat.add_comm] at this
    have hb := bounds_u8 hwf
    refine ⟨k.toNat, ?_, by omega⟩
    rw [this]
    simp
    omega
  refine ⟨b, (List.range 16).map fun j => (numOf L[j + 1]?), ?_, by simp, ?_⟩
  · apply List.ext_getElem?
    intro i
    cases i with
    | zero => rw [hb0]; rfl
    | succ j =>
      simp only [adr, List.getElem?_cons_succ, nums, List.map_map, List.getElem?_map]
      by_cases hj : j < 16
      · obtain ⟨k, hk, _⟩ := hcell j hj
        rw [hk, List.getElem?_range hj]
        show some _ = some (Value.int .u8 ((numOf L[j + 1]? : Nat) : Int))
        rw [hk]
        simp [numOf]
      · rw [List.getElem?_eq_none (by rw [hl]; omega), List.getElem?_eq_none (by simp; omega)]
        rfl
  · intro x hx
    obtain ⟨j, hj, rfl⟩ := List.mem_map.1 hx
    obtain ⟨k, hk, hlt⟩ := hcell j (List.mem_range.1 hj)
    rw [hk]
    simpa [numOf] using hlt

set_option maxRecDepth 100000 in
theorem open_pfx {H : Type} {enc : TypeId × Value → H} {w : World} {base base' : Nat} {spare : Nat → Bool} {held : Bool} {r : Reach} {v : Value} {d : DataW H} {ps : List MemPlace}
    (hval : Value.okWide Tryd.prog w r base' 26 v) (hd : DataW.Trod enc Tryd.prog w base spare held 26 v d ps) : ∃ b xs n, v = .agg (pfx b xs n).toArray ∧ Bytes xs ∧ (-9223372036854775808 ≤ n ∧ n ≤ 9223372036854775807) := by
  obtain ⟨cs, rfl, hsz⟩ := okWide_struct Tryd.underlying26 hval
  have h18 : Tryd.prog.cellsOf 26 = 18 := by kernel_rfl
  have h17 : Tryd.prog.cellsOf 24 = 17 := by kernel_rfl
  have h3 : Tryd.prog.cellsOf 3 = 1 := by kernel_rfl
  rw [h18] at hsz
  obtain ⟨fuel, hf⟩ := hd
  simp only [Value.cells] at hf
  obtain ⟨xs, n, _, _, hl, hxl, hx⟩ := DataW.trod_struct Tryd.underlying26 hf
  have e0 : DataW.trod enc Tryd.prog w base spare held n 24 ((cs.toList.drop 0).take (Tryd.prog.cellsOf 24)) = xs[0]? := hx 0 _ rfl
  have e1 : DataW.trod enc Tryd.prog w base spare held n 3 ((cs.toList.drop 17).take (Tryd.prog.cellsOf 3)) = xs[1]? := hx 1 _ rfl
  rw [h17, List.drop_zero] at e0
  rw [h3] at e1
  have hx2 : xs.length = 2 := hxl
  have hcl : cs.toList.length = 18 := by rw [Array.length_toList]; exact hsz
  rw [List.getElem?_eq_getElem (by omega)] at e0 e1
  obtain ⟨b, ys, hL, hb⟩ := adr_cells (by rw [List.length_take, hcl]; rfl) e0
  obtain ⟨k, hk, _, hwf⟩ := DataW.trod_int Tryd.underlying3 e1
  refine ⟨b, ys, k, ?_, hb, bounds_i64 hwf⟩
  congr 1
  apply Array.toList_inj.1
  rw [List.toList_toArray, pfx, ← hL, ← List.take_append_drop 17 cs.toList]
  congr 1
  · rw [List.take_append_of_le_length (by rw [List.length_take, hcl]; exact Nat.le_refl _), List.take_take]; rfl
  · have h1 : (cs.toList.drop 17).length = 1 := by rw [List.length_drop, hcl]
    rw [List.take_of_length_le (by omega)] at hk
    exact hk

end Go.Proofs.YtmhnailcmlomiaaDoor
