/-
  FRAME PARTS: how prefixes and targets that came in are told to the walks; no walk.
  Conditions: as each theorem says.
-/
import Derived.Test.YtmhnailcmlomiaaGreatDoorLa
import Derived.Test.YtmhnailcmlomiaaGreatDoorCa
import Derived.Test.YtmhnailcmlomiaaGreatDoorN8
import Derived.ChangeMaps5
namespace Go.Proofs.YtmhnailcmlomiaaGreatDoor
open Go.ChangeShapes Go.WideShapes Go.ChangeAt Go.RowKit
set_option linter.unusedVariables false

theorem part_at {L : List Value} {r : Nat} {v : Value} (h : (L.drop r).take 1 = [v]) : L[r]? = some v := by
  have h1 : ((L.drop r).take 1)[0]? = some v := by rw [h]; rfl
  simpa using h1

set_option maxRecDepth 100000 in
/-- The cells of an address that is a part. -/
theorem adr_cells {H : Type} {enc : TypeId × Value → H} {w : World} {base : Nat} {spare : Nat → Bool} {held : Bool} {fuel : Nat} {L : List Value} {d : DataW H × List MemPlace}
    (hl : L.length = 17) (hf : DataW.trod enc Tryz.prog w base spare held fuel 30 L = some d) : ∃ b xs, L = adr b xs ∧ Bytes xs := by
  have h4 : Tryz.prog.cellsOf 4 = 1 := by kernel_rfl
  have h22 : Tryz.prog.cellsOf 28 = 16 := by kernel_rfl
  have h5 : Tryz.prog.cellsOf 5 = 1 := by kernel_rfl
  obtain ⟨xs, n, _, _, _, hxl, hx⟩ := DataW.trod_struct Tryz.underlying30 hf
  have e0 : DataW.trod enc Tryz.prog w base spare held n 4 ((L.drop 0).take (Tryz.prog.cellsOf 4)) = xs[0]? := hx 0 _ rfl
  have e1 : DataW.trod enc Tryz.prog w base spare held n 28 ((L.drop 1).take (Tryz.prog.cellsOf 28)) = xs[1]? := hx 1 _ rfl
  rw [h4] at e0
  rw [h22] at e1
  have hx2 : xs.length = 2 := hxl
  rw [List.getElem?_eq_getElem (by omega)] at e0
  obtain ⟨b, hb, _⟩ := DataW.trod_bool Tryz.underlying4 e0
  have hb0 := part_at (L := L) (r := 0) hb
  have hcell : ∀ j, j < 16 → ∃ k : Nat, L[j + 1]? = some (.int .u8 k) ∧ k < 256 := by
    intro j hj
    rw [List.getElem?_eq_getElem (by omega)] at e1
    obtain ⟨ys, m, _, _, hl1, hyl, hy⟩ := DataW.trod_array Tryz.underlying28 e1
    have ej := hy j hj
    rw [h5, List.getElem?_eq_getElem (by omega)] at ej
    obtain ⟨k, hk, _, hwf⟩ := DataW.trod_int Tryz.underlying5 ej
    have := part_at hk
    rw [Nat.mul_one, List.getElem?_take, if_pos hj, List.getElem?_drop, Nat.add_comm] at this
    have hb := bounds_u8 hwf
    refine ⟨k.toNat, ?_, by omega⟩
    rw [this]
    simp
    omega
  refine ⟨b, (List.range 16).map fun j => (numOf L[j + 1]?), ?_, by simp, ?_⟩
  · apply List.ext_getElem?
    intro i
    cases i with
    | zero => rw [hb0]; rfl
    | succ j =>
      simp only [adr, List.getElem?_cons_succ, nums, List.map_map, List.getElem?_map]
      by_cases hj : j < 16
      · obtain ⟨k, hk, _⟩ := hcell j hj
        rw [hk, List.getElem?_range hj]
        show some _ = some (Value.int .u8 ((numOf L[j + 1]? : Nat) : Int))
        rw [hk]
        simp [numOf]
      · rw [List.getElem?_eq_none (by rw [hl]; omega), List.getElem?_eq_none (by simp; omega)]
        rfl
  · intro x hx
    obtain ⟨j, hj, rfl⟩ := List.mem_map.1 hx
    obtain ⟨k, hk, hlt⟩ := hcell j (List.mem_range.1 hj)
    rw [hk]
    simpa [numOf] using hlt

set_option maxRecDepth 100000 in
theorem open_pfx {H : Type} {enc : TypeId × Value → H} {w : World} {base base' : Nat} {spare : Nat → Bool} {held : Bool} {r : Reach} {v : Value} {d : DataW H} {ps : List MemPlace}
    (hval : Value.okWide Tryz.prog w r base' 40 v) (hd : DataW.Trod enc Tryz.prog w base spare held 40 v d ps) : ∃ b xs n, v = .agg (pfx b xs n).toArray ∧ Bytes xs ∧ (-9223372036854775808 ≤ n ∧ n ≤ 9223372036854775807) := by
  obtain ⟨cs, rfl, hsz⟩ := okWide_struct Tryz.underlying40 hval
  have h18 : Tryz.prog.cellsOf 40 = 18 := by kernel_rfl
  have h17 : Tryz.prog.cellsOf 30 = 17 := by kernel_rfl
  have h3 : Tryz.prog.cellsOf 3 = 1 := by kernel_rfl
  rw [h18] at hsz
  obtain ⟨fuel, hf⟩ := hd
  simp only [Value.cells] at hf
  obtain ⟨xs, n, _, _, hl, hxl, hx⟩ := DataW.trod_struct Tryz.underlying40 hf
  have e0 : DataW.trod enc Tryz.prog w base spare held n 30 ((cs.toList.drop 0).take (Tryz.prog.cellsOf 30)) = xs[0]? := hx 0 _ rfl
  have e1 : DataW.trod enc Tryz.prog w base spare held n 3 ((cs.toList.drop 17).take (Tryz.prog.cellsOf 3)) = xs[1]? := hx 1 _ rfl
  rw [h17, List.drop_zero] at e0
  rw [h3] at e1
  have hx2 : xs.length = 2 := hxl
  have hcl : cs.toList.length = 18 := by rw [Array.length_toList]; exact hsz
  rw [List.getElem?_eq_getElem (by omega)] at e0 e1
  obtain ⟨b, ys, hL, hb⟩ := adr_cells (by rw [List.length_take, hcl]; rfl) e0
  obtain ⟨k, hk, _, hwf⟩ := DataW.trod_int Tryz.underlying3 e1
  refine ⟨b, ys, k, ?_, hb, bounds_i64 hwf⟩
  congr 1
  apply Array.toList_inj.1
  rw [List.toList_toArray, pfx, ← hL, ← List.take_append_drop 17 cs.toList]
  congr 1
  · rw [List.take_append_of_le_length (by rw [List.length_take, hcl]; exact Nat.le_refl _), List.take_take]; rfl
  · have h1 : (cs.toList.drop 17).length = 1 := by rw [List.length_drop, hcl]
    rw [List.take_of_length_le (by omega)] at hk
    exact hk

set_option maxRecDepth 100000 in
theorem open_tgt {H : Type} {enc : TypeId × Value → H} {w : World} {base base' : Nat} {spare : Nat → Bool} {held : Bool} {r : Reach} {v : Value} {d : DataW H} {ps : List MemPlace}
    (hval : Value.okWide Tryz.prog w r base' 32 v) (hd : DataW.Trod enc Tryz.prog w base spare held 32 v d ps) : ∃ s b xs n, v = .agg (tgt s b xs n).toArray ∧ Bytes xs ∧ (-9223372036854775808 ≤ n ∧ n ≤ 9223372036854775807) := by
  obtain ⟨cs, rfl, hsz⟩ := okWide_struct Tryz.underlying32 hval
  have h19 : Tryz.prog.cellsOf 32 = 19 := by kernel_rfl
  have h17 : Tryz.prog.cellsOf 30 = 17 := by kernel_rfl
  have h3 : Tryz.prog.cellsOf 3 = 1 := by kernel_rfl
  have h9 : Tryz.prog.cellsOf 9 = 1 := by kernel_rfl
  rw [h19] at hsz
  obtain ⟨fuel, hf⟩ := hd
  simp only [Value.cells] at hf
  obtain ⟨xs, n, _, _, hl, hxl, hx⟩ := DataW.trod_struct Tryz.underlying32 hf
  have e0 : DataW.trod enc Tryz.prog w base spare held n 9 ((cs.toList.drop 0).take (Tryz.prog.cellsOf 9)) = xs[0]? := hx 0 _ rfl
  have e1 : DataW.trod enc Tryz.prog w base spare held n 30 ((cs.toList.drop 1).take (Tryz.prog.cellsOf 30)) = xs[1]? := hx 1 _ rfl
  have e2 : DataW.trod enc Tryz.prog w base spare held n 3 ((cs.toList.drop 18).take (Tryz.prog.cellsOf 3)) = xs[2]? := hx 2 _ rfl
  rw [h17] at e1
  rw [h3] at e2
  rw [h9] at e0
  have hx3 : xs.length = 3 := hxl
  have hcl : cs.toList.length = 19 := by rw [Array.length_toList]; exact hsz
  rw [List.getElem?_eq_getElem (by omega)] at e0 e1 e2
  obtain ⟨b, ys, hL, hb⟩ := adr_cells (by rw [List.length_take, List.length_drop, hcl]; rfl) e1
  obtain ⟨k, hk, _, hwf⟩ := DataW.trod_int Tryz.underlying3 e2
  obtain ⟨s, hs, _⟩ := DataW.trod_string Tryz.underlying9 e0
  refine ⟨s, b, ys, k, ?_, hb, bounds_i64 hwf⟩
  congr 1
  apply Array.toList_inj.1
  have h1 : (cs.toList.drop 18).length = 1 := by rw [List.length_drop, hcl]
  rw [List.take_of_length_le (by omega)] at hk
  have hd2 : cs.toList.drop 1 = adr b ys ++ [.int .i64 k] := by
    rw [← hL, ← hk, show cs.toList.drop 18 = (cs.toList.drop 1).drop 17 by rw [List.drop_drop], List.take_append_drop]
  have hc0 : cs.toList = cs.toList.take 1 ++ cs.toList.drop 1 := (List.take_append_drop 1 _).symm
  rw [List.drop_zero] at hs
  rw [hc0, hs, hd2]
  rfl
end Go.Proofs.YtmhnailcmlomiaaGreatDoor
