/-
  FRAME PARTS: how prefixes and lists of prefixes that came in are told to the walks; no walk.
  Conditions: as each theorem says.
-/
import Derived.Test.YtnbohhiooigmbaaPu
import Derived.Deep.Slices
import Derived.ChangeMaps5
namespace Go.Proofs.Ytnbohhiooigmbaa
open Go.ChangeShapes Go.WideShapes Go.ChangeAt Go.RowKit
set_option linter.unusedVariables false

theorem part_at {L : List Value} {r : Nat} {v : Value} (h : (L.drop r).take 1 = [v]) : L[r]? = some v := by
  have h1 : ((L.drop r).take 1)[0]? = some v := by rw [h]; rfl
  simpa using h1

set_option maxRecDepth 100000 in
/-- The cells of an address that is a part. -/
theorem adr_cells {H : Type} {enc : TypeId × Value → H} {w : World} {base : Nat} {spare : Nat → Bool} {held : Bool} {fuel : Nat} {L : List Value} {d : DataW H × List MemPlace}
    (hl : L.length = 17) (hf : DataW.trod enc Try.prog w base spare held fuel 29 L = some d) : ∃ b xs, L = adr b xs ∧ Bytes xs := by
  have h4 : Try.prog.cellsOf 4 = 1 := by kernel_rfl
  have h22 : Try.prog.cellsOf 27 = 16 := by kernel_rfl
  have h5 : Try.prog.cellsOf 5 = 1 := by kernel_rfl
  obtain ⟨xs, n, _, _, _, hxl, hx⟩ := DataW.trod_struct Try.underlying29 hf
  have e0 : DataW.trod enc Try.prog w base spare held n 4 ((L.drop 0).take (Try.prog.cellsOf 4)) = xs[0]? := hx 0 _ rfl
  have e1 : DataW.trod enc Try.prog w base spare held n 27 ((L.drop 1).take (Try.prog.cellsOf 27)) = xs[1]? := hx 1 _ rfl
  rw [h4] at e0
  rw [h22] at e1
  have hx2 : xs.length = 2 := hxl
  rw [List.getElem?_eq_getElem (by omega)] at e0
  obtain ⟨b, hb, _⟩ := DataW.trod_bool Try.underlying4 e0
  have hb0 := part_at (L := L) (r := 0) hb
  have hcell : ∀ j, j < 16 → ∃ k : Nat, L[j + 1]? = some (.int .u8 k) ∧ k < 256 := by
    intro j hj
    rw [List.getElem?_eq_getElem (by omega)] at e1
    obtain ⟨ys, m, _, _, hl1, hyl, hy⟩ := DataW.trod_array Try.underlying27 e1
    have ej := hy j hj
    rw [h5, List.getElem?_eq_getElem (by omega)] at ej
    obtain ⟨k, hk, _, hwf⟩ := DataW.trod_int Try.underlying5 ej
    have := part_at hk
    rw [Nat.mul_one, List.getElem?_take, if_pos hj, List.getElem?_drop, Nat.add_comm] at this
    have hb := bounds_u8 hwf
    refine ⟨k.toNat, ?_, by omega⟩
    rw [this]
    simp
    omega
  refine ⟨b, (List.range 16).map fun j => (numOf L[j + 1]?), ?_, by simp, ?_⟩
  · apply List.ext_getElem?
    intro i
    cases i with
    | zero => rw [hb0]; rfl
    | succ j =>
      simp only [adr, List.getElem?_cons_succ, nums, List.map_map, List.getElem?_map]
      by_cases hj : j < 16
      · obtain ⟨k, hk, _⟩ := hcell j hj
        rw [hk, List.getElem?_range hj]
        show some _ = some (Value.int .u8 ((numOf L[j + 1]? : Nat) : Int))
        rw [hk]
        simp [numOf]
      · rw [List.getElem?_eq_none (by rw [hl]; omega), List.getElem?_eq_none (by simp; omega)]
        rfl
  · intro x hx
    obtain ⟨j, hj, rfl⟩ := List.mem_map.1 hx
    obtain ⟨k, hk, hlt⟩ := hcell j (List.mem_range.1 hj)
    rw [hk]
    simpa [numOf] using hlt

set_option maxRecDepth 100000 in
theorem open_pfx {H : Type} {enc : TypeId × Value → H} {w : World} {base base' : Nat} {spare : Nat → Bool} {held : Bool} {r : Reach} {v : Value} {d : DataW H} {ps : List MemPlace}
    (hval : Value.okWide Try.prog w r base' 31 v) (hd : DataW.Trod enc Try.prog w base spare held 31 v d ps) : ∃ b xs n, v = .agg (pfx b xs n).toArray ∧ Bytes xs ∧ (-9223372036854775808 ≤ n ∧ n ≤ 9223372036854775807) := by
  obtain ⟨cs, rfl, hsz⟩ := okWide_struct Try.underlying31 hval
  have h18 : Try.prog.cellsOf 31 = 18 := by kernel_rfl
  have h17 : Try.prog.cellsOf 29 = 17 := by kernel_rfl
  have h3 : Try.prog.cellsOf 3 = 1 := by kernel_rfl
  rw [h18] at hsz
  obtain ⟨fuel, hf⟩ := hd
  simp only [Value.cells] at hf
  obtain ⟨xs, n, _, _, hl, hxl, hx⟩ := DataW.trod_struct Try.underlying31 hf
  have e0 : DataW.trod enc Try.prog w base spare held n 29 ((cs.toList.drop 0).take (Try.prog.cellsOf 29)) = xs[0]? := hx 0 _ rfl
  have e1 : DataW.trod enc Try.prog w base spare held n 3 ((cs.toList.drop 17).take (Try.prog.cellsOf 3)) = xs[1]? := hx 1 _ rfl
  rw [h17, List.drop_zero] at e0
  rw [h3] at e1
  have hx2 : xs.length = 2 := hxl
  have hcl : cs.toList.length = 18 := by rw [Array.length_toList]; exact hsz
  rw [List.getElem?_eq_getElem (by omega)] at e0 e1
  obtain ⟨b, ys, hL, hb⟩ := adr_cells (by rw [List.length_take, hcl]; rfl) e0
  obtain ⟨k, hk, _, hwf⟩ := DataW.trod_int Try.underlying3 e1
  refine ⟨b, ys, k, ?_, hb, bounds_i64 hwf⟩
  congr 1
  apply Array.toList_inj.1
  rw [List.toList_toArray, pfx, ← hL, ← List.take_append_drop 17 cs.toList]
  congr 1
  · rw [List.take_append_of_le_length (by rw [List.length_take, hcl]; exact Nat.le_refl _), List.take_take]; rfl
  · have h1 : (cs.toList.drop 17).length = 1 := by rw [List.length_drop, hcl]
    rw [List.take_of_length_le (by omega)] at hk
    exact hk


set_option maxRecDepth 100000 in
/-- The cells of a prefix that is a part. -/
theorem pfx_cells {H : Type} {enc : TypeId × Value → H} {w : World} {base : Nat} {spare : Nat → Bool} {held : Bool} {fuel : Nat} {L : List Value} {d : DataW H × List MemPlace}
    (hcl : L.length = 18) (hf : DataW.trod enc Try.prog w base spare held fuel 31 L = some d) : ∃ q : Px, Bytes q.xs ∧ L = pfx q.b q.xs q.n := by
  have h17 : Try.prog.cellsOf 29 = 17 := by kernel_rfl
  have h3 : Try.prog.cellsOf 3 = 1 := by kernel_rfl
  obtain ⟨xs, n, _, _, hl, hxl, hx⟩ := DataW.trod_struct Try.underlying31 hf
  have e0 : DataW.trod enc Try.prog w base spare held n 29 ((L.drop 0).take (Try.prog.cellsOf 29)) = xs[0]? := hx 0 _ rfl
  have e1 : DataW.trod enc Try.prog w base spare held n 3 ((L.drop 17).take (Try.prog.cellsOf 3)) = xs[1]? := hx 1 _ rfl
  rw [h17, List.drop_zero] at e0
  rw [h3] at e1
  have hx2 : xs.length = 2 := hxl
  rw [List.getElem?_eq_getElem (by omega)] at e0 e1
  obtain ⟨b, ys, hL, hb⟩ := adr_cells (by rw [List.length_take, hcl]; rfl) e0
  obtain ⟨k, hk, _, hwf⟩ := DataW.trod_int Try.underlying3 e1
  refine ⟨⟨b, ys, k⟩, hb, ?_⟩
  show L = pfx b ys k
  have h1 : (L.drop 17).length = 1 := by rw [List.length_drop, hcl]
  rw [List.take_of_length_le (by omega)] at hk
  rw [pfx, ← hL, ← List.take_append_drop 17 L]
  congr 1
  rw [List.take_append_of_le_length (by rw [List.length_take, hcl]; exact Nat.le_refl _), List.take_take]; rfl

/-- A list of prefixes as it came in: where it lies, element by element. -/
def InP (w : World) (a : Option Addr) (n : Nat) : Prop := n ≤ 9223372036854775807 ∧ ∀ i, i < n → ∃ (b o : Nat) (q : Px), Bytes q.xs ∧ a = some ⟨b, o, none⟩ ∧ ∀ (j : Nat) (v : Value), (pfx q.b q.xs q.n)[j]? = some v → w.cell? ⟨b, o + i * 18 + j, none⟩ = some v
theorem cells31 : Try.prog.cellsOf 31 = 18 := by kernel_rfl
theorem InP.load {w : World} {a : Option Addr} {n i : Nat} (h : InP w a n) (hi : i < n) : ∃ (b o : Nat) (q : Px), Bytes q.xs ∧ a = some ⟨b, o, none⟩ ∧ ∀ (P : Program) (w' : World), Fr No w w' → Sem.run P (loadCellsFrom ⟨b, o + i * 18, none⟩ 0 18 #[]) w' = .ok (pfx q.b q.xs q.n).toArray w' := by
  obtain ⟨b, o, q, hq, ha, hc⟩ := h.2 i hi
  refine ⟨b, o, q, hq, ha, fun P w' hf => ?_⟩
  have := run_loadCellsFrom_list P w' ⟨b, o + i * 18, none⟩ (pfx q.b q.xs q.n) 18 (pfx_length hq.1) (fun j v hv => by
    rw [Addr.add_lit]
    exact hf.cell (hc j v hv))
  simpa using this
theorem pxs_open {H : Type} {enc : TypeId × Value → H} {w : World} {spare : Nat → Bool} {held : Bool} {fuel : Nat} {a : Option Addr} {n c : Nat} {x : DataW H × List MemPlace} (h : DataW.trod enc Try.prog w 0 spare held fuel 47 [.slice a n c] = some x) : InP w a n := by
  rcases Go.Deep.open_slice Try.underlying47 h with ⟨hcs, _⟩ | ⟨ad, len, cap, m, n', Dd, Pl, hcs, hb, hl, hm, hmm, hx, hall⟩
  · cases hcs
    exact ⟨by omega, fun i hi => by omega⟩
  · cases hcs
    unfold maxLen at hm
    simp only [cells31] at hall
    refine ⟨by omega, fun i hi => ?_⟩
    have him : i < m := by rw [hmm]; split <;> omega
    obtain ⟨cs, hc, ht⟩ := hall i him
    have hcl : cs.length = 18 := by
      unfold World.cells? at hc
      split at hc
      · have := mapM_some_length hc
        simpa using this
      · cases hc
    obtain ⟨q, hq, hL⟩ := pfx_cells hcl ht
    unfold World.cells? at hc
    split at hc
    · have hgc : ∀ r, r < 18 → w.cell? ((ad.add (i * 18)).add r) = cs[r]? := fun r hr => mapM_some_get hc r r (by simp [hr])
      obtain ⟨cs0, hc0, _⟩ := hall 0 (by omega)
      unfold World.cells? at hc0
      split at hc0
      · have hl0 := mapM_some_length hc0
        have hg0 := mapM_some_get hc0 0 0 (by simp)
        simp only [List.length_range] at hl0
        rw [List.getElem?_eq_getElem (by omega)] at hg0
        have hsp := World.cell?_spot hg0
        obtain ⟨b, off, spot⟩ := ad
        have hspot : spot = none := by simpa [Addr.add] using hsp
        subst hspot
        refine ⟨b, off, q, hq, rfl, fun j v hv => ?_⟩
        have hj : j < 18 := by
          have := (List.getElem?_eq_some_iff.1 hv).1
          rwa [pfx_length hq.1] at this
        have := hgc j hj
        simp only [Go.WideShapes.add_plain] at this
        rw [this, hL]
        exact hv
      · cases hc0
    · cases hc
end Go.Proofs.Ytnbohhiooigmbaa
