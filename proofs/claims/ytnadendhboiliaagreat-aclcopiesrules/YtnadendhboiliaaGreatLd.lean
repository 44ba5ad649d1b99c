/-
  FRAME PARTS: how prefixes and lists of prefixes that came in are told to the walks; no walk.
  Conditions: as each theorem says.
-/
import Derived.Test.YtnadendhboiliaaGreatRq
import Derived.Deep.Slices
import Derived.ChangeMaps5
namespace Go.Proofs.YtnadendhboiliaaGreat
open Go.ChangeShapes Go.WideShapes Go.ChangeAt Go.RowKit
set_option linter.unusedVariables false

theorem part_at {L : List Value} {r : Nat} {v : Value} (h : (L.drop r).take 1 = [v]) : L[r]? = some v := by
  have h1 : ((L.drop r).take 1)[0]? = some v := by rw [h]; rfl
  simpa using h1

set_option maxRecDepth 100000 in
/-- The cells of an address that is a part. -/
theorem adr_cells {H : Type} {enc : TypeId × Value → H} {w : World} {base : Nat} {spare : Nat → Bool} {held : Bool} {fuel : Nat} {L : List Value} {d : DataW H × List MemPlace}
    (hl : L.length = 17) (hf : DataW.trod enc Tryz.prog w base spare held fuel 25 L = some d) : ∃ b xs, L = adr b xs ∧ Bytes xs := by
  have h4 : Tryz.prog.cellsOf 4 = 1 := by kernel_rfl
  have h22 : Tryz.prog.cellsOf 23 = 16 := by kernel_rfl
  have h5 : Tryz.prog.cellsOf 5 = 1 := by kernel_rfl
  obtain ⟨xs, n, _, _, _, hxl, hx⟩ := DataW.trod_struct Tryz.underlying25 hf
  have e0 : DataW.trod enc Tryz.prog w base spare held n 4 ((L.drop 0).take (Tryz.prog.cellsOf 4)) = xs[0]? := hx 0 _ rfl
  have e1 : DataW.trod enc Tryz.prog w base spare held n 23 ((L.drop 1).take (Tryz.prog.cellsOf 23)) = xs[1]? := hx 1 _ rfl
  rw [h4] at e0
  rw [h22] at e1
  have hx2 : xs.length = 2 := hxl
  rw [List.getElem?_eq_getElem (by omega)] at e0
  obtain ⟨b, hb, _⟩ := DataW.trod_bool Tryz.underlying4 e0
  have hb0 := part_at (L := L) (r := 0) hb
  have hcell : ∀ j, j < 16 → ∃ k : Nat, L[j + 1]? = some (.int .u8 k) ∧ k < 256 := by
    intro j hj
    rw [List.getElem?_eq_getElem (by omega)] at e1
    obtain ⟨ys, m, _, _, hl1, hyl, hy⟩ := DataW.trod_array Tryz.underlying23 e1
    have ej := hy j hj
    rw [h5, List.getElem?_eq_getElem (by omega)] at ej
    obtain ⟨k, hk, _, hwf⟩ := DataW.trod_int Tryz.underlying5 ej
    have := part_at hk
    rw [Nat.mul_one, List.getElem?_take, if_pos hj, List.getElem?_drop, Nat.add_comm] at this
    have hb := bounds_u8 hwf
    refine ⟨k.toNat, ?_, by omega⟩
    rw [this]
    simp
    omega
  refine ⟨b, (List.range 16).map fun j => (numOf L[j + 1]?), ?_, by simp, ?_⟩
  · apply List.ext_getElem?
    intro i
    cases i with
    | zero => rw [hb0]; rfl
    | succ j =>
      simp only [adr, List.getElem?_cons_succ, nums, List.map_map, List.getElem?_map]
      by_cases hj : j < 16
      · obtain ⟨k, hk, _⟩ := hcell j hj
        rw [hk, List.getElem?_range hj]
        show some _ = some (Value.int .u8 ((numOf L[j + 1]? : Nat) : Int))
        rw [hk]
        simp [numOf]
      · rw [List.getElem?_eq_none (by rw [hl]; omega), List.getElem?_eq_none (by simp; omega)]
        rfl
  · intro x hx
    obtain ⟨j, hj, rfl⟩ := List.mem_map.1 hx
    obtain ⟨k, hk, hlt⟩ := hcell j (List.mem_range.1 hj)
    rw [hk]
    simpa [numOf] using hlt

set_option maxRecDepth 100000 in
/-- The cells of a prefix that is a part. -/
theorem pfx_cells {H : Type} {enc : TypeId × Value → H} {w : World} {base : Nat} {spare : Nat → Bool} {held : Bool} {fuel : Nat} {L : List Value} {d : DataW H × List MemPlace}
    (hcl : L.length = 18) (hf : DataW.trod enc Tryz.prog w base spare held fuel 29 L = some d) : ∃ q : Px, Bytes q.xs ∧ L = pfx q.b q.xs q.n := by
  have h17 : Tryz.prog.cellsOf 25 = 17 := by kernel_rfl
  have h3 : Tryz.prog.cellsOf 3 = 1 := by kernel_rfl
  obtain ⟨xs, n, _, _, hl, hxl, hx⟩ := DataW.trod_struct Tryz.underlying29 hf
  have e0 : DataW.trod enc Tryz.prog w base spare held n 25 ((L.drop 0).take (Tryz.prog.cellsOf 25)) = xs[0]? := hx 0 _ rfl
  have e1 : DataW.trod enc Tryz.prog w base spare held n 3 ((L.drop 17).take (Tryz.prog.cellsOf 3)) = xs[1]? := hx 1 _ rfl
  rw [h17, List.drop_zero] at e0
  rw [h3] at e1
  have hx2 : xs.length = 2 := hxl
  rw [List.getElem?_eq_getElem (by omega)] at e0 e1
  obtain ⟨b, ys, hL, hb⟩ := adr_cells (by rw [List.length_take, hcl]; rfl) e0
  obtain ⟨k, hk, _, hwf⟩ := DataW.trod_int Tryz.underlying3 e1
  refine ⟨⟨b, ys, k⟩, hb, ?_⟩
  show L = pfx b ys k
  have h1 : (L.drop 17).length = 1 := by rw [List.length_drop, hcl]
  rw [List.take_of_length_le (by omega)] at hk
  rw [pfx, ← hL, ← List.take_append_drop 17 L]
  congr 1
  rw [List.take_append_of_le_length (by rw [List.length_take, hcl]; exact Nat.le_refl _), List.take_take]; rfl

set_option maxRecDepth 100000 in
/-- The cells of a rule that is a part. -/
theorem rule_cells {H : Type} {enc : TypeId × Value → H} {w : World} {base : Nat} {spare : Nat → Bool} {held : Bool} {fuel : Nat} {L : List Value} {d : DataW H × List MemPlace}
    (hcl : L.length = 22) (hf : DataW.trod enc Tryz.prog w base spare held fuel 31 L = some d) : ∃ q : Ru, Bytes q.p.xs ∧ L = ruC q := by
  have h18 : Tryz.prog.cellsOf 29 = 18 := by kernel_rfl
  have h3 : Tryz.prog.cellsOf 3 = 1 := by kernel_rfl
  have h4 : Tryz.prog.cellsOf 4 = 1 := by kernel_rfl
  have h9 : Tryz.prog.cellsOf 9 = 1 := by kernel_rfl
  obtain ⟨xs, n, _, _, hl, hxl, hx⟩ := DataW.trod_struct Tryz.underlying31 hf
  have e0 : DataW.trod enc Tryz.prog w base spare held n 4 ((L.drop 0).take (Tryz.prog.cellsOf 4)) = xs[0]? := hx 0 _ rfl
  have e1 : DataW.trod enc Tryz.prog w base spare held n 9 ((L.drop 1).take (Tryz.prog.cellsOf 9)) = xs[1]? := hx 1 _ rfl
  have e2 : DataW.trod enc Tryz.prog w base spare held n 29 ((L.drop 2).take (Tryz.prog.cellsOf 29)) = xs[2]? := hx 2 _ rfl
  have e3 : DataW.trod enc Tryz.prog w base spare held n 3 ((L.drop 20).take (Tryz.prog.cellsOf 3)) = xs[3]? := hx 3 _ rfl
  have e4 : DataW.trod enc Tryz.prog w base spare held n 3 ((L.drop 21).take (Tryz.prog.cellsOf 3)) = xs[4]? := hx 4 _ rfl
  rw [h4] at e0
  rw [h9] at e1
  rw [h18] at e2
  rw [h3] at e3 e4
  have hx5 : xs.length = 5 := hxl
  rw [List.getElem?_eq_getElem (by omega)] at e0 e1 e2 e3 e4
  obtain ⟨b, hb0, _⟩ := DataW.trod_bool Tryz.underlying4 e0
  obtain ⟨s, hs, _⟩ := DataW.trod_string Tryz.underlying9 e1
  obtain ⟨q, hq, hL⟩ := pfx_cells (by rw [List.length_take, List.length_drop, hcl]; rfl) e2
  obtain ⟨lo, hlo, _, _⟩ := DataW.trod_int Tryz.underlying3 e3
  obtain ⟨hi, hhi, _, _⟩ := DataW.trod_int Tryz.underlying3 e4
  refine ⟨⟨b, s.data.toList, q, lo, hi⟩, hq, ?_⟩
  have a0 := part_at hb0
  have a1 := part_at hs
  have a20 := part_at hlo
  have a21 := part_at hhi
  apply List.ext_getElem?
  intro i
  have hlen : (ruC ⟨b, s.data.toList, q, lo, hi⟩).length = 22 := ruC_length hq.1
  by_cases hi22 : i < 22
  · rcases (by omega : i = 0 ∨ i = 1 ∨ i = 20 ∨ i = 21 ∨ (2 ≤ i ∧ i < 20)) with rfl | rfl | rfl | rfl | ⟨h2, h20⟩
    · rw [a0]; rfl
    · rw [a1]; rfl
    · rw [a20, ruC_lo hq]
    · rw [a21, ruC_hi hq]
    · have e : L[i]? = (pfx q.b q.xs q.n)[i - 2]? := by
        rw [← hL, List.getElem?_take, if_pos (by omega), List.getElem?_drop, show 2 + (i - 2) = i by omega]
      rw [e]
      obtain ⟨v, hv⟩ : ∃ v, (pfx q.b q.xs q.n)[i - 2]? = some v := ⟨_, List.getElem?_eq_getElem (by rw [pfx_length hq.1]; omega)⟩
      have := ruC_pfx (r := ⟨b, s.data.toList, q, lo, hi⟩) hv
      rw [show 2 + (i - 2) = i by omega] at this
      rw [hv, this]
  · rw [List.getElem?_eq_none (by omega), List.getElem?_eq_none (by omega)]

/-- A list that came in: where it lies, element by element. -/
def InR (w : World) (a : Option Addr) (n : Nat) : Prop := n ≤ 9223372036854775807 ∧ ∀ i, i < n → ∃ (b o : Nat) (q : Ru), Bytes q.p.xs ∧ a = some ⟨b, o, none⟩ ∧ ∀ (j : Nat) (v : Value), (ruC q)[j]? = some v → w.cell? ⟨b, o + i * 22 + j, none⟩ = some v
theorem InR_open {H : Type} {enc : TypeId × Value → H} {w : World} {spare : Nat → Bool} {held : Bool} {fuel : Nat} {a : Option Addr} {n c : Nat} {x : DataW H × List MemPlace} (h : DataW.trod enc Tryz.prog w 0 spare held fuel 22 [.slice a n c] = some x) : InR w a n := by
  have hK : Tryz.prog.cellsOf 31 = 22 := by kernel_rfl
  rcases Go.Deep.open_slice Tryz.underlying22 h with ⟨hcs, _⟩ | ⟨ad, len, cap, m, n', Dd, Pl, hcs, hb, hl, hm, hmm, hx, hall⟩
  · cases hcs
    exact ⟨by omega, fun i hi => by omega⟩
  · cases hcs
    unfold maxLen at hm
    simp only [hK] at hall
    refine ⟨by omega, fun i hi => ?_⟩
    have him : i < m := by rw [hmm]; split <;> omega
    obtain ⟨cs, hc, ht⟩ := hall i him
    have hcl : cs.length = 22 := by
      unfold World.cells? at hc
      split at hc
      · have := mapM_some_length hc
        simpa using this
      · cases hc
    obtain ⟨q, hq, hL⟩ : ∃ q : Ru, Bytes q.p.xs ∧ cs = ruC q := rule_cells hcl ht
    unfold World.cells? at hc
    split at hc
    · have hgc : ∀ r, r < 22 → w.cell? ((ad.add (i * 22)).add r) = cs[r]? := fun r hr => mapM_some_get hc r r (by simp [hr])
      obtain ⟨cs0, hc0, _⟩ := hall 0 (by omega)
      unfold World.cells? at hc0
      split at hc0
      · have hl0 := mapM_some_length hc0
        have hg0 := mapM_some_get hc0 0 0 (by simp)
        simp only [List.length_range] at hl0
        rw [List.getElem?_eq_getElem (by omega)] at hg0
        have hsp := World.cell?_spot hg0
        obtain ⟨b, off, spot⟩ := ad
        have hspot : spot = none := by simpa [Addr.add] using hsp
        subst hspot
        refine ⟨b, off, q, hq, rfl, fun j v hv => ?_⟩
        have hj : j < 22 := by
          have := (List.getElem?_eq_some_iff.1 hv).1
          rw [← hL, hcl] at this
          exact this
        have := hgc j hj
        simp only [Go.WideShapes.add_plain] at this
        rw [this, hL]
        exact hv
      · cases hc0
    · cases hc
theorem InR.load {w : World} {a : Option Addr} {n i : Nat} (h : InR w a n) (hi : i < n) : ∃ (b o : Nat) (q : Ru), Bytes q.p.xs ∧ a = some ⟨b, o, none⟩ ∧ ∀ (P : Program) (w' : World), Fr No w w' → Sem.run P (loadCellsFrom ⟨b, o + i * 22, none⟩ 0 22 #[]) w' = .ok (ruC q).toArray w' := by
  obtain ⟨b, o, q, hq, ha, hc⟩ := h.2 i hi
  refine ⟨b, o, q, hq, ha, fun P w' hf => ?_⟩
  have := run_loadCellsFrom_list P w' ⟨b, o + i * 22, none⟩ (ruC q) 22 (ruC_length hq.1) (fun j v hv => by
    rw [Addr.add_lit]
    exact hf.cell (hc j v hv))
  simpa using this

/-- A list that came in: where it lies, element by element. -/
def InA (w : World) (a : Option Addr) (n : Nat) : Prop := n ≤ 9223372036854775807 ∧ ∀ i, i < n → ∃ (b o : Nat) (q : Bool × List Nat), Bytes q.2 ∧ a = some ⟨b, o, none⟩ ∧ ∀ (j : Nat) (v : Value), (adr q.1 q.2)[j]? = some v → w.cell? ⟨b, o + i * 17 + j, none⟩ = some v
theorem InA.load {w : World} {a : Option Addr} {n i : Nat} (h : InA w a n) (hi : i < n) : ∃ (b o : Nat) (q : Bool × List Nat), Bytes q.2 ∧ a = some ⟨b, o, none⟩ ∧ ∀ (P : Program) (w' : World), Fr No w w' → Sem.run P (loadCellsFrom ⟨b, o + i * 17, none⟩ 0 17 #[]) w' = .ok (adr q.1 q.2).toArray w' := by
  obtain ⟨b, o, q, hq, ha, hc⟩ := h.2 i hi
  refine ⟨b, o, q, hq, ha, fun P w' hf => ?_⟩
  have := run_loadCellsFrom_list P w' ⟨b, o + i * 17, none⟩ (adr q.1 q.2) 17 (by rw [adr_length, hq.1]) (fun j v hv => by
    rw [Addr.add_lit]
    exact hf.cell (hc j v hv))
  simpa using this

/-- A list that came in: where it lies, element by element. -/
def InI (w : World) (a : Option Addr) (n : Nat) : Prop := n ≤ 9223372036854775807 ∧ ∀ i, i < n → ∃ (b o : Nat) (q : Int), True ∧ a = some ⟨b, o, none⟩ ∧ ∀ (j : Nat) (v : Value), ([Value.int .i64 q])[j]? = some v → w.cell? ⟨b, o + i * 1 + j, none⟩ = some v
theorem InI.load {w : World} {a : Option Addr} {n i : Nat} (h : InI w a n) (hi : i < n) : ∃ (b o : Nat) (q : Int), True ∧ a = some ⟨b, o, none⟩ ∧ ∀ (P : Program) (w' : World), Fr No w w' → Sem.run P (loadCellsFrom ⟨b, o + i * 1, none⟩ 0 1 #[]) w' = .ok ([Value.int .i64 q]).toArray w' := by
  obtain ⟨b, o, q, hq, ha, hc⟩ := h.2 i hi
  refine ⟨b, o, q, hq, ha, fun P w' hf => ?_⟩
  have := run_loadCellsFrom_list P w' ⟨b, o + i * 1, none⟩ ([Value.int .i64 q]) 1 rfl (fun j v hv => by
    rw [Addr.add_lit]
    exact hf.cell (hc j v hv))
  simpa using this

theorem cell_block {w : World} {b o : Nat} {v : Value} (h : w.cell? ⟨b, o, none⟩ = some v) : ∃ cs T f, w.heap[b]? = some (.cells cs T f) ∧ cs[o]? = some v := by
  unfold World.cell? at h
  split at h
  · rename_i c T f he
    exact ⟨c, T, f, he, h⟩
  · cases h
/-- Rules that came in lie in a row. -/
theorem InR.row {w : World} {a : Option Addr} {n : Nat} (h : InR w a n) : ∃ L : List Ru, L.length = n ∧ RowR w a L := by
  have hq : ∀ i : Nat, ∃ q : Ru, Bytes q.p.xs ∧ (i < n → ∃ b o, a = some ⟨b, o, none⟩ ∧ ∀ (j : Nat) (v : Value), (ruC q)[j]? = some v → w.cell? ⟨b, o + i * 22 + j, none⟩ = some v) := fun i => by
    by_cases hi : i < n
    · obtain ⟨b, o, q, h1, h2, h3⟩ := h.2 i hi
      exact ⟨q, h1, fun _ => ⟨b, o, h2, h3⟩⟩
    · exact ⟨zRu, zeros_bytes, fun h => absurd h hi⟩
  obtain ⟨f, hf⟩ := Classical.axiomOfChoice hq
  refine ⟨(List.range n).map f, by simp, fun r hr => ?_, fun hne => ?_⟩
  · obtain ⟨i, -, rfl⟩ := List.mem_map.1 hr
    exact (hf i).1
  · have hn : 0 < n := by
      cases n with
      | zero => exact absurd rfl hne
      | succ _ => omega
    obtain ⟨b, o, ha, h0⟩ := (hf 0).2 hn
    obtain ⟨cs, T, fz, hb, -⟩ := cell_block (h0 0 _ rfl)
    refine ⟨b, o, cs, T, fz, ha, hb, fun j v hv => ?_⟩
    have hok : okL ((List.range n).map f) := fun r hr => by
      obtain ⟨i, -, rfl⟩ := List.mem_map.1 hr
      exact (hf i).1
    have hjl : j < n * 22 := by
      have := (List.getElem?_eq_some_iff.1 hv).1
      rw [flatR_length hok] at this
      simpa using this
    have hi : j / 22 < n := by omega
    have hq : ((List.range n).map f)[j / 22]? = some (f (j / 22)) := by rw [List.getElem?_map, List.getElem?_range hi]; rfl
    obtain ⟨u, hu⟩ : ∃ u, (ruC (f (j / 22)))[j % 22]? = some u := ⟨_, List.getElem?_eq_getElem (by rw [ruC_length (hf _).1.1]; omega)⟩
    have := flatR_get hok hq hu
    rw [show j / 22 * 22 + j % 22 = j by omega, hv] at this
    cases this
    obtain ⟨b', o', ha', hc⟩ := (hf (j / 22)).2 hi
    rw [ha] at ha'
    cases ha'
    have hc2 := hc _ _ hu
    obtain ⟨cs2, T2, f2, hb2, hv2⟩ := cell_block hc2
    rw [hb] at hb2
    cases hb2
    rw [show o + j / 22 * 22 + j % 22 = o + j by omega] at hv2
    exact hv2
end Go.Proofs.YtnadendhboiliaaGreat
