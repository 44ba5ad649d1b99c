/-
  FRAME PARTS: how a list of unsigned numbers that came in is told to the walks; no walk.
  Conditions: as each theorem says.
-/
import Derived.Test.YtfpaihohhedhfaaC
import Derived.Deep.Slices
namespace Go.Proofs.Ytfpaihohhedhfaa
open Go.ChangeShapes Go.WideShapes Go.ChangeAt Go.RowKit
set_option linter.unusedVariables false

theorem range_one {r : Nat} (h : r < 1) : (List.range 1)[r]? = some r := by
  have h0 : r = 0 := by omega
  subst h0
  rfl
/-- A list that came in: where it lies, element by element. -/
def InU (w : World) (a : Option Addr) (n : Nat) : Prop := n ≤ 9223372036854775807 ∧ ∀ i, i < n → ∃ (b o : Nat) (q : Int), U64 q ∧ a = some ⟨b, o, none⟩ ∧ ∀ (j : Nat) (v : Value), ([Value.int .u64 q])[j]? = some v → w.cell? ⟨b, o + i * 1 + j, none⟩ = some v
theorem InU_open {H : Type} {enc : TypeId × Value → H} {w : World} {spare : Nat → Bool} {held : Bool} {fuel : Nat} {a : Option Addr} {n c : Nat} {x : DataW H × List MemPlace} (h : DataW.trod enc Try.prog w 0 spare held fuel 32 [.slice a n c] = some x) : InU w a n := by
  have hK : Try.prog.cellsOf 22 = 1 := by kernel_rfl
  rcases Go.Deep.open_slice Try.underlying32 h with ⟨hcs, _⟩ | ⟨ad, len, cap, m, n', Dd, Pl, hcs, hb, hl, hm, hmm, hx, hall⟩
  · cases hcs
    exact ⟨by omega, fun i hi => by omega⟩
  · cases hcs
    unfold maxLen at hm
    simp only [hK] at hall
    refine ⟨by omega, fun i hi => ?_⟩
    have him : i < m := by rw [hmm]; split <;> omega
    obtain ⟨cs, hc, ht⟩ := hall i him
    have hcl : cs.length = 1 := by
      unfold World.cells? at hc
      split at hc
      · have := mapM_some_length hc
        simpa using this
      · cases hc
    obtain ⟨q, hq, hL⟩ : ∃ q : Int, U64 q ∧ cs = [Value.int .u64 q] := by obtain ⟨z, hz, _, hwf⟩ := DataW.trod_int Try.underlying22 ht; exact ⟨z, bounds_u64 hwf, hz⟩
    unfold World.cells? at hc
    split at hc
    · have hgc : ∀ r, r < 1 → w.cell? ((ad.add (i * 1)).add r) = cs[r]? := fun r hr => mapM_some_get hc r r (range_one hr)
      obtain ⟨cs0, hc0, _⟩ := hall 0 (by omega)
      unfold World.cells? at hc0
      split at hc0
      · have hl0 := mapM_some_length hc0
        have hg0 := mapM_some_get hc0 0 0 (by simp)
        simp only [List.length_range] at hl0
        rw [List.getElem?_eq_getElem (by omega)] at hg0
        have hsp := World.cell?_spot hg0
        obtain ⟨b, off, spot⟩ := ad
        have hspot : spot = none := by simpa [Addr.add] using hsp
        subst hspot
        refine ⟨b, off, q, hq, rfl, fun j v hv => ?_⟩
        have hj : j < 1 := by
          have := (List.getElem?_eq_some_iff.1 hv).1
          rw [← hL, hcl] at this
          exact this
        have := hgc j hj
        simp only [Go.WideShapes.add_plain] at this
        rw [this, hL]
        exact hv
      · cases hc0
    · cases hc
/-- The element at i, in any world behind. -/
theorem InU.cell {w : World} {a : Option Addr} {n i : Nat} (h : InU w a n) (hi : i < n) : ∃ (b o : Nat) (q : Int), U64 q ∧ a = some ⟨b, o, none⟩ ∧ ∀ w', Fr No w w' → w'.cell? ⟨b, o + i, none⟩ = some (.int .u64 q) := by
  obtain ⟨b, o, q, hq, ha, hc⟩ := h.2 i hi
  refine ⟨b, o, q, hq, ha, fun w' hf => ?_⟩
  have := hc 0 _ rfl
  rw [Nat.mul_one, Nat.add_zero] at this
  exact hf.cell this
end Go.Proofs.Ytfpaihohhedhfaa
