/-
  How a list of operations that came in lies in memory.
  Conditions: as each theorem says.
-/
import Derived.Test.YtanhjjinedjaaaaApp2
import Derived.Deep.Slices
namespace Go.Proofs.Ytanhjjinedjaaaa
open Go.ChangeShapes Go.WideShapes Go.ChangeAt Go.RowKit
set_option linter.unusedVariables false

def OpAt (w : World) (a : Option Addr) (i : Nat) (k c t : Int) (p : Bool) : Prop := ∃ b off, a = some ⟨b, off, none⟩ ∧ w.cell? ⟨b, off + i * 4, none⟩ = some (.int .i64 k) ∧ w.cell? ⟨b, off + i * 4 + 1, none⟩ = some (.int .i64 c) ∧ w.cell? ⟨b, off + i * 4 + 2, none⟩ = some (.int .i64 t) ∧ w.cell? ⟨b, off + i * 4 + 3, none⟩ = some (.bool p)

structure OpIs (w : World) (a : Option Addr) (i : Nat) (k c t : Int) (p : Bool) : Prop where
  at_ : OpAt w a i k c t p
  kb : -9223372036854775808 ≤ k ∧ k ≤ 9223372036854775807
  cb : -9223372036854775808 ≤ c ∧ c ≤ 9223372036854775807
  tb : -9223372036854775808 ≤ t ∧ t ≤ 9223372036854775807

def OpRow (w : World) (a : Option Addr) (n : Nat) : Prop := n ≤ 9223372036854775807 ∧ ∀ i, i < n → ∃ k c t p, OpIs w a i k c t p

theorem OpIs.old {w w' : World} {a : Option Addr} {i : Nat} {k c t : Int} {p : Bool} (h : OpIs w a i k c t p) (hf : Fr (fun k => w.heap.size ≤ k) w w') : OpIs w' a i k c t p := by
  obtain ⟨⟨b, off, rfl, h0, h1, h2, h3⟩, h4, h5, h6⟩ := h
  have hb : b < w.heap.size := World.block_lt_of_cell? w _ h0
  have hk := hf.block b hb (by omega)
  exact ⟨⟨b, off, rfl, (World.cell?_of_block (a := ⟨b, off + i * 4, none⟩) hk).trans h0, (World.cell?_of_block (a := ⟨b, off + i * 4 + 1, none⟩) hk).trans h1, (World.cell?_of_block (a := ⟨b, off + i * 4 + 2, none⟩) hk).trans h2, (World.cell?_of_block (a := ⟨b, off + i * 4 + 3, none⟩) hk).trans h3⟩, h4, h5, h6⟩

theorem cells41 : Try.prog.cellsOf 41 = 4 := by kernel_rfl
theorem cells3 : Try.prog.cellsOf 3 = 1 := by kernel_rfl
theorem cells4 : Try.prog.cellsOf 4 = 1 := by kernel_rfl
theorem cells38' : Try.prog.cellsOf 38 = 2 := by kernel_rfl

theorem one_of {cs : List Value} {r : Nat} {v : Value} (h : (cs.drop r).take 1 = [v]) : cs[r]? = some v := by
  have h1 : ((cs.drop r).take 1)[0]? = some v := by rw [h]; rfl
  rw [List.getElem?_take, if_pos (by omega), List.getElem?_drop] at h1
  simpa using h1

theorem ops_open {H : Type} {enc : TypeId × Value → H} {w : World} {spare : Nat → Bool} {held : Bool} {fuel : Nat} {a : Option Addr} {n c : Nat} {x : DataW H × List MemPlace} (h : DataW.trod enc Try.prog w 0 spare held fuel 31 [.slice a n c] = some x) : OpRow w a n := by
  rcases Go.Deep.open_slice Try.underlying31 h with ⟨hcs, _⟩ | ⟨ad, len, cap, m, n', Dd, Pl, hcs, hb, hl, hm, hmm, hx, hall⟩
  · cases hcs
    exact ⟨by omega, fun i hi => by omega⟩
  · cases hcs
    unfold maxLen at hm
    simp only [cells41] at hall
    refine ⟨by omega, fun i hi => ?_⟩
    have him : i < m := by rw [hmm]; split <;> omega
    obtain ⟨cs, hc, ht⟩ := hall i him
    obtain ⟨xs, n2, _, _, hlen, hxl, hf⟩ := DataW.trod_struct Try.underlying41 ht
    have f0 := hf 0 _ rfl
    have f1 := hf 1 _ rfl
    have f2 := hf 2 _ rfl
    have hxl : xs.length = 3 := hxl
    rw [List.getElem?_eq_getElem (by omega)] at f0 f1 f2
    change DataW.trod enc Try.prog w 0 spare held n2 3 ((cs.drop 0).take (Try.prog.cellsOf 3)) = some _ at f0
    change DataW.trod enc Try.prog w 0 spare held n2 38 ((cs.drop 1).take (Try.prog.cellsOf 38)) = some _ at f1
    change DataW.trod enc Try.prog w 0 spare held n2 4 ((cs.drop 3).take (Try.prog.cellsOf 4)) = some _ at f2
    rw [cells3] at f0
    rw [cells38'] at f1
    rw [cells4] at f2
    obtain ⟨v0, e0, _, w0⟩ := DataW.trod_int Try.underlying3 f0
    obtain ⟨p, e2, _⟩ := DataW.trod_bool Try.underlying4 f2
    obtain ⟨ys, n3, _, _, hlen1, hyl, hg⟩ := DataW.trod_struct Try.underlying38 f1
    have g0 := hg 0 _ rfl
    have g1 := hg 1 _ rfl
    have hyl : ys.length = 2 := hyl
    rw [List.getElem?_eq_getElem (by omega)] at g0 g1
    change DataW.trod enc Try.prog w 0 spare held n3 3 ((((cs.drop 1).take 2).drop 0).take (Try.prog.cellsOf 3)) = some _ at g0
    change DataW.trod enc Try.prog w 0 spare held n3 3 ((((cs.drop 1).take 2).drop 1).take (Try.prog.cellsOf 3)) = some _ at g1
    rw [cells3] at g0 g1
    obtain ⟨v1, d0, _, w1⟩ := DataW.trod_int Try.underlying3 g0
    obtain ⟨v2, d1, _, w2⟩ := DataW.trod_int Try.underlying3 g1
    have k0' := one_of e0
    have k1' := one_of d0
    have k2' := one_of d1
    have k3' := one_of e2
    rw [List.getElem?_take, if_pos (by omega), List.getElem?_drop] at k1' k2'
    unfold World.cells? at hc
    split at hc
    · have hgc : ∀ r, r < 4 → w.cell? ((ad.add (i * 4)).add r) = cs[r]? := fun r hr => mapM_some_get hc r r (by simp [hr])
      have k0 := (hgc 0 (by omega)).trans k0'
      have k1 := (hgc 1 (by omega)).trans k1'
      have k2 := (hgc 2 (by omega)).trans k2'
      have k3 := (hgc 3 (by omega)).trans k3'
      obtain ⟨cs0, hc0, _⟩ := hall 0 (by omega)
      unfold World.cells? at hc0
      split at hc0
      · have hl0 := mapM_some_length hc0
        have hg0 := mapM_some_get hc0 0 0 (by simp)
        simp only [List.length_range] at hl0
        rw [List.getElem?_eq_getElem (by omega)] at hg0
        have hsp := World.cell?_spot hg0
        obtain ⟨b, off, spot⟩ := ad
        have hspot : spot = none := by simpa [Addr.add] using hsp
        subst hspot
        simp only [Go.WideShapes.add_plain, Nat.add_zero] at k0 k1 k2 k3
        exact ⟨v0, v1, v2, p, ⟨b, off, rfl, k0, k1, k2, k3⟩, bounds_i64 w0, bounds_i64 w1, bounds_i64 w2⟩
      · cases hc0
    · cases hc

end Go.Proofs.Ytanhjjinedjaaaa
