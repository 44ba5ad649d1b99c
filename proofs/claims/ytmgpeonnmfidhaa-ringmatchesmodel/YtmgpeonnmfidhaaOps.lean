/-
  How a list of operations that came in lies in memory; min and max of two integers as laws for the walk.
  Conditions: as each theorem says.
-/
import Derived.Test.YtmgpeonnmfidhaaArg
import Derived.Deep.Slices
namespace Go.Proofs.Ytmgpeonnmfidhaa
open Go.ChangeShapes Go.WideShapes Go.ChangeAt Go.RowKit
set_option linter.unusedVariables false

def OpAt (w : World) (a : Option Addr) (i : Nat) (k n : Int) (v : Value) : Prop := ∃ b off, a = some ⟨b, off, none⟩ ∧ w.cell? ⟨b, off + i * 3, none⟩ = some (.int .i64 k) ∧ w.cell? ⟨b, off + i * 3 + 1, none⟩ = some (.int .i64 n) ∧ w.cell? ⟨b, off + i * 3 + 2, none⟩ = some v

structure OpIs (w : World) (a : Option Addr) (i : Nat) (k n : Int) (la : Option Addr) (ll lc : Nat) (zs : List Int) : Prop where
  at_ : OpAt w a i k n (.slice la ll lc)
  kb : -9223372036854775808 ≤ k ∧ k ≤ 9223372036854775807
  nb : -9223372036854775808 ≤ n ∧ n ≤ 9223372036854775807
  elems : At w la zs
  len : zs.length = ll
  cap : ll ≤ lc
  fits : lc ≤ 9223372036854775807
  nil : la = none → lc = 0

def OpRow (w : World) (a : Option Addr) (n : Nat) : Prop := n ≤ 9223372036854775807 ∧ ∀ i, i < n → ∃ k o la ll lc zs, OpIs w a i k o la ll lc zs

theorem OpIs.old {w w' : World} {a la : Option Addr} {i ll lc : Nat} {k n : Int} {zs : List Int} (h : OpIs w a i k n la ll lc zs) (hf : Fr (fun k => w.heap.size ≤ k) w w') : OpIs w' a i k n la ll lc zs := by
  obtain ⟨⟨b, off, rfl, h0, h1, h2⟩, h3, h4, h5, h6, h7, h8, h9⟩ := h
  have hb : b < w.heap.size := World.block_lt_of_cell? w _ h0
  have hk := hf.block b hb (by omega)
  exact ⟨⟨b, off, rfl, (World.cell?_of_block (a := ⟨b, off + i * 3, none⟩) hk).trans h0, (World.cell?_of_block (a := ⟨b, off + i * 3 + 1, none⟩) hk).trans h1, (World.cell?_of_block (a := ⟨b, off + i * 3 + 2, none⟩) hk).trans h2⟩, h3, h4, h5.old hf, h6, h7, h8, h9⟩

theorem cells36 : Try.prog.cellsOf 36 = 3 := by kernel_rfl
theorem cells3 : Try.prog.cellsOf 3 = 1 := by kernel_rfl
theorem cells34 : Try.prog.cellsOf 34 = 1 := by kernel_rfl

theorem one_of {cs : List Value} {r : Nat} {v : Value} (h : (cs.drop r).take 1 = [v]) : cs[r]? = some v := by
  have h1 : ((cs.drop r).take 1)[0]? = some v := by rw [h]; rfl
  rw [List.getElem?_take, if_pos (by omega), List.getElem?_drop] at h1
  simpa using h1

theorem plain_at {w : World} {x : Addr} {zs : List Int} (h : ∀ i, i < zs.length → w.cell? (x.add i) = some (.int .i64 (zs.getD i 0))) : At w (some x) zs := by
  intro i z hz
  have hi : i < zs.length := (List.getElem?_eq_some_iff.1 hz).1
  have hc := h i hi
  have hsp := World.cell?_spot (h 0 (by omega))
  obtain ⟨b, off, spot⟩ := x
  cases spot with
  | none =>
    refine ⟨b, off, rfl, ?_⟩
    rw [Go.WideShapes.add_plain] at hc
    rw [hc]
    simp [List.getD, hz]
  | some s => simp [Addr.add] at hsp

theorem ops_open {H : Type} {enc : TypeId × Value → H} {w : World} {spare : Nat → Bool} {held : Bool} {fuel : Nat} {a : Option Addr} {n c : Nat} {x : DataW H × List MemPlace} (h : DataW.trod enc Try.prog w 0 spare held fuel 29 [.slice a n c] = some x) : OpRow w a n := by
  rcases Go.Deep.open_slice Try.underlying29 h with ⟨hcs, _⟩ | ⟨ad, len, cap, m, n', D, Pl, hcs, hb, hl, hm, hmm, hx, hall⟩
  · cases hcs
    exact ⟨by omega, fun i hi => by omega⟩
  · cases hcs
    unfold maxLen at hm
    simp only [cells36] at hall
    refine ⟨by omega, fun i hi => ?_⟩
    have him : i < m := by rw [hmm]; split <;> omega
    obtain ⟨cs, hc, ht⟩ := hall i him
    obtain ⟨xs, n2, _, _, hlen, hxl, hf⟩ := DataW.trod_struct Try.underlying36 ht
    have f0 := hf 0 _ rfl
    have f1 := hf 1 _ rfl
    have f2 := hf 2 _ rfl
    have hxl : xs.length = 3 := hxl
    rw [List.getElem?_eq_getElem (by omega)] at f0 f1 f2
    change DataW.trod enc Try.prog w 0 spare held n2 3 ((cs.drop 0).take (Try.prog.cellsOf 3)) = some _ at f0
    change DataW.trod enc Try.prog w 0 spare held n2 3 ((cs.drop 1).take (Try.prog.cellsOf 3)) = some _ at f1
    change DataW.trod enc Try.prog w 0 spare held n2 34 ((cs.drop 2).take (Try.prog.cellsOf 34)) = some _ at f2
    rw [cells3] at f0 f1
    rw [cells34] at f2
    obtain ⟨v0, e0, _, w0⟩ := DataW.trod_int Try.underlying3 f0
    obtain ⟨v1, e1, _, w1⟩ := DataW.trod_int Try.underlying3 f1
    obtain ⟨la, ll, lc, zs, e2, hAt, hzl, hlc, h63, hnl⟩ : ∃ la ll lc zs, (cs.drop 2).take 1 = [.slice la ll lc] ∧ At w la zs ∧ zs.length = ll ∧ ll ≤ lc ∧ lc ≤ 9223372036854775807 ∧ (la = none → lc = 0) := by
      rcases open_ints Try.underlying34 Try.underlying3 (by kernel_rfl) f2 with ⟨hcs, _⟩ | ⟨x, l, c, zs, hcs, _, hl, hm, hz, _, hcell, hwz⟩
      · exact ⟨none, 0, 0, [], hcs, At.nil _ _, rfl, Nat.le_refl _, by omega, fun _ => rfl⟩
      · unfold maxLen at hm
        refine ⟨some x, l, c, zs.take l, hcs, (plain_at hcell).take l, ?_, hl, by omega, fun h => by cases h⟩
        rw [List.length_take, hz]
        split <;> omega
    have g0 := one_of e0
    have g1 := one_of e1
    have g2 := one_of e2
    unfold World.cells? at hc
    split at hc
    · have hg : ∀ r, r < 3 → w.cell? ((ad.add (i * 3)).add r) = cs[r]? := fun r hr => mapM_some_get hc r r (by simp [hr])
      have k0 := (hg 0 (by omega)).trans g0
      have k1 := (hg 1 (by omega)).trans g1
      have k2 := (hg 2 (by omega)).trans g2
      obtain ⟨cs0, hc0, _⟩ := hall 0 (by omega)
      unfold World.cells? at hc0
      split at hc0
      · have hl0 := mapM_some_length hc0
        have hg0 := mapM_some_get hc0 0 0 (by simp)
        simp only [List.length_range] at hl0
        rw [List.getElem?_eq_getElem (by omega)] at hg0
        have hsp := World.cell?_spot hg0
        obtain ⟨b, off, spot⟩ := ad
        have hspot : spot = none := by simpa [Addr.add] using hsp
        subst hspot
        simp only [Go.WideShapes.add_plain, Nat.add_zero] at k0 k1 k2
        exact ⟨v0, v1, la, ll, lc, zs, ⟨b, off, rfl, k0, k1, k2⟩, bounds_i64 w0, bounds_i64 w1, hAt, hzl, hlc, h63, hnl⟩
      · cases hc0
    · cases hc

theorem wpList_min {w : World} {ops : Array Oper} {rest : List Oper} {o : Oper} {a : Act} {Q : Exit → Act → World → Prop} (hgd : o.guard = none) (x y : Operand)
    (ho : o.op = .call { callee := .builtin .min, args := #[x, y], argTypes := #[3, 3] }) (p q r : Int) (hx : a.eval x = .int .i64 p) (hy : a.eval y = .int .i64 q) (hr : min p q = r)
    (h : wpList Try.prog ops Q rest (a.put o.dst (.int .i64 r)) w) : wpList Try.prog ops Q (o :: rest) a w := by
  refine wpList_plain hgd fun K hK => ?_
  have e : (if q < p then q else p) = r := by rw [← hr]; split <;> omega
  unfold Oper.wp
  simp [execOp, ho, resolve, invoke, builtin, hx, hy, Builtin.min_, Builtin.min2, e]
  exact hK _ _ h

theorem wpList_max {w : World} {ops : Array Oper} {rest : List Oper} {o : Oper} {a : Act} {Q : Exit → Act → World → Prop} (hgd : o.guard = none) (x y : Operand)
    (ho : o.op = .call { callee := .builtin .max, args := #[x, y], argTypes := #[3, 3] }) (p q r : Int) (hx : a.eval x = .int .i64 p) (hy : a.eval y = .int .i64 q) (hr : max p q = r)
    (h : wpList Try.prog ops Q rest (a.put o.dst (.int .i64 r)) w) : wpList Try.prog ops Q (o :: rest) a w := by
  refine wpList_plain hgd fun K hK => ?_
  have e : (if p < q then q else p) = r := by rw [← hr]; split <;> omega
  unfold Oper.wp
  simp [execOp, ho, resolve, invoke, builtin, hx, hy, Builtin.max_, Builtin.max2, e]
  exact hK _ _ h

end Go.Proofs.Ytmgpeonnmfidhaa
