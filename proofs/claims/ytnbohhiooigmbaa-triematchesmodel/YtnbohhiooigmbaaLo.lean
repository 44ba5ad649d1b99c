/-
  FRAME PARTS: how lists of operations and lists of addresses that came in are told to the walks; no walk.
  Conditions: as each theorem says.
-/
import Derived.Test.YtnbohhiooigmbaaLd
namespace Go.Proofs.Ytnbohhiooigmbaa
open Go.ChangeShapes Go.WideShapes Go.ChangeAt Go.RowKit
set_option linter.unusedVariables false

/-- A list that came in, element by element: K cells each, each element's cells as told by E. -/
def InK (K : Nat) (E : List Value → Prop) (w : World) (a : Option Addr) (n : Nat) : Prop := n ≤ 9223372036854775807 ∧ ∀ i, i < n → ∃ (b o : Nat) (cs : List Value), E cs ∧ cs.length = K ∧ a = some ⟨b, o, none⟩ ∧ ∀ (j : Nat) (v : Value), cs[j]? = some v → w.cell? ⟨b, o + i * K + j, none⟩ = some v
theorem inK_open {H : Type} {enc : TypeId × Value → H} {w : World} {spare : Nat → Bool} {held : Bool} {fuel : Nat} {a : Option Addr} {n c : Nat} {x : DataW H × List MemPlace} {st e : TypeId} {K : Nat} {E : List Value → Prop} (hu : Try.prog.underlying st = some (.slice e)) (hK : Try.prog.cellsOf e = K) (h0 : 0 < K)
    (hE : ∀ (fuel : Nat) (cs : List Value) (d : DataW H × List MemPlace), cs.length = K → DataW.trod enc Try.prog w 0 spare held fuel e cs = some d → E cs)
    (h : DataW.trod enc Try.prog w 0 spare held fuel st [.slice a n c] = some x) : InK K E w a n := by
  rcases Go.Deep.open_slice hu h with ⟨hcs, _⟩ | ⟨ad, len, cap, m, n', Dd, Pl, hcs, hb, hl, hm, hmm, hx, hall⟩
  · cases hcs
    exact ⟨by omega, fun i hi => by omega⟩
  · cases hcs
    unfold maxLen at hm
    simp only [hK] at hall
    refine ⟨by omega, fun i hi => ?_⟩
    have him : i < m := by rw [hmm]; split <;> omega
    obtain ⟨cs, hc, ht⟩ := hall i him
    have hcl : cs.length = K := by
      unfold World.cells? at hc
      split at hc
      · have := mapM_some_length hc
        simpa using this
      · cases hc
    have hEc := hE _ cs _ hcl ht
    unfold World.cells? at hc
    split at hc
    · have hgc : ∀ r, r < K → w.cell? ((ad.add (i * K)).add r) = cs[r]? := fun r hr => mapM_some_get hc r r (by simp [hr])
      obtain ⟨cs0, hc0, _⟩ := hall 0 (by omega)
      unfold World.cells? at hc0
      split at hc0
      · have hl0 := mapM_some_length hc0
        have hg0 := mapM_some_get hc0 0 0 (by simp [h0])
        simp only [List.length_range] at hl0
        rw [List.getElem?_eq_getElem (by omega)] at hg0
        have hsp := World.cell?_spot hg0
        obtain ⟨b, off, spot⟩ := ad
        have hspot : spot = none := by simpa [Addr.add] using hsp
        subst hspot
        refine ⟨b, off, cs, hEc, hcl, rfl, fun j v hv => ?_⟩
        have hj : j < K := by
          have := (List.getElem?_eq_some_iff.1 hv).1
          rwa [hcl] at this
        have := hgc j hj
        simp only [Go.WideShapes.add_plain] at this
        rw [this]
        exact hv
      · cases hc0
    · cases hc
/-- An address' cells; an operation's cells. -/
def isAdr (cs : List Value) : Prop := ∃ b xs, Bytes xs ∧ cs = adr b xs
def isOp (cs : List Value) : Prop := ∃ (k : Int) (q : Px) (x : Int), Bytes q.xs ∧ cs = .int .i64 k :: (pfx q.b q.xs q.n ++ [.int .i64 x])
theorem addrs_open {H : Type} {enc : TypeId × Value → H} {w : World} {spare : Nat → Bool} {held : Bool} {fuel : Nat} {a : Option Addr} {n c : Nat} {x : DataW H × List MemPlace} (h : DataW.trod enc Try.prog w 0 spare held fuel 23 [.slice a n c] = some x) : InK 17 isAdr w a n :=
  inK_open Try.underlying23 (by kernel_rfl) (by decide) (fun fuel cs d hl ht => by
    obtain ⟨b, xs, h1, h2⟩ := adr_cells hl ht
    exact ⟨b, xs, h2, h1⟩) h
set_option maxRecDepth 100000 in
theorem ops_open {H : Type} {enc : TypeId × Value → H} {w : World} {spare : Nat → Bool} {held : Bool} {fuel : Nat} {a : Option Addr} {n c : Nat} {x : DataW H × List MemPlace} (h : DataW.trod enc Try.prog w 0 spare held fuel 22 [.slice a n c] = some x) : InK 20 isOp w a n :=
  inK_open Try.underlying22 (by kernel_rfl) (by decide) (fun fuel cs d hcl ht => by
    have h18 : Try.prog.cellsOf 31 = 18 := by kernel_rfl
    have h3 : Try.prog.cellsOf 3 = 1 := by kernel_rfl
    obtain ⟨xs, n, _, _, hl, hxl, hx⟩ := DataW.trod_struct Try.underlying34 ht
    have e0 : DataW.trod enc Try.prog w 0 spare held n 3 ((cs.drop 0).take (Try.prog.cellsOf 3)) = xs[0]? := hx 0 _ rfl
    have e1 : DataW.trod enc Try.prog w 0 spare held n 31 ((cs.drop 1).take (Try.prog.cellsOf 31)) = xs[1]? := hx 1 _ rfl
    have e2 : DataW.trod enc Try.prog w 0 spare held n 3 ((cs.drop 19).take (Try.prog.cellsOf 3)) = xs[2]? := hx 2 _ rfl
    rw [h3] at e0 e2
    rw [h18] at e1
    have hx3 : xs.length = 3 := hxl
    rw [List.getElem?_eq_getElem (by omega)] at e0 e1 e2
    obtain ⟨k, hk, _, _⟩ := DataW.trod_int Try.underlying3 e0
    obtain ⟨z, hz, _, _⟩ := DataW.trod_int Try.underlying3 e2
    obtain ⟨q, hq, hL⟩ := pfx_cells (by rw [List.length_take, List.length_drop, hcl]; rfl) e1
    refine ⟨k, q, z, hq, ?_⟩
    have h1 : (cs.drop 19).length = 1 := by rw [List.length_drop, hcl]
    rw [List.take_of_length_le (by omega)] at hz
    have s1 : cs = cs.take 1 ++ cs.drop 1 := (List.take_append_drop 1 cs).symm
    have s2 : cs.drop 1 = (cs.drop 1).take 18 ++ cs.drop 19 := by rw [show cs.drop 19 = (cs.drop 1).drop 18 by rw [List.drop_drop], List.take_append_drop]
    rw [List.drop_zero] at hk
    rw [s1, hk, s2, hL, hz]
    rfl) h
end Go.Proofs.Ytnbohhiooigmbaa
