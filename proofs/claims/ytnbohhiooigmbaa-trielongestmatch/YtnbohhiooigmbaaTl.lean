/-
  A trie as a list, its blocks apart from a given set; no walk.
  Conditions: none.
-/
import Derived.Test.YtnbohhiooigmbaaTk
namespace Go.Proofs.Ytnbohhiooigmbaa
open Go.ChangeShapes Go.WideShapes Go.ChangeAt Go.RowKit
set_option linter.unusedVariables false

/-- What an address is in, of a list. -/
def inL (L : List (Px × Value)) (c : Bool) (ys : List Nat) : List (Px × Value) := L.filter fun e => has e.1 c ys
theorem pth_inL {N V T : TypeId} {w : World} {a : Nat} {t4 t6 : Tr} (hT : Tri N V T w a t4 t6) {c : Bool} {ys : List Nat} (hy : Bytes ys) : (pth c ys (if c = true then t6 else t4)).map keyOf = inL (t4.toL ++ t6.toL) c ys := by
  have hno : ∀ {t : Tr} {b : Bool}, (∀ q ∈ t.all, q.b = b) → b ≠ c → t.toL.filter (fun e => has e.1 c ys) = [] := fun hb hne => List.filter_eq_nil_iff.2 fun e he hc => hne ((hb _ (toL_all he)).symm.trans (has_iff.1 hc).2.2.1)
  unfold inL
  rw [List.filter_append]
  cases c with
  | true => rw [if_pos rfl, pth_toL hy hT.w6, hno hT.f4 (by decide), List.nil_append]
  | false => rw [if_neg (by decide), pth_toL hy hT.w4, hno hT.f6 (by decide), List.append_nil]
def endP (L : List (Px × Value)) : List Value := match L.getLast? with
  | none => pfx false zeros 0
  | some e => pfx e.1.b e.1.xs e.1.n
def endV (z : Value) (L : List (Px × Value)) : Value := match L.getLast? with
  | none => z
  | some e => e.2
theorem lastP_endP (D : List (Nat × Px × Nat × Value)) : lastP D = endP (D.map keyOf) := by
  unfold lastP endP
  rw [List.getLast?_map]
  cases D.getLast? <;> rfl
theorem lastV_endV (z : Value) (D : List (Nat × Px × Nat × Value)) : lastV z D = endV z (D.map keyOf) := by
  unfold lastV endV
  rw [List.getLast?_map]
  cases D.getLast? <;> rfl
/-- A trie that holds a list, its blocks outside X. -/
def St (N V T : TypeId) (w : World) (a : Nat) (L : List (Px × Value)) (X : Nat → Prop) : Prop := ∃ t4 t6, Tri N V T w a t4 t6 ∧ t4.toL ++ t6.toL = L ∧ ∀ k, own a t4 t6 k → ¬ X k
theorem St.no {N V T : TypeId} {w w' : World} {a : Nat} {L : List (Px × Value)} {X : Nat → Prop} (h : St N V T w a L X) (hf : Fr No w w') : St N V T w' a L X := by
  obtain ⟨t4, t6, h1, h2, h3⟩ := h
  exact ⟨t4, t6, h1.no hf, h2, h3⟩
/-- What lies in X may change. -/
theorem St.fr {N V T : TypeId} {w w' : World} {a : Nat} {L : List (Px × Value)} {X S : Nat → Prop} (h : St N V T w a L X) (hf : Fr S w w') (hS : ∀ k, S k → X k) : St N V T w' a L X := by
  obtain ⟨t4, t6, h1, h2, h3⟩ := h
  exact ⟨t4, t6, h1.fr hf fun k hk hs => h3 k hk (hS k hs), h2, h3⟩
/-- New blocks may join X. -/
theorem St.add {N V T : TypeId} {w : World} {a : Nat} {L : List (Px × Value)} {X Y : Nat → Prop} (h : St N V T w a L X) (hY : ∀ k, Y k → X k ∨ w.heap.size ≤ k) : St N V T w a L Y := by
  obtain ⟨t4, t6, h1, h2, h3⟩ := h
  refine ⟨t4, t6, h1, h2, fun k hk hy => ?_⟩
  rcases hY k hy with h | h
  · exact h3 k hk h
  · have := h1.lt hk; omega
theorem St.srt {N V T : TypeId} {w : World} {a : Nat} {L : List (Px × Value)} {X : Nat → Prop} (h : St N V T w a L X) : Srt L ∧ ∀ e ∈ L, okP e.1 := by
  obtain ⟨t4, t6, h1, rfl, -⟩ := h
  refine ⟨both_srt h1.w4 h1.w6 h1.f4 h1.f6, fun e he => ?_⟩
  rcases List.mem_append.1 he with he | he
  · exact h1.w4.ok _ (toL_all he)
  · exact h1.w6.ok _ (toL_all he)
end Go.Proofs.Ytnbohhiooigmbaa
