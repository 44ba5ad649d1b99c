/-
  CONTRACTS of Get and Delete of package trie at one value type, over this seat's translation, said of the trie's list.
  Conditions: the trie lies in memory.
-/
import Derived.Test.YtnbohhiooigmbaaXmI
import Derived.Test.YtnbohhiooigmbaaXlI
namespace Go.Proofs.Ytnbohhiooigmbaa
open Go.ChangeShapes Go.WideShapes Go.ChangeAt Go.RowKit
set_option linter.unusedVariables false

theorem getSI {w : World} {a : Nat} {L : List (Px × Value)} {X : Nat → Prop} (hS : StI w a L X) (p : Px) (hp : Bytes p.xs) :
    Calls Try.prog 15 #[.pointer (some ⟨a, 0, none⟩), .agg (pfx p.b p.xs p.n).toArray] w fun e w' => e = .returned (.tuple #[(valL L p).getD (.int .i64 0), .bool (valL L p).isSome]) ∧ Fr No w w' := by
  obtain ⟨t4, t6, hT, rfl, -⟩ := hS
  have h := getI p hp a t4 t6 w hT
  have hv := get_val hT p
  unfold mine at hv
  rw [← hv]
  cases hg : getT (if p.b = true then t6 else t4) p with
  | none => rw [hg] at h; exact h
  | some u => obtain ⟨vb, x⟩ := u; rw [hg] at h; exact h
theorem deleteSI {w : World} {a : Nat} {L : List (Px × Value)} {X : Nat → Prop} (hS : StI w a L X) (hX : ∀ k, X k → k < w.heap.size) (hM : L.length ≤ 100000) (p : Px) (hp : Bytes p.xs) :
    Calls Try.prog 14 #[.pointer (some ⟨a, 0, none⟩), .agg (pfx p.b p.xs p.n).toArray] w fun e w' => e = .returned (.bool (valL L p).isSome) ∧ StI w' a (if (valL L p).isSome = true then del p L else L) X ∧ Fr (fun k => ¬ X k) w w' := by
  obtain ⟨t4, t6, hT, rfl, ho⟩ := hS
  refine (deleteI p hp a t4 t6 w hT hM).mono ?_
  rintro e w' ⟨he, t4', t6', h1, h2, h3, h4⟩
  refine ⟨he, ⟨t4', t6', h1, h2, fun k hk hx => ?_⟩, h3.mono fun k _ hk => ho k hk⟩
  rcases h4 k hk with h | h
  · exact ho k h hx
  · have := hX k hx; omega
end Go.Proofs.Ytnbohhiooigmbaa
