/-
  CONTRACTS of package trie at one value type, over this seat's translation, said of the trie's list.
  Conditions: the trie lies in memory.
-/
import Derived.Test.YtnbohhiooigmbaaXiI
import Derived.Test.YtnbohhiooigmbaaXeI
import Derived.Test.YtnbohhiooigmbaaMm
namespace Go.Proofs.Ytnbohhiooigmbaa
open Go.ChangeShapes Go.WideShapes Go.ChangeAt Go.RowKit
set_option linter.unusedVariables false

abbrev StI := St 81 3 75
theorem newSI (w : World) (X : Nat → Prop) (hX : ∀ k, X k → k < w.heap.size) :
    Calls Try.prog 7 #[] w fun e w' => ∃ a, e = .returned (.pointer (some ⟨a, 0, none⟩)) ∧ w.heap.size ≤ a ∧ Fr No w w' ∧ StI w' a [] X := by
  refine (newI w).mono ?_
  rintro e w' ⟨a, he, ha, hf, hT⟩
  refine ⟨a, he, ha, hf, .nil, .nil, hT, rfl, fun k hk hx => ?_⟩
  have := hX k hx
  rcases hk with h | h | h
  · omega
  · cases h
  · cases h
theorem lenSI {w : World} {a : Nat} {L : List (Px × Value)} {X : Nat → Prop} (hS : StI w a L X) :
    Calls Try.prog 16 #[.pointer (some ⟨a, 0, none⟩)] w fun e w' => e = .returned (.int .i64 (L.length : Nat)) ∧ w' = w := by
  obtain ⟨t4, t6, hT, rfl, -⟩ := hS
  exact lenI w a t4 t6 hT
theorem lookupSI {w : World} {a : Nat} {L : List (Px × Value)} {X : Nat → Prop} (hS : StI w a L X) (c : Bool) (ys : List Nat) (hy : Bytes ys) :
    Calls Try.prog 25 #[.pointer (some ⟨a, 0, none⟩), .agg (adr c ys).toArray] w fun e w' => e = .returned (.tuple #[.agg (endP (inL L c ys)).toArray, endV (.int .i64 0) (inL L c ys), .bool (!(inL L c ys).isEmpty)]) ∧ Fr No w w' := by
  obtain ⟨t4, t6, hT, rfl, -⟩ := hS
  have h := lookupI c ys hy a t4 t6 w hT
  rw [lastP_endP, lastV_endV, pth_inL hT hy] at h
  have he : (pth c ys (if c = true then t6 else t4)).isEmpty = (inL (t4.toL ++ t6.toL) c ys).isEmpty := by rw [← pth_inL hT hy]; simp
  rw [he] at h
  exact h
theorem insertSI {w : World} {a : Nat} {L : List (Px × Value)} {X : Nat → Prop} (hS : StI w a L X) (hX : ∀ k, X k → k < w.heap.size) (hM : L.length ≤ 100000) (p : Px) (hp : Bytes p.xs) (x : Value) (hx : ∃ z : Int, x = .int .i64 z) :
    Calls Try.prog 11 #[.pointer (some ⟨a, 0, none⟩), .agg (pfx p.b p.xs p.n).toArray, x] w fun e w' => e = .returned (.bool (validP p.b p.xs p.n)) ∧ StI w' a (if validP p.b p.xs p.n = true then putL p x L else L) X ∧ Fr (fun k => ¬ X k) w w' := by
  obtain ⟨t4, t6, hT, rfl, ho⟩ := hS
  refine (insertI p hp x hx a t4 t6 w hT hM).mono ?_
  rintro e w' ⟨he, t4', t6', h1, h2, h3, h4⟩
  refine ⟨he, ⟨t4', t6', h1, h2, fun k hk hx => ?_⟩, h3.mono fun k _ hk => ho k hk⟩
  rcases h4 k hk with h | h
  · exact ho k h hx
  · have := hX k hx; omega
end Go.Proofs.Ytnbohhiooigmbaa
