/-
  BlocklistCoversMapped: the addresses that its walk builds; no walk.
  Conditions: the four are bytes.
-/
import Derived.Test.YtgbbgkbpafpnbaaBw
import Derived.Test.YtgbbgkbpafpnbaaBc
namespace Go.Proofs.Ytgbbgkbpafpnbaa
open Go.ChangeShapes Go.WideShapes Go.ChangeAt Go.RowKit
set_option linter.unusedVariables false

theorem law_buildD {P : Program} (hP : P = Try.prog) {ops : Array Oper} {rest : List Oper} {o : Oper} {a : Act} {w : World} {Q : Exit → Act → World → Prop} (hg : o.guard = none) (t : TypeId) (parts : Array (Nat × Operand)) (ho : o.op = .build t parts)
    (vs : List (Nat × Value)) (hvs : (parts.toList.map fun (p : Nat × Operand) => (p.1, a.eval p.2)) = vs) (C : Array Value) (hb : Try.prog.built t vs = some C)
    (h : wpList P ops Q rest (a.put o.dst (.agg C)) w) : wpList P ops Q (o :: rest) a w := by
  subst hP
  exact law_build hg t parts ho vs hvs C hb h
theorem four_bytes {a b c d : Nat} (ha : a < 256) (hb : b < 256) (hc : c < 256) (hd : d < 256) (pre : List Nat) (hl : pre.length = 12) (hp : ∀ x ∈ pre, x < 256) : Bytes (pre ++ [a, b, c, d]) :=
  ⟨by rw [List.length_append, hl]; rfl, fun x hx => by
    rcases List.mem_append.1 hx with h | h
    · exact hp x h
    · simp only [List.mem_cons, List.not_mem_nil, or_false] at h
      omega⟩
theorem map_bytes {a b c d : Nat} (ha : a < 256) (hb : b < 256) (hc : c < 256) (hd : d < 256) : Bytes (mapX a b c d) := four_bytes ha hb hc hd [0, 0, 0, 0, 0, 0, 0, 0, 0, 0, 255, 255] rfl (by decide)
theorem nat_bytes {a b c d : Nat} (ha : a < 256) (hb : b < 256) (hc : c < 256) (hd : d < 256) : Bytes (natX a b c d) := four_bytes ha hb hc hd [0, 100, 255, 155, 0, 0, 0, 0, 0, 0, 0, 0] rfl (by decide)
theorem built_map (a b c d : Nat) : Try.prog.built 22 [(10, .int .u8 255), (11, .int .u8 255), (12, .int .u8 a), (13, .int .u8 b), (14, .int .u8 c), (15, .int .u8 d)] = some (nums .u8 (mapX a b c d)).toArray := by kernel_rfl
theorem built_nat (a b c d : Nat) : Try.prog.built 22 [(0, .int .u8 0), (1, .int .u8 100), (2, .int .u8 255), (3, .int .u8 155), (12, .int .u8 a), (13, .int .u8 b), (14, .int .u8 c), (15, .int .u8 d)] = some (nums .u8 (natX a b c d)).toArray := by kernel_rfl
theorem built_adrM (a b c d : Nat) : Try.prog.built 24 [(0, .bool true), (1, .agg (nums .u8 (mapX a b c d)).toArray)] = some (adr true (mapX a b c d)).toArray := by kernel_rfl
theorem built_adrN (a b c d : Nat) : Try.prog.built 24 [(0, .bool true), (1, .agg (nums .u8 (natX a b c d)).toArray)] = some (adr true (natX a b c d)).toArray := by kernel_rfl
theorem contains_is {c : Bool} {ys : List Nat} (hy : Bytes ys) (hv : validA c ys = true) (V : Bool) (h : decide (0 ≤ bIdx c ys) = V) (w : World) : Calls Try.prog 13 #[.agg (adr c ys).toArray] w fun e w' => e = .returned (.bool V) ∧ Fr No w w' := by
  have h2 := contains_any c ys hy w
  rw [hv, h] at h2
  exact h2
theorem index_is {c : Bool} {ys : List Nat} (hy : Bytes ys) (i : Int) (h : bIdx c ys = i) (w : World) : Calls Try.prog 11 #[.agg (adr c ys).toArray] w fun e w' => e = .returned (.int .i64 i) ∧ Fr No w w' := by
  have h2 := index_any c ys hy w
  rw [h] at h2
  exact h2
end Go.Proofs.Ytgbbgkbpafpnbaa
