/-
  The fixed example of the laws about access control lists: its rules and what they decide; no walk.
  Conditions: none.
-/
import Derived.Test.YtnadendhboiliaaGreatRo
namespace Go.Proofs.YtnadendhboiliaaGreat
open Go.ChangeShapes Go.WideShapes Go.ChangeAt Go.RowKit
set_option linter.unusedVariables false

def pE1 : Px := ⟨false, v4Of 8 0 0 0, 8⟩
def pE2 : Px := ⟨false, v4Of 8 8 0 0, 16⟩
def nBad : List UInt8 := [98, 97, 100, 46, 111, 114, 103]
def nGood : List UInt8 := [103, 111, 111, 100, 46, 111, 114, 103]
def nABad : List UInt8 := [97, 46, 98, 97, 100, 46, 111, 114, 103]
def rE1 : Ru := ⟨true, [], pE1, 443, 443⟩
def rE2 : Ru := ⟨false, [], pE2, 0, 65535⟩
def rE3 : Ru := ⟨false, nBad, zP, 0, 65535⟩
def LE : List Ru := [rE1, rE2, rE3]
def rF : Ru := ⟨false, [], zP, 2, 1⟩
def LF : List Ru := [rF]
def xE1 : List Nat := v4Of 8 1 1 1
def xE2 : List Nat := v4Of 8 8 1 1
theorem ex0 : vRs LE = true := by decide +kernel
theorem ex0f : vRs LF = false := by decide +kernel
theorem ex1 : alA LE false xE1 443 = true := by decide +kernel
theorem ex2 : alA LE false xE2 443 = false := by decide +kernel
theorem ex3 : alA LE false xE1 80 = false := by decide +kernel
theorem ex4 : bV (mtA false xE2 443) kA LE = 1 := by decide +kernel
theorem ex5 : alN LE nGood 80 = true := by decide +kernel
theorem ex6 : alN LE nABad 80 = false := by decide +kernel
theorem ex7 : bV (mtN nABad 80) kN LE = 2 := by decide +kernel
theorem ex8 : alT LE [] false xE1 443 = true := by decide +kernel
theorem okLE : okL LE := fun r hr => by
  simp only [LE, List.mem_cons, List.not_mem_nil, or_false] at hr
  rcases hr with rfl | rfl | rfl
  · exact v4_bytes (by decide) (by decide) (by decide) (by decide)
  · exact v4_bytes (by decide) (by decide) (by decide) (by decide)
  · exact zeros_bytes
theorem okLF : okL LF := fun r hr => by
  simp only [LF, List.mem_cons, List.not_mem_nil, or_false] at hr
  subst hr
  exact zeros_bytes
theorem xE1_bytes : Bytes xE1 := v4_bytes (by decide) (by decide) (by decide) (by decide)
theorem xE2_bytes : Bytes xE2 := v4_bytes (by decide) (by decide) (by decide) (by decide)
theorem parseE1 (w : World) : Calls Tryz.prog 26 #[.string ⟨#[56, 46, 48, 46, 48, 46, 48, 47, 56]⟩] w fun e w' => e = .returned (.tuple #[.agg (pfx pE1.b pE1.xs pE1.n).toArray, .bool true]) ∧ Fr No w w' := by
  have h := cparse_ref [56, 46, 48, 46, 48, 46, 48, 47, 56] (by decide) w
  rw [show cpT [56, 46, 48, 46, 48, 46, 48, 47, 56] = pfx pE1.b pE1.xs pE1.n by kernel_rfl, show cpB [56, 46, 48, 46, 48, 46, 48, 47, 56] = true by kernel_rfl] at h
  exact h
theorem parseE2 (w : World) : Calls Tryz.prog 26 #[.string ⟨#[56, 46, 56, 46, 48, 46, 48, 47, 49, 54]⟩] w fun e w' => e = .returned (.tuple #[.agg (pfx pE2.b pE2.xs pE2.n).toArray, .bool true]) ∧ Fr No w w' := by
  have h := cparse_ref [56, 46, 56, 46, 48, 46, 48, 47, 49, 54] (by decide) w
  rw [show cpT [56, 46, 56, 46, 48, 46, 48, 47, 49, 54] = pfx pE2.b pE2.xs pE2.n by kernel_rfl, show cpB [56, 46, 56, 46, 48, 46, 48, 47, 49, 54] = true by kernel_rfl] at h
  exact h
theorem be1 : Tryz.prog.built 31 [(0, .bool true), (2, .agg (pfx pE1.b pE1.xs pE1.n).toArray), (3, .int .i64 443), (4, .int .i64 443)] = some (ruC rE1).toArray := by kernel_rfl
theorem be2 : Tryz.prog.built 31 [(2, .agg (pfx pE2.b pE2.xs pE2.n).toArray), (4, .int .i64 65535)] = some (ruC rE2).toArray := by kernel_rfl
theorem be3 : Tryz.prog.built 31 [(1, .string (bs nBad)), (4, .int .i64 65535)] = some (ruC rE3).toArray := by kernel_rfl
theorem bf1 : Tryz.prog.built 31 [(3, .int .i64 2), (4, .int .i64 1)] = some (ruC rF).toArray := by kernel_rfl
theorem be8 : Tryz.prog.built 66 [(1, .agg (adr false xE1).toArray), (2, .int .i64 443)] = some (tgt (bs []) false xE1 443).toArray := by kernel_rfl
theorem info30 : ∃ ie, Tryz.prog.info? 31 = some ie ∧ ie.zero = some (.agg (ruC zRu).toArray) ∧ ie.size = 22 := by
  obtain ⟨ie, h1, h2, h3, -⟩ := info_parts (P := Tryz.prog) (e := 31) (z := some (.agg (ruC zRu).toArray)) (s := 22) (b := 72) (by kernel_rfl)
  exact ⟨ie, h1, h2, h3⟩
theorem law_slice30 {ops : Array Oper} {rest : List Oper} {o : Oper} {a : Act} {w : World} {Q : Exit → Act → World → Prop} (hg : o.guard = none) (n : Nat) (parts : Array (Nat × Operand)) (ho : o.op = .buildSlice 22 n parts) (hn : n ≤ 1000) (h0 : 0 < n)
    (vs : List (Nat × Value)) (hvs : (parts.toList.map fun (p : Nat × Operand) => (p.1, a.eval p.2)) = vs) (C : Array Value)
    (hb : Instr.fill (fun i => some (i * 22, 22)) ((Array.range (n * 22)).map ((ruC zRu).toArray[· % (ruC zRu).toArray.size]!)) vs = some C)
    (h : wpList Tryz.prog ops Q rest (a.put o.dst (.slice (some ⟨w.heap.size, 0, none⟩) n n)) (w.alloc (.cells C 31))) : wpList Tryz.prog ops Q (o :: rest) a w := by
  obtain ⟨ie, h1, h2, h3⟩ := info30
  refine wpList_buildSlice hg 22 31 n parts ho C ie _ Tryz.underlying22 h1 h2 (by rw [h3]; omega) (by rw [h3]; omega) ?_ h
  have h2 : (parts.map fun (i, x) => (i, a.eval x)).toList = vs := by rw [Array.toList_map]; exact hvs
  rw [h2, h3]
  exact hb
theorem law_slice30P {P : Program} (hP : P = Tryz.prog) {ops : Array Oper} {rest : List Oper} {o : Oper} {a : Act} {w : World} {Q : Exit → Act → World → Prop} (hg : o.guard = none) (n : Nat) (parts : Array (Nat × Operand)) (ho : o.op = .buildSlice 22 n parts) (hn : n ≤ 1000) (h0 : 0 < n)
    (vs : List (Nat × Value)) (hvs : (parts.toList.map fun (p : Nat × Operand) => (p.1, a.eval p.2)) = vs) (C : Array Value)
    (hb : Instr.fill (fun i => some (i * 22, 22)) ((Array.range (n * 22)).map ((ruC zRu).toArray[· % (ruC zRu).toArray.size]!)) vs = some C)
    (h : wpList P ops Q rest (a.put o.dst (.slice (some ⟨w.heap.size, 0, none⟩) n n)) (w.alloc (.cells C 31))) : wpList P ops Q (o :: rest) a w := by
  subst hP
  exact law_slice30 hg n parts ho hn h0 vs hvs C hb h
theorem law_buildP {P : Program} (hP : P = Tryz.prog) {ops : Array Oper} {rest : List Oper} {o : Oper} {a : Act} {w : World} {Q : Exit → Act → World → Prop} (hg : o.guard = none) (t : TypeId) (parts : Array (Nat × Operand)) (ho : o.op = .build t parts)
    (vs : List (Nat × Value)) (hvs : (parts.toList.map fun (p : Nat × Operand) => (p.1, a.eval p.2)) = vs) (C : Array Value) (hb : Tryz.prog.built t vs = some C)
    (h : wpList P ops Q rest (a.put o.dst (.agg C)) w) : wpList P ops Q (o :: rest) a w := by
  subst hP
  exact law_build hg t parts ho vs hvs C hb h
theorem fillE : Instr.fill (fun i => some (i * 22, 22)) ((Array.range (3 * 22)).map ((ruC zRu).toArray[· % (ruC zRu).toArray.size]!)) [(0, .agg (ruC rE1).toArray), (1, .agg (ruC rE2).toArray), (2, .agg (ruC rE3).toArray)] = some (flatR LE).toArray := by kernel_rfl
theorem fillF : Instr.fill (fun i => some (i * 22, 22)) ((Array.range (1 * 22)).map ((ruC zRu).toArray[· % (ruC zRu).toArray.size]!)) [(0, .agg (ruC rF).toArray)] = some (flatR LF).toArray := by kernel_rfl
theorem rowR_block {w : World} {g : Nat} {L : List Ru} {f : Nat × Nat} (hL : okL L) (h : w.heap[g]? = some (.cells (flatR L).toArray 31 f)) : RowR w (some ⟨g, 0, none⟩) L :=
  ⟨hL, fun _ => ⟨g, 0, _, 31, f, rfl, h, fun j v hj => by rw [Nat.zero_add, List.getElem?_toArray]; exact hj⟩⟩
end Go.Proofs.YtnadendhboiliaaGreat
