/-
  CONTRACT of Prefixes of package blocklist, over this seat's translation: a fresh row of the fifteen prefixes.
  Conditions: none.
-/
import Derived.Test.YtnadendhboiliaaGreatBa
import Derived.Test.YtnadendhboiliaaGreatBv
import Derived.Test.YtnadendhboiliaaGreatEq
import Derived.Laws.Tables
import Derived.Great.BuildSlice
namespace Go.Proofs.YtnadendhboiliaaGreat
open Go.ChangeShapes Go.WideShapes Go.ChangeAt Go.RowKit
set_option linter.unusedVariables false

theorem law_build {ops : Array Oper} {rest : List Oper} {o : Oper} {a : Act} {w : World} {Q : Exit → Act → World → Prop} (hg : o.guard = none) (t : TypeId) (parts : Array (Nat × Operand)) (ho : o.op = .build t parts)
    (vs : List (Nat × Value)) (hvs : (parts.toList.map fun (p : Nat × Operand) => (p.1, a.eval p.2)) = vs) (C : Array Value) (hb : Tryz.prog.built t vs = some C)
    (h : wpList Tryz.prog ops Q rest (a.put o.dst (.agg C)) w) : wpList Tryz.prog ops Q (o :: rest) a w := by
  refine wpList_plain hg fun _ hK => ?_
  have h2 : (parts.map fun (i, x) => (i, a.eval x)).toList = vs := by rw [Array.toList_map]; exact hvs
  subst h2
  unfold Oper.wp execOp
  simp only [ho, Sem.run_bind, run_build w t _ C hb, Result.andThen_ok]
  exact hK _ _ h
theorem info28 : ∃ ie, Tryz.prog.info? 29 = some ie ∧ ie.zero = some (.agg noP.toArray) ∧ ie.size = 18 := by
  obtain ⟨ie, h1, h2, h3, -⟩ := info_parts (P := Tryz.prog) (e := 29) (z := some (.agg noP.toArray)) (s := 18) (b := 32) (by kernel_rfl)
  exact ⟨ie, h1, h2, h3⟩
theorem law_slice28 {ops : Array Oper} {rest : List Oper} {o : Oper} {a : Act} {w : World} {Q : Exit → Act → World → Prop} (hg : o.guard = none) (n : Nat) (parts : Array (Nat × Operand)) (ho : o.op = .buildSlice 89 n parts) (hn : n ≤ 1000) (h0 : 0 < n)
    (vs : List (Nat × Value)) (hvs : (parts.toList.map fun (p : Nat × Operand) => (p.1, a.eval p.2)) = vs) (C : Array Value)
    (hb : Instr.fill (fun i => some (i * 18, 18)) ((Array.range (n * 18)).map (noP.toArray[· % noP.toArray.size]!)) vs = some C)
    (h : wpList Tryz.prog ops Q rest (a.put o.dst (.slice (some ⟨w.heap.size, 0, none⟩) n n)) (w.alloc (.cells C 29))) : wpList Tryz.prog ops Q (o :: rest) a w := by
  obtain ⟨ie, h1, h2, h3⟩ := info28
  refine wpList_buildSlice hg 89 29 n parts ho C ie _ Tryz.underlying89 h1 h2 (by rw [h3]; omega) (by rw [h3]; omega) ?_ h
  have h2 : (parts.map fun (i, x) => (i, a.eval x)).toList = vs := by rw [Array.toList_map]; exact hvs
  rw [h2, h3]
  exact hb
theorem bd0 : Tryz.prog.built 29 [(0, .agg (adr bp0.b bp0.xs).toArray), (1, .int .i64 8)] = some (pfx bp0.b bp0.xs bp0.n).toArray := by kernel_rfl
theorem bd1 : Tryz.prog.built 29 [(0, .agg (adr bp1.b bp1.xs).toArray), (1, .int .i64 8)] = some (pfx bp1.b bp1.xs bp1.n).toArray := by kernel_rfl
theorem bd2 : Tryz.prog.built 29 [(0, .agg (adr bp2.b bp2.xs).toArray), (1, .int .i64 10)] = some (pfx bp2.b bp2.xs bp2.n).toArray := by kernel_rfl
theorem bd3 : Tryz.prog.built 29 [(0, .agg (adr bp3.b bp3.xs).toArray), (1, .int .i64 8)] = some (pfx bp3.b bp3.xs bp3.n).toArray := by kernel_rfl
theorem bd4 : Tryz.prog.built 29 [(0, .agg (adr bp4.b bp4.xs).toArray), (1, .int .i64 16)] = some (pfx bp4.b bp4.xs bp4.n).toArray := by kernel_rfl
theorem bd5 : Tryz.prog.built 29 [(0, .agg (adr bp5.b bp5.xs).toArray), (1, .int .i64 12)] = some (pfx bp5.b bp5.xs bp5.n).toArray := by kernel_rfl
theorem bd6 : Tryz.prog.built 29 [(0, .agg (adr bp6.b bp6.xs).toArray), (1, .int .i64 16)] = some (pfx bp6.b bp6.xs bp6.n).toArray := by kernel_rfl
theorem bd7 : Tryz.prog.built 29 [(0, .agg (adr bp7.b bp7.xs).toArray), (1, .int .i64 3)] = some (pfx bp7.b bp7.xs bp7.n).toArray := by kernel_rfl
theorem bd8 : Tryz.prog.built 29 [(0, .agg (adr bp8.b bp8.xs).toArray), (1, .int .i64 128)] = some (pfx bp8.b bp8.xs bp8.n).toArray := by kernel_rfl
theorem bd9 : Tryz.prog.built 29 [(0, .agg (adr bp9.b bp9.xs).toArray), (1, .int .i64 128)] = some (pfx bp9.b bp9.xs bp9.n).toArray := by kernel_rfl
theorem bd10 : Tryz.prog.built 29 [(0, .agg (adr bp10.b bp10.xs).toArray), (1, .int .i64 96)] = some (pfx bp10.b bp10.xs bp10.n).toArray := by kernel_rfl
theorem bd11 : Tryz.prog.built 29 [(0, .agg (adr bp11.b bp11.xs).toArray), (1, .int .i64 96)] = some (pfx bp11.b bp11.xs bp11.n).toArray := by kernel_rfl
theorem bd12 : Tryz.prog.built 29 [(0, .agg (adr bp12.b bp12.xs).toArray), (1, .int .i64 7)] = some (pfx bp12.b bp12.xs bp12.n).toArray := by kernel_rfl
theorem bd13 : Tryz.prog.built 29 [(0, .agg (adr bp13.b bp13.xs).toArray), (1, .int .i64 10)] = some (pfx bp13.b bp13.xs bp13.n).toArray := by kernel_rfl
theorem bd14 : Tryz.prog.built 29 [(0, .agg (adr bp14.b bp14.xs).toArray), (1, .int .i64 8)] = some (pfx bp14.b bp14.xs bp14.n).toArray := by kernel_rfl
theorem bg8 : Tryz.prog.built 119 [] = some (nums .u16 [0, 0, 0, 0, 0, 0, 0, 0]).toArray := by kernel_rfl
theorem bg9 : Tryz.prog.built 119 [(7, .int .u16 1)] = some (nums .u16 [0, 0, 0, 0, 0, 0, 0, 1]).toArray := by kernel_rfl
theorem bg10 : Tryz.prog.built 119 [(5, .int .u16 65535)] = some (nums .u16 [0, 0, 0, 0, 0, 65535, 0, 0]).toArray := by kernel_rfl
theorem bg11 : Tryz.prog.built 119 [(0, .int .u16 100), (1, .int .u16 65435)] = some (nums .u16 [100, 65435, 0, 0, 0, 0, 0, 0]).toArray := by kernel_rfl
theorem bg12 : Tryz.prog.built 119 [(0, .int .u16 64512)] = some (nums .u16 [64512, 0, 0, 0, 0, 0, 0, 0]).toArray := by kernel_rfl
theorem bg13 : Tryz.prog.built 119 [(0, .int .u16 65152)] = some (nums .u16 [65152, 0, 0, 0, 0, 0, 0, 0]).toArray := by kernel_rfl
theorem bg14 : Tryz.prog.built 119 [(0, .int .u16 65280)] = some (nums .u16 [65280, 0, 0, 0, 0, 0, 0, 0]).toArray := by kernel_rfl
theorem pl_fill : Instr.fill (fun i => some (i * 18, 18)) ((Array.range (15 * 18)).map (noP.toArray[· % noP.toArray.size]!)) [(0, .agg (pfx bp0.b bp0.xs bp0.n).toArray), (1, .agg (pfx bp1.b bp1.xs bp1.n).toArray), (2, .agg (pfx bp2.b bp2.xs bp2.n).toArray), (3, .agg (pfx bp3.b bp3.xs bp3.n).toArray), (4, .agg (pfx bp4.b bp4.xs bp4.n).toArray), (5, .agg (pfx bp5.b bp5.xs bp5.n).toArray), (6, .agg (pfx bp6.b bp6.xs bp6.n).toArray), (7, .agg (pfx bp7.b bp7.xs bp7.n).toArray), (8, .agg (pfx bp8.b bp8.xs bp8.n).toArray), (9, .agg (pfx bp9.b bp9.xs bp9.n).toArray), (10, .agg (pfx bp10.b bp10.xs bp10.n).toArray), (11, .agg (pfx bp11.b bp11.xs bp11.n).toArray), (12, .agg (pfx bp12.b bp12.xs bp12.n).toArray), (13, .agg (pfx bp13.b bp13.xs bp13.n).toArray), (14, .agg (pfx bp14.b bp14.xs bp14.n).toArray)] = some (flatP PL).toArray := by kernel_rfl

set_option maxHeartbeats 4000000 in
set_option maxRecDepth 100000 in
theorem prefixes_any (w : World) :
    Calls Tryz.prog 77 #[] w fun e w' => ∃ g, e = .returned (.slice (some ⟨g, 0, none⟩) 15 15) ∧ w.heap.size ≤ g ∧ w'.heap[g]? = some (.cells (flatP PL).toArray 29 (0, 0)) ∧ Fr No w w' := by
  obtain ⟨FL, hFL⟩ : ∃ F, (flatP PL).toArray = F := ⟨_, rfl⟩
  have HF := pl_fill
  rw [hFL] at HF
  obtain ⟨A0, hA0⟩ : ∃ A, (adr bp0.b bp0.xs).toArray = A := ⟨_, rfl⟩
  obtain ⟨P0, hP0⟩ : ∃ P, (pfx bp0.b bp0.xs bp0.n).toArray = P := ⟨_, rfl⟩
  have D0 := bd0
  rw [hA0, hP0] at D0
  replace D0 := Lib.hid D0
  rw [hP0] at HF
  have C0 : Hid (∀ w', Calls Tryz.prog 75 #[.int .u8 0, .int .u8 0, .int .u8 0, .int .u8 0] w' fun e w'' => e = .returned (.agg A0) ∧ Fr No w' w'') := fun w' => by rw [← hA0]; exact v4_any 0 0 0 0 w'
  obtain ⟨A1, hA1⟩ : ∃ A, (adr bp1.b bp1.xs).toArray = A := ⟨_, rfl⟩
  obtain ⟨P1, hP1⟩ : ∃ P, (pfx bp1.b bp1.xs bp1.n).toArray = P := ⟨_, rfl⟩
  have D1 := bd1
  rw [hA1, hP1] at D1
  replace D1 := Lib.hid D1
  rw [hP1] at HF
  have C1 : Hid (∀ w', Calls Tryz.prog 75 #[.int .u8 10, .int .u8 0, .int .u8 0, .int .u8 0] w' fun e w'' => e = .returned (.agg A1) ∧ Fr No w' w'') := fun w' => by rw [← hA1]; exact v4_any 10 0 0 0 w'
  obtain ⟨A2, hA2⟩ : ∃ A, (adr bp2.b bp2.xs).toArray = A := ⟨_, rfl⟩
  obtain ⟨P2, hP2⟩ : ∃ P, (pfx bp2.b bp2.xs bp2.n).toArray = P := ⟨_, rfl⟩
  have D2 := bd2
  rw [hA2, hP2] at D2
  replace D2 := Lib.hid D2
  rw [hP2] at HF
  have C2 : Hid (∀ w', Calls Tryz.prog 75 #[.int .u8 100, .int .u8 64, .int .u8 0, .int .u8 0] w' fun e w'' => e = .returned (.agg A2) ∧ Fr No w' w'') := fun w' => by rw [← hA2]; exact v4_any 100 64 0 0 w'
  obtain ⟨A3, hA3⟩ : ∃ A, (adr bp3.b bp3.xs).toArray = A := ⟨_, rfl⟩
  obtain ⟨P3, hP3⟩ : ∃ P, (pfx bp3.b bp3.xs bp3.n).toArray = P := ⟨_, rfl⟩
  have D3 := bd3
  rw [hA3, hP3] at D3
  replace D3 := Lib.hid D3
  rw [hP3] at HF
  have C3 : Hid (∀ w', Calls Tryz.prog 75 #[.int .u8 127, .int .u8 0, .int .u8 0, .int .u8 0] w' fun e w'' => e = .returned (.agg A3) ∧ Fr No w' w'') := fun w' => by rw [← hA3]; exact v4_any 127 0 0 0 w'
  obtain ⟨A4, hA4⟩ : ∃ A, (adr bp4.b bp4.xs).toArray = A := ⟨_, rfl⟩
  obtain ⟨P4, hP4⟩ : ∃ P, (pfx bp4.b bp4.xs bp4.n).toArray = P := ⟨_, rfl⟩
  have D4 := bd4
  rw [hA4, hP4] at D4
  replace D4 := Lib.hid D4
  rw [hP4] at HF
  have C4 : Hid (∀ w', Calls Tryz.prog 75 #[.int .u8 169, .int .u8 254, .int .u8 0, .int .u8 0] w' fun e w'' => e = .returned (.agg A4) ∧ Fr No w' w'') := fun w' => by rw [← hA4]; exact v4_any 169 254 0 0 w'
  obtain ⟨A5, hA5⟩ : ∃ A, (adr bp5.b bp5.xs).toArray = A := ⟨_, rfl⟩
  obtain ⟨P5, hP5⟩ : ∃ P, (pfx bp5.b bp5.xs bp5.n).toArray = P := ⟨_, rfl⟩
  have D5 := bd5
  rw [hA5, hP5] at D5
  replace D5 := Lib.hid D5
  rw [hP5] at HF
  have C5 : Hid (∀ w', Calls Tryz.prog 75 #[.int .u8 172, .int .u8 16, .int .u8 0, .int .u8 0] w' fun e w'' => e = .returned (.agg A5) ∧ Fr No w' w'') := fun w' => by rw [← hA5]; exact v4_any 172 16 0 0 w'
  obtain ⟨A6, hA6⟩ : ∃ A, (adr bp6.b bp6.xs).toArray = A := ⟨_, rfl⟩
  obtain ⟨P6, hP6⟩ : ∃ P, (pfx bp6.b bp6.xs bp6.n).toArray = P := ⟨_, rfl⟩
  have D6 := bd6
  rw [hA6, hP6] at D6
  replace D6 := Lib.hid D6
  rw [hP6] at HF
  have C6 : Hid (∀ w', Calls Tryz.prog 75 #[.int .u8 192, .int .u8 168, .int .u8 0, .int .u8 0] w' fun e w'' => e = .returned (.agg A6) ∧ Fr No w' w'') := fun w' => by rw [← hA6]; exact v4_any 192 168 0 0 w'
  obtain ⟨A7, hA7⟩ : ∃ A, (adr bp7.b bp7.xs).toArray = A := ⟨_, rfl⟩
  obtain ⟨P7, hP7⟩ : ∃ P, (pfx bp7.b bp7.xs bp7.n).toArray = P := ⟨_, rfl⟩
  have D7 := bd7
  rw [hA7, hP7] at D7
  replace D7 := Lib.hid D7
  rw [hP7] at HF
  have C7 : Hid (∀ w', Calls Tryz.prog 75 #[.int .u8 224, .int .u8 0, .int .u8 0, .int .u8 0] w' fun e w'' => e = .returned (.agg A7) ∧ Fr No w' w'') := fun w' => by rw [← hA7]; exact v4_any 224 0 0 0 w'
  obtain ⟨A8, hA8⟩ : ∃ A, (adr bp8.b bp8.xs).toArray = A := ⟨_, rfl⟩
  obtain ⟨P8, hP8⟩ : ∃ P, (pfx bp8.b bp8.xs bp8.n).toArray = P := ⟨_, rfl⟩
  have D8 := bd8
  rw [hA8, hP8] at D8
  replace D8 := Lib.hid D8
  rw [hP8] at HF
  obtain ⟨G8, hG8⟩ : ∃ G, (nums .u16 [0, 0, 0, 0, 0, 0, 0, 0]).toArray = G := ⟨_, rfl⟩
  have C8 : Hid (∀ w', Calls Tryz.prog 90 #[.agg G8] w' fun e w'' => e = .returned (.agg A8) ∧ Fr No w' w'') := fun w' => by rw [← hA8, ← hG8]; exact bv6_any [0, 0, 0, 0, 0, 0, 0, 0] w' rfl (by decide)
  have E8 := bg8
  rw [hG8] at E8
  replace E8 := Lib.hid E8
  obtain ⟨A9, hA9⟩ : ∃ A, (adr bp9.b bp9.xs).toArray = A := ⟨_, rfl⟩
  obtain ⟨P9, hP9⟩ : ∃ P, (pfx bp9.b bp9.xs bp9.n).toArray = P := ⟨_, rfl⟩
  have D9 := bd9
  rw [hA9, hP9] at D9
  replace D9 := Lib.hid D9
  rw [hP9] at HF
  obtain ⟨G9, hG9⟩ : ∃ G, (nums .u16 [0, 0, 0, 0, 0, 0, 0, 1]).toArray = G := ⟨_, rfl⟩
  have C9 : Hid (∀ w', Calls Tryz.prog 90 #[.agg G9] w' fun e w'' => e = .returned (.agg A9) ∧ Fr No w' w'') := fun w' => by rw [← hA9, ← hG9]; exact bv6_any [0, 0, 0, 0, 0, 0, 0, 1] w' rfl (by decide)
  have E9 := bg9
  rw [hG9] at E9
  replace E9 := Lib.hid E9
  obtain ⟨A10, hA10⟩ : ∃ A, (adr bp10.b bp10.xs).toArray = A := ⟨_, rfl⟩
  obtain ⟨P10, hP10⟩ : ∃ P, (pfx bp10.b bp10.xs bp10.n).toArray = P := ⟨_, rfl⟩
  have D10 := bd10
  rw [hA10, hP10] at D10
  replace D10 := Lib.hid D10
  rw [hP10] at HF
  obtain ⟨G10, hG10⟩ : ∃ G, (nums .u16 [0, 0, 0, 0, 0, 65535, 0, 0]).toArray = G := ⟨_, rfl⟩
  have C10 : Hid (∀ w', Calls Tryz.prog 90 #[.agg G10] w' fun e w'' => e = .returned (.agg A10) ∧ Fr No w' w'') := fun w' => by rw [← hA10, ← hG10]; exact bv6_any [0, 0, 0, 0, 0, 65535, 0, 0] w' rfl (by decide)
  have E10 := bg10
  rw [hG10] at E10
  replace E10 := Lib.hid E10
  obtain ⟨A11, hA11⟩ : ∃ A, (adr bp11.b bp11.xs).toArray = A := ⟨_, rfl⟩
  obtain ⟨P11, hP11⟩ : ∃ P, (pfx bp11.b bp11.xs bp11.n).toArray = P := ⟨_, rfl⟩
  have D11 := bd11
  rw [hA11, hP11] at D11
  replace D11 := Lib.hid D11
  rw [hP11] at HF
  obtain ⟨G11, hG11⟩ : ∃ G, (nums .u16 [100, 65435, 0, 0, 0, 0, 0, 0]).toArray = G := ⟨_, rfl⟩
  have C11 : Hid (∀ w', Calls Tryz.prog 90 #[.agg G11] w' fun e w'' => e = .returned (.agg A11) ∧ Fr No w' w'') := fun w' => by rw [← hA11, ← hG11]; exact bv6_any [100, 65435, 0, 0, 0, 0, 0, 0] w' rfl (by decide)
  have E11 := bg11
  rw [hG11] at E11
  replace E11 := Lib.hid E11
  obtain ⟨A12, hA12⟩ : ∃ A, (adr bp12.b bp12.xs).toArray = A := ⟨_, rfl⟩
  obtain ⟨P12, hP12⟩ : ∃ P, (pfx bp12.b bp12.xs bp12.n).toArray = P := ⟨_, rfl⟩
  have D12 := bd12
  rw [hA12, hP12] at D12
  replace D12 := Lib.hid D12
  rw [hP12] at HF
  obtain ⟨G12, hG12⟩ : ∃ G, (nums .u16 [64512, 0, 0, 0, 0, 0, 0, 0]).toArray = G := ⟨_, rfl⟩
  have C12 : Hid (∀ w', Calls Tryz.prog 90 #[.agg G12] w' fun e w'' => e = .returned (.agg A12) ∧ Fr No w' w'') := fun w' => by rw [← hA12, ← hG12]; exact bv6_any [64512, 0, 0, 0, 0, 0, 0, 0] w' rfl (by decide)
  have E12 := bg12
  rw [hG12] at E12
  replace E12 := Lib.hid E12
  obtain ⟨A13, hA13⟩ : ∃ A, (adr bp13.b bp13.xs).toArray = A := ⟨_, rfl⟩
  obtain ⟨P13, hP13⟩ : ∃ P, (pfx bp13.b bp13.xs bp13.n).toArray = P := ⟨_, rfl⟩
  have D13 := bd13
  rw [hA13, hP13] at D13
  replace D13 := Lib.hid D13
  rw [hP13] at HF
  obtain ⟨G13, hG13⟩ : ∃ G, (nums .u16 [65152, 0, 0, 0, 0, 0, 0, 0]).toArray = G := ⟨_, rfl⟩
  have C13 : Hid (∀ w', Calls Tryz.prog 90 #[.agg G13] w' fun e w'' => e = .returned (.agg A13) ∧ Fr No w' w'') := fun w' => by rw [← hA13, ← hG13]; exact bv6_any [65152, 0, 0, 0, 0, 0, 0, 0] w' rfl (by decide)
  have E13 := bg13
  rw [hG13] at E13
  replace E13 := Lib.hid E13
  obtain ⟨A14, hA14⟩ : ∃ A, (adr bp14.b bp14.xs).toArray = A := ⟨_, rfl⟩
  obtain ⟨P14, hP14⟩ : ∃ P, (pfx bp14.b bp14.xs bp14.n).toArray = P := ⟨_, rfl⟩
  have D14 := bd14
  rw [hA14, hP14] at D14
  replace D14 := Lib.hid D14
  rw [hP14] at HF
  obtain ⟨G14, hG14⟩ : ∃ G, (nums .u16 [65280, 0, 0, 0, 0, 0, 0, 0]).toArray = G := ⟨_, rfl⟩
  have C14 : Hid (∀ w', Calls Tryz.prog 90 #[.agg G14] w' fun e w'' => e = .returned (.agg A14) ∧ Fr No w' w'') := fun w' => by rw [← hA14, ← hG14]; exact bv6_any [65280, 0, 0, 0, 0, 0, 0, 0] w' rfl (by decide)
  have E14 := bg14
  rw [hG14] at E14
  replace E14 := Lib.hid E14
  replace HF := Lib.hid HF
  have HFL := Lib.hid hFL
  clear hFL hA0 hP0 hA1 hP1 hA2 hP2 hA3 hP3 hA4 hP4 hA5 hP5 hA6 hP6 hA7 hP7 hA8 hP8 hA9 hP9 hA10 hP10 hA11 hP11 hA12 hP12 hA13 hP13 hA14 hP14 hG8 hG9 hG10 hG11 hG12 hG13 hG14
  go_enter Tryz.func77, Tryz.ntmps77
  go_wp2_with fail
  refine (C0.out _).mono ?_
  rintro e w1 ⟨rfl, hf1⟩
  have K1 := hf1
  clear C0
  go_wp2_with (first | (refine law_build rfl 29 #[(0, .tmp 1), (1, .const (.int .i64 8))] rfl _ rfl P0 D0.out ?_) | fail)
  refine (C1.out _).mono ?_
  rintro e w2 ⟨rfl, hf2⟩
  have K2 := K1.trans hf2
  clear C1
  go_wp2_with (first | (refine law_build rfl 29 #[(0, .tmp 3), (1, .const (.int .i64 8))] rfl _ rfl P1 D1.out ?_) | fail)
  refine (C2.out _).mono ?_
  rintro e w3 ⟨rfl, hf3⟩
  have K3 := K2.trans hf3
  clear C2
  go_wp2_with (first | (refine law_build rfl 29 #[(0, .tmp 5), (1, .const (.int .i64 10))] rfl _ rfl P2 D2.out ?_) | fail)
  refine (C3.out _).mono ?_
  rintro e w4 ⟨rfl, hf4⟩
  have K4 := K3.trans hf4
  clear C3
  go_wp2_with (first | (refine law_build rfl 29 #[(0, .tmp 7), (1, .const (.int .i64 8))] rfl _ rfl P3 D3.out ?_) | fail)
  refine (C4.out _).mono ?_
  rintro e w5 ⟨rfl, hf5⟩
  have K5 := K4.trans hf5
  clear C4
  go_wp2_with (first | (refine law_build rfl 29 #[(0, .tmp 9), (1, .const (.int .i64 16))] rfl _ rfl P4 D4.out ?_) | fail)
  refine (C5.out _).mono ?_
  rintro e w6 ⟨rfl, hf6⟩
  have K6 := K5.trans hf6
  clear C5
  go_wp2_with (first | (refine law_build rfl 29 #[(0, .tmp 11), (1, .const (.int .i64 12))] rfl _ rfl P5 D5.out ?_) | fail)
  refine (C6.out _).mono ?_
  rintro e w7 ⟨rfl, hf7⟩
  have K7 := K6.trans hf7
  clear C6
  go_wp2_with (first | (refine law_build rfl 29 #[(0, .tmp 13), (1, .const (.int .i64 16))] rfl _ rfl P6 D6.out ?_) | fail)
  refine (C7.out _).mono ?_
  rintro e w8 ⟨rfl, hf8⟩
  have K8 := K7.trans hf8
  clear C7
  go_wp2_with (first | (refine law_build rfl 29 #[(0, .tmp 15), (1, .const (.int .i64 3))] rfl _ rfl P7 D7.out ?_) | (refine law_build rfl 119 #[] rfl _ rfl G8 E8.out ?_) | fail)
  refine (C8.out _).mono ?_
  rintro e w9 ⟨rfl, hf9⟩
  have K9 := K8.trans hf9
  clear C8
  go_wp2_with (first | (refine law_build rfl 29 #[(0, .tmp 18), (1, .const (.int .i64 128))] rfl _ rfl P8 D8.out ?_) | (refine law_build rfl 119 #[(7, .const (.int .u16 1))] rfl _ rfl G9 E9.out ?_) | fail)
  refine (C9.out _).mono ?_
  rintro e w10 ⟨rfl, hf10⟩
  have K10 := K9.trans hf10
  clear C9
  go_wp2_with (first | (refine law_build rfl 29 #[(0, .tmp 21), (1, .const (.int .i64 128))] rfl _ rfl P9 D9.out ?_) | (refine law_build rfl 119 #[(5, .const (.int .u16 65535))] rfl _ rfl G10 E10.out ?_) | fail)
  refine (C10.out _).mono ?_
  rintro e w11 ⟨rfl, hf11⟩
  have K11 := K10.trans hf11
  clear C10
  go_wp2_with (first | (refine law_build rfl 29 #[(0, .tmp 24), (1, .const (.int .i64 96))] rfl _ rfl P10 D10.out ?_) | (refine law_build rfl 119 #[(0, .const (.int .u16 100)), (1, .const (.int .u16 65435))] rfl _ rfl G11 E11.out ?_) | fail)
  refine (C11.out _).mono ?_
  rintro e w12 ⟨rfl, hf12⟩
  have K12 := K11.trans hf12
  clear C11
  go_wp2_with (first | (refine law_build rfl 29 #[(0, .tmp 27), (1, .const (.int .i64 96))] rfl _ rfl P11 D11.out ?_) | (refine law_build rfl 119 #[(0, .const (.int .u16 64512))] rfl _ rfl G12 E12.out ?_) | fail)
  refine (C12.out _).mono ?_
  rintro e w13 ⟨rfl, hf13⟩
  have K13 := K12.trans hf13
  clear C12
  go_wp2_with (first | (refine law_build rfl 29 #[(0, .tmp 30), (1, .const (.int .i64 7))] rfl _ rfl P12 D12.out ?_) | (refine law_build rfl 119 #[(0, .const (.int .u16 65152))] rfl _ rfl G13 E13.out ?_) | fail)
  refine (C13.out _).mono ?_
  rintro e w14 ⟨rfl, hf14⟩
  have K14 := K13.trans hf14
  clear C13
  go_wp2_with (first | (refine law_build rfl 29 #[(0, .tmp 33), (1, .const (.int .i64 10))] rfl _ rfl P13 D13.out ?_) | (refine law_build rfl 119 #[(0, .const (.int .u16 65280))] rfl _ rfl G14 E14.out ?_) | fail)
  refine (C14.out _).mono ?_
  rintro e w15 ⟨rfl, hf15⟩
  have K15 := K14.trans hf15
  clear C14
  go_wp2_with (first | (refine law_build rfl 29 #[(0, .tmp 36), (1, .const (.int .i64 8))] rfl _ rfl P14 D14.out ?_) | (refine law_slice28 rfl 15 _ rfl (by decide) (by decide) _ rfl FL HF.out ?_) | fail)
  go_ret
  exact ⟨_, rfl, K15.size, by rw [HFL.out]; exact heap_alloc_new _ _, K15.trans (Fr.alloc No _ _)⟩
end Go.Proofs.YtnadendhboiliaaGreat
