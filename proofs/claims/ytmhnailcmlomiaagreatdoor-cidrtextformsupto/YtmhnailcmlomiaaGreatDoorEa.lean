/-
  CONTRACT of the fixed example of the laws about package cidr, over this seat's translation: the call returns true.
  Conditions: the package variables are as Gl says.
-/
import Derived.Test.YtmhnailcmlomiaaGreatDoorDd
import Derived.Test.YtmhnailcmlomiaaGreatDoorCi
import Derived.Deep.RegionHeld3
namespace Go.Proofs.YtmhnailcmlomiaaGreatDoor
open Go.ChangeShapes Go.WideShapes Go.ChangeAt Go.RowKit
set_option linter.unusedVariables false

def exA : List UInt8 := [49, 48, 46, 48, 46, 48, 46, 49, 47, 56]
def exB : List UInt8 := [58, 58, 47, 48]
def exC : List UInt8 := [49, 48, 46, 48, 46, 48, 46, 48, 47, 56]
def exP : List Nat := v4Of 10 0 0 0
theorem ex1 : pofB false (v4Of 10 1 2 3) 8 = true := by decide +kernel
theorem ex2 : pofX false (v4Of 10 1 2 3) 8 = exP := by decide +kernel
theorem exA1 : cpX exA = [49, 48, 46, 48, 46, 48, 46, 49] ∧ cpY exA = [56] := by decide +kernel
theorem exB1 : cpX exB = [58, 58] ∧ cpY exB = [48] := by decide +kernel
theorem exA2 : parseS [49, 48, 46, 48, 46, 48, 46, 49] = some (false, v4Of 10 0 0 1) := by decide +kernel
theorem exB2 : parseS [58, 58] = some (true, zeros) := by decide +kernel
theorem exA3 : decR 128 [56] = some 8 := by decide +kernel
theorem exB3 : decR 128 [48] = some 0 := by decide +kernel
theorem exA4 : validP false (v4Of 10 0 0 1) 8 = false := by decide +kernel
theorem exB4 : validP true zeros 0 = true := by decide +kernel
theorem exA5 : cpB exA = false := by
  rw [cp_ref, exA1.1, exA1.2, exA2, exA3]
  show (true && validP false (v4Of 10 0 0 1) 8) = false
  rw [exA4]; rfl
theorem exB5 : cpB exB = true := by
  rw [cp_ref, exB1.1, exB1.2, exB2, exB3]
  show (true && validP true zeros 0) = true
  rw [exB4]; rfl
theorem exA6 : cpT exA = noP := by unfold cpT; rw [exA5]; rfl
theorem exB6 : cpT exB = pfx true zeros 0 := by
  unfold cpT
  rw [if_pos exB5, cp_num exB5, exB1.1, exB1.2, exB2, exB3]; rfl
theorem ex7 : validP false exP 8 = true := by decide +kernel
theorem ex8 : contP true zeros 0 false (v4Of 1 2 3 4) = false := by decide +kernel
theorem ex9 : contP false exP 8 false (v4Of 10 9 9 9) = true := by decide +kernel
theorem ex10 : cmpP false true exP zeros 8 0 = -1 := by decide +kernel
theorem ex11 : covP false exP 8 false exP 8 = true := by decide +kernel
theorem exP_bytes : Bytes exP := ⟨rfl, by decide⟩
theorem ex12 : fP false exP 8 = exC := by
  rw [fP, if_pos ex7]
  simp [fmtA, validA, fmt4, exP, v4Of, oct8, decN, exC, joinN]
set_option maxRecDepth 10000 in
theorem exE1 : (adr false zeros).toArray.setIfInBounds 0 (.bool true) = (adr true zeros).toArray := by kernel_rfl
set_option maxRecDepth 10000 in
theorem exE2 : Array.foldl (fun (cs : Array Value) (x : Value × Nat) => cs.setIfInBounds x.snd x.fst) noP.toArray (adr true zeros).toArray.zipIdx 0 17 = (pfx true zeros 0).toArray := by kernel_rfl

set_option maxHeartbeats 16000000 in
set_option maxRecDepth 100000 in
theorem cawake_any (w : World) (hG : Gl w) : Calls Tryz.prog 28 #[] w fun e w' => e = .returned (.bool true) ∧ Fr No w w' := by
  obtain ⟨Z, hZ⟩ : ∃ Z : Array Value, noP.toArray = Z := ⟨_, rfl⟩
  obtain ⟨Y, hY⟩ : ∃ Y : Array Value, (adr false zeros).toArray = Y := ⟨_, rfl⟩
  obtain ⟨E, hE⟩ : ∃ E : Array Value, (adr true zeros).toArray = E := ⟨_, rfl⟩
  obtain ⟨P, hP⟩ : ∃ P : Array Value, (pfx false exP 8).toArray = P := ⟨_, rfl⟩
  obtain ⟨Q, hQ⟩ : ∃ Q : Array Value, (pfx true zeros 0).toArray = Q := ⟨_, rfl⟩
  obtain ⟨A1, hA1⟩ : ∃ A : Array Value, (adr false (v4Of 10 1 2 3)).toArray = A := ⟨_, rfl⟩
  obtain ⟨A2, hA2⟩ : ∃ A : Array Value, (adr false (v4Of 1 2 3 4)).toArray = A := ⟨_, rfl⟩
  obtain ⟨A3, hA3⟩ : ∃ A : Array Value, (adr false (v4Of 10 9 9 9)).toArray = A := ⟨_, rfl⟩
  have v40 := zero40
  have v30 := zero30
  rw [hZ] at v40
  rw [hY] at v30
  have e1 := exE1
  have e2 := exE2
  rw [hY, hE] at e1
  rw [hZ, hE, hQ] at e2
  have hb1 : Bytes (v4Of 10 1 2 3) := v4_bytes (by decide) (by decide) (by decide) (by decide)
  have hb2 : Bytes (v4Of 1 2 3 4) := v4_bytes (by decide) (by decide) (by decide) (by decide)
  have hb3 : Bytes (v4Of 10 9 9 9) := v4_bytes (by decide) (by decide) (by decide) (by decide)
  have H41 : Hid (∀ w, Calls Tryz.prog 63 #[.int .u8 10, .int .u8 1, .int .u8 2, .int .u8 3] w fun e w' => e = .returned (.agg A1) ∧ Fr No w w') := fun w => by rw [← hA1]; exact v4_ref 10 1 2 3 w
  have H42 : Hid (∀ w, Calls Tryz.prog 63 #[.int .u8 1, .int .u8 2, .int .u8 3, .int .u8 4] w fun e w' => e = .returned (.agg A2) ∧ Fr No w w') := fun w => by rw [← hA2]; exact v4_ref 1 2 3 4 w
  have H43 : Hid (∀ w, Calls Tryz.prog 63 #[.int .u8 10, .int .u8 9, .int .u8 9, .int .u8 9] w fun e w' => e = .returned (.agg A3) ∧ Fr No w w') := fun w => by rw [← hA3]; exact v4_ref 10 9 9 9 w
  have HPO : Hid (∀ w, Calls Tryz.prog 59 #[.agg A1, .int .i64 8] w fun e w' => e = .returned (.tuple #[.agg P, .bool true]) ∧ Fr No w w') := fun w => by
    have h := pof_any false (v4Of 10 1 2 3) 8 hb1 w
    rw [pofT, if_pos ex1, ex1, ex2, hA1, hP] at h
    exact h
  have HQA : Hid (∀ w, Gl w → Calls Tryz.prog 31 #[.string ⟨#[49, 48, 46, 48, 46, 48, 46, 49, 47, 56]⟩] w fun e w' => e = .returned (.tuple #[.agg Z, .bool false]) ∧ Fr No w w') := fun w h => by
    have h1 := cparse_any exA w h (by decide)
    rw [exA5, exA6, hZ] at h1
    exact h1
  have HQB : Hid (∀ w, Gl w → Calls Tryz.prog 31 #[.string ⟨#[58, 58, 47, 48]⟩] w fun e w' => e = .returned (.tuple #[.agg Q, .bool true]) ∧ Fr No w w') := fun w h => by
    have h1 := cparse_any exB w h (by decide)
    rw [exB5, exB6, hQ] at h1
    exact h1
  have HFM : Hid (∀ w, Gl w → Calls Tryz.prog 29 #[.agg P] w fun e w' => e = .returned (.string ⟨#[49, 48, 46, 48, 46, 48, 46, 48, 47, 56]⟩) ∧ Fr No w w') := fun w h => by
    have h1 := cformat_any false exP 8 exP_bytes w h
    rw [ex12, hP] at h1
    exact h1
  have HC1 : Hid (∀ w, Calls Tryz.prog 21 #[.agg Q, .agg A2] w fun e w' => e = .returned (.bool false) ∧ Fr No w w') := fun w => by
    have h1 := cont_any true false zeros (v4Of 1 2 3 4) 0 zeros_bytes hb2 w
    rw [ex8, hQ, hA2] at h1
    exact h1
  have HC2 : Hid (∀ w, Calls Tryz.prog 21 #[.agg P, .agg A3] w fun e w' => e = .returned (.bool true) ∧ Fr No w w') := fun w => by
    have h1 := cont_any false false exP (v4Of 10 9 9 9) 8 exP_bytes hb3 w
    rw [ex9, hP, hA3] at h1
    exact h1
  have HVL : Hid (∀ w, Calls Tryz.prog 19 #[.agg P] w fun e w' => e = .returned (.bool true) ∧ Fr No w w') := fun w => by
    have h1 := validp_any false exP 8 exP_bytes w
    rw [ex7, hP] at h1
    exact h1
  have HCM : Hid (∀ w, Calls Tryz.prog 25 #[.agg P, .agg Q] w fun e w' => e = .returned (.int .i64 (-1)) ∧ Fr No w w') := fun w => by
    have h1 := cmpp_any false true exP zeros 8 0 exP_bytes zeros_bytes w
    rw [ex10, hP, hQ] at h1
    exact h1
  have HCV : Hid (∀ w, Calls Tryz.prog 23 #[.agg P, .agg P] w fun e w' => e = .returned (.bool true) ∧ Fr No w w') := fun w => by
    have h1 := cov_any false false exP exP 8 8 exP_bytes exP_bytes w
    rw [ex11, hP] at h1
    exact h1
  have hEq : ∀ w, Sem.run Tryz.prog (Op.equalIn 10000 40 (.agg Q) (.agg Q)) w = .ok true w := fun w => by
    rw [← hQ, pfx_eq 0 0 zeros_bytes zeros_bytes w, decide_eq_true ⟨⟨rfl, rfl⟩, rfl⟩]
  have q40 := Tryz.eqGuardType40
  have hP1 : ∀ u ∈ P.toList, u.oneCell' = true := by rw [← hP]; intro u hu; exact pfx_one _ _ _ u (by simpa using hu)
  have hQ1 : ∀ u ∈ Q.toList, u.oneCell' = true := by rw [← hQ]; intro u hu; exact pfx_one _ _ _ u (by simpa using hu)
  have hZ1 : ∀ u ∈ Z.toList, u.oneCell' = true := by rw [← hZ]; exact pfx_one _ _ _
  have hs : Z.size = 18 ∧ P.size = 18 ∧ Q.size = 18 ∧ Y.size = 17 ∧ E.size = 17 := ⟨by rw [← hZ]; rfl, by rw [← hP]; rfl, by rw [← hQ]; rfl, by rw [← hY]; rfl, by rw [← hE]; rfl⟩
  have hYne : ¬ Y = #[] := by intro e; have := hs.2.2.2.1; rw [e] at this; cases this
  have HT := Lib.hid (And.intro hP1 (And.intro hQ1 (And.intro hZ1 hG)))
  clear hZ hY hE hP hQ hA1 hA2 hA3 hb1 hb2 hb3 hP1 hQ1 hZ1 hG
  go_enter Tryz.func28, Tryz.ntmps28
  have t3 := Tryz.underlying3
  have u3 := Tryz.runUnderlying3
  have g3 := Tryz.isAgg3
  have z3 := Tryz.sizeOf3
  have t4 := Tryz.underlying4
  have u4 := Tryz.runUnderlying4
  have g4 := Tryz.isAgg4
  have z4 := Tryz.sizeOf4
  have t5 := Tryz.underlying5
  have u5 := Tryz.runUnderlying5
  have g5 := Tryz.isAgg5
  have z5 := Tryz.sizeOf5
  have t9 := Tryz.underlying9
  have u9 := Tryz.runUnderlying9
  have g9 := Tryz.isAgg9
  have z9 := Tryz.sizeOf9
  have t28 := Tryz.underlying28
  have u28 := Tryz.runUnderlying28
  have g28 := Tryz.isAgg28
  have z28 := Tryz.sizeOf28
  have t30 := Tryz.underlying30
  have u30 := Tryz.runUnderlying30
  have g30 := Tryz.isAgg30
  have z30 := Tryz.sizeOf30
  have t40 := Tryz.underlying40
  have u40 := Tryz.runUnderlying40
  have g40 := Tryz.isAgg40
  have z40 := Tryz.sizeOf40
  have c63 := Tryz.call63
  have c59 := Tryz.call59
  have c31 := Tryz.call31
  have c29 := Tryz.call29
  have c21 := Tryz.call21
  have c19 := Tryz.call19
  have c25 := Tryz.call25
  have c23 := Tryz.call23
  have mixed : Tryz.prog.follows .mixedOrders = true := by kernel_rfl
  obtain ⟨k30, hk30⟩ : ∃ k, k = 17 := ⟨_, rfl⟩
  rw [← hk30] at z30
  have nk30 : ¬ k30 = 0 := by omega
  have HK30 := Lib.hid hk30
  obtain ⟨k40, hk40⟩ : ∃ k, k = 18 := ⟨_, rfl⟩
  rw [← hk40] at z40
  have nk40 : ¬ k40 = 0 := by omega
  have HK40 := Lib.hid hk40
  have hP : Tryz.prog = PD := rfl
  rw [hP] at t3 u3 g3 z3 t4 u4 g4 z4 t5 u5 g5 z5 t9 u9 g9 z9 t28 u28 g28 z28 t30 u30 g30 z30 t40 u40 g40 z40 c63 c59 c31 c29 c21 c19 c25 c23 mixed v40 v30 hEq q40 ⊢
  have HP := Lib.hid hP.symm
  clear hP hk30 hk40
  have hZk : Z.size = k40 := by rw [HK40.out]; exact hs.1
  have hPk : P.size = k40 := by rw [HK40.out]; exact hs.2.1
  have hQk : Q.size = k40 := by rw [HK40.out]; exact hs.2.2.1
  have hYk : Y.size = k30 := by rw [HK30.out]; exact hs.2.2.2.1
  have hEk : E.size = k30 := by rw [HK30.out]; exact hs.2.2.2.2
  rw [← HK30.out] at e2
  have i3 : k30 ≤ k40 := by have := HK30.out; have := HK40.out; omega
  have i5 : ¬ k40 < k30 := by omega
  clear hs
  go_wp2_with (first | (go_at_call 63; refine (at_prog HP.out (H41.out _)).mono ?_; rintro e w1 ⟨rfl, hf1⟩) | (go_at_call 59; refine (at_prog HP.out (HPO.out _)).mono ?_; rintro e w2 ⟨rfl, hf2⟩; obtain ⟨y1, hst1, hyb1, hyf1⟩ := store_all (P := PD) P.toList (heap_alloc_new w2 (.cells Z 40)) (by rw [Array.length_toList, hPk, hZk]) HT.out.1; have F1 : Fr No w y1 := ((hf1.trans hf2).trans (Fr.alloc No w2 (.cells Z 40))).ofNew hyf1 (fun k hk => .inr (by rw [hk]; exact (hf1.trans hf2).size))) | fail)
  obtain ⟨nb, hnb⟩ : ∃ nb, w2.heap.size = nb := ⟨_, rfl⟩
  rw [hnb] at hyb1 ⊢
  have HB1 : Hid (y1.heap[nb]? = some (.cells P 40 (0, 0)) ∧ Fr No w y1) := ⟨by simpa using hyb1, F1⟩
  clear hyb1 hyf1 hf1 hf2 F1 hst1 hnb
  go_wp2_with fail
  refine (at_prog HP.out (HQA.out _ (HT.out.2.2.2.fr HB1.out.2))).mono ?_
  rintro e w3 ⟨rfl, hf3⟩
  obtain ⟨y2, hst2, hyb2, hyf2⟩ := store_all (P := PD) Z.toList (heap_alloc_new w3 (.cells Z 40)) (by rw [Array.length_toList]) HT.out.2.2.1
  have HB2 : Hid (Fr No y1 y2) := (hf3.trans (Fr.alloc No w3 (.cells Z 40))).ofNew hyf2 fun k hk => .inr (by rw [hk]; exact hf3.size)
  clear hyb2 hyf2 hf3
  go_wp2_with fail
  refine (at_prog HP.out (HQB.out _ (HT.out.2.2.2.fr (HB1.out.2.trans HB2.out)))).mono ?_
  rintro e w4 ⟨rfl, hf4⟩
  obtain ⟨y3, hst3, hyb3, hyf3⟩ := store_all (P := PD) Q.toList (heap_alloc_new w4 (.cells Z 40)) (by rw [Array.length_toList, hQk, hZk]) HT.out.2.1
  have F3 : Fr No y2 y3 := (hf4.trans (Fr.alloc No w4 (.cells Z 40))).ofNew hyf3 fun k hk => .inr (by rw [hk]; exact hf4.size)
  go_wp2_with fail
  obtain ⟨mb, hmb⟩ : ∃ mb, w4.heap.size = mb := ⟨_, rfl⟩
  rw [hmb] at hyb3 ⊢
  have HB3 : Hid (Fr No w y3 ∧ y3.heap[nb]? = some (.cells P 40 (0, 0)) ∧ y3.heap[mb]? = some (.cells Q 40 (0, 0))) := ⟨(HB1.out.2.trans HB2.out).trans F3, (HB2.out.trans F3).keep HB1.out.1, by simpa using hyb3⟩
  have HSS : Hid (∀ w', Fr No y3 w' → Sem.run PD (loadCellsFrom ⟨nb, 0, none⟩ 0 k40 #[]) w' = .ok P w' ∧ Sem.run PD (loadCellsFrom ⟨mb, 0, none⟩ 0 k40 #[]) w' = .ok Q w') := fun w' hf => ⟨load_block (hf.keep HB3.out.2.1) hPk (fun j v hv => by simpa using hv), load_block (hf.keep HB3.out.2.2) hQk (fun j v hv => by simpa using hv)⟩
  clear hyb3 hyf3 F3 hf4 hmb hst3 hst2
  have f5 : Fr No y3 y3.drew := Fr.drew No _
  have hS0 := HSS.out _ f5
  refine wp_region_noPanic ?_
  refine wp_region_held_drew (S := (fun w' : World => Sem.run PD (loadCellsFrom ⟨nb, 0, none⟩ 0 k40 #[]) w' = .ok P w' ∧ Sem.run PD (loadCellsFrom ⟨mb, 0, none⟩ 0 k40 #[]) w' = .ok Q w')) (by kernel_rfl) hS0 (fun hHeld => ?_)
  clear hS0
  refine wpAnyH_take (i := 0) (oi := { dst := some 20, op := Op.move (Operand.tmp 2), type := 4, pos := "law.go:16", after := #[], guard := none }) (v := ?v0x1) rfl (by kernel_rfl) (by kernel_rfl) (by kernel_rfl) (fun _ _ _ h => h) (Or.inl ⟨by rfl, ?hy0x1⟩) hHeld ?nx0x1
  case hy0x1 => (intro w hSw; (try dsimp only at hSw); go_simp; try with_reducible rfl)
  try simp only [Act.put, List.setIfInBounds_toArray, List.set_cons_zero, List.set_cons_succ]
  refine wpAnyH_take (i := 1) (oi := { dst := some 21, op := Op.move (Operand.tmp 20), type := 4, pos := "law.go:16", after := #[{ on := 0, ground := Ground.data }], guard := none }) (v := ?v1x2) rfl (by kernel_rfl) (by kernel_rfl) (by kernel_rfl) (fun _ _ _ h => h) (Or.inl ⟨by rfl, ?hy1x2⟩) hHeld ?nx1x2
  case hy1x2 => (intro w hSw; (try dsimp only at hSw); go_simp; try with_reducible rfl)
  try simp only [Act.put, List.setIfInBounds_toArray, List.set_cons_zero, List.set_cons_succ]
  refine wpAnyH_take (i := 2) (oi := { dst := some 22, op := Op.load 40 (Operand.tmp 1), type := 40, pos := "law.go:16", after := #[{ on := 1, ground := Ground.guard }], guard := some (1, true) }) (v := ?v2x3) rfl (by kernel_rfl) (by kernel_rfl) (by kernel_rfl) (fun _ _ _ h => h) (Or.inl ⟨by rfl, ?hy2x3⟩) hHeld ?nx2x3
  case hy2x3 => (intro w hSw; (try dsimp only at hSw); go_simp; try with_reducible rfl)
  try simp only [Act.put, List.setIfInBounds_toArray, List.set_cons_zero, List.set_cons_succ]
  refine wpAnyH_ready (rs := [3]) (by kernel_rfl) (by simp) ?_
  refine (AllReadyH.cons (o := { dst := some 23, op := Op.call { callee := Callee.value (Operand.func 29), args := #[Operand.tmp 22], argTypes := #[40] }, type := 9, pos := "law.go:16", after := #[{ on := 2, ground := Ground.data }, { on := 1, ground := Ground.chain }, { on := 1, ground := Ground.guard }], guard := some (1, true) }) rfl (fun K hK => ?_) AllReadyH.nil)
  go_simp
  go_at_call 29
  refine (at_prog HP.out (HFM.out _ (HT.out.2.2.2.fr (HB3.out.1.trans f5)))).mono ?_
  rintro e xx1 ⟨rfl, hx2⟩
  have gg3 := f5.trans hx2
  have hS := HSS.out _ gg3
  clear hx2
  refine hK.out _ _ hS (fun hH2 => ?_)
  clear hK K hHeld
  have hHeld := hH2
  clear hH2 hS
  try simp only [Act.put, List.setIfInBounds_toArray, List.set_cons_zero, List.set_cons_succ]
  refine wpAnyH_take (i := 4) (oi := { dst := some 24, op := Op.binOp BinOp.eql 9 (Operand.tmp 23) (Operand.const (Value.string { data := #[49, 48, 46, 48, 46, 48, 46, 48, 47, 56] })) 9, type := 4, pos := "law.go:16", after := #[{ on := 3, ground := Ground.data }, { on := 1, ground := Ground.guard }], guard := some (1, true) }) (v := ?v4x4) rfl (by kernel_rfl) (by kernel_rfl) (by kernel_rfl) (fun _ _ _ h => h) (Or.inl ⟨by rfl, ?hy4x4⟩) hHeld ?nx4x4
  case hy4x4 => (intro w hSw; (try dsimp only at hSw); go_simp; try with_reducible rfl)
  try simp only [Act.put, List.setIfInBounds_toArray, List.set_cons_zero, List.set_cons_succ]
  refine wpAnyH_take (i := 5) (oi := { dst := some 25, op := Op.pick (Operand.tmp 21) (Operand.tmp 24) (Operand.const (Value.bool false)), type := 4, pos := "law.go:16", after := #[{ on := 1, ground := Ground.data }, { on := 4, ground := Ground.data }], guard := none }) (v := ?v5x5) rfl (by kernel_rfl) (by kernel_rfl) (by kernel_rfl) (fun _ _ _ h => h) (Or.inl ⟨by rfl, ?hy5x5⟩) hHeld ?nx5x5
  case hy5x5 => (intro w hSw; (try dsimp only at hSw); go_simp; try with_reducible rfl)
  try simp only [Act.put, List.setIfInBounds_toArray, List.set_cons_zero, List.set_cons_succ]
  refine wpAnyH_take (i := 6) (oi := { dst := some 26, op := Op.move (Operand.tmp 25), type := 4, pos := "law.go:16", after := #[{ on := 5, ground := Ground.data }, { on := 3, ground := Ground.chain }], guard := none }) (v := ?v6x6) rfl (by kernel_rfl) (by kernel_rfl) (by kernel_rfl) (fun _ _ _ h => h) (Or.inl ⟨by rfl, ?hy6x6⟩) hHeld ?nx6x6
  case hy6x6 => (intro w hSw; (try dsimp only at hSw); go_simp; try with_reducible rfl)
  try simp only [Act.put, List.setIfInBounds_toArray, List.set_cons_zero, List.set_cons_succ]
  refine wpAnyH_take (i := 7) (oi := { dst := some 27, op := Op.move (Operand.tmp 4), type := 4, pos := "law.go:16", after := #[{ on := 6, ground := Ground.guard }], guard := some (6, true) }) (v := ?v7x7) rfl (by kernel_rfl) (by kernel_rfl) (by kernel_rfl) (fun _ _ _ h => h) (Or.inl ⟨by rfl, ?hy7x7⟩) hHeld ?nx7x7
  case hy7x7 => (intro w hSw; (try dsimp only at hSw); go_simp; try with_reducible rfl)
  try simp only [Act.put, List.setIfInBounds_toArray, List.set_cons_zero, List.set_cons_succ]
  refine wpAnyH_take (i := 8) (oi := { dst := some 28, op := Op.unOp UnOp.not 4 (Operand.tmp 27), type := 4, pos := "law.go:16", after := #[{ on := 7, ground := Ground.data }, { on := 6, ground := Ground.guard }], guard := some (6, true) }) (v := ?v8x8) rfl (by kernel_rfl) (by kernel_rfl) (by kernel_rfl) (fun _ _ _ h => h) (Or.inl ⟨by rfl, ?hy8x8⟩) hHeld ?nx8x8
  case hy8x8 => (intro w hSw; (try dsimp only at hSw); go_simp; try with_reducible rfl)
  try simp only [Act.put, List.setIfInBounds_toArray, List.set_cons_zero, List.set_cons_succ]
  refine wpAnyH_take (i := 9) (oi := { dst := some 29, op := Op.pick (Operand.tmp 26) (Operand.tmp 28) (Operand.const (Value.bool false)), type := 4, pos := "law.go:16", after := #[{ on := 6, ground := Ground.data }, { on := 8, ground := Ground.data }], guard := none }) (v := ?v9x9) rfl (by kernel_rfl) (by kernel_rfl) (by kernel_rfl) (fun _ _ _ h => h) (Or.inl ⟨by rfl, ?hy9x9⟩) hHeld ?nx9x9
  case hy9x9 => (intro w hSw; (try dsimp only at hSw); go_simp; try with_reducible rfl)
  try simp only [Act.put, List.setIfInBounds_toArray, List.set_cons_zero, List.set_cons_succ]
  refine wpAnyH_take (i := 10) (oi := { dst := some 30, op := Op.move (Operand.tmp 29), type := 4, pos := "law.go:16", after := #[{ on := 9, ground := Ground.data }, { on := 6, ground := Ground.chain }], guard := none }) (v := ?v10x10) rfl (by kernel_rfl) (by kernel_rfl) (by kernel_rfl) (fun _ _ _ h => h) (Or.inl ⟨by rfl, ?hy10x10⟩) hHeld ?nx10x10
  case hy10x10 => (intro w hSw; (try dsimp only at hSw); go_simp; try with_reducible rfl)
  try simp only [Act.put, List.setIfInBounds_toArray, List.set_cons_zero, List.set_cons_succ]
  refine wpAnyH_take (i := 11) (oi := { dst := some 31, op := Op.move (Operand.tmp 6), type := 4, pos := "law.go:16", after := #[{ on := 10, ground := Ground.guard }], guard := some (10, true) }) (v := ?v11x11) rfl (by kernel_rfl) (by kernel_rfl) (by kernel_rfl) (fun _ _ _ h => h) (Or.inl ⟨by rfl, ?hy11x11⟩) hHeld ?nx11x11
  case hy11x11 => (intro w hSw; (try dsimp only at hSw); go_simp; try with_reducible rfl)
  try simp only [Act.put, List.setIfInBounds_toArray, List.set_cons_zero, List.set_cons_succ]
  refine wpAnyH_take (i := 12) (oi := { dst := some 32, op := Op.pick (Operand.tmp 30) (Operand.tmp 31) (Operand.const (Value.bool false)), type := 4, pos := "law.go:16", after := #[{ on := 10, ground := Ground.data }, { on := 11, ground := Ground.data }], guard := none }) (v := ?v12x12) rfl (by kernel_rfl) (by kernel_rfl) (by kernel_rfl) (fun _ _ _ h => h) (Or.inl ⟨by rfl, ?hy12x12⟩) hHeld ?nx12x12
  case hy12x12 => (intro w hSw; (try dsimp only at hSw); go_simp; try with_reducible rfl)
  try simp only [Act.put, List.setIfInBounds_toArray, List.set_cons_zero, List.set_cons_succ]
  refine wpAnyH_take (i := 13) (oi := { dst := some 33, op := Op.move (Operand.tmp 32), type := 4, pos := "law.go:16", after := #[{ on := 12, ground := Ground.data }, { on := 10, ground := Ground.chain }], guard := none }) (v := ?v13x13) rfl (by kernel_rfl) (by kernel_rfl) (by kernel_rfl) (fun _ _ _ h => h) (Or.inl ⟨by rfl, ?hy13x13⟩) hHeld ?nx13x13
  case hy13x13 => (intro w hSw; (try dsimp only at hSw); go_simp; try with_reducible rfl)
  try simp only [Act.put, List.setIfInBounds_toArray, List.set_cons_zero, List.set_cons_succ]
  refine wpAnyH_take (i := 14) (oi := { dst := some 34, op := Op.load 40 (Operand.tmp 5), type := 40, pos := "law.go:16", after := #[{ on := 13, ground := Ground.guard }], guard := some (13, true) }) (v := ?v14x14) rfl (by kernel_rfl) (by kernel_rfl) (by kernel_rfl) (fun _ _ _ h => h) (Or.inl ⟨by rfl, ?hy14x14⟩) hHeld ?nx14x14
  case hy14x14 => (intro w hSw; (try dsimp only at hSw); go_simp; try with_reducible rfl)
  try simp only [Act.put, List.setIfInBounds_toArray, List.set_cons_zero, List.set_cons_succ]
  refine wpAnyH_take (i := 15) (oi := { dst := some 35, op := Op.build 30 #[(0, Operand.const (Value.bool true))], type := 30, pos := "law.go:16", after := #[{ on := 13, ground := Ground.guard }], guard := some (13, true) }) (v := ?v15x15) rfl (by kernel_rfl) (by kernel_rfl) (by kernel_rfl) (fun _ _ _ h => h) (Or.inl ⟨by rfl, ?hy15x15⟩) hHeld ?nx15x15
  case hy15x15 => (intro w hSw; (try dsimp only at hSw); go_simp; try with_reducible rfl)
  try simp only [Act.put, List.setIfInBounds_toArray, List.set_cons_zero, List.set_cons_succ]
  refine wpAnyH_take (i := 16) (oi := { dst := some 36, op := Op.build 40 #[(0, Operand.tmp 35)], type := 40, pos := "law.go:16", after := #[{ on := 15, ground := Ground.data }, { on := 13, ground := Ground.guard }], guard := some (13, true) }) (v := ?v16x16) rfl (by kernel_rfl) (by kernel_rfl) (by kernel_rfl) (fun _ _ _ h => h) (Or.inl ⟨by rfl, ?hy16x16⟩) hHeld ?nx16x16
  case hy16x16 => (intro w hSw; (try dsimp only at hSw); go_simp; try with_reducible rfl)
  try simp only [Act.put, List.setIfInBounds_toArray, List.set_cons_zero, List.set_cons_succ]
  refine wpAnyH_take (i := 17) (oi := { dst := some 37, op := Op.binOp BinOp.eql 40 (Operand.tmp 34) (Operand.tmp 36) 40, type := 4, pos := "law.go:16", after := #[{ on := 14, ground := Ground.data }, { on := 16, ground := Ground.data }, { on := 13, ground := Ground.guard }], guard := some (13, true) }) (v := ?v17x17) rfl (by kernel_rfl) (by kernel_rfl) (by kernel_rfl) (fun _ _ _ h => h) (Or.inl ⟨by rfl, ?hy17x17⟩) hHeld ?nx17x17
  case hy17x17 => (intro w hSw; (try dsimp only at hSw); go_simp; try with_reducible rfl)
  try simp only [Act.put, List.setIfInBounds_toArray, List.set_cons_zero, List.set_cons_succ]
  refine wpAnyH_take (i := 18) (oi := { dst := some 38, op := Op.pick (Operand.tmp 33) (Operand.tmp 37) (Operand.const (Value.bool false)), type := 4, pos := "law.go:16", after := #[{ on := 13, ground := Ground.data }, { on := 17, ground := Ground.data }], guard := none }) (v := ?v18x18) rfl (by kernel_rfl) (by kernel_rfl) (by kernel_rfl) (fun _ _ _ h => h) (Or.inl ⟨by rfl, ?hy18x18⟩) hHeld ?nx18x18
  case hy18x18 => (intro w hSw; (try dsimp only at hSw); go_simp; try with_reducible rfl)
  try simp only [Act.put, List.setIfInBounds_toArray, List.set_cons_zero, List.set_cons_succ]
  refine wpAnyH_take (i := 19) (oi := { dst := some 39, op := Op.move (Operand.tmp 38), type := 4, pos := "law.go:16", after := #[{ on := 18, ground := Ground.data }, { on := 13, ground := Ground.chain }], guard := none }) (v := ?v19x19) rfl (by kernel_rfl) (by kernel_rfl) (by kernel_rfl) (fun _ _ _ h => h) (Or.inl ⟨by rfl, ?hy19x19⟩) hHeld ?nx19x19
  case hy19x19 => (intro w hSw; (try dsimp only at hSw); go_simp; try with_reducible rfl)
  try simp only [Act.put, List.setIfInBounds_toArray, List.set_cons_zero, List.set_cons_succ]
  refine wpAnyH_take (i := 20) (oi := { dst := some 40, op := Op.load 40 (Operand.tmp 5), type := 40, pos := "law.go:16", after := #[{ on := 19, ground := Ground.guard }], guard := some (19, true) }) (v := ?v20x20) rfl (by kernel_rfl) (by kernel_rfl) (by kernel_rfl) (fun _ _ _ h => h) (Or.inl ⟨by rfl, ?hy20x20⟩) hHeld ?nx20x20
  case hy20x20 => (intro w hSw; (try dsimp only at hSw); go_simp; try with_reducible rfl)
  try simp only [Act.put, List.setIfInBounds_toArray, List.set_cons_zero, List.set_cons_succ]
  refine wpAnyH_ready (rs := [21]) (by kernel_rfl) (by simp) ?_
  refine (AllReadyH.cons (o := { dst := some 41, op := Op.call { callee := Callee.value (Operand.func 63), args := #[Operand.const (Value.int IntKind.u8 1), Operand.const (Value.int IntKind.u8 2), Operand.const (Value.int IntKind.u8 3), Operand.const (Value.int IntKind.u8 4)], argTypes := #[5, 5, 5, 5] }, type := 30, pos := "law.go:16", after := #[{ on := 19, ground := Ground.chain }, { on := 19, ground := Ground.guard }], guard := some (19, true) }) rfl (fun K hK => ?_) AllReadyH.nil)
  go_simp
  go_at_call 63
  refine (at_prog HP.out (H42.out _)).mono ?_
  rintro e xx4 ⟨rfl, hx5⟩
  have gg6 := gg3.trans hx5
  have hS := HSS.out _ gg6
  clear hx5
  refine hK.out _ _ hS (fun hH2 => ?_)
  clear hK K hHeld
  have hHeld := hH2
  clear hH2 hS
  try simp only [Act.put, List.setIfInBounds_toArray, List.set_cons_zero, List.set_cons_succ]
  refine wpAnyH_ready (rs := [22]) (by kernel_rfl) (by simp) ?_
  refine (AllReadyH.cons (o := { dst := some 42, op := Op.call { callee := Callee.value (Operand.func 21), args := #[Operand.tmp 40, Operand.tmp 41], argTypes := #[40, 30] }, type := 4, pos := "law.go:16", after := #[{ on := 20, ground := Ground.data }, { on := 21, ground := Ground.data }, { on := 21, ground := Ground.chain }, { on := 19, ground := Ground.guard }], guard := some (19, true) }) rfl (fun K hK => ?_) AllReadyH.nil)
  go_simp
  go_at_call 21
  refine (at_prog HP.out (HC1.out _)).mono ?_
  rintro e xx7 ⟨rfl, hx8⟩
  have gg9 := gg6.trans hx8
  have hS := HSS.out _ gg9
  clear hx8
  refine hK.out _ _ hS (fun hH2 => ?_)
  clear hK K hHeld
  have hHeld := hH2
  clear hH2 hS
  try simp only [Act.put, List.setIfInBounds_toArray, List.set_cons_zero, List.set_cons_succ]
  refine wpAnyH_take (i := 23) (oi := { dst := some 43, op := Op.unOp UnOp.not 4 (Operand.tmp 42), type := 4, pos := "law.go:16", after := #[{ on := 22, ground := Ground.data }, { on := 19, ground := Ground.guard }], guard := some (19, true) }) (v := ?v23x21) rfl (by kernel_rfl) (by kernel_rfl) (by kernel_rfl) (fun _ _ _ h => h) (Or.inl ⟨by rfl, ?hy23x21⟩) hHeld ?nx23x21
  case hy23x21 => (intro w hSw; (try dsimp only at hSw); go_simp; try with_reducible rfl)
  try simp only [Act.put, List.setIfInBounds_toArray, List.set_cons_zero, List.set_cons_succ]
  refine wpAnyH_take (i := 24) (oi := { dst := some 44, op := Op.pick (Operand.tmp 39) (Operand.tmp 43) (Operand.const (Value.bool false)), type := 4, pos := "law.go:16", after := #[{ on := 19, ground := Ground.data }, { on := 23, ground := Ground.data }], guard := none }) (v := ?v24x22) rfl (by kernel_rfl) (by kernel_rfl) (by kernel_rfl) (fun _ _ _ h => h) (Or.inl ⟨by rfl, ?hy24x22⟩) hHeld ?nx24x22
  case hy24x22 => (intro w hSw; (try dsimp only at hSw); go_simp; try with_reducible rfl)
  try simp only [Act.put, List.setIfInBounds_toArray, List.set_cons_zero, List.set_cons_succ]
  refine wpAnyH_take (i := 25) (oi := { dst := some 45, op := Op.move (Operand.tmp 44), type := 4, pos := "law.go:16", after := #[{ on := 24, ground := Ground.data }, { on := 22, ground := Ground.chain }], guard := none }) (v := ?v25x23) rfl (by kernel_rfl) (by kernel_rfl) (by kernel_rfl) (fun _ _ _ h => h) (Or.inl ⟨by rfl, ?hy25x23⟩) hHeld ?nx25x23
  case hy25x23 => (intro w hSw; (try dsimp only at hSw); go_simp; try with_reducible rfl)
  try simp only [Act.put, List.setIfInBounds_toArray, List.set_cons_zero, List.set_cons_succ]
  refine wpAnyH_take (i := 26) (oi := { dst := some 46, op := Op.load 40 (Operand.tmp 1), type := 40, pos := "law.go:16", after := #[{ on := 25, ground := Ground.guard }], guard := some (25, true) }) (v := ?v26x24) rfl (by kernel_rfl) (by kernel_rfl) (by kernel_rfl) (fun _ _ _ h => h) (Or.inl ⟨by rfl, ?hy26x24⟩) hHeld ?nx26x24
  case hy26x24 => (intro w hSw; (try dsimp only at hSw); go_simp; try with_reducible rfl)
  try simp only [Act.put, List.setIfInBounds_toArray, List.set_cons_zero, List.set_cons_succ]
  refine wpAnyH_ready (rs := [27]) (by kernel_rfl) (by simp) ?_
  refine (AllReadyH.cons (o := { dst := some 47, op := Op.call { callee := Callee.value (Operand.func 63), args := #[Operand.const (Value.int IntKind.u8 10), Operand.const (Value.int IntKind.u8 9), Operand.const (Value.int IntKind.u8 9), Operand.const (Value.int IntKind.u8 9)], argTypes := #[5, 5, 5, 5] }, type := 30, pos := "law.go:16", after := #[{ on := 25, ground := Ground.chain }, { on := 25, ground := Ground.guard }], guard := some (25, true) }) rfl (fun K hK => ?_) AllReadyH.nil)
  go_simp
  go_at_call 63
  refine (at_prog HP.out (H43.out _)).mono ?_
  rintro e xx10 ⟨rfl, hx11⟩
  have gg12 := gg9.trans hx11
  have hS := HSS.out _ gg12
  clear hx11
  refine hK.out _ _ hS (fun hH2 => ?_)
  clear hK K hHeld
  have hHeld := hH2
  clear hH2 hS
  try simp only [Act.put, List.setIfInBounds_toArray, List.set_cons_zero, List.set_cons_succ]
  refine wpAnyH_ready (rs := [28]) (by kernel_rfl) (by simp) ?_
  refine (AllReadyH.cons (o := { dst := some 48, op := Op.call { callee := Callee.value (Operand.func 21), args := #[Operand.tmp 46, Operand.tmp 47], argTypes := #[40, 30] }, type := 4, pos := "law.go:16", after := #[{ on := 26, ground := Ground.data }, { on := 27, ground := Ground.data }, { on := 27, ground := Ground.chain }, { on := 25, ground := Ground.guard }], guard := some (25, true) }) rfl (fun K hK => ?_) AllReadyH.nil)
  go_simp
  go_at_call 21
  refine (at_prog HP.out (HC2.out _)).mono ?_
  rintro e xx13 ⟨rfl, hx14⟩
  have gg15 := gg12.trans hx14
  have hS := HSS.out _ gg15
  clear hx14
  refine hK.out _ _ hS (fun hH2 => ?_)
  clear hK K hHeld
  have hHeld := hH2
  clear hH2 hS
  try simp only [Act.put, List.setIfInBounds_toArray, List.set_cons_zero, List.set_cons_succ]
  refine wpAnyH_take (i := 29) (oi := { dst := some 49, op := Op.pick (Operand.tmp 45) (Operand.tmp 48) (Operand.const (Value.bool false)), type := 4, pos := "law.go:16", after := #[{ on := 25, ground := Ground.data }, { on := 28, ground := Ground.data }], guard := none }) (v := ?v29x25) rfl (by kernel_rfl) (by kernel_rfl) (by kernel_rfl) (fun _ _ _ h => h) (Or.inl ⟨by rfl, ?hy29x25⟩) hHeld ?nx29x25
  case hy29x25 => (intro w hSw; (try dsimp only at hSw); go_simp; try with_reducible rfl)
  try simp only [Act.put, List.setIfInBounds_toArray, List.set_cons_zero, List.set_cons_succ]
  refine wpAnyH_take (i := 30) (oi := { dst := some 50, op := Op.move (Operand.tmp 49), type := 4, pos := "law.go:16", after := #[{ on := 29, ground := Ground.data }, { on := 28, ground := Ground.chain }], guard := none }) (v := ?v30x26) rfl (by kernel_rfl) (by kernel_rfl) (by kernel_rfl) (fun _ _ _ h => h) (Or.inl ⟨by rfl, ?hy30x26⟩) hHeld ?nx30x26
  case hy30x26 => (intro w hSw; (try dsimp only at hSw); go_simp; try with_reducible rfl)
  try simp only [Act.put, List.setIfInBounds_toArray, List.set_cons_zero, List.set_cons_succ]
  refine wpAnyH_take (i := 31) (oi := { dst := some 51, op := Op.load 40 (Operand.tmp 1), type := 40, pos := "law.go:16", after := #[{ on := 30, ground := Ground.guard }], guard := some (30, true) }) (v := ?v31x27) rfl (by kernel_rfl) (by kernel_rfl) (by kernel_rfl) (fun _ _ _ h => h) (Or.inl ⟨by rfl, ?hy31x27⟩) hHeld ?nx31x27
  case hy31x27 => (intro w hSw; (try dsimp only at hSw); go_simp; try with_reducible rfl)
  try simp only [Act.put, List.setIfInBounds_toArray, List.set_cons_zero, List.set_cons_succ]
  refine wpAnyH_ready (rs := [32]) (by kernel_rfl) (by simp) ?_
  refine (AllReadyH.cons (o := { dst := some 52, op := Op.call { callee := Callee.value (Operand.func 19), args := #[Operand.tmp 51], argTypes := #[40] }, type := 4, pos := "law.go:16", after := #[{ on := 31, ground := Ground.data }, { on := 30, ground := Ground.chain }, { on := 30, ground := Ground.guard }], guard := some (30, true) }) rfl (fun K hK => ?_) AllReadyH.nil)
  go_simp
  go_at_call 19
  refine (at_prog HP.out (HVL.out _)).mono ?_
  rintro e xx16 ⟨rfl, hx17⟩
  have gg18 := gg15.trans hx17
  have hS := HSS.out _ gg18
  clear hx17
  refine hK.out _ _ hS (fun hH2 => ?_)
  clear hK K hHeld
  have hHeld := hH2
  clear hH2 hS
  try simp only [Act.put, List.setIfInBounds_toArray, List.set_cons_zero, List.set_cons_succ]
  refine wpAnyH_take (i := 33) (oi := { dst := some 53, op := Op.pick (Operand.tmp 50) (Operand.tmp 52) (Operand.const (Value.bool false)), type := 4, pos := "law.go:16", after := #[{ on := 30, ground := Ground.data }, { on := 32, ground := Ground.data }], guard := none }) (v := ?v33x28) rfl (by kernel_rfl) (by kernel_rfl) (by kernel_rfl) (fun _ _ _ h => h) (Or.inl ⟨by rfl, ?hy33x28⟩) hHeld ?nx33x28
  case hy33x28 => (intro w hSw; (try dsimp only at hSw); go_simp; try with_reducible rfl)
  try simp only [Act.put, List.setIfInBounds_toArray, List.set_cons_zero, List.set_cons_succ]
  refine wpAnyH_take (i := 34) (oi := { dst := some 54, op := Op.move (Operand.tmp 53), type := 4, pos := "law.go:16", after := #[{ on := 33, ground := Ground.data }, { on := 32, ground := Ground.chain }], guard := none }) (v := ?v34x29) rfl (by kernel_rfl) (by kernel_rfl) (by kernel_rfl) (fun _ _ _ h => h) (Or.inl ⟨by rfl, ?hy34x29⟩) hHeld ?nx34x29
  case hy34x29 => (intro w hSw; (try dsimp only at hSw); go_simp; try with_reducible rfl)
  try simp only [Act.put, List.setIfInBounds_toArray, List.set_cons_zero, List.set_cons_succ]
  refine wpAnyH_take (i := 35) (oi := { dst := some 55, op := Op.load 40 (Operand.tmp 1), type := 40, pos := "law.go:16", after := #[{ on := 34, ground := Ground.guard }], guard := some (34, true) }) (v := ?v35x30) rfl (by kernel_rfl) (by kernel_rfl) (by kernel_rfl) (fun _ _ _ h => h) (Or.inl ⟨by rfl, ?hy35x30⟩) hHeld ?nx35x30
  case hy35x30 => (intro w hSw; (try dsimp only at hSw); go_simp; try with_reducible rfl)
  try simp only [Act.put, List.setIfInBounds_toArray, List.set_cons_zero, List.set_cons_succ]
  refine wpAnyH_take (i := 36) (oi := { dst := some 56, op := Op.load 40 (Operand.tmp 5), type := 40, pos := "law.go:16", after := #[{ on := 34, ground := Ground.guard }], guard := some (34, true) }) (v := ?v36x31) rfl (by kernel_rfl) (by kernel_rfl) (by kernel_rfl) (fun _ _ _ h => h) (Or.inl ⟨by rfl, ?hy36x31⟩) hHeld ?nx36x31
  case hy36x31 => (intro w hSw; (try dsimp only at hSw); go_simp; try with_reducible rfl)
  try simp only [Act.put, List.setIfInBounds_toArray, List.set_cons_zero, List.set_cons_succ]
  refine wpAnyH_ready (rs := [37]) (by kernel_rfl) (by simp) ?_
  refine (AllReadyH.cons (o := { dst := some 57, op := Op.call { callee := Callee.value (Operand.func 25), args := #[Operand.tmp 55, Operand.tmp 56], argTypes := #[40, 40] }, type := 3, pos := "law.go:16", after := #[{ on := 35, ground := Ground.data }, { on := 36, ground := Ground.data }, { on := 34, ground := Ground.chain }, { on := 34, ground := Ground.guard }], guard := some (34, true) }) rfl (fun K hK => ?_) AllReadyH.nil)
  go_simp
  go_at_call 25
  refine (at_prog HP.out (HCM.out _)).mono ?_
  rintro e xx19 ⟨rfl, hx20⟩
  have gg21 := gg18.trans hx20
  have hS := HSS.out _ gg21
  clear hx20
  refine hK.out _ _ hS (fun hH2 => ?_)
  clear hK K hHeld
  have hHeld := hH2
  clear hH2 hS
  try simp only [Act.put, List.setIfInBounds_toArray, List.set_cons_zero, List.set_cons_succ]
  refine wpAnyH_take (i := 38) (oi := { dst := some 58, op := Op.binOp BinOp.eql 3 (Operand.tmp 57) (Operand.const (Value.int IntKind.i64 (-1))) 3, type := 4, pos := "law.go:16", after := #[{ on := 37, ground := Ground.data }, { on := 34, ground := Ground.guard }], guard := some (34, true) }) (v := ?v38x32) rfl (by kernel_rfl) (by kernel_rfl) (by kernel_rfl) (fun _ _ _ h => h) (Or.inl ⟨by rfl, ?hy38x32⟩) hHeld ?nx38x32
  case hy38x32 => (intro w hSw; (try dsimp only at hSw); go_simp; try with_reducible rfl)
  try simp only [Act.put, List.setIfInBounds_toArray, List.set_cons_zero, List.set_cons_succ]
  refine wpAnyH_take (i := 39) (oi := { dst := some 59, op := Op.pick (Operand.tmp 54) (Operand.tmp 58) (Operand.const (Value.bool false)), type := 4, pos := "law.go:16", after := #[{ on := 34, ground := Ground.data }, { on := 38, ground := Ground.data }], guard := none }) (v := ?v39x33) rfl (by kernel_rfl) (by kernel_rfl) (by kernel_rfl) (fun _ _ _ h => h) (Or.inl ⟨by rfl, ?hy39x33⟩) hHeld ?nx39x33
  case hy39x33 => (intro w hSw; (try dsimp only at hSw); go_simp; try with_reducible rfl)
  try simp only [Act.put, List.setIfInBounds_toArray, List.set_cons_zero, List.set_cons_succ]
  refine wpAnyH_take (i := 40) (oi := { dst := some 60, op := Op.move (Operand.tmp 59), type := 4, pos := "law.go:16", after := #[{ on := 39, ground := Ground.data }, { on := 37, ground := Ground.chain }], guard := none }) (v := ?v40x34) rfl (by kernel_rfl) (by kernel_rfl) (by kernel_rfl) (fun _ _ _ h => h) (Or.inl ⟨by rfl, ?hy40x34⟩) hHeld ?nx40x34
  case hy40x34 => (intro w hSw; (try dsimp only at hSw); go_simp; try with_reducible rfl)
  try simp only [Act.put, List.setIfInBounds_toArray, List.set_cons_zero, List.set_cons_succ]
  refine wpAnyH_take (i := 41) (oi := { dst := some 61, op := Op.load 40 (Operand.tmp 1), type := 40, pos := "law.go:16", after := #[{ on := 40, ground := Ground.guard }], guard := some (40, true) }) (v := ?v41x35) rfl (by kernel_rfl) (by kernel_rfl) (by kernel_rfl) (fun _ _ _ h => h) (Or.inl ⟨by rfl, ?hy41x35⟩) hHeld ?nx41x35
  case hy41x35 => (intro w hSw; (try dsimp only at hSw); go_simp; try with_reducible rfl)
  try simp only [Act.put, List.setIfInBounds_toArray, List.set_cons_zero, List.set_cons_succ]
  refine wpAnyH_take (i := 42) (oi := { dst := some 62, op := Op.load 40 (Operand.tmp 1), type := 40, pos := "law.go:16", after := #[{ on := 40, ground := Ground.guard }], guard := some (40, true) }) (v := ?v42x36) rfl (by kernel_rfl) (by kernel_rfl) (by kernel_rfl) (fun _ _ _ h => h) (Or.inl ⟨by rfl, ?hy42x36⟩) hHeld ?nx42x36
  case hy42x36 => (intro w hSw; (try dsimp only at hSw); go_simp; try with_reducible rfl)
  try simp only [Act.put, List.setIfInBounds_toArray, List.set_cons_zero, List.set_cons_succ]
  refine wpAnyH_ready (rs := [43]) (by kernel_rfl) (by simp) ?_
  refine (AllReadyH.cons (o := { dst := some 63, op := Op.call { callee := Callee.value (Operand.func 23), args := #[Operand.tmp 61, Operand.tmp 62], argTypes := #[40, 40] }, type := 4, pos := "law.go:16", after := #[{ on := 41, ground := Ground.data }, { on := 42, ground := Ground.data }, { on := 40, ground := Ground.chain }, { on := 40, ground := Ground.guard }], guard := some (40, true) }) rfl (fun K hK => ?_) AllReadyH.nil)
  go_simp
  go_at_call 23
  refine (at_prog HP.out (HCV.out _)).mono ?_
  rintro e xx22 ⟨rfl, hx23⟩
  have gg24 := gg21.trans hx23
  have hS := HSS.out _ gg24
  clear hx23
  refine hK.out _ _ hS (fun hH2 => ?_)
  clear hK K hHeld
  have hHeld := hH2
  clear hH2 hS
  try simp only [Act.put, List.setIfInBounds_toArray, List.set_cons_zero, List.set_cons_succ]
  refine wpAnyH_take (i := 44) (oi := { dst := some 64, op := Op.pick (Operand.tmp 60) (Operand.tmp 63) (Operand.const (Value.bool false)), type := 4, pos := "law.go:16", after := #[{ on := 40, ground := Ground.data }, { on := 43, ground := Ground.data }], guard := none }) (v := ?v44x37) rfl (by kernel_rfl) (by kernel_rfl) (by kernel_rfl) (fun _ _ _ h => h) (Or.inl ⟨by rfl, ?hy44x37⟩) hHeld ?nx44x37
  case hy44x37 => (intro w hSw; (try dsimp only at hSw); go_simp; try with_reducible rfl)
  try simp only [Act.put, List.setIfInBounds_toArray, List.set_cons_zero, List.set_cons_succ]
  refine wpAnyH_take (i := 45) (oi := { dst := some 0, op := Op.assign (Operand.tmp 64), type := 4, pos := "law.go:16", after := #[{ on := 44, ground := Ground.data }, { on := 43, ground := Ground.chain }, { on := 0, ground := Ground.phase }, { on := 1, ground := Ground.phase }, { on := 2, ground := Ground.phase }, { on := 3, ground := Ground.phase }, { on := 4, ground := Ground.phase }, { on := 5, ground := Ground.phase }, { on := 6, ground := Ground.phase }, { on := 7, ground := Ground.phase }, { on := 8, ground := Ground.phase }, { on := 9, ground := Ground.phase }, { on := 10, ground := Ground.phase }, { on := 11, ground := Ground.phase }, { on := 12, ground := Ground.phase }, { on := 13, ground := Ground.phase }, { on := 14, ground := Ground.phase }, { on := 15, ground := Ground.phase }, { on := 16, ground := Ground.phase }, { on := 17, ground := Ground.phase }, { on := 18, ground := Ground.phase }, { on := 19, ground := Ground.phase }, { on := 20, ground := Ground.phase }, { on := 21, ground := Ground.phase }, { on := 22, ground := Ground.phase }, { on := 23, ground := Ground.phase }, { on := 24, ground := Ground.phase }, { on := 25, ground := Ground.phase }, { on := 26, ground := Ground.phase }, { on := 27, ground := Ground.phase }, { on := 28, ground := Ground.phase }, { on := 29, ground := Ground.phase }, { on := 30, ground := Ground.phase }, { on := 31, ground := Ground.phase }, { on := 32, ground := Ground.phase }, { on := 33, ground := Ground.phase }, { on := 34, ground := Ground.phase }, { on := 35, ground := Ground.phase }, { on := 36, ground := Ground.phase }, { on := 37, ground := Ground.phase }, { on := 38, ground := Ground.phase }, { on := 39, ground := Ground.phase }, { on := 40, ground := Ground.phase }, { on := 41, ground := Ground.phase }, { on := 42, ground := Ground.phase }, { on := 43, ground := Ground.phase }, { on := 44, ground := Ground.phase }], guard := none }) (v := ?v45x38) rfl (by kernel_rfl) (by kernel_rfl) (by kernel_rfl) (fun _ _ _ h => h) (Or.inl ⟨by rfl, ?hy45x38⟩) hHeld ?nx45x38
  case hy45x38 => (intro w hSw; (try dsimp only at hSw); go_simp; try with_reducible rfl)
  try simp only [Act.put, List.setIfInBounds_toArray, List.set_cons_zero]
  refine wpAnyH_done (by kernel_rfl) ?_ _
  refine NoPanic.normal ?_
  go_wp2_with fail
  go_ret
  exact ⟨rfl, HB3.out.1.trans gg24⟩
end Go.Proofs.YtmhnailcmlomiaaGreatDoor
