/-
  CONTRACTS of package acl's isName, applies and ValidRule and of the reference's ValidRule, over this seat's translation: what each call returns.
  Conditions: the rule's prefix is of bytes.
-/
import Derived.Test.YtnadendhboiliaaGreatRa
import Derived.Test.YtnadendhboiliaaGreatHp
import Derived.Test.YtnadendhboiliaaGreatMb
import Derived.Test.YtnadendhboiliaaGreatMc
namespace Go.Proofs.YtnadendhboiliaaGreat
open Go.ChangeShapes Go.WideShapes Go.ChangeAt Go.RowKit
set_option linter.unusedVariables false

theorem cntV_pos (a : List UInt8) : decide ((0 : Int) < (cntV a : Nat)) = nameV a := by
  unfold cntV
  cases nameV a with
  | false => rfl
  | true =>
    rw [if_pos rfl, splitc_count]
    exact decide_eq_true (by omega)
set_option maxHeartbeats 1000000 in
set_option maxRecDepth 100000 in
theorem isn_any (a : List UInt8) (w : World) : Calls Tryz.prog 34 #[.string (bs a)] w fun e w' => e = .returned (.bool (nameV a)) ∧ w' = w := by
  have HC := Lib.hid (cnt_any a)
  have HV := Lib.hid (cntV_pos a)
  generalize ((cntV a : Nat) : Int) = n at HC HV
  generalize bs a = s at HC ⊢
  go_enter Tryz.func34, Tryz.ntmps34
  go_wp2_with (first | (go_at_call 50; with_reducible refine (HC.out _).mono ?_; rintro e w3 ⟨rfl, rfl⟩) | fail)
  go_ret
  refine ⟨?_, rfl⟩
  rw [← HV.out]
  rfl
/-- A rule in a box. -/
theorem ru_box (r : Ru) (h : Bytes r.p.xs) {R : Array Value} (hR : (ruC r).toArray = R) (w : World) (g : Nat) (f : Nat × Nat) (hg : w.heap[g]? = some (.cells R 31 f)) : w.cell? ⟨g, 0, none⟩ = some (.bool r.al) ∧ w.cell? ⟨g, 1, none⟩ = some (.string (bs r.sf)) ∧ w.cell? ⟨g, 19, none⟩ = some (.int .i64 r.p.n) ∧ w.cell? ⟨g, 20, none⟩ = some (.int .i64 r.lo) ∧ w.cell? ⟨g, 21, none⟩ = some (.int .i64 r.hi) := by
  subst hR
  refine ⟨cell_of hg rfl, cell_of hg rfl, cell_of hg ?_, cell_of hg ?_, cell_of hg ?_⟩
  · rw [List.getElem?_toArray]; exact ruC_n h
  · rw [List.getElem?_toArray]; exact ruC_lo h
  · rw [List.getElem?_toArray]; exact ruC_hi h
set_option maxHeartbeats 1000000 in
set_option maxRecDepth 100000 in
theorem applies_any (r : Ru) (h : Bytes r.p.xs) (port : Int) (w : World) : Calls Tryz.prog 49 #[.agg (ruC r).toArray, .int .i64 port] w fun e w' => e = .returned (.bool (apl r port)) ∧ Fr No w w' := by
  obtain ⟨R, hR, hRs, -⟩ := ru_letter r h
  obtain ⟨-, -, -, c20, c21⟩ := ru_box r h hR _ _ _ (heap_alloc_new w (.cells R 31))
  have hF := Fr.alloc No w (.cells R 31)
  rw [hR]
  clear hR
  have HV : Hid (apl r port = (decide (r.lo ≤ port) && decide (port ≤ r.hi))) := rfl
  by_cases h1 : r.lo ≤ port
  · have HV2 : Hid (apl r port = decide (port ≤ r.hi)) := by show _ = _; rw [HV.out, decide_eq_true h1]; rfl
    generalize r.lo = lo at c20 h1
    generalize r.hi = hi at c21 HV2
    clear HV
    go_enter Tryz.func49, Tryz.ntmps49
    have t3 := Tryz.underlying3
    have u3 := Tryz.runUnderlying3
    have g3 := Tryz.isAgg3
    have z3 := Tryz.sizeOf3
    have t4 := Tryz.underlying4
    have u4 := Tryz.runUnderlying4
    have g4 := Tryz.isAgg4
    have z4 := Tryz.sizeOf4
    have t31 := Tryz.underlying31
    have u31 := Tryz.runUnderlying31
    have g31 := Tryz.isAgg31
    have z31 := Tryz.sizeOf31
    have mixed : Tryz.prog.follows .mixedOrders = true := by kernel_rfl
    obtain ⟨k22, hk22⟩ : ∃ k, k = 22 := ⟨_, rfl⟩
    rw [← hk22] at z31
    have nk22 : ¬ k22 = 0 := by omega
    have HK31 := Lib.hid hk22
    have hP : Tryz.prog = PD := rfl
    rw [hP] at t3 u3 g3 z3 t4 u4 g4 z4 t31 u31 g31 z31 mixed ⊢
    have HP := Lib.hid hP.symm
    clear hP hk22
    have hRk : R.size = k22 := by rw [HK31.out]; exact hRs
    go_wp2_with fail
    go_ret
    exact ⟨by rw [HV2.out]; try rfl, hF⟩
  · have HV2 : Hid (apl r port = false) := by show _ = _; rw [HV.out, decide_eq_false h1]; rfl
    generalize r.lo = lo at c20 h1
    generalize r.hi = hi at c21
    clear HV
    go_enter Tryz.func49, Tryz.ntmps49
    have t3 := Tryz.underlying3
    have u3 := Tryz.runUnderlying3
    have g3 := Tryz.isAgg3
    have z3 := Tryz.sizeOf3
    have t4 := Tryz.underlying4
    have u4 := Tryz.runUnderlying4
    have g4 := Tryz.isAgg4
    have z4 := Tryz.sizeOf4
    have t31 := Tryz.underlying31
    have u31 := Tryz.runUnderlying31
    have g31 := Tryz.isAgg31
    have z31 := Tryz.sizeOf31
    have mixed : Tryz.prog.follows .mixedOrders = true := by kernel_rfl
    obtain ⟨k22, hk22⟩ : ∃ k, k = 22 := ⟨_, rfl⟩
    rw [← hk22] at z31
    have nk22 : ¬ k22 = 0 := by omega
    have HK31 := Lib.hid hk22
    have hP : Tryz.prog = PD := rfl
    rw [hP] at t3 u3 g3 z3 t4 u4 g4 z4 t31 u31 g31 z31 mixed ⊢
    have HP := Lib.hid hP.symm
    clear hP hk22
    have hRk : R.size = k22 := by rw [HK31.out]; exact hRs
    go_wp2_with fail
    go_ret
    exact ⟨by rw [HV2.out]; try rfl, hF⟩
set_option maxHeartbeats 4000000 in
set_option maxRecDepth 100000 in
theorem vr_any (r : Ru) (h : Bytes r.p.xs) (w : World) : Calls Tryz.prog 20 #[.agg (ruC r).toArray] w fun e w' => e = .returned (.bool (vR r)) ∧ Fr No w w' := by
  obtain ⟨R, hR, hRs, -, -, -, -, -, hRP, -⟩ := ru_letter r h
  have hg := heap_alloc_new w (.cells R 31)
  obtain ⟨-, c1, -, c20, c21⟩ := ru_box r h hR _ _ _ hg
  have hF := Fr.alloc No w (.cells R 31)
  rw [hR]
  clear hR
  by_cases h1 : r.lo < 0
  · have HV : Hid (vR r = false) := by show _ = _; unfold vR; rw [decide_eq_false (by omega : ¬ 0 ≤ r.lo)]; rfl
    generalize r.lo = lo at c20 h1
    generalize r.hi = hi at c21
    clear hRP hg
    go_enter Tryz.func20, Tryz.ntmps20
    have t3 := Tryz.underlying3
    have u3 := Tryz.runUnderlying3
    have g3 := Tryz.isAgg3
    have z3 := Tryz.sizeOf3
    have t4 := Tryz.underlying4
    have u4 := Tryz.runUnderlying4
    have g4 := Tryz.isAgg4
    have z4 := Tryz.sizeOf4
    have t9 := Tryz.underlying9
    have u9 := Tryz.runUnderlying9
    have g9 := Tryz.isAgg9
    have z9 := Tryz.sizeOf9
    have t25 := Tryz.underlying25
    have u25 := Tryz.runUnderlying25
    have g25 := Tryz.isAgg25
    have z25 := Tryz.sizeOf25
    have t29 := Tryz.underlying29
    have u29 := Tryz.runUnderlying29
    have g29 := Tryz.isAgg29
    have z29 := Tryz.sizeOf29
    have t31 := Tryz.underlying31
    have u31 := Tryz.runUnderlying31
    have g31 := Tryz.isAgg31
    have z31 := Tryz.sizeOf31
    have c38 := Tryz.call38
    have c34 := Tryz.call34
    have mixed : Tryz.prog.follows .mixedOrders = true := by kernel_rfl
    obtain ⟨k24, hk24⟩ : ∃ k, k = 17 := ⟨_, rfl⟩
    rw [← hk24] at z25
    have nk24 : ¬ k24 = 0 := by omega
    have HK25 := Lib.hid hk24
    obtain ⟨k40, hk40⟩ : ∃ k, k = 18 := ⟨_, rfl⟩
    rw [← hk40] at z29
    have nk40 : ¬ k40 = 0 := by omega
    have HK29 := Lib.hid hk40
    obtain ⟨k22, hk22⟩ : ∃ k, k = 22 := ⟨_, rfl⟩
    rw [← hk22] at z31
    have nk22 : ¬ k22 = 0 := by omega
    have HK31 := Lib.hid hk22
    have hP : Tryz.prog = PD := rfl
    rw [hP] at t3 u3 g3 z3 t4 u4 g4 z4 t9 u9 g9 z9 t25 u25 g25 z25 t29 u29 g29 z29 t31 u31 g31 z31 c38 c34 mixed ⊢
    have HP := Lib.hid hP.symm
    clear hP hk24 hk40 hk22
    have hRk : R.size = k22 := by rw [HK31.out]; exact hRs
    go_wp2_with fail
    go_ret
    exact ⟨by rw [HV.out]; try rfl, hF⟩
  by_cases h2 : r.hi < r.lo
  · have HV : Hid (vR r = false) := by show _ = _; unfold vR; rw [decide_eq_false (by omega : ¬ r.lo ≤ r.hi)]; simp
    generalize r.lo = lo at c20 h1 h2
    generalize r.hi = hi at c21 h2
    clear hRP hg
    go_enter Tryz.func20, Tryz.ntmps20
    have t3 := Tryz.underlying3
    have u3 := Tryz.runUnderlying3
    have g3 := Tryz.isAgg3
    have z3 := Tryz.sizeOf3
    have t4 := Tryz.underlying4
    have u4 := Tryz.runUnderlying4
    have g4 := Tryz.isAgg4
    have z4 := Tryz.sizeOf4
    have t9 := Tryz.underlying9
    have u9 := Tryz.runUnderlying9
    have g9 := Tryz.isAgg9
    have z9 := Tryz.sizeOf9
    have t25 := Tryz.underlying25
    have u25 := Tryz.runUnderlying25
    have g25 := Tryz.isAgg25
    have z25 := Tryz.sizeOf25
    have t29 := Tryz.underlying29
    have u29 := Tryz.runUnderlying29
    have g29 := Tryz.isAgg29
    have z29 := Tryz.sizeOf29
    have t31 := Tryz.underlying31
    have u31 := Tryz.runUnderlying31
    have g31 := Tryz.isAgg31
    have z31 := Tryz.sizeOf31
    have c38 := Tryz.call38
    have c34 := Tryz.call34
    have mixed : Tryz.prog.follows .mixedOrders = true := by kernel_rfl
    obtain ⟨k24, hk24⟩ : ∃ k, k = 17 := ⟨_, rfl⟩
    rw [← hk24] at z25
    have nk24 : ¬ k24 = 0 := by omega
    have HK25 := Lib.hid hk24
    obtain ⟨k40, hk40⟩ : ∃ k, k = 18 := ⟨_, rfl⟩
    rw [← hk40] at z29
    have nk40 : ¬ k40 = 0 := by omega
    have HK29 := Lib.hid hk40
    obtain ⟨k22, hk22⟩ : ∃ k, k = 22 := ⟨_, rfl⟩
    rw [← hk22] at z31
    have nk22 : ¬ k22 = 0 := by omega
    have HK31 := Lib.hid hk22
    have hP : Tryz.prog = PD := rfl
    rw [hP] at t3 u3 g3 z3 t4 u4 g4 z4 t9 u9 g9 z9 t25 u25 g25 z25 t29 u29 g29 z29 t31 u31 g31 z31 c38 c34 mixed ⊢
    have HP := Lib.hid hP.symm
    clear hP hk24 hk40 hk22
    have hRk : R.size = k22 := by rw [HK31.out]; exact hRs
    go_wp2_with fail
    go_ret
    exact ⟨by rw [HV.out]; try rfl, hF⟩
  by_cases h3 : 65535 < r.hi
  · have HV : Hid (vR r = false) := by show _ = _; unfold vR; rw [decide_eq_false (by omega : ¬ r.hi ≤ 65535)]; simp
    generalize r.lo = lo at c20 h1 h2
    generalize r.hi = hi at c21 h2 h3
    clear hRP hg
    go_enter Tryz.func20, Tryz.ntmps20
    have t3 := Tryz.underlying3
    have u3 := Tryz.runUnderlying3
    have g3 := Tryz.isAgg3
    have z3 := Tryz.sizeOf3
    have t4 := Tryz.underlying4
    have u4 := Tryz.runUnderlying4
    have g4 := Tryz.isAgg4
    have z4 := Tryz.sizeOf4
    have t9 := Tryz.underlying9
    have u9 := Tryz.runUnderlying9
    have g9 := Tryz.isAgg9
    have z9 := Tryz.sizeOf9
    have t25 := Tryz.underlying25
    have u25 := Tryz.runUnderlying25
    have g25 := Tryz.isAgg25
    have z25 := Tryz.sizeOf25
    have t29 := Tryz.underlying29
    have u29 := Tryz.runUnderlying29
    have g29 := Tryz.isAgg29
    have z29 := Tryz.sizeOf29
    have t31 := Tryz.underlying31
    have u31 := Tryz.runUnderlying31
    have g31 := Tryz.isAgg31
    have z31 := Tryz.sizeOf31
    have c38 := Tryz.call38
    have c34 := Tryz.call34
    have mixed : Tryz.prog.follows .mixedOrders = true := by kernel_rfl
    obtain ⟨k24, hk24⟩ : ∃ k, k = 17 := ⟨_, rfl⟩
    rw [← hk24] at z25
    have nk24 : ¬ k24 = 0 := by omega
    have HK25 := Lib.hid hk24
    obtain ⟨k40, hk40⟩ : ∃ k, k = 18 := ⟨_, rfl⟩
    rw [← hk40] at z29
    have nk40 : ¬ k40 = 0 := by omega
    have HK29 := Lib.hid hk40
    obtain ⟨k22, hk22⟩ : ∃ k, k = 22 := ⟨_, rfl⟩
    rw [← hk22] at z31
    have nk22 : ¬ k22 = 0 := by omega
    have HK31 := Lib.hid hk22
    have hP : Tryz.prog = PD := rfl
    rw [hP] at t3 u3 g3 z3 t4 u4 g4 z4 t9 u9 g9 z9 t25 u25 g25 z25 t29 u29 g29 z29 t31 u31 g31 z31 c38 c34 mixed ⊢
    have HP := Lib.hid hP.symm
    clear hP hk24 hk40 hk22
    have hRk : R.size = k22 := by rw [HK31.out]; exact hRs
    go_wp2_with fail
    go_ret
    exact ⟨by rw [HV.out]; try rfl, hF⟩
  have HV : Hid (vR r = (if r.sf = [] then validP r.p.b r.p.xs r.p.n else nameV r.sf && decide (r.p = zP))) := by show _ = _; unfold vR; rw [decide_eq_true (by omega : 0 ≤ r.lo), decide_eq_true (by omega : r.lo ≤ r.hi), decide_eq_true (by omega : r.hi ≤ 65535)]; rfl
  generalize r.lo = lo at c20 h1 h2
  generalize r.hi = hi at c21 h2 h3
  obtain ⟨P, hP, -, -, hPs, -, -⟩ := pfx_letter r.p.b r.p.xs r.p.n h
  rw [hP] at hRP
  have HL0 : Hid (∀ w', Fr No (w.alloc (.cells R 31)) w' → Sem.run Tryz.prog (loadCellsFrom ⟨w.heap.size, 2, none⟩ 0 18 #[]) w' = .ok P w') := fun w' hf => load_block (hf.keep hg) hPs hRP
  clear hg hRP
  have hemp := bs_empty r.sf
  by_cases h4 : r.sf = []
  · have HV2 : Hid (vR r = validP r.p.b r.p.xs r.p.n) := by show _ = _; rw [HV.out, if_pos h4]
    have HVP : Hid (∀ w', Calls Tryz.prog 38 #[.agg P] w' fun e w'' => e = .returned (.bool (validP r.p.b r.p.xs r.p.n)) ∧ Fr No w' w'') := fun w' => by rw [← hP]; exact validp_any r.p.b r.p.xs r.p.n h w'
    rw [decide_eq_true h4] at hemp
    generalize bs r.sf = s at c1 hemp
    generalize validP r.p.b r.p.xs r.p.n = bv at HV2 HVP
    clear HV h4
    go_enter Tryz.func20, Tryz.ntmps20
    have t3 := Tryz.underlying3
    have u3 := Tryz.runUnderlying3
    have g3 := Tryz.isAgg3
    have z3 := Tryz.sizeOf3
    have t4 := Tryz.underlying4
    have u4 := Tryz.runUnderlying4
    have g4 := Tryz.isAgg4
    have z4 := Tryz.sizeOf4
    have t9 := Tryz.underlying9
    have u9 := Tryz.runUnderlying9
    have g9 := Tryz.isAgg9
    have z9 := Tryz.sizeOf9
    have t25 := Tryz.underlying25
    have u25 := Tryz.runUnderlying25
    have g25 := Tryz.isAgg25
    have z25 := Tryz.sizeOf25
    have t29 := Tryz.underlying29
    have u29 := Tryz.runUnderlying29
    have g29 := Tryz.isAgg29
    have z29 := Tryz.sizeOf29
    have t31 := Tryz.underlying31
    have u31 := Tryz.runUnderlying31
    have g31 := Tryz.isAgg31
    have z31 := Tryz.sizeOf31
    have c38 := Tryz.call38
    have c34 := Tryz.call34
    have mixed : Tryz.prog.follows .mixedOrders = true := by kernel_rfl
    obtain ⟨k24, hk24⟩ : ∃ k, k = 17 := ⟨_, rfl⟩
    rw [← hk24] at z25
    have nk24 : ¬ k24 = 0 := by omega
    have HK25 := Lib.hid hk24
    obtain ⟨k40, hk40⟩ : ∃ k, k = 18 := ⟨_, rfl⟩
    rw [← hk40] at z29
    have nk40 : ¬ k40 = 0 := by omega
    have HK29 := Lib.hid hk40
    obtain ⟨k22, hk22⟩ : ∃ k, k = 22 := ⟨_, rfl⟩
    rw [← hk22] at z31
    have nk22 : ¬ k22 = 0 := by omega
    have HK31 := Lib.hid hk22
    have hP : Tryz.prog = PD := rfl
    rw [hP] at t3 u3 g3 z3 t4 u4 g4 z4 t9 u9 g9 z9 t25 u25 g25 z25 t29 u29 g29 z29 t31 u31 g31 z31 c38 c34 mixed ⊢
    have HP := Lib.hid hP.symm
    clear hP hk24 hk40 hk22
    have hRk : R.size = k22 := by rw [HK31.out]; exact hRs
    have hPk : P.size = k40 := by rw [HK29.out]; exact hPs
    have hld : Sem.run PD (loadCellsFrom ⟨w.heap.size, 2, none⟩ 0 k40 #[]) (w.alloc (.cells R 31)) = .ok P (w.alloc (.cells R 31)) := by rw [HK29.out]; exact HL0.out _ (Fr.refl _ _)
    go_wp2_with (first | (go_at_call 38; refine (at_prog HP.out (HVP.out _)).mono ?_; rintro e w3 ⟨rfl, hf3⟩) | fail)
    go_ret
    exact ⟨by rw [HV2.out]; try rfl, hF.trans hf3⟩
  · have HV2 : Hid (vR r = (nameV r.sf && decide (r.p = zP))) := by show _ = _; rw [HV.out, if_neg h4]
    have HNM := Lib.hid (isn_any r.sf)
    rw [decide_eq_false h4] at hemp
    obtain ⟨Y, hY⟩ : ∃ Y : Array Value, noP.toArray = Y := ⟨_, rfl⟩
    have hE : ∀ w, Sem.run Tryz.prog (Op.equalIn 10000 29 (.agg P) (.agg Y)) w = .ok (decide (r.p = zP)) w := fun w => by
      rw [← hP, ← hY, noP, pfx_eq r.p.n 0 h zeros_bytes w]
      congr 1
      exact decide_eq_decide.2 (Px.eq_iff (p := r.p) (q := zP))
    have hYP : Y.size = P.size := by rw [hPs, ← hY]; rfl
    have v28 := zero29
    rw [hY] at v28
    have q28 := Tryz.eqGuardType29
    generalize decide (r.p = zP) = be at hE HV2
    generalize nameV r.sf = bn at HNM HV2
    generalize bs r.sf = s at c1 HNM hemp
    clear hP hY HV h4
    cases bn
    · have HV3 : Hid (vR r = false) := by show _ = _; rw [HV2.out]; rfl
      go_enter Tryz.func20, Tryz.ntmps20
      have t3 := Tryz.underlying3
      have u3 := Tryz.runUnderlying3
      have g3 := Tryz.isAgg3
      have z3 := Tryz.sizeOf3
      have t4 := Tryz.underlying4
      have u4 := Tryz.runUnderlying4
      have g4 := Tryz.isAgg4
      have z4 := Tryz.sizeOf4
      have t9 := Tryz.underlying9
      have u9 := Tryz.runUnderlying9
      have g9 := Tryz.isAgg9
      have z9 := Tryz.sizeOf9
      have t25 := Tryz.underlying25
      have u25 := Tryz.runUnderlying25
      have g25 := Tryz.isAgg25
      have z25 := Tryz.sizeOf25
      have t29 := Tryz.underlying29
      have u29 := Tryz.runUnderlying29
      have g29 := Tryz.isAgg29
      have z29 := Tryz.sizeOf29
      have t31 := Tryz.underlying31
      have u31 := Tryz.runUnderlying31
      have g31 := Tryz.isAgg31
      have z31 := Tryz.sizeOf31
      have c38 := Tryz.call38
      have c34 := Tryz.call34
      have mixed : Tryz.prog.follows .mixedOrders = true := by kernel_rfl
      obtain ⟨k24, hk24⟩ : ∃ k, k = 17 := ⟨_, rfl⟩
      rw [← hk24] at z25
      have nk24 : ¬ k24 = 0 := by omega
      have HK25 := Lib.hid hk24
      obtain ⟨k40, hk40⟩ : ∃ k, k = 18 := ⟨_, rfl⟩
      rw [← hk40] at z29
      have nk40 : ¬ k40 = 0 := by omega
      have HK29 := Lib.hid hk40
      obtain ⟨k22, hk22⟩ : ∃ k, k = 22 := ⟨_, rfl⟩
      rw [← hk22] at z31
      have nk22 : ¬ k22 = 0 := by omega
      have HK31 := Lib.hid hk22
      have hP : Tryz.prog = PD := rfl
      rw [hP] at t3 u3 g3 z3 t4 u4 g4 z4 t9 u9 g9 z9 t25 u25 g25 z25 t29 u29 g29 z29 t31 u31 g31 z31 c38 c34 mixed hE v28 q28 ⊢
      have HP := Lib.hid hP.symm
      clear hP hk24 hk40 hk22
      have hRk : R.size = k22 := by rw [HK31.out]; exact hRs
      have hPk : P.size = k40 := by rw [HK29.out]; exact hPs
      have HL : Hid (∀ w', Fr No (w.alloc (.cells R 31)) w' → Sem.run PD (loadCellsFrom ⟨w.heap.size, 2, none⟩ 0 k40 #[]) w' = .ok P w') := fun w' hf => by rw [HK29.out]; exact HL0.out w' hf
      go_wp2_with (first | (go_at_call 34; refine (at_prog HP.out (HNM.out _)).mono ?_; rintro e w3 ⟨rfl, hw3⟩; subst hw3) | fail)
      go_ret
      exact ⟨by rw [HV3.out]; try rfl, hF⟩
    · have HV3 : Hid (vR r = be) := by show _ = _; rw [HV2.out]; rfl
      go_enter Tryz.func20, Tryz.ntmps20
      have t3 := Tryz.underlying3
      have u3 := Tryz.runUnderlying3
      have g3 := Tryz.isAgg3
      have z3 := Tryz.sizeOf3
      have t4 := Tryz.underlying4
      have u4 := Tryz.runUnderlying4
      have g4 := Tryz.isAgg4
      have z4 := Tryz.sizeOf4
      have t9 := Tryz.underlying9
      have u9 := Tryz.runUnderlying9
      have g9 := Tryz.isAgg9
      have z9 := Tryz.sizeOf9
      have t25 := Tryz.underlying25
      have u25 := Tryz.runUnderlying25
      have g25 := Tryz.isAgg25
      have z25 := Tryz.sizeOf25
      have t29 := Tryz.underlying29
      have u29 := Tryz.runUnderlying29
      have g29 := Tryz.isAgg29
      have z29 := Tryz.sizeOf29
      have t31 := Tryz.underlying31
      have u31 := Tryz.runUnderlying31
      have g31 := Tryz.isAgg31
      have z31 := Tryz.sizeOf31
      have c38 := Tryz.call38
      have c34 := Tryz.call34
      have mixed : Tryz.prog.follows .mixedOrders = true := by kernel_rfl
      obtain ⟨k24, hk24⟩ : ∃ k, k = 17 := ⟨_, rfl⟩
      rw [← hk24] at z25
      have nk24 : ¬ k24 = 0 := by omega
      have HK25 := Lib.hid hk24
      obtain ⟨k40, hk40⟩ : ∃ k, k = 18 := ⟨_, rfl⟩
      rw [← hk40] at z29
      have nk40 : ¬ k40 = 0 := by omega
      have HK29 := Lib.hid hk40
      obtain ⟨k22, hk22⟩ : ∃ k, k = 22 := ⟨_, rfl⟩
      rw [← hk22] at z31
      have nk22 : ¬ k22 = 0 := by omega
      have HK31 := Lib.hid hk22
      have hP : Tryz.prog = PD := rfl
      rw [hP] at t3 u3 g3 z3 t4 u4 g4 z4 t9 u9 g9 z9 t25 u25 g25 z25 t29 u29 g29 z29 t31 u31 g31 z31 c38 c34 mixed hE v28 q28 ⊢
      have HP := Lib.hid hP.symm
      clear hP hk24 hk40 hk22
      have hRk : R.size = k22 := by rw [HK31.out]; exact hRs
      have hPk : P.size = k40 := by rw [HK29.out]; exact hPs
      have hYk : Y.size = k40 := by rw [hYP]; exact hPk
      have HL : Hid (∀ w', Fr No (w.alloc (.cells R 31)) w' → Sem.run PD (loadCellsFrom ⟨w.heap.size, 2, none⟩ 0 k40 #[]) w' = .ok P w') := fun w' hf => by rw [HK29.out]; exact HL0.out w' hf
      have hld := HL.out _ (Fr.refl _ _)
      go_wp2_with (first | (go_at_call 34; refine (at_prog HP.out (HNM.out _)).mono ?_; rintro e w3 ⟨rfl, hw3⟩; subst hw3) | fail)
      go_ret
      exact ⟨by rw [HV3.out]; try rfl, hF⟩
end Go.Proofs.YtnadendhboiliaaGreat
