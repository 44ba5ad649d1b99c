/-
  CONTRACT of package host's parseAddr, over this seat's translation: what the call returns.
  Conditions: the string is shorter than 2 to the 31; the package variables are as Glob says.
  CONTRACTS of package host's Valid and formatHost, over this seat's translation: what each call returns.
  Conditions: the address is one; the package variables are as Gl says.
  CONTRACT of package host's Format, over this seat's translation: what the call returns.
  Conditions: the address is one; the package variables are as Gl says.
  CONTRACTS of the reference's ValidTarget, over this seat's translation: what each call returns.
  Conditions: the argument is a target.
-/
import Derived.Test.YtnadendhboiliaaGreatHp
import Derived.Test.YtnadendhboiliaaGreatR10
namespace Go.Proofs.YtnadendhboiliaaGreat
open Go.ChangeShapes Go.WideShapes Go.ChangeAt Go.RowKit
set_option linter.unusedVariables false

end Go.Proofs.YtnadendhboiliaaGreat
namespace Go.Proofs.YtnadendhboiliaaGreat
open Go.ChangeShapes Go.WideShapes Go.ChangeAt Go.RowKit
set_option linter.unusedVariables false

set_option maxHeartbeats 4000000 in
set_option maxRecDepth 100000 in
theorem valid_t (nl : List UInt8) (b : Bool) (xs : List Nat) (p : Int) (hx : Bytes xs) (w : World) :
    Calls Tryz.prog 52 #[.agg (tgt (bs nl) b xs p).toArray] w fun e w' => e = .returned (.bool (vT nl b xs p)) ∧ Fr No w w' := by
  obtain ⟨T, hT, h0, h1, h18, hs19, hT2, hT1⟩ := tgt_letter (bs nl) b xs p hx
  rw [hT]
  clear hT h1
  have hb1 := heap_alloc_new w (.cells T 66)
  have c0 : (w.alloc (.cells T 66)).cell? ⟨w.heap.size, 0, none⟩ = some (.string (bs nl)) := by rw [cell_of_row _ _ _ _ _ _ hb1]; exact h0
  have c18 : (w.alloc (.cells T 66)).cell? ⟨w.heap.size, 18, none⟩ = some (.int .i64 p) := by rw [cell_of_row _ _ _ _ _ _ hb1]; exact h18
  have hF := Fr.alloc No w (.cells T 66)
  by_cases hp1 : p < 1
  · have HV : Hid (vT nl b xs p = false) := by show _ = _; unfold vT; rw [decide_eq_false (by omega : ¬ 1 ≤ p)]; rfl
    clear hT2 hb1 hT1 h0 h18
    go_enter Tryz.func52, Tryz.ntmps52
    have t3 := Tryz.underlying3
    have u3 := Tryz.runUnderlying3
    have g3 := Tryz.isAgg3
    have z3 := Tryz.sizeOf3
    have t4 := Tryz.underlying4
    have u4 := Tryz.runUnderlying4
    have g4 := Tryz.isAgg4
    have z4 := Tryz.sizeOf4
    have t9 := Tryz.underlying9
    have u9 := Tryz.runUnderlying9
    have g9 := Tryz.isAgg9
    have z9 := Tryz.sizeOf9
    have t25 := Tryz.underlying25
    have u25 := Tryz.runUnderlying25
    have g25 := Tryz.isAgg25
    have z25 := Tryz.sizeOf25
    have t66 := Tryz.underlying66
    have u66 := Tryz.runUnderlying66
    have g66 := Tryz.isAgg66
    have z66 := Tryz.sizeOf66
    have c53 := Tryz.call53
    have c72 := Tryz.call72
    have mixed : Tryz.prog.follows .mixedOrders = true := by kernel_rfl
    obtain ⟨k24, hk24⟩ : ∃ k, k = 17 := ⟨_, rfl⟩
    rw [← hk24] at z25
    have nk24 : ¬ k24 = 0 := by omega
    have HK25 := Lib.hid hk24
    obtain ⟨k62, hk62⟩ : ∃ k, k = 19 := ⟨_, rfl⟩
    rw [← hk62] at z66
    have nk62 : ¬ k62 = 0 := by omega
    have HK66 := Lib.hid hk62
    have hP : Tryz.prog = PD := rfl
    rw [hP] at t3 u3 g3 z3 t4 u4 g4 z4 t9 u9 g9 z9 t25 u25 g25 z25 t66 u66 g66 z66 c53 c72 mixed ⊢
    have HP := Lib.hid hP.symm
    clear hP hk24 hk62
    have hTk : T.size = k62 := by rw [HK66.out]; exact hs19
    go_wp2_with fail
    go_ret
    exact ⟨by rw [HV.out]; rfl, hF⟩
  · by_cases hp2 : 65535 < p
    · have HV : Hid (vT nl b xs p = false) := by show _ = _; unfold vT; rw [decide_eq_false (by omega : ¬ p ≤ 65535)]; simp
      clear hT2 hb1 hT1 h0 h18
      go_enter Tryz.func52, Tryz.ntmps52
      have t3 := Tryz.underlying3
      have u3 := Tryz.runUnderlying3
      have g3 := Tryz.isAgg3
      have z3 := Tryz.sizeOf3
      have t4 := Tryz.underlying4
      have u4 := Tryz.runUnderlying4
      have g4 := Tryz.isAgg4
      have z4 := Tryz.sizeOf4
      have t9 := Tryz.underlying9
      have u9 := Tryz.runUnderlying9
      have g9 := Tryz.isAgg9
      have z9 := Tryz.sizeOf9
      have t25 := Tryz.underlying25
      have u25 := Tryz.runUnderlying25
      have g25 := Tryz.isAgg25
      have z25 := Tryz.sizeOf25
      have t66 := Tryz.underlying66
      have u66 := Tryz.runUnderlying66
      have g66 := Tryz.isAgg66
      have z66 := Tryz.sizeOf66
      have c53 := Tryz.call53
      have c72 := Tryz.call72
      have mixed : Tryz.prog.follows .mixedOrders = true := by kernel_rfl
      obtain ⟨k24, hk24⟩ : ∃ k, k = 17 := ⟨_, rfl⟩
      rw [← hk24] at z25
      have nk24 : ¬ k24 = 0 := by omega
      have HK25 := Lib.hid hk24
      obtain ⟨k62, hk62⟩ : ∃ k, k = 19 := ⟨_, rfl⟩
      rw [← hk62] at z66
      have nk62 : ¬ k62 = 0 := by omega
      have HK66 := Lib.hid hk62
      have hP : Tryz.prog = PD := rfl
      rw [hP] at t3 u3 g3 z3 t4 u4 g4 z4 t9 u9 g9 z9 t25 u25 g25 z25 t66 u66 g66 z66 c53 c72 mixed ⊢
      have HP := Lib.hid hP.symm
      clear hP hk24 hk62
      have hTk : T.size = k62 := by rw [HK66.out]; exact hs19
      go_wp2_with fail
      go_ret
      exact ⟨by rw [HV.out]; rfl, hF⟩
    · have hV : vT nl b xs p = (if nl = [] then validA b xs else nameV nl && decide (b = false ∧ xs = zeros)) := by unfold vT; rw [decide_eq_true (by omega : 1 ≤ p), decide_eq_true (by omega : p ≤ 65535)]; rfl
      have HV := Lib.hid hV
      clear hV
      obtain ⟨A, hA, -, hA17, -⟩ := adr_letter b xs hx
      rw [hA] at hT2
      have hAl : Sem.run Tryz.prog (loadCellsFrom ⟨w.heap.size, 1, none⟩ 0 17 #[]) (w.alloc (.cells T 66)) = .ok A (w.alloc (.cells T 66)) := load_block hb1 hA17 hT2
      have HVA : Hid (∀ w', Calls Tryz.prog 53 #[.agg A] w' fun e w'' => e = .returned (.bool (validA b xs)) ∧ Fr No w' w'') := fun w' => by rw [← hA]; exact valid_any b xs hx w'
      have HNM := Lib.hid (name_any nl)
      have hemp := bs_empty nl
      obtain ⟨Y, hY⟩ : ∃ Y : Array Value, (adr false zeros).toArray = Y := ⟨_, rfl⟩
      have v24 := zero25
      have hE : ∀ w, Sem.run Tryz.prog (Op.equalIn 10000 25 (.agg A) (.agg Y)) w = .ok (decide (b = false ∧ xs = zeros)) w := fun w => by rw [← hA, ← hY]; exact adr_eq hx zeros_bytes w
      have hYA : Y.size = A.size := by rw [hA17, ← hY]; rfl
      rw [hY] at v24
      generalize decide (b = false ∧ xs = zeros) = be at hE HV
      generalize validA b xs = bv at HVA HV
      generalize nameV nl = bn at HNM HV
      have q24 := Tryz.eqGuardType25
      clear hA hY hT2 hb1 hT1 h0 h18
      by_cases hn : nl = []
      · have HV2 : Hid (vT nl b xs p = bv) := by show _ = _; rw [HV.out, if_pos hn]
        rw [decide_eq_true hn] at hemp
        generalize bs nl = s at c0 HNM hemp
        clear hn HV
        go_enter Tryz.func52, Tryz.ntmps52
        have t3 := Tryz.underlying3
        have u3 := Tryz.runUnderlying3
        have g3 := Tryz.isAgg3
        have z3 := Tryz.sizeOf3
        have t4 := Tryz.underlying4
        have u4 := Tryz.runUnderlying4
        have g4 := Tryz.isAgg4
        have z4 := Tryz.sizeOf4
        have t9 := Tryz.underlying9
        have u9 := Tryz.runUnderlying9
        have g9 := Tryz.isAgg9
        have z9 := Tryz.sizeOf9
        have t23 := Tryz.underlying23
        have u23 := Tryz.runUnderlying23
        have g23 := Tryz.isAgg23
        have z23 := Tryz.sizeOf23
        have t25 := Tryz.underlying25
        have u25 := Tryz.runUnderlying25
        have g25 := Tryz.isAgg25
        have z25 := Tryz.sizeOf25
        have t66 := Tryz.underlying66
        have u66 := Tryz.runUnderlying66
        have g66 := Tryz.isAgg66
        have z66 := Tryz.sizeOf66
        have c53 := Tryz.call53
        have c72 := Tryz.call72
        have mixed : Tryz.prog.follows .mixedOrders = true := by kernel_rfl
        obtain ⟨k24, hk24⟩ : ∃ k, k = 17 := ⟨_, rfl⟩
        rw [← hk24] at z25
        have nk24 : ¬ k24 = 0 := by omega
        have HK25 := Lib.hid hk24
        obtain ⟨k62, hk62⟩ : ∃ k, k = 19 := ⟨_, rfl⟩
        rw [← hk62] at z66
        have nk62 : ¬ k62 = 0 := by omega
        have HK66 := Lib.hid hk62
        have hP : Tryz.prog = PD := rfl
        rw [hP] at t3 u3 g3 z3 t4 u4 g4 z4 t9 u9 g9 z9 t23 u23 g23 z23 t25 u25 g25 z25 t66 u66 g66 z66 c53 c72 mixed hE v24 q24 ⊢
        have HP := Lib.hid hP.symm
        clear hP hk24 hk62
        have hTk : T.size = k62 := by rw [HK66.out]; exact hs19
        have hAk : A.size = k24 := by rw [HK25.out]; exact hA17
        have hld : Sem.run PD (loadCellsFrom ⟨w.heap.size, 1, none⟩ 0 k24 #[]) (w.alloc (.cells T 66)) = .ok A (w.alloc (.cells T 66)) := by rw [HK25.out]; exact hAl
        go_wp2_with (first | (go_at_call 53; refine (at_prog HP.out (HVA.out _)).mono ?_; rintro e w3 ⟨rfl, hf3⟩) | fail)
        go_ret
        exact ⟨by rw [HV2.out]; rfl, hF.trans hf3⟩
      · have HV2 : Hid (vT nl b xs p = (bn && be)) := by show _ = _; rw [HV.out, if_neg hn]
        rw [decide_eq_false hn] at hemp
        generalize bs nl = s at c0 HNM hemp
        clear hn HV
        cases bn
        · go_enter Tryz.func52, Tryz.ntmps52
          have t3 := Tryz.underlying3
          have u3 := Tryz.runUnderlying3
          have g3 := Tryz.isAgg3
          have z3 := Tryz.sizeOf3
          have t4 := Tryz.underlying4
          have u4 := Tryz.runUnderlying4
          have g4 := Tryz.isAgg4
          have z4 := Tryz.sizeOf4
          have t9 := Tryz.underlying9
          have u9 := Tryz.runUnderlying9
          have g9 := Tryz.isAgg9
          have z9 := Tryz.sizeOf9
          have t23 := Tryz.underlying23
          have u23 := Tryz.runUnderlying23
          have g23 := Tryz.isAgg23
          have z23 := Tryz.sizeOf23
          have t25 := Tryz.underlying25
          have u25 := Tryz.runUnderlying25
          have g25 := Tryz.isAgg25
          have z25 := Tryz.sizeOf25
          have t66 := Tryz.underlying66
          have u66 := Tryz.runUnderlying66
          have g66 := Tryz.isAgg66
          have z66 := Tryz.sizeOf66
          have c53 := Tryz.call53
          have c72 := Tryz.call72
          have mixed : Tryz.prog.follows .mixedOrders = true := by kernel_rfl
          obtain ⟨k24, hk24⟩ : ∃ k, k = 17 := ⟨_, rfl⟩
          rw [← hk24] at z25
          have nk24 : ¬ k24 = 0 := by omega
          have HK25 := Lib.hid hk24
          obtain ⟨k62, hk62⟩ : ∃ k, k = 19 := ⟨_, rfl⟩
          rw [← hk62] at z66
          have nk62 : ¬ k62 = 0 := by omega
          have HK66 := Lib.hid hk62
          have hP : Tryz.prog = PD := rfl
          rw [hP] at t3 u3 g3 z3 t4 u4 g4 z4 t9 u9 g9 z9 t23 u23 g23 z23 t25 u25 g25 z25 t66 u66 g66 z66 c53 c72 mixed hE v24 q24 ⊢
          have HP := Lib.hid hP.symm
          clear hP hk24 hk62
          have hTk : T.size = k62 := by rw [HK66.out]; exact hs19
          have hAk : A.size = k24 := by rw [HK25.out]; exact hA17
          have hld : Sem.run PD (loadCellsFrom ⟨w.heap.size, 1, none⟩ 0 k24 #[]) (w.alloc (.cells T 66)) = .ok A (w.alloc (.cells T 66)) := by rw [HK25.out]; exact hAl
          go_wp2_with (first | (go_at_call 72; refine (at_prog HP.out (HNM.out _)).mono ?_; rintro e w3 ⟨rfl, hw3⟩; subst hw3) | fail)
          go_ret
          exact ⟨by rw [HV2.out]; rfl, hF⟩
        · go_enter Tryz.func52, Tryz.ntmps52
          have t3 := Tryz.underlying3
          have u3 := Tryz.runUnderlying3
          have g3 := Tryz.isAgg3
          have z3 := Tryz.sizeOf3
          have t4 := Tryz.underlying4
          have u4 := Tryz.runUnderlying4
          have g4 := Tryz.isAgg4
          have z4 := Tryz.sizeOf4
          have t9 := Tryz.underlying9
          have u9 := Tryz.runUnderlying9
          have g9 := Tryz.isAgg9
          have z9 := Tryz.sizeOf9
          have t23 := Tryz.underlying23
          have u23 := Tryz.runUnderlying23
          have g23 := Tryz.isAgg23
          have z23 := Tryz.sizeOf23
          have t25 := Tryz.underlying25
          have u25 := Tryz.runUnderlying25
          have g25 := Tryz.isAgg25
          have z25 := Tryz.sizeOf25
          have t66 := Tryz.underlying66
          have u66 := Tryz.runUnderlying66
          have g66 := Tryz.isAgg66
          have z66 := Tryz.sizeOf66
          have c53 := Tryz.call53
          have c72 := Tryz.call72
          have mixed : Tryz.prog.follows .mixedOrders = true := by kernel_rfl
          obtain ⟨k24, hk24⟩ : ∃ k, k = 17 := ⟨_, rfl⟩
          rw [← hk24] at z25
          have nk24 : ¬ k24 = 0 := by omega
          have HK25 := Lib.hid hk24
          obtain ⟨k62, hk62⟩ : ∃ k, k = 19 := ⟨_, rfl⟩
          rw [← hk62] at z66
          have nk62 : ¬ k62 = 0 := by omega
          have HK66 := Lib.hid hk62
          have hP : Tryz.prog = PD := rfl
          rw [hP] at t3 u3 g3 z3 t4 u4 g4 z4 t9 u9 g9 z9 t23 u23 g23 z23 t25 u25 g25 z25 t66 u66 g66 z66 c53 c72 mixed hE v24 q24 ⊢
          have HP := Lib.hid hP.symm
          clear hP hk24 hk62
          have hTk : T.size = k62 := by rw [HK66.out]; exact hs19
          have hAk : A.size = k24 := by rw [HK25.out]; exact hA17
          have hYk : Y.size = k24 := by rw [hYA]; exact hAk
          have hld : Sem.run PD (loadCellsFrom ⟨w.heap.size, 1, none⟩ 0 k24 #[]) (w.alloc (.cells T 66)) = .ok A (w.alloc (.cells T 66)) := by rw [HK25.out]; exact hAl
          go_wp2_with (first | (go_at_call 72; refine (at_prog HP.out (HNM.out _)).mono ?_; rintro e w3 ⟨rfl, hw3⟩; subst hw3) | fail)
          go_ret
          exact ⟨by rw [HV2.out]; rfl, hF⟩

end Go.Proofs.YtnadendhboiliaaGreat
namespace Go.Proofs.YtnadendhboiliaaGreat
open Go.ChangeShapes Go.WideShapes Go.ChangeAt Go.RowKit
set_option linter.unusedVariables false

end Go.Proofs.YtnadendhboiliaaGreat
namespace Go.Proofs.YtnadendhboiliaaGreat
open Go.ChangeShapes Go.WideShapes Go.ChangeAt Go.RowKit
set_option linter.unusedVariables false

end Go.Proofs.YtnadendhboiliaaGreat
