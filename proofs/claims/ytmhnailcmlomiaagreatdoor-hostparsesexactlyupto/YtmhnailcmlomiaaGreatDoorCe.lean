/-
  CONTRACTS of package cidr's Valid and Covers, over this seat's translation: what each call returns.
  Conditions: the arguments are prefixes.
-/
import Derived.Test.YtmhnailcmlomiaaGreatDoorCd
namespace Go.Proofs.YtmhnailcmlomiaaGreatDoor
open Go.ChangeShapes Go.WideShapes Go.ChangeAt Go.RowKit
set_option linter.unusedVariables false

theorem adr_part {A P : Array Value} (h17 : A.size = 17) (hj : ∀ (j : Nat) v, A[j]? = some v → P[j]? = some v) : ∀ (j : Nat) v, A[j]? = some v → P[0 + j]? = some v := fun j v h => by rw [Nat.zero_add]; exact hj j v h

set_option maxHeartbeats 4000000 in
set_option maxRecDepth 100000 in
theorem validp_any (b : Bool) (xs : List Nat) (n : Int) (hx : Bytes xs) (w : World) :
    Calls Tryz.prog 19 #[.agg (pfx b xs n).toArray] w fun e w' => e = .returned (.bool (validP b xs n)) ∧ Fr No w w' := by
  have HC : Hid (∀ w', Calls Tryz.prog 21 #[.agg (pfx b xs n).toArray, .agg (adr b xs).toArray] w' fun e w'' => e = .returned (.bool (validP b xs n)) ∧ Fr No w' w'') := fun w' => by rw [← valid_cont]; exact cont_any b b xs xs n hx hx w'
  obtain ⟨P, hP0, -, -, hPs, hPA, -⟩ := pfx_letter b xs n hx
  obtain ⟨A, hA, -, hsz, -⟩ := adr_letter b xs hx
  rw [hA] at HC hPA
  rw [hP0] at HC ⊢
  generalize validP b xs n = v at HC ⊢
  have hl1 : Sem.run Tryz.prog (loadCellsFrom ⟨w.heap.size, 0, none⟩ 0 18 #[]) (w.alloc (.cells P 40)) = .ok P (w.alloc (.cells P 40)) := load_block (heap_alloc_new w _) hPs (fun j v hv => by simpa using hv)
  have hl2 : Sem.run Tryz.prog (loadCellsFrom ⟨w.heap.size, 0, none⟩ 0 17 #[]) (w.alloc (.cells P 40)) = .ok A (w.alloc (.cells P 40)) := load_block (heap_alloc_new w _) hsz (adr_part hsz hPA)
  clear hPA hP0 hA
  go_enter Tryz.func19, Tryz.ntmps19
  have t3 := Tryz.underlying3
  have u3 := Tryz.runUnderlying3
  have g3 := Tryz.isAgg3
  have z3 := Tryz.sizeOf3
  have t4 := Tryz.underlying4
  have u4 := Tryz.runUnderlying4
  have g4 := Tryz.isAgg4
  have z4 := Tryz.sizeOf4
  have t30 := Tryz.underlying30
  have u30 := Tryz.runUnderlying30
  have g30 := Tryz.isAgg30
  have z30 := Tryz.sizeOf30
  have t40 := Tryz.underlying40
  have u40 := Tryz.runUnderlying40
  have g40 := Tryz.isAgg40
  have z40 := Tryz.sizeOf40
  have c21 := Tryz.call21
  have mixed : Tryz.prog.follows .mixedOrders = true := by kernel_rfl
  obtain ⟨k30, hk30⟩ : ∃ k, k = 17 := ⟨_, rfl⟩
  rw [← hk30] at z30
  have nk30 : ¬ k30 = 0 := by omega
  have HK30 := Lib.hid hk30
  obtain ⟨k40, hk40⟩ : ∃ k, k = 18 := ⟨_, rfl⟩
  rw [← hk40] at z40
  have nk40 : ¬ k40 = 0 := by omega
  have HK40 := Lib.hid hk40
  have hP : Tryz.prog = PD := rfl
  rw [hP] at t3 u3 g3 z3 t4 u4 g4 z4 t30 u30 g30 z30 t40 u40 g40 z40 c21 mixed hl1 hl2 ⊢
  have HP := Lib.hid hP.symm
  clear hP hk30 hk40
  have hAk : A.size = k30 := by rw [HK30.out]; exact hsz
  have hPk : P.size = k40 := by rw [HK40.out]; exact hPs
  rw [← HK40.out] at hl1
  rw [← HK30.out] at hl2
  clear hsz hPs
  go_wp2_with (first | (go_at_call 21; refine (at_prog HP.out (HC.out _)).mono ?_; rintro e w3 ⟨rfl, hf3⟩) | fail)
  go_ret
  exact ⟨rfl, (Fr.alloc _ _ _).trans hf3⟩

set_option maxHeartbeats 4000000 in
set_option maxRecDepth 100000 in
theorem cov_any (b c : Bool) (xs ys : List Nat) (n m : Int) (hx : Bytes xs) (hy : Bytes ys) (w : World) :
    Calls Tryz.prog 23 #[.agg (pfx b xs n).toArray, .agg (pfx c ys m).toArray] w fun e w' => e = .returned (.bool (covP b xs n c ys m)) ∧ Fr No w w' := by
  have HC : Hid (∀ w', Calls Tryz.prog 21 #[.agg (pfx b xs n).toArray, .agg (adr c ys).toArray] w' fun e w'' => e = .returned (.bool (contP b xs n c ys)) ∧ Fr No w' w'') := fun w' => cont_any b c xs ys n hx hy w'
  have HV : Hid (∀ w', Calls Tryz.prog 19 #[.agg (pfx c ys m).toArray] w' fun e w'' => e = .returned (.bool (validP c ys m)) ∧ Fr No w' w'') := fun w' => validp_any c ys m hy w'
  have HR : Hid (covP b xs n c ys m = (validP c ys m && decide (n ≤ m) && contP b xs n c ys)) := rfl
  obtain ⟨P, hP0, -, hP17, hPs, -, -⟩ := pfx_letter b xs n hx
  obtain ⟨Q, hQ0, -, hQ17, hQs, hQA, -⟩ := pfx_letter c ys m hy
  obtain ⟨A, hA, -, hsz, -⟩ := adr_letter c ys hy
  rw [hA] at HC hQA
  rw [hP0] at HC ⊢
  rw [hQ0] at HV ⊢
  rw [HR.out]
  generalize validP c ys m = v at HV HR ⊢
  generalize contP b xs n c ys = ct at HC HR ⊢
  obtain ⟨b1, b2, hF⟩ := alloc2 w (.cells P 40) (.cells Q 40)
  have HLD : Hid (∀ w', Fr No ((w.alloc (.cells P 40)).alloc (.cells Q 40)) w' → Sem.run Tryz.prog (loadCellsFrom ⟨w.heap.size, 0, none⟩ 0 18 #[]) w' = .ok P w' ∧ Sem.run Tryz.prog (loadCellsFrom ⟨w.heap.size + 1, 0, none⟩ 0 18 #[]) w' = .ok Q w' ∧ Sem.run Tryz.prog (loadCellsFrom ⟨w.heap.size + 1, 0, none⟩ 0 17 #[]) w' = .ok A w' ∧ w'.cell? ⟨w.heap.size, 17, none⟩ = some (.int .i64 n) ∧ w'.cell? ⟨w.heap.size + 1, 17, none⟩ = some (.int .i64 m)) := fun w' hf => by
    have k1 := hf.keep b1
    have k2 := hf.keep b2
    exact ⟨load_block k1 hPs (fun j v hv => by simpa using hv), load_block k2 hQs (fun j v hv => by simpa using hv), load_block k2 hsz (adr_part hsz hQA), by rw [cell_of_row _ _ _ _ _ _ k1]; exact hP17, by rw [cell_of_row _ _ _ _ _ _ k2]; exact hQ17⟩
  have HF := Lib.hid hF
  clear b1 b2 hF hQA hP0 hQ0 hA hP17 hQ17 HR
  have hl2 := (HLD.out _ (Fr.refl _ _)).2.1
  cases v
  · go_enter Tryz.func23, Tryz.ntmps23
    have t3 := Tryz.underlying3
    have u3 := Tryz.runUnderlying3
    have g3 := Tryz.isAgg3
    have z3 := Tryz.sizeOf3
    have t4 := Tryz.underlying4
    have u4 := Tryz.runUnderlying4
    have g4 := Tryz.isAgg4
    have z4 := Tryz.sizeOf4
    have t30 := Tryz.underlying30
    have u30 := Tryz.runUnderlying30
    have g30 := Tryz.isAgg30
    have z30 := Tryz.sizeOf30
    have t40 := Tryz.underlying40
    have u40 := Tryz.runUnderlying40
    have g40 := Tryz.isAgg40
    have z40 := Tryz.sizeOf40
    have c19 := Tryz.call19
    have c21 := Tryz.call21
    have mixed : Tryz.prog.follows .mixedOrders = true := by kernel_rfl
    obtain ⟨k30, hk30⟩ : ∃ k, k = 17 := ⟨_, rfl⟩
    rw [← hk30] at z30
    have nk30 : ¬ k30 = 0 := by omega
    have HK30 := Lib.hid hk30
    obtain ⟨k40, hk40⟩ : ∃ k, k = 18 := ⟨_, rfl⟩
    rw [← hk40] at z40
    have nk40 : ¬ k40 = 0 := by omega
    have HK40 := Lib.hid hk40
    have hP : Tryz.prog = PD := rfl
    rw [hP] at t3 u3 g3 z3 t4 u4 g4 z4 t30 u30 g30 z30 t40 u40 g40 z40 c19 c21 mixed HLD hl2 ⊢
    have HP := Lib.hid hP.symm
    clear hP hk30 hk40
    have hAk : A.size = k30 := by rw [HK30.out]; exact hsz
    have hPk : P.size = k40 := by rw [HK40.out]; exact hPs
    have hQk : Q.size = k40 := by rw [HK40.out]; exact hQs
    rw [← HK40.out] at hl2
    clear hsz hPs hQs
    go_wp2_with (first | (go_at_call 19; refine (at_prog HP.out (HV.out _)).mono ?_; rintro e w3 ⟨rfl, hf3⟩) | fail)
    go_ret
    exact ⟨rfl, HF.out.trans hf3⟩
  · by_cases hnm : n ≤ m
    · rw [decide_eq_true hnm]
      go_enter Tryz.func23, Tryz.ntmps23
      have t3 := Tryz.underlying3
      have u3 := Tryz.runUnderlying3
      have g3 := Tryz.isAgg3
      have z3 := Tryz.sizeOf3
      have t4 := Tryz.underlying4
      have u4 := Tryz.runUnderlying4
      have g4 := Tryz.isAgg4
      have z4 := Tryz.sizeOf4
      have t30 := Tryz.underlying30
      have u30 := Tryz.runUnderlying30
      have g30 := Tryz.isAgg30
      have z30 := Tryz.sizeOf30
      have t40 := Tryz.underlying40
      have u40 := Tryz.runUnderlying40
      have g40 := Tryz.isAgg40
      have z40 := Tryz.sizeOf40
      have c19 := Tryz.call19
      have c21 := Tryz.call21
      have mixed : Tryz.prog.follows .mixedOrders = true := by kernel_rfl
      obtain ⟨k30, hk30⟩ : ∃ k, k = 17 := ⟨_, rfl⟩
      rw [← hk30] at z30
      have nk30 : ¬ k30 = 0 := by omega
      have HK30 := Lib.hid hk30
      obtain ⟨k40, hk40⟩ : ∃ k, k = 18 := ⟨_, rfl⟩
      rw [← hk40] at z40
      have nk40 : ¬ k40 = 0 := by omega
      have HK40 := Lib.hid hk40
      have hP : Tryz.prog = PD := rfl
      rw [hP] at t3 u3 g3 z3 t4 u4 g4 z4 t30 u30 g30 z30 t40 u40 g40 z40 c19 c21 mixed HLD hl2 ⊢
      have HP := Lib.hid hP.symm
      clear hP hk30 hk40
      have hAk : A.size = k30 := by rw [HK30.out]; exact hsz
      have hPk : P.size = k40 := by rw [HK40.out]; exact hPs
      have hQk : Q.size = k40 := by rw [HK40.out]; exact hQs
      rw [← HK40.out] at hl2
      clear hsz hPs hQs
      go_wp2_with (first | (go_at_call 19; refine (at_prog HP.out (HV.out _)).mono ?_; rintro e w3 ⟨rfl, hf3⟩; have f1 := (HLD.out w3 hf3).1; rw [← HK40.out] at f1; have f3 := (HLD.out w3 hf3).2.2.1; rw [← HK30.out] at f3; have f4 := (HLD.out w3 hf3).2.2.2.1; have f5 := (HLD.out w3 hf3).2.2.2.2) | (go_at_call 21; refine (at_prog HP.out (HC.out _)).mono ?_; rintro e w4 ⟨rfl, hf4⟩) | fail)
      go_ret
      exact ⟨rfl, (HF.out.trans hf3).trans hf4⟩
    · rw [decide_eq_false hnm]
      go_enter Tryz.func23, Tryz.ntmps23
      have t3 := Tryz.underlying3
      have u3 := Tryz.runUnderlying3
      have g3 := Tryz.isAgg3
      have z3 := Tryz.sizeOf3
      have t4 := Tryz.underlying4
      have u4 := Tryz.runUnderlying4
      have g4 := Tryz.isAgg4
      have z4 := Tryz.sizeOf4
      have t30 := Tryz.underlying30
      have u30 := Tryz.runUnderlying30
      have g30 := Tryz.isAgg30
      have z30 := Tryz.sizeOf30
      have t40 := Tryz.underlying40
      have u40 := Tryz.runUnderlying40
      have g40 := Tryz.isAgg40
      have z40 := Tryz.sizeOf40
      have c19 := Tryz.call19
      have c21 := Tryz.call21
      have mixed : Tryz.prog.follows .mixedOrders = true := by kernel_rfl
      obtain ⟨k30, hk30⟩ : ∃ k, k = 17 := ⟨_, rfl⟩
      rw [← hk30] at z30
      have nk30 : ¬ k30 = 0 := by omega
      have HK30 := Lib.hid hk30
      obtain ⟨k40, hk40⟩ : ∃ k, k = 18 := ⟨_, rfl⟩
      rw [← hk40] at z40
      have nk40 : ¬ k40 = 0 := by omega
      have HK40 := Lib.hid hk40
      have hP : Tryz.prog = PD := rfl
      rw [hP] at t3 u3 g3 z3 t4 u4 g4 z4 t30 u30 g30 z30 t40 u40 g40 z40 c19 c21 mixed HLD hl2 ⊢
      have HP := Lib.hid hP.symm
      clear hP hk30 hk40
      have hAk : A.size = k30 := by rw [HK30.out]; exact hsz
      have hPk : P.size = k40 := by rw [HK40.out]; exact hPs
      have hQk : Q.size = k40 := by rw [HK40.out]; exact hQs
      rw [← HK40.out] at hl2
      clear hsz hPs hQs
      go_wp2_with (first | (go_at_call 19; refine (at_prog HP.out (HV.out _)).mono ?_; rintro e w3 ⟨rfl, hf3⟩; have f4 := (HLD.out w3 hf3).2.2.2.1; have f5 := (HLD.out w3 hf3).2.2.2.2) | fail)
      go_ret
      exact ⟨rfl, HF.out.trans hf3⟩
end Go.Proofs.YtmhnailcmlomiaaGreatDoor
