/-
  CONTRACTS of the reference's Contains and Covers, over this seat's translation: what each call returns.
  Conditions: the arguments are addresses and prefixes.
-/
import Derived.Test.YtgbbgkbpafpnbaaCg
namespace Go.Proofs.Ytgbbgkbpafpnbaa
open Go.ChangeShapes Go.WideShapes Go.ChangeAt Go.RowKit
set_option linter.unusedVariables false

set_option maxHeartbeats 8000000 in
set_option maxRecDepth 100000 in
theorem cont_ref (b c : Bool) (xs ys : List Nat) (n : Int) (hx : Bytes xs) (hy : Bytes ys) (w : World) :
    Calls Try.prog 26 #[.agg (pfx b xs n).toArray, .agg (adr c ys).toArray] w fun e w' => e = .returned (.bool (contP b xs n c ys)) ∧ Fr No w w' := by
  obtain ⟨P, hP0, hPb, hP17, hPs, hPA, -⟩ := pfx_letter b xs n hx
  obtain ⟨A, hA, -, hsz, -⟩ := adr_letter b xs hx
  obtain ⟨C, hC, hCc, hszc, -⟩ := adr_letter c ys hy
  have HVP : Hid (∀ w', Calls Try.prog 32 #[.agg P] w' fun e w'' => e = .returned (.bool (validP b xs n)) ∧ Fr No w' w'') := fun w' => by rw [← hP0]; exact validp_ref b xs n hx w'
  have HVA : Hid (∀ w', Calls Try.prog 14 #[.agg C] w' fun e w'' => e = .returned (.bool (validA c ys)) ∧ Fr No w' w'') := fun w' => by rw [← hC]; exact valid_ref c ys hy w'
  have HB1 : Hid (∀ (i : Nat), (i : Int) < bitsOf b → ∀ w', Calls Try.prog 37 #[.agg A, .int .i64 i] w' fun e w'' => e = .returned (.int .i64 (bitX xs i : Nat)) ∧ Fr No w' w'') := fun i hi w' => by rw [← hA]; exact bit_ref b xs i hx hi w'
  have HB2 : Hid (∀ (i : Nat), (i : Int) < bitsOf c → ∀ w', Calls Try.prog 37 #[.agg C, .int .i64 i] w' fun e w'' => e = .returned (.int .i64 (bitX ys i : Nat)) ∧ Fr No w' w'') := fun i hi w' => by rw [← hC]; exact bit_ref c ys i hy hi w'
  rw [hP0, hC]
  rw [hA] at hPA
  obtain ⟨b1, b2, hF⟩ := alloc2 w (.cells P 28) (.cells C 24)
  have HF := Lib.hid hF
  have HLD : Hid (∀ w', Fr No ((w.alloc (.cells P 28)).alloc (.cells C 24)) w' → (Sem.run Try.prog (loadCellsFrom ⟨w.heap.size, 0, none⟩ 0 18 #[]) w' = .ok P w' ∧ Sem.run Try.prog (loadCellsFrom ⟨w.heap.size, 0, none⟩ 0 17 #[]) w' = .ok A w' ∧ Sem.run Try.prog (loadCellsFrom ⟨w.heap.size + 1, 0, none⟩ 0 17 #[]) w' = .ok C w') ∧ (w'.cell? ⟨w.heap.size, 0, none⟩ = some (.bool b) ∧ w'.cell? ⟨w.heap.size + 1, 0, none⟩ = some (.bool c) ∧ w'.cell? ⟨w.heap.size, 17, none⟩ = some (.int .i64 n))) := fun w' hf => by
    have k1 := hf.keep b1
    have k2 := hf.keep b2
    exact ⟨⟨load_block k1 hPs (fun j v hv => by simpa using hv), load_block k1 hsz (adr_part hsz hPA), load_block k2 hszc (fun j v hv => by simpa using hv)⟩, by rw [cell_of_row _ _ _ _ _ _ k1]; exact hPb, by rw [cell_of_row _ _ _ _ _ _ k2]; exact hCc, by rw [cell_of_row _ _ _ _ _ _ k1]; exact hP17⟩
  have HR : Hid (contP b xs n c ys = (validP b xs n && validA c ys && decide (b = c) && agree xs ys n)) := rfl
  have HAG : Hid (agree xs ys n = true ↔ ∀ i : Nat, i < 128 → (i : Int) < n → bitX xs i = bitX ys i) := agree_iff
  have HVN : Hid (validP b xs n = true → 0 ≤ n ∧ n ≤ bitsOf b) := fun h => ⟨(validP_parts h).2.1, (validP_parts h).2.2.1⟩
  rw [HR.out]
  clear b1 b2 hF hP0 hP17 hPA hPb hC hCc hA hx hy HR
  generalize agree xs ys n = ag at HAG ⊢
  generalize validP b xs n = vp at HVP HVN ⊢
  generalize validA c ys = va at HVA ⊢
  obtain ⟨w1, hw1⟩ : ∃ w1, (w.alloc (.cells P 28)).alloc (.cells C 24) = w1 := ⟨_, rfl⟩
  have hV : (vp = false) ∨ (vp = true ∧ va = false) ∨ (vp = true ∧ va = true ∧ b ≠ c) ∨ (vp = true ∧ va = true ∧ b = c) := by
    cases vp <;> cases va <;> cases b <;> cases c <;> simp
  rcases hV with rfl | ⟨rfl, rfl⟩ | ⟨rfl, rfl, hbc⟩ | ⟨rfl, rfl, rfl⟩
  · go_enter Try.func26, Try.ntmps26
    have t3 := Try.underlying3
    have u3 := Try.runUnderlying3
    have g3 := Try.isAgg3
    have z3 := Try.sizeOf3
    have t4 := Try.underlying4
    have u4 := Try.runUnderlying4
    have g4 := Try.isAgg4
    have z4 := Try.sizeOf4
    have t24 := Try.underlying24
    have u24 := Try.runUnderlying24
    have g24 := Try.isAgg24
    have z24 := Try.sizeOf24
    have t28 := Try.underlying28
    have u28 := Try.runUnderlying28
    have g28 := Try.isAgg28
    have z28 := Try.sizeOf28
    have c32 := Try.call32
    have c14 := Try.call14
    have c37 := Try.call37
    have mixed : Try.prog.follows .mixedOrders = true := by kernel_rfl
    obtain ⟨k30, hk30⟩ : ∃ k, k = 17 := ⟨_, rfl⟩
    rw [← hk30] at z24
    have nk30 : ¬ k30 = 0 := by omega
    have HK24 := Lib.hid hk30
    obtain ⟨k40, hk40⟩ : ∃ k, k = 18 := ⟨_, rfl⟩
    rw [← hk40] at z28
    have nk40 : ¬ k40 = 0 := by omega
    have HK28 := Lib.hid hk40
    have hP : Try.prog = PD := rfl
    rw [hP] at t3 u3 g3 z3 t4 u4 g4 z4 t24 u24 g24 z24 t28 u28 g28 z28 c32 c14 c37 mixed HLD ⊢
    have HP := Lib.hid hP.symm
    clear hP hk30 hk40
    have hAk : A.size = k30 := by rw [HK24.out]; exact hsz
    have hCk : C.size = k30 := by rw [HK24.out]; exact hszc
    have hPk : P.size = k40 := by rw [HK28.out]; exact hPs
    clear hsz hPs hszc
    rw [hw1] at HF HLD
    obtain ⟨nb, hnb⟩ : ∃ nb, w.heap.size = nb := ⟨_, rfl⟩
    rw [hnb] at HLD
    have HSS : Hid (∀ w', Fr No w1 w' → (Sem.run PD (loadCellsFrom ⟨nb, 0, none⟩ 0 k40 #[]) w' = .ok P w' ∧ Sem.run PD (loadCellsFrom ⟨nb, 0, none⟩ 0 k30 #[]) w' = .ok A w' ∧ Sem.run PD (loadCellsFrom ⟨nb + 1, 0, none⟩ 0 k30 #[]) w' = .ok C w') ∧ (w'.cell? ⟨nb, 0, none⟩ = some (.bool b) ∧ w'.cell? ⟨nb + 1, 0, none⟩ = some (.bool c) ∧ w'.cell? ⟨nb, 17, none⟩ = some (.int .i64 n))) := fun w' hf => by rw [HK28.out, HK24.out]; exact HLD.out w' hf
    have s0 := (HSS.out w1 (Fr.refl _ _)).1.1
    go_wp2_with (first | (go_at_call 32; refine (at_prog HP.out (HVP.out _)).mono ?_; rintro e w2 ⟨rfl, hf2⟩; have s1 := (HSS.out w2 hf2).1.2.2) | fail)
    go_ret
    exact ⟨rfl, HF.out.trans hf2⟩
  · go_enter Try.func26, Try.ntmps26
    have t3 := Try.underlying3
    have u3 := Try.runUnderlying3
    have g3 := Try.isAgg3
    have z3 := Try.sizeOf3
    have t4 := Try.underlying4
    have u4 := Try.runUnderlying4
    have g4 := Try.isAgg4
    have z4 := Try.sizeOf4
    have t24 := Try.underlying24
    have u24 := Try.runUnderlying24
    have g24 := Try.isAgg24
    have z24 := Try.sizeOf24
    have t28 := Try.underlying28
    have u28 := Try.runUnderlying28
    have g28 := Try.isAgg28
    have z28 := Try.sizeOf28
    have c32 := Try.call32
    have c14 := Try.call14
    have c37 := Try.call37
    have mixed : Try.prog.follows .mixedOrders = true := by kernel_rfl
    obtain ⟨k30, hk30⟩ : ∃ k, k = 17 := ⟨_, rfl⟩
    rw [← hk30] at z24
    have nk30 : ¬ k30 = 0 := by omega
    have HK24 := Lib.hid hk30
    obtain ⟨k40, hk40⟩ : ∃ k, k = 18 := ⟨_, rfl⟩
    rw [← hk40] at z28
    have nk40 : ¬ k40 = 0 := by omega
    have HK28 := Lib.hid hk40
    have hP : Try.prog = PD := rfl
    rw [hP] at t3 u3 g3 z3 t4 u4 g4 z4 t24 u24 g24 z24 t28 u28 g28 z28 c32 c14 c37 mixed HLD ⊢
    have HP := Lib.hid hP.symm
    clear hP hk30 hk40
    have hAk : A.size = k30 := by rw [HK24.out]; exact hsz
    have hCk : C.size = k30 := by rw [HK24.out]; exact hszc
    have hPk : P.size = k40 := by rw [HK28.out]; exact hPs
    clear hsz hPs hszc
    rw [hw1] at HF HLD
    obtain ⟨nb, hnb⟩ : ∃ nb, w.heap.size = nb := ⟨_, rfl⟩
    rw [hnb] at HLD
    have HSS : Hid (∀ w', Fr No w1 w' → (Sem.run PD (loadCellsFrom ⟨nb, 0, none⟩ 0 k40 #[]) w' = .ok P w' ∧ Sem.run PD (loadCellsFrom ⟨nb, 0, none⟩ 0 k30 #[]) w' = .ok A w' ∧ Sem.run PD (loadCellsFrom ⟨nb + 1, 0, none⟩ 0 k30 #[]) w' = .ok C w') ∧ (w'.cell? ⟨nb, 0, none⟩ = some (.bool b) ∧ w'.cell? ⟨nb + 1, 0, none⟩ = some (.bool c) ∧ w'.cell? ⟨nb, 17, none⟩ = some (.int .i64 n))) := fun w' hf => by rw [HK28.out, HK24.out]; exact HLD.out w' hf
    have s0 := (HSS.out w1 (Fr.refl _ _)).1.1
    go_wp2_with (first | (go_at_call 32; refine (at_prog HP.out (HVP.out _)).mono ?_; rintro e w2 ⟨rfl, hf2⟩; have s1 := (HSS.out w2 hf2).1.2.2) | (go_at_call 14; refine (at_prog HP.out (HVA.out _)).mono ?_; rintro e w3 ⟨rfl, hf3⟩; have s2 := (HSS.out w3 (hf2.trans hf3)).2.1; have s3 := (HSS.out w3 (hf2.trans hf3)).2.2.1) | fail)
    go_ret
    exact ⟨rfl, (HF.out.trans hf2).trans hf3⟩
  · rw [decide_eq_false hbc]
    go_enter Try.func26, Try.ntmps26
    have t3 := Try.underlying3
    have u3 := Try.runUnderlying3
    have g3 := Try.isAgg3
    have z3 := Try.sizeOf3
    have t4 := Try.underlying4
    have u4 := Try.runUnderlying4
    have g4 := Try.isAgg4
    have z4 := Try.sizeOf4
    have t24 := Try.underlying24
    have u24 := Try.runUnderlying24
    have g24 := Try.isAgg24
    have z24 := Try.sizeOf24
    have t28 := Try.underlying28
    have u28 := Try.runUnderlying28
    have g28 := Try.isAgg28
    have z28 := Try.sizeOf28
    have c32 := Try.call32
    have c14 := Try.call14
    have c37 := Try.call37
    have mixed : Try.prog.follows .mixedOrders = true := by kernel_rfl
    obtain ⟨k30, hk30⟩ : ∃ k, k = 17 := ⟨_, rfl⟩
    rw [← hk30] at z24
    have nk30 : ¬ k30 = 0 := by omega
    have HK24 := Lib.hid hk30
    obtain ⟨k40, hk40⟩ : ∃ k, k = 18 := ⟨_, rfl⟩
    rw [← hk40] at z28
    have nk40 : ¬ k40 = 0 := by omega
    have HK28 := Lib.hid hk40
    have hP : Try.prog = PD := rfl
    rw [hP] at t3 u3 g3 z3 t4 u4 g4 z4 t24 u24 g24 z24 t28 u28 g28 z28 c32 c14 c37 mixed HLD ⊢
    have HP := Lib.hid hP.symm
    clear hP hk30 hk40
    have hAk : A.size = k30 := by rw [HK24.out]; exact hsz
    have hCk : C.size = k30 := by rw [HK24.out]; exact hszc
    have hPk : P.size = k40 := by rw [HK28.out]; exact hPs
    clear hsz hPs hszc
    rw [hw1] at HF HLD
    obtain ⟨nb, hnb⟩ : ∃ nb, w.heap.size = nb := ⟨_, rfl⟩
    rw [hnb] at HLD
    have HSS : Hid (∀ w', Fr No w1 w' → (Sem.run PD (loadCellsFrom ⟨nb, 0, none⟩ 0 k40 #[]) w' = .ok P w' ∧ Sem.run PD (loadCellsFrom ⟨nb, 0, none⟩ 0 k30 #[]) w' = .ok A w' ∧ Sem.run PD (loadCellsFrom ⟨nb + 1, 0, none⟩ 0 k30 #[]) w' = .ok C w') ∧ (w'.cell? ⟨nb, 0, none⟩ = some (.bool b) ∧ w'.cell? ⟨nb + 1, 0, none⟩ = some (.bool c) ∧ w'.cell? ⟨nb, 17, none⟩ = some (.int .i64 n))) := fun w' hf => by rw [HK28.out, HK24.out]; exact HLD.out w' hf
    have s0 := (HSS.out w1 (Fr.refl _ _)).1.1
    have hbq : (b == c) = false := by simpa using hbc
    go_wp2_with (first | (go_at_call 32; refine (at_prog HP.out (HVP.out _)).mono ?_; rintro e w2 ⟨rfl, hf2⟩; have s1 := (HSS.out w2 hf2).1.2.2) | (go_at_call 14; refine (at_prog HP.out (HVA.out _)).mono ?_; rintro e w3 ⟨rfl, hf3⟩; have s2 := (HSS.out w3 (hf2.trans hf3)).2.1; have s3 := (HSS.out w3 (hf2.trans hf3)).2.2.1) | fail)
    go_ret
    exact ⟨rfl, (HF.out.trans hf2).trans hf3⟩
  · obtain ⟨k, rfl⟩ : ∃ k : Nat, n = k := ⟨n.toNat, by have := HVN.out rfl; omega⟩
    obtain ⟨B, hB⟩ : ∃ B : Nat, bitsOf b = B := ⟨(bitsOf b).toNat, by have := bitsOf_le b; omega⟩
    have hkB : k ≤ B := by have := HVN.out rfl; omega
    have hB128 : B ≤ 128 := by have := bitsOf_le b; omega
    rw [hB] at HB1 HB2
    clear hB HVN
    rw [decide_eq_true rfl]
    go_enter Try.func26, Try.ntmps26
    have t3 := Try.underlying3
    have u3 := Try.runUnderlying3
    have g3 := Try.isAgg3
    have z3 := Try.sizeOf3
    have t4 := Try.underlying4
    have u4 := Try.runUnderlying4
    have g4 := Try.isAgg4
    have z4 := Try.sizeOf4
    have t24 := Try.underlying24
    have u24 := Try.runUnderlying24
    have g24 := Try.isAgg24
    have z24 := Try.sizeOf24
    have t28 := Try.underlying28
    have u28 := Try.runUnderlying28
    have g28 := Try.isAgg28
    have z28 := Try.sizeOf28
    have c32 := Try.call32
    have c14 := Try.call14
    have c37 := Try.call37
    have mixed : Try.prog.follows .mixedOrders = true := by kernel_rfl
    obtain ⟨k30, hk30⟩ : ∃ k, k = 17 := ⟨_, rfl⟩
    rw [← hk30] at z24
    have nk30 : ¬ k30 = 0 := by omega
    have HK24 := Lib.hid hk30
    obtain ⟨k40, hk40⟩ : ∃ k, k = 18 := ⟨_, rfl⟩
    rw [← hk40] at z28
    have nk40 : ¬ k40 = 0 := by omega
    have HK28 := Lib.hid hk40
    have hP : Try.prog = PD := rfl
    rw [hP] at t3 u3 g3 z3 t4 u4 g4 z4 t24 u24 g24 z24 t28 u28 g28 z28 c32 c14 c37 mixed HLD ⊢
    have HP := Lib.hid hP.symm
    clear hP hk30 hk40
    have hAk : A.size = k30 := by rw [HK24.out]; exact hsz
    have hCk : C.size = k30 := by rw [HK24.out]; exact hszc
    have hPk : P.size = k40 := by rw [HK28.out]; exact hPs
    clear hsz hPs hszc
    rw [hw1] at HF HLD
    obtain ⟨nb, hnb⟩ : ∃ nb, w.heap.size = nb := ⟨_, rfl⟩
    rw [hnb] at HLD
    have HSS : Hid (∀ w', Fr No w1 w' → (Sem.run PD (loadCellsFrom ⟨nb, 0, none⟩ 0 k40 #[]) w' = .ok P w' ∧ Sem.run PD (loadCellsFrom ⟨nb, 0, none⟩ 0 k30 #[]) w' = .ok A w' ∧ Sem.run PD (loadCellsFrom ⟨nb + 1, 0, none⟩ 0 k30 #[]) w' = .ok C w') ∧ (w'.cell? ⟨nb, 0, none⟩ = some (.bool b) ∧ w'.cell? ⟨nb + 1, 0, none⟩ = some (.bool b) ∧ w'.cell? ⟨nb, 17, none⟩ = some (.int .i64 k))) := fun w' hf => by rw [HK28.out, HK24.out]; exact HLD.out w' hf
    have s0 := (HSS.out w1 (Fr.refl _ _)).1.1
    have hbq : (b == b) = true := by simp
    go_wp2_with (first | (go_at_call 32; refine (at_prog HP.out (HVP.out _)).mono ?_; rintro e w2 ⟨rfl, hf2⟩; have s1 := (HSS.out w2 hf2).1.2.2) | (go_at_call 14; refine (at_prog HP.out (HVA.out _)).mono ?_; rintro e w3 ⟨rfl, hf3⟩; have s2 := (HSS.out w3 (hf2.trans hf3)).2.1; have s3 := (HSS.out w3 (hf2.trans hf3)).2.2.1) | fail)
    have HG := Lib.hid (hf2.trans hf3)
    clear hf2 hf3 s0 s1 s2 s3
    go_loopg [5] (k + 1) (fun g s wr => ∃ i : Nat, s = .int .i64 i ∧ i ≤ k ∧ k - i < g ∧ Hid (Fr No w3 wr ∧ ∀ j : Nat, j < i → bitX xs j = bitX ys j))
    case atStart => exact ⟨0, by go_num, Nat.zero_le _, by omega, Fr.refl _ _, fun j h => by omega⟩
    case round =>
      obtain ⟨i, rfl, hik, hig, HR⟩ := hrel
      have HM : Hid (∀ w', Fr No wr w' → (Sem.run PD (loadCellsFrom ⟨nb, 0, none⟩ 0 k30 #[]) w' = .ok A w' ∧ Sem.run PD (loadCellsFrom ⟨nb + 1, 0, none⟩ 0 k30 #[]) w' = .ok C w') ∧ w'.cell? ⟨nb, 17, none⟩ = some (.int .i64 k)) := fun w' hf => by
        have h := HSS.out w' ((HG.out.trans HR.out.1).trans hf)
        exact ⟨⟨h.1.2.1, h.1.2.2⟩, h.2.2.2⟩
      have n1 := (HM.out wr (Fr.refl _ _)).2
      by_cases hi : i = k
      · have HV : Hid (ag = true) := HAG.out.2 fun j h1 h2 => HR.out.2 j (by omega)
        have hib : ¬ (i : Int) < (k : Int) := by omega
        go_wp2_with fail
        go_ret
        exact ⟨by rw [HV.out]; rfl, (HF.out.trans HG.out).trans HR.out.1⟩
      · have hib : (i : Int) < (k : Int) := by omega
        have HC1 := Lib.hid (HB1.out i (by omega))
        have HC2 := Lib.hid (HB2.out i (by omega))
        have hx2 := bitX_lt xs i
        have hy2 := bitX_lt ys i
        obtain ⟨x, hx⟩ : ∃ x, bitX xs i = x := ⟨_, rfl⟩
        obtain ⟨y, hy⟩ : ∃ y, bitX ys i = y := ⟨_, rfl⟩
        rw [hx] at HC1 hx2
        rw [hy] at HC2 hy2
        have HX := Lib.hid (And.intro hx hy)
        clear hx hy
        go_wp2_with fail
        have f5 : Fr No wr wr.drew := Fr.drew No _
        have m := (HM.out _ f5).1
        go_region_held3 (fun w' => Sem.run PD (loadCellsFrom ⟨nb, 0, none⟩ 0 k30 #[]) w' = .ok A w' ∧ Sem.run PD (loadCellsFrom ⟨nb + 1, 0, none⟩ 0 k30 #[]) w' = .ok C w') (first | assumption | (constructor <;> assumption)) (first | (go_at_call 37; with_reducible refine (at_prog HP.out (HC1.out wr.drew)).mono ?_; rintro e x0 ⟨rfl, h0⟩; have g0 := f5.trans h0; have m0 := (HM.out _ g0).1; clear h0) | (go_at_call 37; with_reducible refine (at_prog HP.out (HC2.out wr.drew)).mono ?_; rintro e x1 ⟨rfl, h1⟩; have g1 := f5.trans h1; have m1 := (HM.out _ g1).1; clear h1) | (go_at_call 37; with_reducible refine (at_prog HP.out (HC2.out x0)).mono ?_; rintro e x2 ⟨rfl, h2⟩; have g2 := g0.trans h2; have m2 := (HM.out _ g2).1; clear h2) | (go_at_call 37; with_reducible refine (at_prog HP.out (HC1.out x1)).mono ?_; rintro e x2 ⟨rfl, h2⟩; have g2 := g1.trans h2; have m2 := (HM.out _ g2).1; clear h2))
        all_goals (
          have HW := Lib.hid g2
          by_cases hxy : x = y
          · subst hxy
            have hq : ((x : Int) != (x : Int)) = false := by simp
            go_wp2_with fail
            go_roundg (k - i)
            case measure => exact hig
            case rel =>
              refine ⟨i + 1, by go_num, by omega, by omega, HR.out.1.trans HW.out, fun j h => ?_⟩
              by_cases hj : j = i
              · rw [hj, HX.out.1, HX.out.2]
              · exact HR.out.2 j (by omega)
          · have HV : Hid (ag = false) := by
              show _ = _
              cases hag : ag with
              | false => rfl
              | true => exact absurd ((HX.out.1.symm.trans (HAG.out.1 hag i (by omega) hib)).trans HX.out.2) hxy
            have hq : ((x : Int) != (y : Int)) = true := by simp; omega
            go_wp2_with fail
            go_ret
            exact ⟨by rw [HV.out]; rfl, ((HF.out.trans HG.out).trans HR.out.1).trans HW.out⟩)

end Go.Proofs.Ytgbbgkbpafpnbaa
