/-
  CONTRACTS of cmp.Compare, of package cidr's Compare and of the reference's Compare and ComparePrefix, over this seat's translation: what each call returns.
  Conditions: the arguments are addresses and prefixes.
-/
import Derived.Test.YtnbohhiooigmbaaCh
import Derived.Test.YtnbohhiooigmbaaGr
import Derived.Deep.QuietTactic
import Derived.BigQuiet
import Derived.Lib.BytesEntry
import Derived.Lib.Bytealg
import Derived.Deep.RegionHeld3
namespace Go.Proofs.Ytnbohhiooigmbaa
open Go.ChangeShapes Go.WideShapes Go.ChangeAt Go.RowKit
set_option linter.unusedVariables false

set_option maxHeartbeats 2000000 in
set_option maxRecDepth 100000 in
theorem compare_ref (b c : Bool) (xs ys : List Nat) (hx : Bytes xs) (hy : Bytes ys) (w : World) :
    Calls Try.prog 64 #[.agg (adr b xs).toArray, .agg (adr c ys).toArray] w fun e w' => e = .returned (.int .i64 (cmpA b c xs ys)) ∧ Fr No w w' := by
  have hb1 : ((w.alloc (.cells (adr b xs).toArray 29)).alloc (.cells (adr c ys).toArray 29)).heap[w.heap.size]? = some (.cells (adr b xs).toArray 29 (0, 0)) := (Fr.alloc No _ _).keep (heap_alloc_new w _)
  have hb2 : ((w.alloc (.cells (adr b xs).toArray 29)).alloc (.cells (adr c ys).toArray 29)).heap[w.heap.size + 1]? = some (.cells (adr c ys).toArray 29 (0, 0)) := by
    have := heap_alloc_new (w.alloc (.cells (adr b xs).toArray 29)) (.cells (adr c ys).toArray 29)
    simpa using this
  have HF : Hid (Fr No w ((w.alloc (.cells (adr b xs).toArray 29)).alloc (.cells (adr c ys).toArray 29))) := (Fr.alloc No _ _).trans (Fr.alloc No _ _)
  obtain ⟨A, hA, h0, -, ha⟩ := adr_letter b xs hx
  obtain ⟨B, hB, g0, -, ga⟩ := adr_letter c ys hy
  have k0 : ((w.alloc (.cells A 29)).alloc (.cells B 29)).cell? ⟨w.heap.size, 0, none⟩ = some (.bool b) := by rw [← hA, ← hB, cell_of_row _ _ _ _ _ _ hb1, hA]; exact h0
  have j0 : ((w.alloc (.cells A 29)).alloc (.cells B 29)).cell? ⟨w.heap.size + 1, 0, none⟩ = some (.bool c) := by rw [← hA, ← hB, cell_of_row _ _ _ _ _ _ hb2, hB]; exact g0
  have HK : Hid (∀ i x : Nat, xs[i]? = some x → ((w.alloc (.cells A 29)).alloc (.cells B 29)).cell? ⟨w.heap.size, 1 + i, none⟩ = some (.int .u8 x)) := fun i x hi => by rw [← hA, ← hB, cell_of_row _ _ _ _ _ _ hb1, hA]; exact ha i x hi
  have HJ : Hid (∀ i x : Nat, ys[i]? = some x → ((w.alloc (.cells A 29)).alloc (.cells B 29)).cell? ⟨w.heap.size + 1, 1 + i, none⟩ = some (.int .u8 x)) := fun i x hi => by rw [← hA, ← hB, cell_of_row _ _ _ _ _ _ hb2, hB]; exact ga i x hi
  rw [hA, hB] at HF ⊢
  clear hb1 hb2 hA hB ha ga
  by_cases hbc : b = c
  · subst hbc
    rw [show cmpA b b xs ys = cmpN xs ys by rw [cmpA, if_pos rfl]]
    go_enter Try.func64, Try.ntmps64
    go_wp2_with fail
    clear k0 j0
    generalize (w.alloc (.cells A 29)).alloc (.cells B 29) = w1 at HF HK HJ ⊢
    obtain ⟨b1, hb1⟩ : ∃ b1, w.heap.size = b1 := ⟨_, rfl⟩
    rw [hb1] at HK HJ ⊢
    clear hb1
    go_loopg [5] 17 (fun g s wr => ∃ i : Nat, s = .int .i64 i ∧ i ≤ 16 ∧ 16 - i < g ∧ Hid (Fr No w1 wr ∧ cmpN (xs.drop i) (ys.drop i) = cmpN xs ys))
    case atStart => exact ⟨0, by go_num, by omega, by omega, Fr.refl _ _, rfl⟩
    case round =>
      obtain ⟨i, rfl, hi16, hig, HR⟩ := hrel
      by_cases hi : i = 16
      · subst hi
        go_wp2_with fail
        go_ret
        have h1 := HR.out.2
        rw [List.drop_of_length_le (by rw [hx.1]; omega), List.drop_of_length_le (by rw [hy.1]; omega)] at h1
        rw [← h1]
        exact ⟨rfl, HF.out.trans HR.out.1⟩
      · obtain ⟨x, hxi⟩ : ∃ x, xs[i]? = some x := ⟨_, List.getElem?_eq_getElem (by rw [hx.1]; omega)⟩
        obtain ⟨y, hyi⟩ : ∃ y, ys[i]? = some y := ⟨_, List.getElem?_eq_getElem (by rw [hy.1]; omega)⟩
        have c1 := HR.out.1.cell (HK.out i x hxi)
        have c2 := HR.out.1.cell (HJ.out i y hyi)
        have q1 : (0 : Int) ≤ (i : Int) := by omega
        have q2 : (i : Int) < 16 := by omega
        have HV : Hid (cmpN xs ys = if x < y then -1 else if y < x then 1 else cmpN (xs.drop (i + 1)) (ys.drop (i + 1))) := HR.out.2.symm.trans (cmpN_step hxi hyi)
        by_cases l1 : x < y
        · have p1 : (x : Int) < (y : Int) := by omega
          go_wp2_with fail
          go_quiet (fail)
          go_wp2_with fail
          go_ret
          exact ⟨by rw [HV.out, if_pos l1]; rfl, HF.out.trans (HR.out.1.trans (Fr.drewN _ _ _))⟩
        · have p1 : ¬ (x : Int) < (y : Int) := by omega
          by_cases l2 : y < x
          · have p2 : (y : Int) < (x : Int) := by omega
            go_wp2_with fail
            go_quiet (fail)
            go_wp2_with fail
            go_quiet (fail)
            go_wp2_with fail
            go_ret
            exact ⟨by rw [HV.out, if_neg l1, if_pos l2]; rfl, HF.out.trans (HR.out.1.trans ((Fr.drewN _ _ _).trans (Fr.drewN _ _ _)))⟩
          · have p2 : ¬ (y : Int) < (x : Int) := by omega
            go_wp2_with fail
            go_quiet (fail)
            go_wp2_with fail
            go_quiet (fail)
            go_wp2_with fail
            go_roundg (16 - i)
            case measure => exact hig
            case rel => exact ⟨i + 1, by go_num, by omega, by omega, HR.out.1.trans ⟨rfl, rfl, rfl, Nat.le_refl _, fun _ _ _ => rfl⟩, by rw [HV.out, if_neg l1, if_neg l2]⟩
  · have hv : cmpA b c xs ys = if c then -1 else 1 := by rw [cmpA, if_neg hbc]
    rw [hv]
    clear hv HK HJ
    cases c
    · obtain rfl : b = true := by cases b <;> simp_all
      go_enter Try.func64, Try.ntmps64
      go_wp2_with fail
      go_ret
      exact ⟨rfl, HF.out⟩
    · obtain rfl : b = false := by cases b <;> simp_all
      go_enter Try.func64, Try.ntmps64
      go_wp2_with fail
      go_ret
      exact ⟨rfl, HF.out⟩

def cmpI (p q : Int) : Int := if p < q then -1 else if q < p then 1 else 0
/-- How two prefixes compare. -/
def cmpP (b c : Bool) (xs ys : List Nat) (n m : Int) : Int := if cmpA b c xs ys = 0 then cmpI n m else cmpA b c xs ys

set_option maxHeartbeats 4000000 in
set_option maxRecDepth 100000 in
theorem cmpp_ref (b c : Bool) (xs ys : List Nat) (n m : Int) (hx : Bytes xs) (hy : Bytes ys) (w : World) :
    Calls Try.prog 39 #[.agg (pfx b xs n).toArray, .agg (pfx c ys m).toArray] w fun e w' => e = .returned (.int .i64 (cmpP b c xs ys n m)) ∧ Fr No w w' := by
  have HC : Hid (∀ w', Calls Try.prog 64 #[.agg (adr b xs).toArray, .agg (adr c ys).toArray] w' fun e w'' => e = .returned (.int .i64 (cmpA b c xs ys)) ∧ Fr No w' w'') := fun w' => compare_ref b c xs ys hx hy w'
  have HR : Hid (cmpP b c xs ys n m = if cmpA b c xs ys = 0 then cmpI n m else cmpA b c xs ys) := rfl
  obtain ⟨P, hP0, -, hP17, hPs, hPA, -⟩ := pfx_letter b xs n hx
  obtain ⟨Q, hQ0, -, hQ17, hQs, hQA, -⟩ := pfx_letter c ys m hy
  obtain ⟨A, hA, -, hsz, -⟩ := adr_letter b xs hx
  obtain ⟨B, hB, -, hszb, -⟩ := adr_letter c ys hy
  rw [hA, hB] at HC
  rw [hA] at hPA
  rw [hB] at hQA
  rw [hP0, hQ0]
  rw [HR.out]
  generalize cmpA b c xs ys = ca at HC HR ⊢
  obtain ⟨b1, b2, hF⟩ := alloc2 w (.cells P 31) (.cells Q 31)
  obtain ⟨w1, hw1⟩ : ∃ w1, (w.alloc (.cells P 31)).alloc (.cells Q 31) = w1 := ⟨_, rfl⟩
  obtain ⟨nb, hnb⟩ : ∃ nb, w.heap.size = nb := ⟨_, rfl⟩
  rw [hw1, hnb] at b1 b2
  rw [hw1] at hF
  have HLD : Hid (∀ w', Fr No w1 w' → (Sem.run Try.prog (loadCellsFrom ⟨nb, 0, none⟩ 0 17 #[]) w' = .ok A w' ∧ Sem.run Try.prog (loadCellsFrom ⟨nb + 1, 0, none⟩ 0 17 #[]) w' = .ok B w') ∧ w'.cell? ⟨nb, 17, none⟩ = some (.int .i64 n) ∧ w'.cell? ⟨nb + 1, 17, none⟩ = some (.int .i64 m)) := fun w' hf => by
    have k1 := hf.keep b1
    have k2 := hf.keep b2
    exact ⟨⟨load_block k1 hsz (adr_part hsz hPA), load_block k2 hszb (adr_part hszb hQA)⟩, by rw [cell_of_row _ _ _ _ _ _ k1]; exact hP17, by rw [cell_of_row _ _ _ _ _ _ k2]; exact hQ17⟩
  have HF := Lib.hid hF
  clear b1 b2 hF hQA hPA hP0 hQ0 hA hB hP17 hQ17 HR
  have l1 := (HLD.out _ (Fr.refl _ _)).1.1
  have l2 := (HLD.out _ (Fr.refl _ _)).1.2
  by_cases hc : ca = 0
  · subst hc
    rw [if_pos rfl]
    unfold cmpI
    by_cases q1 : n < m
    · rw [if_pos q1]
      go_enter Try.func39, Try.ntmps39
      have t3 := Try.underlying3
      have u3 := Try.runUnderlying3
      have g3 := Try.isAgg3
      have z3 := Try.sizeOf3
      have t4 := Try.underlying4
      have u4 := Try.runUnderlying4
      have g4 := Try.isAgg4
      have z4 := Try.sizeOf4
      have t29 := Try.underlying29
      have u29 := Try.runUnderlying29
      have g29 := Try.isAgg29
      have z29 := Try.sizeOf29
      have t31 := Try.underlying31
      have u31 := Try.runUnderlying31
      have g31 := Try.isAgg31
      have z31 := Try.sizeOf31
      have c64 := Try.call64
      have mixed : Try.prog.follows .mixedOrders = true := by kernel_rfl
      obtain ⟨k30, hk30⟩ : ∃ k, k = 17 := ⟨_, rfl⟩
      rw [← hk30] at z29
      have nk30 : ¬ k30 = 0 := by omega
      have HK29 := Lib.hid hk30
      obtain ⟨k40, hk40⟩ : ∃ k, k = 18 := ⟨_, rfl⟩
      rw [← hk40] at z31
      have nk40 : ¬ k40 = 0 := by omega
      have HK31 := Lib.hid hk40
      have hP : Try.prog = PD := rfl
      rw [hP] at t3 u3 g3 z3 t4 u4 g4 z4 t29 u29 g29 z29 t31 u31 g31 z31 c64 mixed HLD l1 l2 ⊢
      have HP := Lib.hid hP.symm
      clear hP hk30 hk40
      have hAk : A.size = k30 := by rw [HK29.out]; exact hsz
      have hBk : B.size = k30 := by rw [HK29.out]; exact hszb
      have hPk : P.size = k40 := by rw [HK31.out]; exact hPs
      have hQk : Q.size = k40 := by rw [HK31.out]; exact hQs
      rw [← HK29.out] at l1 l2
      clear hsz hPs hQs hszb
      go_wp2_with (first | (go_at_call 64; refine (at_prog HP.out (HC.out _)).mono ?_; rintro e w3 ⟨rfl, hf3⟩; have f4 := (HLD.out w3 hf3).2.1; have f5 := (HLD.out w3 hf3).2.2) | fail)
      go_ret
      exact ⟨rfl, HF.out.trans hf3⟩
    · rw [if_neg q1]
      by_cases q2 : m < n
      · rw [if_pos q2]
        go_enter Try.func39, Try.ntmps39
        have t3 := Try.underlying3
        have u3 := Try.runUnderlying3
        have g3 := Try.isAgg3
        have z3 := Try.sizeOf3
        have t4 := Try.underlying4
        have u4 := Try.runUnderlying4
        have g4 := Try.isAgg4
        have z4 := Try.sizeOf4
        have t29 := Try.underlying29
        have u29 := Try.runUnderlying29
        have g29 := Try.isAgg29
        have z29 := Try.sizeOf29
        have t31 := Try.underlying31
        have u31 := Try.runUnderlying31
        have g31 := Try.isAgg31
        have z31 := Try.sizeOf31
        have c64 := Try.call64
        have mixed : Try.prog.follows .mixedOrders = true := by kernel_rfl
        obtain ⟨k30, hk30⟩ : ∃ k, k = 17 := ⟨_, rfl⟩
        rw [← hk30] at z29
        have nk30 : ¬ k30 = 0 := by omega
        have HK29 := Lib.hid hk30
        obtain ⟨k40, hk40⟩ : ∃ k, k = 18 := ⟨_, rfl⟩
        rw [← hk40] at z31
        have nk40 : ¬ k40 = 0 := by omega
        have HK31 := Lib.hid hk40
        have hP : Try.prog = PD := rfl
        rw [hP] at t3 u3 g3 z3 t4 u4 g4 z4 t29 u29 g29 z29 t31 u31 g31 z31 c64 mixed HLD l1 l2 ⊢
        have HP := Lib.hid hP.symm
        clear hP hk30 hk40
        have hAk : A.size = k30 := by rw [HK29.out]; exact hsz
        have hBk : B.size = k30 := by rw [HK29.out]; exact hszb
        have hPk : P.size = k40 := by rw [HK31.out]; exact hPs
        have hQk : Q.size = k40 := by rw [HK31.out]; exact hQs
        rw [← HK29.out] at l1 l2
        clear hsz hPs hQs hszb
        go_wp2_with (first | (go_at_call 64; refine (at_prog HP.out (HC.out _)).mono ?_; rintro e w3 ⟨rfl, hf3⟩; have f4 := (HLD.out w3 hf3).2.1; have f5 := (HLD.out w3 hf3).2.2) | fail)
        go_ret
        exact ⟨rfl, HF.out.trans hf3⟩
      · rw [if_neg q2]
        go_enter Try.func39, Try.ntmps39
        have t3 := Try.underlying3
        have u3 := Try.runUnderlying3
        have g3 := Try.isAgg3
        have z3 := Try.sizeOf3
        have t4 := Try.underlying4
        have u4 := Try.runUnderlying4
        have g4 := Try.isAgg4
        have z4 := Try.sizeOf4
        have t29 := Try.underlying29
        have u29 := Try.runUnderlying29
        have g29 := Try.isAgg29
        have z29 := Try.sizeOf29
        have t31 := Try.underlying31
        have u31 := Try.runUnderlying31
        have g31 := Try.isAgg31
        have z31 := Try.sizeOf31
        have c64 := Try.call64
        have mixed : Try.prog.follows .mixedOrders = true := by kernel_rfl
        obtain ⟨k30, hk30⟩ : ∃ k, k = 17 := ⟨_, rfl⟩
        rw [← hk30] at z29
        have nk30 : ¬ k30 = 0 := by omega
        have HK29 := Lib.hid hk30
        obtain ⟨k40, hk40⟩ : ∃ k, k = 18 := ⟨_, rfl⟩
        rw [← hk40] at z31
        have nk40 : ¬ k40 = 0 := by omega
        have HK31 := Lib.hid hk40
        have hP : Try.prog = PD := rfl
        rw [hP] at t3 u3 g3 z3 t4 u4 g4 z4 t29 u29 g29 z29 t31 u31 g31 z31 c64 mixed HLD l1 l2 ⊢
        have HP := Lib.hid hP.symm
        clear hP hk30 hk40
        have hAk : A.size = k30 := by rw [HK29.out]; exact hsz
        have hBk : B.size = k30 := by rw [HK29.out]; exact hszb
        have hPk : P.size = k40 := by rw [HK31.out]; exact hPs
        have hQk : Q.size = k40 := by rw [HK31.out]; exact hQs
        rw [← HK29.out] at l1 l2
        clear hsz hPs hQs hszb
        go_wp2_with (first | (go_at_call 64; refine (at_prog HP.out (HC.out _)).mono ?_; rintro e w3 ⟨rfl, hf3⟩; have f4 := (HLD.out w3 hf3).2.1; have f5 := (HLD.out w3 hf3).2.2) | fail)
        go_ret
        exact ⟨rfl, HF.out.trans hf3⟩
  · rw [if_neg hc]
    go_enter Try.func39, Try.ntmps39
    have t3 := Try.underlying3
    have u3 := Try.runUnderlying3
    have g3 := Try.isAgg3
    have z3 := Try.sizeOf3
    have t4 := Try.underlying4
    have u4 := Try.runUnderlying4
    have g4 := Try.isAgg4
    have z4 := Try.sizeOf4
    have t29 := Try.underlying29
    have u29 := Try.runUnderlying29
    have g29 := Try.isAgg29
    have z29 := Try.sizeOf29
    have t31 := Try.underlying31
    have u31 := Try.runUnderlying31
    have g31 := Try.isAgg31
    have z31 := Try.sizeOf31
    have c64 := Try.call64
    have mixed : Try.prog.follows .mixedOrders = true := by kernel_rfl
    obtain ⟨k30, hk30⟩ : ∃ k, k = 17 := ⟨_, rfl⟩
    rw [← hk30] at z29
    have nk30 : ¬ k30 = 0 := by omega
    have HK29 := Lib.hid hk30
    obtain ⟨k40, hk40⟩ : ∃ k, k = 18 := ⟨_, rfl⟩
    rw [← hk40] at z31
    have nk40 : ¬ k40 = 0 := by omega
    have HK31 := Lib.hid hk40
    have hP : Try.prog = PD := rfl
    rw [hP] at t3 u3 g3 z3 t4 u4 g4 z4 t29 u29 g29 z29 t31 u31 g31 z31 c64 mixed HLD l1 l2 ⊢
    have HP := Lib.hid hP.symm
    clear hP hk30 hk40
    have hAk : A.size = k30 := by rw [HK29.out]; exact hsz
    have hBk : B.size = k30 := by rw [HK29.out]; exact hszb
    have hPk : P.size = k40 := by rw [HK31.out]; exact hPs
    have hQk : Q.size = k40 := by rw [HK31.out]; exact hQs
    rw [← HK29.out] at l1 l2
    clear hsz hPs hQs hszb
    go_wp2_with (first | (go_at_call 64; refine (at_prog HP.out (HC.out _)).mono ?_; rintro e w3 ⟨rfl, hf3⟩; have f4 := (HLD.out w3 hf3).2.1; have f5 := (HLD.out w3 hf3).2.2) | fail)
    go_ret
    exact ⟨rfl, HF.out.trans hf3⟩
end Go.Proofs.Ytnbohhiooigmbaa
