/-
  CONTRACTS of cmp.Compare, of package cidr's Compare and of the reference's Compare and ComparePrefix, over this seat's translation: what each call returns.
  Conditions: the arguments are addresses and prefixes.
-/
import Derived.Test.YtmhnailcmlomiaaDoorCh
import Derived.Test.YtmhnailcmlomiaaDoorC
import Derived.Deep.QuietTactic
import Derived.BigQuiet
import Derived.Lib.BytesEntry
import Derived.Lib.Bytealg
import Derived.Deep.RegionHeld3
namespace Go.Proofs.YtmhnailcmlomiaaDoor
open Go.ChangeShapes Go.WideShapes Go.ChangeAt Go.RowKit
set_option linter.unusedVariables false

def cmpI (p q : Int) : Int := if p < q then -1 else if q < p then 1 else 0
/-- How two prefixes compare. -/
def cmpP (b c : Bool) (xs ys : List Nat) (n m : Int) : Int := if cmpA b c xs ys = 0 then cmpI n m else cmpA b c xs ys

set_option maxHeartbeats 1000000 in
theorem nan_any (p : Int) (w : World) : Calls Tryd.prog 42 #[.int .i64 p] w fun e w' => e = .returned (.bool false) ∧ w' = w := by
  have hq : (p != p) = false := by simp
  go_enter Tryd.func42, Tryd.ntmps42
  go_wp2_with fail
  go_ret
  exact ⟨rfl, rfl⟩
set_option maxHeartbeats 2000000 in
theorem cmpi_any (p q : Int) (w : World) : Calls Tryd.prog 32 #[.int .i64 p, .int .i64 q] w fun e w' => e = .returned (.int .i64 (cmpI p q)) ∧ w' = w := by
  have H1 := Lib.hid (nan_any p)
  have H2 := Lib.hid (nan_any q)
  by_cases l1 : p < q
  · rw [show cmpI p q = -1 by rw [cmpI, if_pos l1]]
    go_enter Tryd.func32, Tryd.ntmps32
    go_wp2_with (first | (go_at_call 42; with_reducible refine (H1.out _).mono ?_; rintro e wa ⟨rfl, hwa⟩; subst hwa) | (go_at_call 42; with_reducible refine (H2.out _).mono ?_; rintro e wb ⟨rfl, hwb⟩; subst hwb) | fail)
    go_ret
    exact ⟨rfl, rfl⟩
  · by_cases l2 : q < p
    · rw [show cmpI p q = 1 by rw [cmpI, if_neg l1, if_pos l2]]
      go_enter Tryd.func32, Tryd.ntmps32
      go_wp2_with (first | (go_at_call 42; with_reducible refine (H1.out _).mono ?_; rintro e wa ⟨rfl, hwa⟩; subst hwa) | (go_at_call 42; with_reducible refine (H2.out _).mono ?_; rintro e wb ⟨rfl, hwb⟩; subst hwb) | fail)
      go_ret
      exact ⟨rfl, rfl⟩
    · rw [show cmpI p q = 0 by rw [cmpI, if_neg l1, if_neg l2]]
      go_enter Tryd.func32, Tryd.ntmps32
      go_wp2_with (first | (go_at_call 42; with_reducible refine (H1.out _).mono ?_; rintro e wa ⟨rfl, hwa⟩; subst hwa) | (go_at_call 42; with_reducible refine (H2.out _).mono ?_; rintro e wb ⟨rfl, hwb⟩; subst hwb) | fail)
      go_ret
      exact ⟨rfl, rfl⟩

set_option maxHeartbeats 4000000 in
set_option maxRecDepth 100000 in
theorem cmpp_any (b c : Bool) (xs ys : List Nat) (n m : Int) (hx : Bytes xs) (hy : Bytes ys) (w : World) :
    Calls Tryd.prog 23 #[.agg (pfx b xs n).toArray, .agg (pfx c ys m).toArray] w fun e w' => e = .returned (.int .i64 (cmpP b c xs ys n m)) ∧ Fr No w w' := by
  have HC : Hid (∀ w', Calls Tryd.prog 31 #[.agg (adr b xs).toArray, .agg (adr c ys).toArray] w' fun e w'' => e = .returned (.int .i64 (cmpA b c xs ys)) ∧ Fr No w' w'') := fun w' => compare_any b c xs ys hx hy w'
  have HI := Lib.hid (cmpi_any n m)
  have HR : Hid (cmpP b c xs ys n m = if cmpA b c xs ys = 0 then cmpI n m else cmpA b c xs ys) := rfl
  obtain ⟨P, hP0, -, hP17, hPs, hPA, -⟩ := pfx_letter b xs n hx
  obtain ⟨Q, hQ0, -, hQ17, hQs, hQA, -⟩ := pfx_letter c ys m hy
  obtain ⟨A, hA, -, hsz, -⟩ := adr_letter b xs hx
  obtain ⟨B, hB, -, hszb, -⟩ := adr_letter c ys hy
  rw [hA, hB] at HC
  rw [hA] at hPA
  rw [hB] at hQA
  rw [hP0, hQ0]
  rw [HR.out]
  generalize cmpA b c xs ys = ca at HC HR ⊢
  obtain ⟨b1, b2, hF⟩ := alloc2 w (.cells P 26) (.cells Q 26)
  obtain ⟨w1, hw1⟩ : ∃ w1, (w.alloc (.cells P 26)).alloc (.cells Q 26) = w1 := ⟨_, rfl⟩
  obtain ⟨nb, hnb⟩ : ∃ nb, w.heap.size = nb := ⟨_, rfl⟩
  rw [hw1, hnb] at b1 b2
  rw [hw1] at hF
  have HLD : Hid (∀ w', Fr No w1 w' → (Sem.run Tryd.prog (loadCellsFrom ⟨nb, 0, none⟩ 0 17 #[]) w' = .ok A w' ∧ Sem.run Tryd.prog (loadCellsFrom ⟨nb + 1, 0, none⟩ 0 17 #[]) w' = .ok B w') ∧ w'.cell? ⟨nb, 17, none⟩ = some (.int .i64 n) ∧ w'.cell? ⟨nb + 1, 17, none⟩ = some (.int .i64 m)) := fun w' hf => by
    have k1 := hf.keep b1
    have k2 := hf.keep b2
    exact ⟨⟨load_block k1 hsz (adr_part hsz hPA), load_block k2 hszb (adr_part hszb hQA)⟩, by rw [cell_of_row _ _ _ _ _ _ k1]; exact hP17, by rw [cell_of_row _ _ _ _ _ _ k2]; exact hQ17⟩
  have HF := Lib.hid hF
  clear b1 b2 hF hQA hPA hP0 hQ0 hA hB hP17 hQ17 HR
  have l1 := (HLD.out _ (Fr.refl _ _)).1.1
  have l2 := (HLD.out _ (Fr.refl _ _)).1.2
  by_cases hc : ca = 0
  · subst hc
    rw [if_pos rfl]
    go_enter Tryd.func23, Tryd.ntmps23
    have t3 := Tryd.underlying3
    have u3 := Tryd.runUnderlying3
    have g3 := Tryd.isAgg3
    have z3 := Tryd.sizeOf3
    have t4 := Tryd.underlying4
    have u4 := Tryd.runUnderlying4
    have g4 := Tryd.isAgg4
    have z4 := Tryd.sizeOf4
    have t24 := Tryd.underlying24
    have u24 := Tryd.runUnderlying24
    have g24 := Tryd.isAgg24
    have z24 := Tryd.sizeOf24
    have t26 := Tryd.underlying26
    have u26 := Tryd.runUnderlying26
    have g26 := Tryd.isAgg26
    have z26 := Tryd.sizeOf26
    have c31 := Tryd.call31
    have c32 := Tryd.call32
    have mixed : Tryd.prog.follows .mixedOrders = true := by kernel_rfl
    obtain ⟨k30, hk30⟩ : ∃ k, k = 17 := ⟨_, rfl⟩
    rw [← hk30] at z24
    have nk30 : ¬ k30 = 0 := by omega
    have HK24 := Lib.hid hk30
    obtain ⟨k40, hk40⟩ : ∃ k, k = 18 := ⟨_, rfl⟩
    rw [← hk40] at z26
    have nk40 : ¬ k40 = 0 := by omega
    have HK26 := Lib.hid hk40
    have hP : Tryd.prog = PD := rfl
    rw [hP] at t3 u3 g3 z3 t4 u4 g4 z4 t24 u24 g24 z24 t26 u26 g26 z26 c31 c32 mixed HLD l1 l2 ⊢
    have HP := Lib.hid hP.symm
    clear hP hk30 hk40
    have hAk : A.size = k30 := by rw [HK24.out]; exact hsz
    have hBk : B.size = k30 := by rw [HK24.out]; exact hszb
    have hPk : P.size = k40 := by rw [HK26.out]; exact hPs
    have hQk : Q.size = k40 := by rw [HK26.out]; exact hQs
    rw [← HK24.out] at l1 l2
    clear hsz hPs hQs hszb
    go_wp2_with (first | (go_at_call 31; refine (at_prog HP.out (HC.out _)).mono ?_; rintro e w3 ⟨rfl, hf3⟩; have f4 := (HLD.out w3 hf3).2.1; have f5 := (HLD.out w3 hf3).2.2) | (go_at_call 32; refine (at_prog HP.out (HI.out _)).mono ?_; rintro e w4 ⟨rfl, hw4⟩; subst hw4) | fail)
    go_ret
    exact ⟨rfl, HF.out.trans hf3⟩
  · rw [if_neg hc]
    go_enter Tryd.func23, Tryd.ntmps23
    have t3 := Tryd.underlying3
    have u3 := Tryd.runUnderlying3
    have g3 := Tryd.isAgg3
    have z3 := Tryd.sizeOf3
    have t4 := Tryd.underlying4
    have u4 := Tryd.runUnderlying4
    have g4 := Tryd.isAgg4
    have z4 := Tryd.sizeOf4
    have t24 := Tryd.underlying24
    have u24 := Tryd.runUnderlying24
    have g24 := Tryd.isAgg24
    have z24 := Tryd.sizeOf24
    have t26 := Tryd.underlying26
    have u26 := Tryd.runUnderlying26
    have g26 := Tryd.isAgg26
    have z26 := Tryd.sizeOf26
    have c31 := Tryd.call31
    have c32 := Tryd.call32
    have mixed : Tryd.prog.follows .mixedOrders = true := by kernel_rfl
    obtain ⟨k30, hk30⟩ : ∃ k, k = 17 := ⟨_, rfl⟩
    rw [← hk30] at z24
    have nk30 : ¬ k30 = 0 := by omega
    have HK24 := Lib.hid hk30
    obtain ⟨k40, hk40⟩ : ∃ k, k = 18 := ⟨_, rfl⟩
    rw [← hk40] at z26
    have nk40 : ¬ k40 = 0 := by omega
    have HK26 := Lib.hid hk40
    have hP : Tryd.prog = PD := rfl
    rw [hP] at t3 u3 g3 z3 t4 u4 g4 z4 t24 u24 g24 z24 t26 u26 g26 z26 c31 c32 mixed HLD l1 l2 ⊢
    have HP := Lib.hid hP.symm
    clear hP hk30 hk40
    have hAk : A.size = k30 := by rw [HK24.out]; exact hsz
    have hBk : B.size = k30 := by rw [HK24.out]; exact hszb
    have hPk : P.size = k40 := by rw [HK26.out]; exact hPs
    have hQk : Q.size = k40 := by rw [HK26.out]; exact hQs
    rw [← HK24.out] at l1 l2
    clear hsz hPs hQs hszb
    go_wp2_with (first | (go_at_call 31; refine (at_prog HP.out (HC.out _)).mono ?_; rintro e w3 ⟨rfl, hf3⟩; have f4 := (HLD.out w3 hf3).2.1; have f5 := (HLD.out w3 hf3).2.2) | fail)
    go_ret
    exact ⟨rfl, HF.out.trans hf3⟩

end Go.Proofs.YtmhnailcmlomiaaDoor
