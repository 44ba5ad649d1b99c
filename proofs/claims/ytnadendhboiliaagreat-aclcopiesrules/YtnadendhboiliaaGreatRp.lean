/-
  CONTRACTS of the generators' Port, Host and Target, over this seat's translation: what each call returns.
  Conditions: none.
-/
import Derived.Test.YtnadendhboiliaaGreatRv
namespace Go.Proofs.YtnadendhboiliaaGreat
open Go.ChangeShapes Go.WideShapes Go.ChangeAt Go.RowKit
set_option linter.unusedVariables false

set_option maxHeartbeats 2000000 in
set_option maxRecDepth 100000 in
theorem port_gen (n : Int) : ∃ p : Int, 1 ≤ p ∧ p ≤ 65535 ∧ ∀ w, Calls Tryz.prog 10 #[.int .i64 n] w fun e w' => e = .returned (.int .i64 p) ∧ w' = w := by
  obtain ⟨k, hk, h4⟩ := mod_fix n 4 (by omega) (by omega)
  obtain ⟨q, hq, hb⟩ := mod_fix n 65535 (by omega) (by omega)
  have HB : Hid (∀ w', Calls Tryz.prog 25 #[.int .i64 n, .int .i64 65535] w' fun e w'' => e = .returned (.int .i64 q) ∧ w'' = w') := hb
  have hwq : wrap64 (1 + (q : Int)) = 1 + (q : Int) := by unfold wrap64; omega
  clear hb
  rcases (by omega : k = 0 ∨ k = 1 ∨ k = 2 ∨ k = 3) with rfl | rfl | rfl | rfl
  · refine ⟨53, by omega, by omega, fun w => ?_⟩
    have H4 : Hid (∀ w', Calls Tryz.prog 25 #[.int .i64 n, .int .i64 4] w' fun e w'' => e = .returned (.int .i64 0) ∧ w'' = w') := h4
    clear h4
    go_enter Tryz.func10, Tryz.ntmps10
    have t3 := Tryz.underlying3
    have u3 := Tryz.runUnderlying3
    have g3 := Tryz.isAgg3
    have z3 := Tryz.sizeOf3
    have t4 := Tryz.underlying4
    have u4 := Tryz.runUnderlying4
    have g4 := Tryz.isAgg4
    have z4 := Tryz.sizeOf4
    have c25 := Tryz.call25
    have mixed : Tryz.prog.follows .mixedOrders = true := by kernel_rfl
    have hP : Tryz.prog = PD := rfl
    rw [hP] at t3 u3 g3 z3 t4 u4 g4 z4 c25 mixed ⊢
    have HP := Lib.hid hP.symm
    clear hP 
    go_wp2_with (first | (go_at_call 25; ((with_reducible refine (at_prog HP.out (H4.out _)).mono ?_); rintro e w1 ⟨rfl, hw1⟩; subst hw1)) | (go_at_call 25; ((with_reducible refine (at_prog HP.out (HB.out _)).mono ?_); rintro e w1 ⟨rfl, hw1⟩; subst hw1)) | fail)
    go_ret
    exact ⟨rfl, rfl⟩
  · refine ⟨80, by omega, by omega, fun w => ?_⟩
    have H4 : Hid (∀ w', Calls Tryz.prog 25 #[.int .i64 n, .int .i64 4] w' fun e w'' => e = .returned (.int .i64 1) ∧ w'' = w') := h4
    clear h4
    go_enter Tryz.func10, Tryz.ntmps10
    have t3 := Tryz.underlying3
    have u3 := Tryz.runUnderlying3
    have g3 := Tryz.isAgg3
    have z3 := Tryz.sizeOf3
    have t4 := Tryz.underlying4
    have u4 := Tryz.runUnderlying4
    have g4 := Tryz.isAgg4
    have z4 := Tryz.sizeOf4
    have c25 := Tryz.call25
    have mixed : Tryz.prog.follows .mixedOrders = true := by kernel_rfl
    have hP : Tryz.prog = PD := rfl
    rw [hP] at t3 u3 g3 z3 t4 u4 g4 z4 c25 mixed ⊢
    have HP := Lib.hid hP.symm
    clear hP 
    go_wp2_with (first | (go_at_call 25; ((with_reducible refine (at_prog HP.out (H4.out _)).mono ?_); rintro e w1 ⟨rfl, hw1⟩; subst hw1)) | (go_at_call 25; ((with_reducible refine (at_prog HP.out (HB.out _)).mono ?_); rintro e w1 ⟨rfl, hw1⟩; subst hw1)) | fail)
    go_ret
    exact ⟨rfl, rfl⟩
  · refine ⟨443, by omega, by omega, fun w => ?_⟩
    have H4 : Hid (∀ w', Calls Tryz.prog 25 #[.int .i64 n, .int .i64 4] w' fun e w'' => e = .returned (.int .i64 2) ∧ w'' = w') := h4
    clear h4
    go_enter Tryz.func10, Tryz.ntmps10
    have t3 := Tryz.underlying3
    have u3 := Tryz.runUnderlying3
    have g3 := Tryz.isAgg3
    have z3 := Tryz.sizeOf3
    have t4 := Tryz.underlying4
    have u4 := Tryz.runUnderlying4
    have g4 := Tryz.isAgg4
    have z4 := Tryz.sizeOf4
    have c25 := Tryz.call25
    have mixed : Tryz.prog.follows .mixedOrders = true := by kernel_rfl
    have hP : Tryz.prog = PD := rfl
    rw [hP] at t3 u3 g3 z3 t4 u4 g4 z4 c25 mixed ⊢
    have HP := Lib.hid hP.symm
    clear hP 
    go_wp2_with (first | (go_at_call 25; ((with_reducible refine (at_prog HP.out (H4.out _)).mono ?_); rintro e w1 ⟨rfl, hw1⟩; subst hw1)) | (go_at_call 25; ((with_reducible refine (at_prog HP.out (HB.out _)).mono ?_); rintro e w1 ⟨rfl, hw1⟩; subst hw1)) | fail)
    go_ret
    exact ⟨rfl, rfl⟩
  · refine ⟨1 + (q : Int), by omega, by omega, fun w => ?_⟩
    have H4 : Hid (∀ w', Calls Tryz.prog 25 #[.int .i64 n, .int .i64 4] w' fun e w'' => e = .returned (.int .i64 3) ∧ w'' = w') := h4
    clear h4
    go_enter Tryz.func10, Tryz.ntmps10
    have t3 := Tryz.underlying3
    have u3 := Tryz.runUnderlying3
    have g3 := Tryz.isAgg3
    have z3 := Tryz.sizeOf3
    have t4 := Tryz.underlying4
    have u4 := Tryz.runUnderlying4
    have g4 := Tryz.isAgg4
    have z4 := Tryz.sizeOf4
    have c25 := Tryz.call25
    have mixed : Tryz.prog.follows .mixedOrders = true := by kernel_rfl
    have hP : Tryz.prog = PD := rfl
    rw [hP] at t3 u3 g3 z3 t4 u4 g4 z4 c25 mixed ⊢
    have HP := Lib.hid hP.symm
    clear hP 
    go_wp2_with (first | (go_at_call 25; ((with_reducible refine (at_prog HP.out (H4.out _)).mono ?_); rintro e w1 ⟨rfl, hw1⟩; subst hw1)) | (go_at_call 25; ((with_reducible refine (at_prog HP.out (HB.out _)).mono ?_); rintro e w1 ⟨rfl, hw1⟩; subst hw1)) | fail)
    go_ret
    exact ⟨rfl, rfl⟩

def hostN : Nat → List UInt8
  | 0 => [120, 46, 116, 101, 115, 116]
  | 1 => [121, 46, 120, 46, 116, 101, 115, 116]
  | 2 => [122, 46, 111, 114, 103]
  | 3 => [98, 97, 100, 46, 122, 46, 111, 114, 103]
  | 4 => [97, 45, 49, 46, 98, 97, 100, 46, 122, 46, 111, 114, 103]
  | _ => [116, 101, 115, 116]
theorem hostN_name (k : Nat) : nameV (hostN k) = true := by
  match k with
  | 0 => decide +kernel
  | 1 => decide +kernel
  | 2 => decide +kernel
  | 3 => decide +kernel
  | 4 => decide +kernel
  | _ + 5 => exact (by decide +kernel : nameV [116, 101, 115, 116] = true)
set_option maxHeartbeats 2000000 in
set_option maxRecDepth 100000 in
theorem host_gen (n : Int) : ∃ nl, nameV nl = true ∧ nl ≠ [] ∧ nl.length ≤ 100 ∧ ∀ w, Calls Tryz.prog 15 #[.int .i64 n] w fun e w' => e = .returned (.string (bs nl)) ∧ w' = w := by
  obtain ⟨k, hk, h6⟩ := mod_fix n 6 (by omega) (by omega)
  rcases (by omega : k = 0 ∨ k = 1 ∨ k = 2 ∨ k = 3 ∨ k = 4 ∨ k = 5) with rfl | rfl | rfl | rfl | rfl | rfl
  · refine ⟨hostN 0, hostN_name 0, by decide, by decide, fun w => ?_⟩
    have H6 : Hid (∀ w', Calls Tryz.prog 25 #[.int .i64 n, .int .i64 6] w' fun e w'' => e = .returned (.int .i64 0) ∧ w'' = w') := h6
    clear h6
    go_enter Tryz.func15, Tryz.ntmps15
    have t3 := Tryz.underlying3
    have u3 := Tryz.runUnderlying3
    have g3 := Tryz.isAgg3
    have z3 := Tryz.sizeOf3
    have t4 := Tryz.underlying4
    have u4 := Tryz.runUnderlying4
    have g4 := Tryz.isAgg4
    have z4 := Tryz.sizeOf4
    have t9 := Tryz.underlying9
    have u9 := Tryz.runUnderlying9
    have g9 := Tryz.isAgg9
    have z9 := Tryz.sizeOf9
    have c25 := Tryz.call25
    have mixed : Tryz.prog.follows .mixedOrders = true := by kernel_rfl
    have hP : Tryz.prog = PD := rfl
    rw [hP] at t3 u3 g3 z3 t4 u4 g4 z4 t9 u9 g9 z9 c25 mixed ⊢
    have HP := Lib.hid hP.symm
    clear hP 
    go_wp2_with (first | (go_at_call 25; ((with_reducible refine (at_prog HP.out (H6.out _)).mono ?_); rintro e w1 ⟨rfl, hw1⟩; subst hw1)) | fail)
    go_ret
    exact ⟨rfl, rfl⟩
  · refine ⟨hostN 1, hostN_name 1, by decide, by decide, fun w => ?_⟩
    have H6 : Hid (∀ w', Calls Tryz.prog 25 #[.int .i64 n, .int .i64 6] w' fun e w'' => e = .returned (.int .i64 1) ∧ w'' = w') := h6
    clear h6
    go_enter Tryz.func15, Tryz.ntmps15
    have t3 := Tryz.underlying3
    have u3 := Tryz.runUnderlying3
    have g3 := Tryz.isAgg3
    have z3 := Tryz.sizeOf3
    have t4 := Tryz.underlying4
    have u4 := Tryz.runUnderlying4
    have g4 := Tryz.isAgg4
    have z4 := Tryz.sizeOf4
    have t9 := Tryz.underlying9
    have u9 := Tryz.runUnderlying9
    have g9 := Tryz.isAgg9
    have z9 := Tryz.sizeOf9
    have c25 := Tryz.call25
    have mixed : Tryz.prog.follows .mixedOrders = true := by kernel_rfl
    have hP : Tryz.prog = PD := rfl
    rw [hP] at t3 u3 g3 z3 t4 u4 g4 z4 t9 u9 g9 z9 c25 mixed ⊢
    have HP := Lib.hid hP.symm
    clear hP 
    go_wp2_with (first | (go_at_call 25; ((with_reducible refine (at_prog HP.out (H6.out _)).mono ?_); rintro e w1 ⟨rfl, hw1⟩; subst hw1)) | fail)
    go_ret
    exact ⟨rfl, rfl⟩
  · refine ⟨hostN 2, hostN_name 2, by decide, by decide, fun w => ?_⟩
    have H6 : Hid (∀ w', Calls Tryz.prog 25 #[.int .i64 n, .int .i64 6] w' fun e w'' => e = .returned (.int .i64 2) ∧ w'' = w') := h6
    clear h6
    go_enter Tryz.func15, Tryz.ntmps15
    have t3 := Tryz.underlying3
    have u3 := Tryz.runUnderlying3
    have g3 := Tryz.isAgg3
    have z3 := Tryz.sizeOf3
    have t4 := Tryz.underlying4
    have u4 := Tryz.runUnderlying4
    have g4 := Tryz.isAgg4
    have z4 := Tryz.sizeOf4
    have t9 := Tryz.underlying9
    have u9 := Tryz.runUnderlying9
    have g9 := Tryz.isAgg9
    have z9 := Tryz.sizeOf9
    have c25 := Tryz.call25
    have mixed : Tryz.prog.follows .mixedOrders = true := by kernel_rfl
    have hP : Tryz.prog = PD := rfl
    rw [hP] at t3 u3 g3 z3 t4 u4 g4 z4 t9 u9 g9 z9 c25 mixed ⊢
    have HP := Lib.hid hP.symm
    clear hP 
    go_wp2_with (first | (go_at_call 25; ((with_reducible refine (at_prog HP.out (H6.out _)).mono ?_); rintro e w1 ⟨rfl, hw1⟩; subst hw1)) | fail)
    go_ret
    exact ⟨rfl, rfl⟩
  · refine ⟨hostN 3, hostN_name 3, by decide, by decide, fun w => ?_⟩
    have H6 : Hid (∀ w', Calls Tryz.prog 25 #[.int .i64 n, .int .i64 6] w' fun e w'' => e = .returned (.int .i64 3) ∧ w'' = w') := h6
    clear h6
    go_enter Tryz.func15, Tryz.ntmps15
    have t3 := Tryz.underlying3
    have u3 := Tryz.runUnderlying3
    have g3 := Tryz.isAgg3
    have z3 := Tryz.sizeOf3
    have t4 := Tryz.underlying4
    have u4 := Tryz.runUnderlying4
    have g4 := Tryz.isAgg4
    have z4 := Tryz.sizeOf4
    have t9 := Tryz.underlying9
    have u9 := Tryz.runUnderlying9
    have g9 := Tryz.isAgg9
    have z9 := Tryz.sizeOf9
    have c25 := Tryz.call25
    have mixed : Tryz.prog.follows .mixedOrders = true := by kernel_rfl
    have hP : Tryz.prog = PD := rfl
    rw [hP] at t3 u3 g3 z3 t4 u4 g4 z4 t9 u9 g9 z9 c25 mixed ⊢
    have HP := Lib.hid hP.symm
    clear hP 
    go_wp2_with (first | (go_at_call 25; ((with_reducible refine (at_prog HP.out (H6.out _)).mono ?_); rintro e w1 ⟨rfl, hw1⟩; subst hw1)) | fail)
    go_ret
    exact ⟨rfl, rfl⟩
  · refine ⟨hostN 4, hostN_name 4, by decide, by decide, fun w => ?_⟩
    have H6 : Hid (∀ w', Calls Tryz.prog 25 #[.int .i64 n, .int .i64 6] w' fun e w'' => e = .returned (.int .i64 4) ∧ w'' = w') := h6
    clear h6
    go_enter Tryz.func15, Tryz.ntmps15
    have t3 := Tryz.underlying3
    have u3 := Tryz.runUnderlying3
    have g3 := Tryz.isAgg3
    have z3 := Tryz.sizeOf3
    have t4 := Tryz.underlying4
    have u4 := Tryz.runUnderlying4
    have g4 := Tryz.isAgg4
    have z4 := Tryz.sizeOf4
    have t9 := Tryz.underlying9
    have u9 := Tryz.runUnderlying9
    have g9 := Tryz.isAgg9
    have z9 := Tryz.sizeOf9
    have c25 := Tryz.call25
    have mixed : Tryz.prog.follows .mixedOrders = true := by kernel_rfl
    have hP : Tryz.prog = PD := rfl
    rw [hP] at t3 u3 g3 z3 t4 u4 g4 z4 t9 u9 g9 z9 c25 mixed ⊢
    have HP := Lib.hid hP.symm
    clear hP 
    go_wp2_with (first | (go_at_call 25; ((with_reducible refine (at_prog HP.out (H6.out _)).mono ?_); rintro e w1 ⟨rfl, hw1⟩; subst hw1)) | fail)
    go_ret
    exact ⟨rfl, rfl⟩
  · refine ⟨hostN 5, hostN_name 5, by decide, by decide, fun w => ?_⟩
    have H6 : Hid (∀ w', Calls Tryz.prog 25 #[.int .i64 n, .int .i64 6] w' fun e w'' => e = .returned (.int .i64 5) ∧ w'' = w') := h6
    clear h6
    go_enter Tryz.func15, Tryz.ntmps15
    have t3 := Tryz.underlying3
    have u3 := Tryz.runUnderlying3
    have g3 := Tryz.isAgg3
    have z3 := Tryz.sizeOf3
    have t4 := Tryz.underlying4
    have u4 := Tryz.runUnderlying4
    have g4 := Tryz.isAgg4
    have z4 := Tryz.sizeOf4
    have t9 := Tryz.underlying9
    have u9 := Tryz.runUnderlying9
    have g9 := Tryz.isAgg9
    have z9 := Tryz.sizeOf9
    have c25 := Tryz.call25
    have mixed : Tryz.prog.follows .mixedOrders = true := by kernel_rfl
    have hP : Tryz.prog = PD := rfl
    rw [hP] at t3 u3 g3 z3 t4 u4 g4 z4 t9 u9 g9 z9 c25 mixed ⊢
    have HP := Lib.hid hP.symm
    clear hP 
    go_wp2_with (first | (go_at_call 25; ((with_reducible refine (at_prog HP.out (H6.out _)).mono ?_); rintro e w1 ⟨rfl, hw1⟩; subst hw1)) | fail)
    go_ret
    exact ⟨rfl, rfl⟩

theorem host_all : ∃ f : Int → List UInt8, (∀ n, nameV (f n) = true ∧ f n ≠ []) ∧ ∀ (n : Int) (w : World), Calls Tryz.prog 15 #[.int .i64 n] w fun e w' => e = .returned (.string (bs (f n))) ∧ w' = w := by
  obtain ⟨f, hf⟩ := Classical.axiomOfChoice host_gen
  exact ⟨f, fun n => ⟨(hf n).1, (hf n).2.1⟩, fun n w => (hf n).2.2.2 w⟩
theorem port_all : ∃ f : Int → Int, (∀ n, 1 ≤ f n ∧ f n ≤ 65535) ∧ ∀ (n : Int) (w : World), Calls Tryz.prog 10 #[.int .i64 n] w fun e w' => e = .returned (.int .i64 (f n)) ∧ w' = w := by
  obtain ⟨f, hf⟩ := Classical.axiomOfChoice port_gen
  exact ⟨f, fun n => ⟨(hf n).1, (hf n).2.1⟩, fun n w => (hf n).2.2 w⟩
end Go.Proofs.YtnadendhboiliaaGreat
