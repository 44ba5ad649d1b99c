/-
  CONTRACTS of the generators' Port, Host and Target, over this seat's translation: what each call returns.
  Conditions: none of its own.
-/
import Derived.Test.YtmhnailcmlomiaaGreatDoorGa
import Derived.Test.YtmhnailcmlomiaaGreatDoorN12
namespace Go.Proofs.YtmhnailcmlomiaaGreatDoor
open Go.ChangeShapes Go.WideShapes Go.ChangeAt Go.RowKit
set_option linter.unusedVariables false

/-- What an answer of the generator of ports is. -/
def GenO (w : World) (e : Ending) (w' : World) : Prop := ∃ p : Int, 1 ≤ p ∧ p ≤ 65535 ∧ e = .returned (.int .i64 p) ∧ w' = w
/-- What an answer of the generator of names is. -/
def GenN (w : World) (e : Ending) (w' : World) : Prop := ∃ nl : List UInt8, nl ≠ [] ∧ nameV nl = true ∧ e = .returned (.string (bs nl)) ∧ w' = w
/-- What an answer of the generator of targets is. -/
def GenT (w : World) (e : Ending) (w' : World) : Prop := ∃ nl b xs p, Bytes xs ∧ vT nl b xs p = true ∧ e = .returned (.agg (tgt (bs nl) b xs p).toArray) ∧ Fr No w w'

set_option maxHeartbeats 4000000 in
set_option maxRecDepth 100000 in
theorem port_gen0 (n : Int) (w : World) (h : ∀ w', Calls Tryz.prog 35 #[.int .i64 n, .int .i64 4] w' fun e w'' => e = .returned (.int .i64 0) ∧ w'' = w') : Calls Tryz.prog 51 #[.int .i64 n] w (GenO w) := by
  have HM := Lib.hid h
  clear h
  go_enter Tryz.func51, Tryz.ntmps51
  have t3 := Tryz.underlying3
  have u3 := Tryz.runUnderlying3
  have g3 := Tryz.isAgg3
  have z3 := Tryz.sizeOf3
  have t4 := Tryz.underlying4
  have u4 := Tryz.runUnderlying4
  have g4 := Tryz.isAgg4
  have z4 := Tryz.sizeOf4
  have c35 := Tryz.call35
  have mixed : Tryz.prog.follows .mixedOrders = true := by kernel_rfl
  have hP : Tryz.prog = PD := rfl
  rw [hP] at t3 u3 g3 z3 t4 u4 g4 z4 c35 mixed ⊢
  have HP := Lib.hid hP.symm
  clear hP 
  go_wp2_with (first | (go_at_call 35; with_reducible refine (at_prog HP.out (HM.out _)).mono ?_; rintro e w3 ⟨rfl, hw3⟩; subst hw3) | fail)
  go_ret
  exact ⟨_, by decide, by decide, rfl, rfl⟩

set_option maxHeartbeats 4000000 in
set_option maxRecDepth 100000 in
theorem port_gen1 (n : Int) (w : World) (h : ∀ w', Calls Tryz.prog 35 #[.int .i64 n, .int .i64 4] w' fun e w'' => e = .returned (.int .i64 1) ∧ w'' = w') : Calls Tryz.prog 51 #[.int .i64 n] w (GenO w) := by
  have HM := Lib.hid h
  clear h
  go_enter Tryz.func51, Tryz.ntmps51
  have t3 := Tryz.underlying3
  have u3 := Tryz.runUnderlying3
  have g3 := Tryz.isAgg3
  have z3 := Tryz.sizeOf3
  have t4 := Tryz.underlying4
  have u4 := Tryz.runUnderlying4
  have g4 := Tryz.isAgg4
  have z4 := Tryz.sizeOf4
  have c35 := Tryz.call35
  have mixed : Tryz.prog.follows .mixedOrders = true := by kernel_rfl
  have hP : Tryz.prog = PD := rfl
  rw [hP] at t3 u3 g3 z3 t4 u4 g4 z4 c35 mixed ⊢
  have HP := Lib.hid hP.symm
  clear hP 
  go_wp2_with (first | (go_at_call 35; with_reducible refine (at_prog HP.out (HM.out _)).mono ?_; rintro e w3 ⟨rfl, hw3⟩; subst hw3) | fail)
  go_ret
  exact ⟨_, by decide, by decide, rfl, rfl⟩

set_option maxHeartbeats 4000000 in
set_option maxRecDepth 100000 in
theorem port_gen2 (n : Int) (w : World) (h : ∀ w', Calls Tryz.prog 35 #[.int .i64 n, .int .i64 4] w' fun e w'' => e = .returned (.int .i64 2) ∧ w'' = w') : Calls Tryz.prog 51 #[.int .i64 n] w (GenO w) := by
  have HM := Lib.hid h
  clear h
  go_enter Tryz.func51, Tryz.ntmps51
  have t3 := Tryz.underlying3
  have u3 := Tryz.runUnderlying3
  have g3 := Tryz.isAgg3
  have z3 := Tryz.sizeOf3
  have t4 := Tryz.underlying4
  have u4 := Tryz.runUnderlying4
  have g4 := Tryz.isAgg4
  have z4 := Tryz.sizeOf4
  have c35 := Tryz.call35
  have mixed : Tryz.prog.follows .mixedOrders = true := by kernel_rfl
  have hP : Tryz.prog = PD := rfl
  rw [hP] at t3 u3 g3 z3 t4 u4 g4 z4 c35 mixed ⊢
  have HP := Lib.hid hP.symm
  clear hP 
  go_wp2_with (first | (go_at_call 35; with_reducible refine (at_prog HP.out (HM.out _)).mono ?_; rintro e w3 ⟨rfl, hw3⟩; subst hw3) | fail)
  go_ret
  exact ⟨_, by decide, by decide, rfl, rfl⟩

set_option maxHeartbeats 4000000 in
set_option maxRecDepth 100000 in
theorem port_gen3 (n : Int) (w : World) (h : ∀ w', Calls Tryz.prog 35 #[.int .i64 n, .int .i64 4] w' fun e w'' => e = .returned (.int .i64 3) ∧ w'' = w') : Calls Tryz.prog 51 #[.int .i64 n] w (GenO w) := by
  have HM := Lib.hid h
  clear h
  obtain ⟨q, hq, hm⟩ := mod_fix n 65535 (by decide) (by decide)
  obtain ⟨z, hz⟩ : ∃ z : Int, (q : Int) = z := ⟨_, rfl⟩
  rw [hz] at hm
  have HM2 : Hid (∀ w', Calls Tryz.prog 35 #[.int .i64 n, .int .i64 65535] w' fun e w'' => e = .returned (.int .i64 z) ∧ w'' = w') := hm
  have hw : IntKind.i64.wrap (1 + z) = 1 + z := by rw [IntKind.wrap_i64]; omega
  have HZ : Hid (0 ≤ z ∧ z < 65535) := ⟨by omega, by omega⟩
  clear hm hz hq
  go_enter Tryz.func51, Tryz.ntmps51
  have t3 := Tryz.underlying3
  have u3 := Tryz.runUnderlying3
  have g3 := Tryz.isAgg3
  have z3 := Tryz.sizeOf3
  have t4 := Tryz.underlying4
  have u4 := Tryz.runUnderlying4
  have g4 := Tryz.isAgg4
  have z4 := Tryz.sizeOf4
  have c35 := Tryz.call35
  have mixed : Tryz.prog.follows .mixedOrders = true := by kernel_rfl
  have hP : Tryz.prog = PD := rfl
  rw [hP] at t3 u3 g3 z3 t4 u4 g4 z4 c35 mixed ⊢
  have HP := Lib.hid hP.symm
  clear hP 
  go_wp2_with (first | (go_at_call 35; with_reducible refine (at_prog HP.out (HM.out _)).mono ?_; rintro e w3 ⟨rfl, hw3⟩; subst hw3) | (go_at_call 35; with_reducible refine (at_prog HP.out (HM2.out _)).mono ?_; rintro e w4 ⟨rfl, hw4⟩; subst hw4) | fail)
  go_ret
  exact ⟨1 + z, by have := HZ.out; omega, by have := HZ.out; omega, rfl, rfl⟩

theorem port_gen (n : Int) (w : World) : Calls Tryz.prog 51 #[.int .i64 n] w (GenO w) := by
  obtain ⟨r, hr, h⟩ := mod_fix n 4 (by decide) (by decide)
  match r, hr with
  | 0, _ => exact port_gen0 n w h
  | 1, _ => exact port_gen1 n w h
  | 2, _ => exact port_gen2 n w h
  | 3, _ => exact port_gen3 n w h

set_option maxHeartbeats 4000000 in
set_option maxRecDepth 100000 in
theorem host_gen0 (n : Int) (w : World) (h : ∀ w', Calls Tryz.prog 35 #[.int .i64 n, .int .i64 6] w' fun e w'' => e = .returned (.int .i64 0) ∧ w'' = w') : Calls Tryz.prog 52 #[.int .i64 n] w (GenN w) := by
  have HM := Lib.hid h
  clear h
  go_enter Tryz.func52, Tryz.ntmps52
  have t3 := Tryz.underlying3
  have u3 := Tryz.runUnderlying3
  have g3 := Tryz.isAgg3
  have z3 := Tryz.sizeOf3
  have t4 := Tryz.underlying4
  have u4 := Tryz.runUnderlying4
  have g4 := Tryz.isAgg4
  have z4 := Tryz.sizeOf4
  have t9 := Tryz.underlying9
  have u9 := Tryz.runUnderlying9
  have g9 := Tryz.isAgg9
  have z9 := Tryz.sizeOf9
  have c35 := Tryz.call35
  have mixed : Tryz.prog.follows .mixedOrders = true := by kernel_rfl
  have hP : Tryz.prog = PD := rfl
  rw [hP] at t3 u3 g3 z3 t4 u4 g4 z4 t9 u9 g9 z9 c35 mixed ⊢
  have HP := Lib.hid hP.symm
  clear hP 
  go_wp2_with (first | (go_at_call 35; refine (at_prog HP.out (HM.out _)).mono ?_; rintro e w3 ⟨rfl, hw3⟩; subst hw3) | fail)
  go_ret
  exact ⟨[120, 46, 116, 101, 115, 116], by simp, by decide +kernel, rfl, rfl⟩

set_option maxHeartbeats 4000000 in
set_option maxRecDepth 100000 in
theorem host_gen1 (n : Int) (w : World) (h : ∀ w', Calls Tryz.prog 35 #[.int .i64 n, .int .i64 6] w' fun e w'' => e = .returned (.int .i64 1) ∧ w'' = w') : Calls Tryz.prog 52 #[.int .i64 n] w (GenN w) := by
  have HM := Lib.hid h
  clear h
  go_enter Tryz.func52, Tryz.ntmps52
  have t3 := Tryz.underlying3
  have u3 := Tryz.runUnderlying3
  have g3 := Tryz.isAgg3
  have z3 := Tryz.sizeOf3
  have t4 := Tryz.underlying4
  have u4 := Tryz.runUnderlying4
  have g4 := Tryz.isAgg4
  have z4 := Tryz.sizeOf4
  have t9 := Tryz.underlying9
  have u9 := Tryz.runUnderlying9
  have g9 := Tryz.isAgg9
  have z9 := Tryz.sizeOf9
  have c35 := Tryz.call35
  have mixed : Tryz.prog.follows .mixedOrders = true := by kernel_rfl
  have hP : Tryz.prog = PD := rfl
  rw [hP] at t3 u3 g3 z3 t4 u4 g4 z4 t9 u9 g9 z9 c35 mixed ⊢
  have HP := Lib.hid hP.symm
  clear hP 
  go_wp2_with (first | (go_at_call 35; refine (at_prog HP.out (HM.out _)).mono ?_; rintro e w3 ⟨rfl, hw3⟩; subst hw3) | fail)
  go_ret
  exact ⟨[121, 46, 120, 46, 116, 101, 115, 116], by simp, by decide +kernel, rfl, rfl⟩

set_option maxHeartbeats 4000000 in
set_option maxRecDepth 100000 in
theorem host_gen2 (n : Int) (w : World) (h : ∀ w', Calls Tryz.prog 35 #[.int .i64 n, .int .i64 6] w' fun e w'' => e = .returned (.int .i64 2) ∧ w'' = w') : Calls Tryz.prog 52 #[.int .i64 n] w (GenN w) := by
  have HM := Lib.hid h
  clear h
  go_enter Tryz.func52, Tryz.ntmps52
  have t3 := Tryz.underlying3
  have u3 := Tryz.runUnderlying3
  have g3 := Tryz.isAgg3
  have z3 := Tryz.sizeOf3
  have t4 := Tryz.underlying4
  have u4 := Tryz.runUnderlying4
  have g4 := Tryz.isAgg4
  have z4 := Tryz.sizeOf4
  have t9 := Tryz.underlying9
  have u9 := Tryz.runUnderlying9
  have g9 := Tryz.isAgg9
  have z9 := Tryz.sizeOf9
  have c35 := Tryz.call35
  have mixed : Tryz.prog.follows .mixedOrders = true := by kernel_rfl
  have hP : Tryz.prog = PD := rfl
  rw [hP] at t3 u3 g3 z3 t4 u4 g4 z4 t9 u9 g9 z9 c35 mixed ⊢
  have HP := Lib.hid hP.symm
  clear hP 
  go_wp2_with (first | (go_at_call 35; refine (at_prog HP.out (HM.out _)).mono ?_; rintro e w3 ⟨rfl, hw3⟩; subst hw3) | fail)
  go_ret
  exact ⟨[122, 46, 111, 114, 103], by simp, by decide +kernel, rfl, rfl⟩

set_option maxHeartbeats 4000000 in
set_option maxRecDepth 100000 in
theorem host_gen3 (n : Int) (w : World) (h : ∀ w', Calls Tryz.prog 35 #[.int .i64 n, .int .i64 6] w' fun e w'' => e = .returned (.int .i64 3) ∧ w'' = w') : Calls Tryz.prog 52 #[.int .i64 n] w (GenN w) := by
  have HM := Lib.hid h
  clear h
  go_enter Tryz.func52, Tryz.ntmps52
  have t3 := Tryz.underlying3
  have u3 := Tryz.runUnderlying3
  have g3 := Tryz.isAgg3
  have z3 := Tryz.sizeOf3
  have t4 := Tryz.underlying4
  have u4 := Tryz.runUnderlying4
  have g4 := Tryz.isAgg4
  have z4 := Tryz.sizeOf4
  have t9 := Tryz.underlying9
  have u9 := Tryz.runUnderlying9
  have g9 := Tryz.isAgg9
  have z9 := Tryz.sizeOf9
  have c35 := Tryz.call35
  have mixed : Tryz.prog.follows .mixedOrders = true := by kernel_rfl
  have hP : Tryz.prog = PD := rfl
  rw [hP] at t3 u3 g3 z3 t4 u4 g4 z4 t9 u9 g9 z9 c35 mixed ⊢
  have HP := Lib.hid hP.symm
  clear hP 
  go_wp2_with (first | (go_at_call 35; refine (at_prog HP.out (HM.out _)).mono ?_; rintro e w3 ⟨rfl, hw3⟩; subst hw3) | fail)
  go_ret
  exact ⟨[98, 97, 100, 46, 122, 46, 111, 114, 103], by simp, by decide +kernel, rfl, rfl⟩

set_option maxHeartbeats 4000000 in
set_option maxRecDepth 100000 in
theorem host_gen4 (n : Int) (w : World) (h : ∀ w', Calls Tryz.prog 35 #[.int .i64 n, .int .i64 6] w' fun e w'' => e = .returned (.int .i64 4) ∧ w'' = w') : Calls Tryz.prog 52 #[.int .i64 n] w (GenN w) := by
  have HM := Lib.hid h
  clear h
  go_enter Tryz.func52, Tryz.ntmps52
  have t3 := Tryz.underlying3
  have u3 := Tryz.runUnderlying3
  have g3 := Tryz.isAgg3
  have z3 := Tryz.sizeOf3
  have t4 := Tryz.underlying4
  have u4 := Tryz.runUnderlying4
  have g4 := Tryz.isAgg4
  have z4 := Tryz.sizeOf4
  have t9 := Tryz.underlying9
  have u9 := Tryz.runUnderlying9
  have g9 := Tryz.isAgg9
  have z9 := Tryz.sizeOf9
  have c35 := Tryz.call35
  have mixed : Tryz.prog.follows .mixedOrders = true := by kernel_rfl
  have hP : Tryz.prog = PD := rfl
  rw [hP] at t3 u3 g3 z3 t4 u4 g4 z4 t9 u9 g9 z9 c35 mixed ⊢
  have HP := Lib.hid hP.symm
  clear hP 
  go_wp2_with (first | (go_at_call 35; refine (at_prog HP.out (HM.out _)).mono ?_; rintro e w3 ⟨rfl, hw3⟩; subst hw3) | fail)
  go_ret
  exact ⟨[97, 45, 49, 46, 98, 97, 100, 46, 122, 46, 111, 114, 103], by simp, by decide +kernel, rfl, rfl⟩

set_option maxHeartbeats 4000000 in
set_option maxRecDepth 100000 in
theorem host_gen5 (n : Int) (w : World) (h : ∀ w', Calls Tryz.prog 35 #[.int .i64 n, .int .i64 6] w' fun e w'' => e = .returned (.int .i64 5) ∧ w'' = w') : Calls Tryz.prog 52 #[.int .i64 n] w (GenN w) := by
  have HM := Lib.hid h
  clear h
  go_enter Tryz.func52, Tryz.ntmps52
  have t3 := Tryz.underlying3
  have u3 := Tryz.runUnderlying3
  have g3 := Tryz.isAgg3
  have z3 := Tryz.sizeOf3
  have t4 := Tryz.underlying4
  have u4 := Tryz.runUnderlying4
  have g4 := Tryz.isAgg4
  have z4 := Tryz.sizeOf4
  have t9 := Tryz.underlying9
  have u9 := Tryz.runUnderlying9
  have g9 := Tryz.isAgg9
  have z9 := Tryz.sizeOf9
  have c35 := Tryz.call35
  have mixed : Tryz.prog.follows .mixedOrders = true := by kernel_rfl
  have hP : Tryz.prog = PD := rfl
  rw [hP] at t3 u3 g3 z3 t4 u4 g4 z4 t9 u9 g9 z9 c35 mixed ⊢
  have HP := Lib.hid hP.symm
  clear hP 
  go_wp2_with (first | (go_at_call 35; refine (at_prog HP.out (HM.out _)).mono ?_; rintro e w3 ⟨rfl, hw3⟩; subst hw3) | fail)
  go_ret
  exact ⟨[116, 101, 115, 116], by simp, by decide +kernel, rfl, rfl⟩

theorem host_gen (n : Int) (w : World) : Calls Tryz.prog 52 #[.int .i64 n] w (GenN w) := by
  obtain ⟨r, hr, h⟩ := mod_fix n 6 (by decide) (by decide)
  match r, hr with
  | 0, _ => exact host_gen0 n w h
  | 1, _ => exact host_gen1 n w h
  | 2, _ => exact host_gen2 n w h
  | 3, _ => exact host_gen3 n w h
  | 4, _ => exact host_gen4 n w h
  | 5, _ => exact host_gen5 n w h

theorem tgt_port (n : ByteArray) (b : Bool) (xs : List Nat) (hx : xs.length = 16) (p : Int) : (tgt n b xs 0).toArray.setIfInBounds 18 (.int .i64 p) = (tgt n b xs p).toArray := by
  have h17 : (adr b xs).length = 17 := by rw [adr_length, hx]
  rw [List.setIfInBounds_toArray]
  unfold tgt
  rw [List.set_cons_succ, List.set_append_right _ _ (by omega), h17]
  rfl
theorem tgt_name (s : ByteArray) : noT.toArray.setIfInBounds 0 (.string s) = (tgt s false zeros 0).toArray := rfl

set_option maxHeartbeats 8000000 in
set_option maxRecDepth 100000 in
theorem target_gen (n : Int) (w : World) : Calls Tryz.prog 16 #[.int .i64 n] w (GenT w) := by
  obtain ⟨r, hr, h⟩ := mod_fix n 3 (by decide) (by decide)
  obtain ⟨z, hz⟩ : ∃ z : Int, (r : Int) = z := ⟨_, rfl⟩
  rw [hz] at h
  have HM : Hid (∀ w', Calls Tryz.prog 35 #[.int .i64 n, .int .i64 3] w' fun e w'' => e = .returned (.int .i64 z) ∧ w'' = w') := h
  obtain ⟨Z, hZ⟩ : ∃ Z : Array Value, noT.toArray = Z := ⟨_, rfl⟩
  have v62 := zero32
  rw [hZ] at v62
  have hZs : Z.size = 19 := by rw [← hZ]; rfl
  have HB := Lib.hid (heap_alloc_new w (.cells Z 32))
  have HZ := Lib.hid hZ
  have HA : Hid (∀ n' w', Calls Tryz.prog 50 #[.int .i64 n'] w' (GenA w')) := addr_gen
  have HO : Hid (∀ n' w', Calls Tryz.prog 51 #[.int .i64 n'] w' (GenO w')) := port_gen
  have HN : Hid (∀ n' w', Calls Tryz.prog 52 #[.int .i64 n'] w' (GenN w')) := host_gen
  clear hz hr h hZ
  cases hz0 : (z == 0) with
  | true =>
    go_enter Tryz.func16, Tryz.ntmps16
    have t3 := Tryz.underlying3
    have u3 := Tryz.runUnderlying3
    have g3 := Tryz.isAgg3
    have z3 := Tryz.sizeOf3
    have t4 := Tryz.underlying4
    have u4 := Tryz.runUnderlying4
    have g4 := Tryz.isAgg4
    have z4 := Tryz.sizeOf4
    have t9 := Tryz.underlying9
    have u9 := Tryz.runUnderlying9
    have g9 := Tryz.isAgg9
    have z9 := Tryz.sizeOf9
    have t28 := Tryz.underlying28
    have u28 := Tryz.runUnderlying28
    have g28 := Tryz.isAgg28
    have z28 := Tryz.sizeOf28
    have t30 := Tryz.underlying30
    have u30 := Tryz.runUnderlying30
    have g30 := Tryz.isAgg30
    have z30 := Tryz.sizeOf30
    have t32 := Tryz.underlying32
    have u32 := Tryz.runUnderlying32
    have g32 := Tryz.isAgg32
    have z32 := Tryz.sizeOf32
    have c35 := Tryz.call35
    have c50 := Tryz.call50
    have c51 := Tryz.call51
    have c52 := Tryz.call52
    have mixed : Tryz.prog.follows .mixedOrders = true := by kernel_rfl
    obtain ⟨k30, hk30⟩ : ∃ k, k = 17 := ⟨_, rfl⟩
    rw [← hk30] at z30
    have nk30 : ¬ k30 = 0 := by omega
    have HK30 := Lib.hid hk30
    obtain ⟨k62, hk62⟩ : ∃ k, k = 19 := ⟨_, rfl⟩
    rw [← hk62] at z32
    have nk62 : ¬ k62 = 0 := by omega
    have HK32 := Lib.hid hk62
    have hP : Tryz.prog = PD := rfl
    rw [hP] at t3 u3 g3 z3 t4 u4 g4 z4 t9 u9 g9 z9 t28 u28 g28 z28 t30 u30 g30 z30 t32 u32 g32 z32 c35 c50 c51 c52 mixed v62 ⊢
    have HP := Lib.hid hP.symm
    clear hP hk30 hk62
    have hZk : Z.size = k62 := by rw [HK32.out]; exact hZs
    have i3 : 1 + k30 ≤ k62 := by have := HK30.out; have := HK32.out; omega
    have i4 : 18 < k62 := by have := HK32.out; omega
    clear hZs
    go_wp2_with (first | (go_at_call 35; refine (at_prog HP.out (HM.out _)).mono ?_; rintro e w3 ⟨rfl, hw3⟩; subst hw3) | (go_at_call 50; refine (at_prog HP.out (HA.out _ _)).mono ?_; rintro e w4 ⟨c, ys, hyb, hyv, rfl, hf4⟩; obtain ⟨A, hA, -, hA17, -⟩ := adr_letter c ys hyb; rw [hA]; have hAk : A.size = k30 := hA17.trans HK30.out.symm; clear hA17; have hfold := put_addr c ys hyb.1; rw [hA, HZ.out, ← HK30.out] at hfold) | (go_at_call 51; refine (at_prog HP.out (HO.out _ _)).mono ?_; rintro e w5 ⟨p, hp1, hp2, rfl, hw5⟩; subst hw5; have hset := tgt_port ⟨#[]⟩ c ys hyb.1 p; obtain ⟨M, hM⟩ : ∃ M, (tgt ⟨#[]⟩ c ys 0).toArray = M := ⟨_, rfl⟩; have hMk : M.size = k62 := (by rw [← hM, List.size_toArray, HK32.out]; exact tgt_length _ _ _ _ hyb.1); obtain ⟨T, hT⟩ : ∃ T, (tgt ⟨#[]⟩ c ys p).toArray = T := ⟨_, rfl⟩; have hTk : T.size = k62 := (by rw [← hT, List.size_toArray, HK32.out]; exact tgt_length _ _ _ _ hyb.1); have HTT := Lib.hid hT; rw [hM] at hfold hset; rw [hT] at hset; clear hM hT; obtain ⟨y, hst, hyb1, hyf⟩ := store_all (P := PD) T.toList (hf4.keep HB.out) (by rw [Array.length_toList, hTk, hZk]) (by rw [← HTT.out]; intro u hu; exact tgt_one _ _ _ _ u (by simpa using hu))) | fail)
    refine bodyPost_ret_by (results_agg rfl _ (b := w.heap.size) (k := 19) (cs := T) (Tryz.isAgg32 _) (Tryz.sizeOf32 _) rfl (load_block (by simpa using hyb1) (hTk.trans HK32.out) (fun j v hv => by simpa using hv))) rfl ?_
    refine ⟨[], c, ys, p, hyb, ?_, by rw [← HTT.out]; rfl, ((Fr.alloc No w (.cells Z 32)).trans hf4).ofNew hyf fun k hk => .inr (by omega)⟩
    unfold vT
    rw [decide_eq_true hp1, decide_eq_true hp2, if_pos rfl, hyv]
    rfl
  | false =>
    go_enter Tryz.func16, Tryz.ntmps16
    have t3 := Tryz.underlying3
    have u3 := Tryz.runUnderlying3
    have g3 := Tryz.isAgg3
    have z3 := Tryz.sizeOf3
    have t4 := Tryz.underlying4
    have u4 := Tryz.runUnderlying4
    have g4 := Tryz.isAgg4
    have z4 := Tryz.sizeOf4
    have t9 := Tryz.underlying9
    have u9 := Tryz.runUnderlying9
    have g9 := Tryz.isAgg9
    have z9 := Tryz.sizeOf9
    have t28 := Tryz.underlying28
    have u28 := Tryz.runUnderlying28
    have g28 := Tryz.isAgg28
    have z28 := Tryz.sizeOf28
    have t30 := Tryz.underlying30
    have u30 := Tryz.runUnderlying30
    have g30 := Tryz.isAgg30
    have z30 := Tryz.sizeOf30
    have t32 := Tryz.underlying32
    have u32 := Tryz.runUnderlying32
    have g32 := Tryz.isAgg32
    have z32 := Tryz.sizeOf32
    have c35 := Tryz.call35
    have c50 := Tryz.call50
    have c51 := Tryz.call51
    have c52 := Tryz.call52
    have mixed : Tryz.prog.follows .mixedOrders = true := by kernel_rfl
    obtain ⟨k30, hk30⟩ : ∃ k, k = 17 := ⟨_, rfl⟩
    rw [← hk30] at z30
    have nk30 : ¬ k30 = 0 := by omega
    have HK30 := Lib.hid hk30
    obtain ⟨k62, hk62⟩ : ∃ k, k = 19 := ⟨_, rfl⟩
    rw [← hk62] at z32
    have nk62 : ¬ k62 = 0 := by omega
    have HK32 := Lib.hid hk62
    have hP : Tryz.prog = PD := rfl
    rw [hP] at t3 u3 g3 z3 t4 u4 g4 z4 t9 u9 g9 z9 t28 u28 g28 z28 t30 u30 g30 z30 t32 u32 g32 z32 c35 c50 c51 c52 mixed v62 ⊢
    have HP := Lib.hid hP.symm
    clear hP hk30 hk62
    have hZk : Z.size = k62 := by rw [HK32.out]; exact hZs
    have i4 : 18 < k62 := by have := HK32.out; omega
    have i0 : 0 < k62 := by have := HK32.out; omega
    have hZne : ¬ Z = #[] := by intro e; rw [e] at hZs; cases hZs
    clear hZs
    go_wp2_with (first | (go_at_call 35; refine (at_prog HP.out (HM.out _)).mono ?_; rintro e w3 ⟨rfl, hw3⟩; subst hw3) | (go_at_call 52; refine (at_prog HP.out (HN.out _ _)).mono ?_; rintro e w4 ⟨nl, hn0, hnv, rfl, hw4⟩; subst hw4; have hnm := tgt_name (bs nl); rw [HZ.out] at hnm) | (go_at_call 51; refine (at_prog HP.out (HO.out _ _)).mono ?_; rintro e w5 ⟨p, hp1, hp2, rfl, hw5⟩; subst hw5; have hset := tgt_port (bs nl) false zeros zeros_bytes.1 p; obtain ⟨M, hM⟩ : ∃ M, (tgt (bs nl) false zeros 0).toArray = M := ⟨_, rfl⟩; have hMk : M.size = k62 := (by rw [← hM, List.size_toArray, HK32.out]; exact tgt_length _ _ _ _ zeros_bytes.1); obtain ⟨T, hT⟩ : ∃ T, (tgt (bs nl) false zeros p).toArray = T := ⟨_, rfl⟩; have hTk : T.size = k62 := (by rw [← hT, List.size_toArray, HK32.out]; exact tgt_length _ _ _ _ zeros_bytes.1); have HTT := Lib.hid hT; rw [hM] at hnm hset; rw [hT] at hset; clear hM hT; obtain ⟨y, hst, hyb1, hyf⟩ := store_all (P := PD) T.toList HB.out (by rw [Array.length_toList, hTk, hZk]) (by rw [← HTT.out]; intro u hu; exact tgt_one _ _ _ _ u (by simpa using hu))) | fail)
    refine bodyPost_ret_by (results_agg rfl _ (b := w.heap.size) (k := 19) (cs := T) (Tryz.isAgg32 _) (Tryz.sizeOf32 _) rfl (load_block (by simpa using hyb1) (hTk.trans HK32.out) (fun j v hv => by simpa using hv))) rfl ?_
    refine ⟨nl, false, zeros, p, zeros_bytes, ?_, by rw [HTT.out], (Fr.alloc No w (.cells Z 32)).ofNew hyf fun k hk => .inr (by omega)⟩
    unfold vT
    rw [decide_eq_true hp1, decide_eq_true hp2, if_neg hn0, hnv]
    rfl
end Go.Proofs.YtmhnailcmlomiaaGreatDoor
