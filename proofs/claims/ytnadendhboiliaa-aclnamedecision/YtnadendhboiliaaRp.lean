/-
  CONTRACTS of the generators' Port, Host and Target, over this seat's translation: what each call returns.
  Conditions: none.
-/
import Derived.Test.YtnadendhboiliaaRv
namespace Go.Proofs.Ytnadendhboiliaa
open Go.ChangeShapes Go.WideShapes Go.ChangeAt Go.RowKit
set_option linter.unusedVariables false

set_option maxHeartbeats 2000000 in
set_option maxRecDepth 100000 in
theorem port_gen (n : Int) : ∃ p : Int, 1 ≤ p ∧ p ≤ 65535 ∧ ∀ w, Calls Try.prog 17 #[.int .i64 n] w fun e w' => e = .returned (.int .i64 p) ∧ w' = w := by
  obtain ⟨k, hk, h4⟩ := mod_fix n 4 (by omega) (by omega)
  obtain ⟨q, hq, hb⟩ := mod_fix n 65535 (by omega) (by omega)
  have HB : Hid (∀ w', Calls Try.prog 13 #[.int .i64 n, .int .i64 65535] w' fun e w'' => e = .returned (.int .i64 q) ∧ w'' = w') := hb
  have hwq : wrap64 (1 + (q : Int)) = 1 + (q : Int) := by unfold wrap64; omega
  clear hb
  rcases (by omega : k = 0 ∨ k = 1 ∨ k = 2 ∨ k = 3) with rfl | rfl | rfl | rfl
  · refine ⟨53, by omega, by omega, fun w => ?_⟩
    have H4 : Hid (∀ w', Calls Try.prog 13 #[.int .i64 n, .int .i64 4] w' fun e w'' => e = .returned (.int .i64 0) ∧ w'' = w') := h4
    clear h4
    go_enter Try.func17, Try.ntmps17
    have t3 := Try.underlying3
    have u3 := Try.runUnderlying3
    have g3 := Try.isAgg3
    have z3 := Try.sizeOf3
    have t4 := Try.underlying4
    have u4 := Try.runUnderlying4
    have g4 := Try.isAgg4
    have z4 := Try.sizeOf4
    have c13 := Try.call13
    have mixed : Try.prog.follows .mixedOrders = true := by kernel_rfl
    have hP : Try.prog = PD := rfl
    rw [hP] at t3 u3 g3 z3 t4 u4 g4 z4 c13 mixed ⊢
    have HP := Lib.hid hP.symm
    clear hP 
    go_wp2_with (first | (go_at_call 13; ((with_reducible refine (at_prog HP.out (H4.out _)).mono ?_); rintro e w1 ⟨rfl, hw1⟩; subst hw1)) | (go_at_call 13; ((with_reducible refine (at_prog HP.out (HB.out _)).mono ?_); rintro e w1 ⟨rfl, hw1⟩; subst hw1)) | fail)
    go_ret
    exact ⟨rfl, rfl⟩
  · refine ⟨80, by omega, by omega, fun w => ?_⟩
    have H4 : Hid (∀ w', Calls Try.prog 13 #[.int .i64 n, .int .i64 4] w' fun e w'' => e = .returned (.int .i64 1) ∧ w'' = w') := h4
    clear h4
    go_enter Try.func17, Try.ntmps17
    have t3 := Try.underlying3
    have u3 := Try.runUnderlying3
    have g3 := Try.isAgg3
    have z3 := Try.sizeOf3
    have t4 := Try.underlying4
    have u4 := Try.runUnderlying4
    have g4 := Try.isAgg4
    have z4 := Try.sizeOf4
    have c13 := Try.call13
    have mixed : Try.prog.follows .mixedOrders = true := by kernel_rfl
    have hP : Try.prog = PD := rfl
    rw [hP] at t3 u3 g3 z3 t4 u4 g4 z4 c13 mixed ⊢
    have HP := Lib.hid hP.symm
    clear hP 
    go_wp2_with (first | (go_at_call 13; ((with_reducible refine (at_prog HP.out (H4.out _)).mono ?_); rintro e w1 ⟨rfl, hw1⟩; subst hw1)) | (go_at_call 13; ((with_reducible refine (at_prog HP.out (HB.out _)).mono ?_); rintro e w1 ⟨rfl, hw1⟩; subst hw1)) | fail)
    go_ret
    exact ⟨rfl, rfl⟩
  · refine ⟨443, by omega, by omega, fun w => ?_⟩
    have H4 : Hid (∀ w', Calls Try.prog 13 #[.int .i64 n, .int .i64 4] w' fun e w'' => e = .returned (.int .i64 2) ∧ w'' = w') := h4
    clear h4
    go_enter Try.func17, Try.ntmps17
    have t3 := Try.underlying3
    have u3 := Try.runUnderlying3
    have g3 := Try.isAgg3
    have z3 := Try.sizeOf3
    have t4 := Try.underlying4
    have u4 := Try.runUnderlying4
    have g4 := Try.isAgg4
    have z4 := Try.sizeOf4
    have c13 := Try.call13
    have mixed : Try.prog.follows .mixedOrders = true := by kernel_rfl
    have hP : Try.prog = PD := rfl
    rw [hP] at t3 u3 g3 z3 t4 u4 g4 z4 c13 mixed ⊢
    have HP := Lib.hid hP.symm
    clear hP 
    go_wp2_with (first | (go_at_call 13; ((with_reducible refine (at_prog HP.out (H4.out _)).mono ?_); rintro e w1 ⟨rfl, hw1⟩; subst hw1)) | (go_at_call 13; ((with_reducible refine (at_prog HP.out (HB.out _)).mono ?_); rintro e w1 ⟨rfl, hw1⟩; subst hw1)) | fail)
    go_ret
    exact ⟨rfl, rfl⟩
  · refine ⟨1 + (q : Int), by omega, by omega, fun w => ?_⟩
    have H4 : Hid (∀ w', Calls Try.prog 13 #[.int .i64 n, .int .i64 4] w' fun e w'' => e = .returned (.int .i64 3) ∧ w'' = w') := h4
    clear h4
    go_enter Try.func17, Try.ntmps17
    have t3 := Try.underlying3
    have u3 := Try.runUnderlying3
    have g3 := Try.isAgg3
    have z3 := Try.sizeOf3
    have t4 := Try.underlying4
    have u4 := Try.runUnderlying4
    have g4 := Try.isAgg4
    have z4 := Try.sizeOf4
    have c13 := Try.call13
    have mixed : Try.prog.follows .mixedOrders = true := by kernel_rfl
    have hP : Try.prog = PD := rfl
    rw [hP] at t3 u3 g3 z3 t4 u4 g4 z4 c13 mixed ⊢
    have HP := Lib.hid hP.symm
    clear hP 
    go_wp2_with (first | (go_at_call 13; ((with_reducible refine (at_prog HP.out (H4.out _)).mono ?_); rintro e w1 ⟨rfl, hw1⟩; subst hw1)) | (go_at_call 13; ((with_reducible refine (at_prog HP.out (HB.out _)).mono ?_); rintro e w1 ⟨rfl, hw1⟩; subst hw1)) | fail)
    go_ret
    exact ⟨rfl, rfl⟩

def hostN : Nat → List UInt8
  | 0 => [120, 46, 116, 101, 115, 116]
  | 1 => [121, 46, 120, 46, 116, 101, 115, 116]
  | 2 => [122, 46, 111, 114, 103]
  | 3 => [98, 97, 100, 46, 122, 46, 111, 114, 103]
  | 4 => [97, 45, 49, 46, 98, 97, 100, 46, 122, 46, 111, 114, 103]
  | _ => [116, 101, 115, 116]
theorem hostN_name (k : Nat) : nameV (hostN k) = true := by
  match k with
  | 0 => decide +kernel
  | 1 => decide +kernel
  | 2 => decide +kernel
  | 3 => decide +kernel
  | 4 => decide +kernel
  | _ + 5 => exact (by decide +kernel : nameV [116, 101, 115, 116] = true)
set_option maxHeartbeats 2000000 in
set_option maxRecDepth 100000 in
theorem host_gen (n : Int) : ∃ nl, nameV nl = true ∧ nl ≠ [] ∧ nl.length ≤ 100 ∧ ∀ w, Calls Try.prog 22 #[.int .i64 n] w fun e w' => e = .returned (.string (bs nl)) ∧ w' = w := by
  obtain ⟨k, hk, h6⟩ := mod_fix n 6 (by omega) (by omega)
  rcases (by omega : k = 0 ∨ k = 1 ∨ k = 2 ∨ k = 3 ∨ k = 4 ∨ k = 5) with rfl | rfl | rfl | rfl | rfl | rfl
  · refine ⟨hostN 0, hostN_name 0, by decide, by decide, fun w => ?_⟩
    have H6 : Hid (∀ w', Calls Try.prog 13 #[.int .i64 n, .int .i64 6] w' fun e w'' => e = .returned (.int .i64 0) ∧ w'' = w') := h6
    clear h6
    go_enter Try.func22, Try.ntmps22
    have t3 := Try.underlying3
    have u3 := Try.runUnderlying3
    have g3 := Try.isAgg3
    have z3 := Try.sizeOf3
    have t4 := Try.underlying4
    have u4 := Try.runUnderlying4
    have g4 := Try.isAgg4
    have z4 := Try.sizeOf4
    have t9 := Try.underlying9
    have u9 := Try.runUnderlying9
    have g9 := Try.isAgg9
    have z9 := Try.sizeOf9
    have c13 := Try.call13
    have mixed : Try.prog.follows .mixedOrders = true := by kernel_rfl
    have hP : Try.prog = PD := rfl
    rw [hP] at t3 u3 g3 z3 t4 u4 g4 z4 t9 u9 g9 z9 c13 mixed ⊢
    have HP := Lib.hid hP.symm
    clear hP 
    go_wp2_with (first | (go_at_call 13; ((with_reducible refine (at_prog HP.out (H6.out _)).mono ?_); rintro e w1 ⟨rfl, hw1⟩; subst hw1)) | fail)
    go_ret
    exact ⟨rfl, rfl⟩
  · refine ⟨hostN 1, hostN_name 1, by decide, by decide, fun w => ?_⟩
    have H6 : Hid (∀ w', Calls Try.prog 13 #[.int .i64 n, .int .i64 6] w' fun e w'' => e = .returned (.int .i64 1) ∧ w'' = w') := h6
    clear h6
    go_enter Try.func22, Try.ntmps22
    have t3 := Try.underlying3
    have u3 := Try.runUnderlying3
    have g3 := Try.isAgg3
    have z3 := Try.sizeOf3
    have t4 := Try.underlying4
    have u4 := Try.runUnderlying4
    have g4 := Try.isAgg4
    have z4 := Try.sizeOf4
    have t9 := Try.underlying9
    have u9 := Try.runUnderlying9
    have g9 := Try.isAgg9
    have z9 := Try.sizeOf9
    have c13 := Try.call13
    have mixed : Try.prog.follows .mixedOrders = true := by kernel_rfl
    have hP : Try.prog = PD := rfl
    rw [hP] at t3 u3 g3 z3 t4 u4 g4 z4 t9 u9 g9 z9 c13 mixed ⊢
    have HP := Lib.hid hP.symm
    clear hP 
    go_wp2_with (first | (go_at_call 13; ((with_reducible refine (at_prog HP.out (H6.out _)).mono ?_); rintro e w1 ⟨rfl, hw1⟩; subst hw1)) | fail)
    go_ret
    exact ⟨rfl, rfl⟩
  · refine ⟨hostN 2, hostN_name 2, by decide, by decide, fun w => ?_⟩
    have H6 : Hid (∀ w', Calls Try.prog 13 #[.int .i64 n, .int .i64 6] w' fun e w'' => e = .returned (.int .i64 2) ∧ w'' = w') := h6
    clear h6
    go_enter Try.func22, Try.ntmps22
    have t3 := Try.underlying3
    have u3 := Try.runUnderlying3
    have g3 := Try.isAgg3
    have z3 := Try.sizeOf3
    have t4 := Try.underlying4
    have u4 := Try.runUnderlying4
    have g4 := Try.isAgg4
    have z4 := Try.sizeOf4
    have t9 := Try.underlying9
    have u9 := Try.runUnderlying9
    have g9 := Try.isAgg9
    have z9 := Try.sizeOf9
    have c13 := Try.call13
    have mixed : Try.prog.follows .mixedOrders = true := by kernel_rfl
    have hP : Try.prog = PD := rfl
    rw [hP] at t3 u3 g3 z3 t4 u4 g4 z4 t9 u9 g9 z9 c13 mixed ⊢
    have HP := Lib.hid hP.symm
    clear hP 
    go_wp2_with (first | (go_at_call 13; ((with_reducible refine (at_prog HP.out (H6.out _)).mono ?_); rintro e w1 ⟨rfl, hw1⟩; subst hw1)) | fail)
    go_ret
    exact ⟨rfl, rfl⟩
  · refine ⟨hostN 3, hostN_name 3, by decide, by decide, fun w => ?_⟩
    have H6 : Hid (∀ w', Calls Try.prog 13 #[.int .i64 n, .int .i64 6] w' fun e w'' => e = .returned (.int .i64 3) ∧ w'' = w') := h6
    clear h6
    go_enter Try.func22, Try.ntmps22
    have t3 := Try.underlying3
    have u3 := Try.runUnderlying3
    have g3 := Try.isAgg3
    have z3 := Try.sizeOf3
    have t4 := Try.underlying4
    have u4 := Try.runUnderlying4
    have g4 := Try.isAgg4
    have z4 := Try.sizeOf4
    have t9 := Try.underlying9
    have u9 := Try.runUnderlying9
    have g9 := Try.isAgg9
    have z9 := Try.sizeOf9
    have c13 := Try.call13
    have mixed : Try.prog.follows .mixedOrders = true := by kernel_rfl
    have hP : Try.prog = PD := rfl
    rw [hP] at t3 u3 g3 z3 t4 u4 g4 z4 t9 u9 g9 z9 c13 mixed ⊢
    have HP := Lib.hid hP.symm
    clear hP 
    go_wp2_with (first | (go_at_call 13; ((with_reducible refine (at_prog HP.out (H6.out _)).mono ?_); rintro e w1 ⟨rfl, hw1⟩; subst hw1)) | fail)
    go_ret
    exact ⟨rfl, rfl⟩
  · refine ⟨hostN 4, hostN_name 4, by decide, by decide, fun w => ?_⟩
    have H6 : Hid (∀ w', Calls Try.prog 13 #[.int .i64 n, .int .i64 6] w' fun e w'' => e = .returned (.int .i64 4) ∧ w'' = w') := h6
    clear h6
    go_enter Try.func22, Try.ntmps22
    have t3 := Try.underlying3
    have u3 := Try.runUnderlying3
    have g3 := Try.isAgg3
    have z3 := Try.sizeOf3
    have t4 := Try.underlying4
    have u4 := Try.runUnderlying4
    have g4 := Try.isAgg4
    have z4 := Try.sizeOf4
    have t9 := Try.underlying9
    have u9 := Try.runUnderlying9
    have g9 := Try.isAgg9
    have z9 := Try.sizeOf9
    have c13 := Try.call13
    have mixed : Try.prog.follows .mixedOrders = true := by kernel_rfl
    have hP : Try.prog = PD := rfl
    rw [hP] at t3 u3 g3 z3 t4 u4 g4 z4 t9 u9 g9 z9 c13 mixed ⊢
    have HP := Lib.hid hP.symm
    clear hP 
    go_wp2_with (first | (go_at_call 13; ((with_reducible refine (at_prog HP.out (H6.out _)).mono ?_); rintro e w1 ⟨rfl, hw1⟩; subst hw1)) | fail)
    go_ret
    exact ⟨rfl, rfl⟩
  · refine ⟨hostN 5, hostN_name 5, by decide, by decide, fun w => ?_⟩
    have H6 : Hid (∀ w', Calls Try.prog 13 #[.int .i64 n, .int .i64 6] w' fun e w'' => e = .returned (.int .i64 5) ∧ w'' = w') := h6
    clear h6
    go_enter Try.func22, Try.ntmps22
    have t3 := Try.underlying3
    have u3 := Try.runUnderlying3
    have g3 := Try.isAgg3
    have z3 := Try.sizeOf3
    have t4 := Try.underlying4
    have u4 := Try.runUnderlying4
    have g4 := Try.isAgg4
    have z4 := Try.sizeOf4
    have t9 := Try.underlying9
    have u9 := Try.runUnderlying9
    have g9 := Try.isAgg9
    have z9 := Try.sizeOf9
    have c13 := Try.call13
    have mixed : Try.prog.follows .mixedOrders = true := by kernel_rfl
    have hP : Try.prog = PD := rfl
    rw [hP] at t3 u3 g3 z3 t4 u4 g4 z4 t9 u9 g9 z9 c13 mixed ⊢
    have HP := Lib.hid hP.symm
    clear hP 
    go_wp2_with (first | (go_at_call 13; ((with_reducible refine (at_prog HP.out (H6.out _)).mono ?_); rintro e w1 ⟨rfl, hw1⟩; subst hw1)) | fail)
    go_ret
    exact ⟨rfl, rfl⟩

theorem host_all : ∃ f : Int → List UInt8, (∀ n, nameV (f n) = true ∧ f n ≠ []) ∧ ∀ (n : Int) (w : World), Calls Try.prog 22 #[.int .i64 n] w fun e w' => e = .returned (.string (bs (f n))) ∧ w' = w := by
  obtain ⟨f, hf⟩ := Classical.axiomOfChoice host_gen
  exact ⟨f, fun n => ⟨(hf n).1, (hf n).2.1⟩, fun n w => (hf n).2.2.2 w⟩
theorem port_all : ∃ f : Int → Int, (∀ n, 1 ≤ f n ∧ f n ≤ 65535) ∧ ∀ (n : Int) (w : World), Calls Try.prog 17 #[.int .i64 n] w fun e w' => e = .returned (.int .i64 (f n)) ∧ w' = w := by
  obtain ⟨f, hf⟩ := Classical.axiomOfChoice port_gen
  exact ⟨f, fun n => ⟨(hf n).1, (hf n).2.1⟩, fun n w => (hf n).2.2 w⟩
theorem built57a (b : Bool) (xs : List Nat) (p : Int) (h : xs.length = 16) : Try.prog.built 57 [(1, .agg (adr b xs).toArray), (2, .int .i64 p)] = some (tgt (bs []) b xs p).toArray := by
  match xs, h with
  | [_, _, _, _, _, _, _, _, _, _, _, _, _, _, _, _], _ =>
    show _ = _
    kernel_rfl
theorem built57n (s : ByteArray) (p : Int) : Try.prog.built 57 [(0, .string s), (2, .int .i64 p)] = some (tgt s false zeros p).toArray := by kernel_rfl
/-- What an answer of the generator of targets is. -/
def GenT (w : World) (e : Ending) (w' : World) : Prop := ∃ nl b xs p, Bytes xs ∧ e = .returned (.agg (tgt (bs nl) b xs p).toArray) ∧ Fr No w w'
set_option maxHeartbeats 4000000 in
set_option maxRecDepth 100000 in
theorem target_gen (n : Int) (w : World) : Calls Try.prog 27 #[.int .i64 n] w (GenT w) := by
  obtain ⟨Z, hZ⟩ : ∃ Z : Array Value, noT.toArray = Z := ⟨_, rfl⟩
  have v57 := zero57
  rw [hZ] at v57
  have hZs : Z.size = 19 := by rw [← hZ]; rfl
  have HZ := Lib.hid (And.intro hZ hZs)
  obtain ⟨k, hk, h3⟩ := mod_fix n 3 (by omega) (by omega)
  have H3 : Hid (∀ w', Calls Try.prog 13 #[.int .i64 n, .int .i64 3] w' fun e w'' => e = .returned (.int .i64 k) ∧ w'' = w') := h3
  obtain ⟨w1, hw1⟩ : ∃ w1, w.alloc (.cells Z 57) = w1 := ⟨_, rfl⟩
  have hb1 := heap_alloc_new w (.cells Z 57)
  have hF1 := Fr.alloc No w (.cells Z 57)
  obtain ⟨tb, htb⟩ : ∃ tb, w.heap.size = tb := ⟨_, rfl⟩
  rw [hw1, htb] at hb1
  rw [hw1] at hF1
  have HB := Lib.hid (And.intro hb1 (And.intro hF1 htb))
  clear h3 hZ hb1 hF1
  have HPP : Hid (∀ (n : Int) (w : World), Calls Try.prog 17 #[.int .i64 n] w fun e w' => (∃ p : Int, e = .returned (.int .i64 p)) ∧ w' = w) := fun n w => by
    obtain ⟨fp, -, hfp⟩ := port_all
    exact (hfp n w).mono fun e w' h => ⟨⟨_, h.1⟩, h.2⟩
  have HH : Hid (∀ (n : Int) (w : World), Calls Try.prog 22 #[.int .i64 n] w fun e w' => (∃ nl, e = .returned (.string (bs nl))) ∧ w' = w) := fun n w => by
    obtain ⟨fp, -, hfp⟩ := host_all
    exact (hfp n w).mono fun e w' h => ⟨⟨_, h.1⟩, h.2⟩
  by_cases hk0 : k = 0
  · subst hk0
    have H3' : Hid (∀ w', Calls Try.prog 13 #[.int .i64 n, .int .i64 3] w' fun e w'' => e = .returned (.int .i64 0) ∧ w'' = w') := H3
    clear H3 hk
    go_enter Try.func27, Try.ntmps27
    have t3 := Try.underlying3
    have u3 := Try.runUnderlying3
    have g3 := Try.isAgg3
    have z3 := Try.sizeOf3
    have t4 := Try.underlying4
    have u4 := Try.runUnderlying4
    have g4 := Try.isAgg4
    have z4 := Try.sizeOf4
    have t9 := Try.underlying9
    have u9 := Try.runUnderlying9
    have g9 := Try.isAgg9
    have z9 := Try.sizeOf9
    have t26 := Try.underlying26
    have u26 := Try.runUnderlying26
    have g26 := Try.isAgg26
    have z26 := Try.sizeOf26
    have t57 := Try.underlying57
    have u57 := Try.runUnderlying57
    have g57 := Try.isAgg57
    have z57 := Try.sizeOf57
    have c13 := Try.call13
    have c17 := Try.call17
    have c22 := Try.call22
    have c42 := Try.call42
    have mixed : Try.prog.follows .mixedOrders = true := by kernel_rfl
    obtain ⟨k19, hk19⟩ : ∃ k, k = 19 := ⟨_, rfl⟩
    rw [← hk19] at z57
    have nk19 : ¬ k19 = 0 := by omega
    have HK57 := Lib.hid hk19
    have hP : Try.prog = PD := rfl
    rw [hP] at t3 u3 g3 z3 t4 u4 g4 z4 t9 u9 g9 z9 t26 u26 g26 z26 t57 u57 g57 z57 c13 c17 c22 c42 mixed v57 ⊢
    have HP := Lib.hid hP.symm
    clear hP hk19
    have hZk : Z.size = k19 := by rw [HK57.out]; exact hZs
    clear hZs
    go_wp2_with (first | (go_at_call 13; ((with_reducible refine (at_prog HP.out (H3'.out _)).mono ?_); rintro e w2 ⟨rfl, hw2⟩; replace hw2 := hw2.symm; subst hw2)) | (go_at_call 42; (refine (at_prog HP.out (addr_gen _ _)).mono ?_); rintro e w3 ⟨c, ys, hys, -, rfl, hf3⟩; obtain ⟨A, hA, -⟩ := adr_letter c ys hys; rw [hA]) | (go_at_call 17; ((with_reducible refine (at_prog HP.out (HPP.out _ _)).mono ?_); rintro e w4 ⟨⟨pp, rfl⟩, hw4⟩; replace hw4 := hw4.symm; subst hw4)) | (refine law_buildP HP.out rfl 57 #[(1, .tmp 8), (2, .tmp 11)] rfl _ rfl _ (by rw [← hA]; exact built57a c ys pp hys.1) ?_; obtain ⟨TG, hTG, -, -, -, hTs, -, hT1⟩ := tgt_letter (bs []) c ys pp hys; rw [hTG]; have hTk : TG.size = k19 := hTs.trans HK57.out.symm; obtain ⟨y, hst, hyb, hyf⟩ := store_all (P := PD) TG.toList (hf3.keep HB.out.1) (by rw [Array.length_toList, hTs, HZ.out.2]) hT1) | fail)
    refine bodyPost_ret_by (results_agg rfl _ (b := tb) (k := 19) (cs := TG) (Try.isAgg57 _) (Try.sizeOf57 _) rfl (load_block hyb hTs (fun j v hv => by simpa using hv))) rfl ?_
    exact ⟨[], c, ys, pp, hys, by rw [hTG], (HB.out.2.1.trans hf3).ofNew hyf fun k hk => .inr (by rw [hk, HB.out.2.2]; exact Nat.le_refl _)⟩
  · have pk : ¬ (k : Int) = 0 := by omega
    clear hk hk0
    go_enter Try.func27, Try.ntmps27
    have t3 := Try.underlying3
    have u3 := Try.runUnderlying3
    have g3 := Try.isAgg3
    have z3 := Try.sizeOf3
    have t4 := Try.underlying4
    have u4 := Try.runUnderlying4
    have g4 := Try.isAgg4
    have z4 := Try.sizeOf4
    have t9 := Try.underlying9
    have u9 := Try.runUnderlying9
    have g9 := Try.isAgg9
    have z9 := Try.sizeOf9
    have t26 := Try.underlying26
    have u26 := Try.runUnderlying26
    have g26 := Try.isAgg26
    have z26 := Try.sizeOf26
    have t57 := Try.underlying57
    have u57 := Try.runUnderlying57
    have g57 := Try.isAgg57
    have z57 := Try.sizeOf57
    have c13 := Try.call13
    have c17 := Try.call17
    have c22 := Try.call22
    have c42 := Try.call42
    have mixed : Try.prog.follows .mixedOrders = true := by kernel_rfl
    obtain ⟨k19, hk19⟩ : ∃ k, k = 19 := ⟨_, rfl⟩
    rw [← hk19] at z57
    have nk19 : ¬ k19 = 0 := by omega
    have HK57 := Lib.hid hk19
    have hP : Try.prog = PD := rfl
    rw [hP] at t3 u3 g3 z3 t4 u4 g4 z4 t9 u9 g9 z9 t26 u26 g26 z26 t57 u57 g57 z57 c13 c17 c22 c42 mixed v57 ⊢
    have HP := Lib.hid hP.symm
    clear hP hk19
    have hZk : Z.size = k19 := by rw [HK57.out]; exact hZs
    clear hZs
    go_wp2_with (first | (go_at_call 13; ((with_reducible refine (at_prog HP.out (H3.out _)).mono ?_); rintro e w2 ⟨rfl, hw2⟩; replace hw2 := hw2.symm; subst hw2)) | (go_at_call 22; ((with_reducible refine (at_prog HP.out (HH.out _ _)).mono ?_); rintro e w3 ⟨⟨nl, rfl⟩, hw3⟩; replace hw3 := hw3.symm; subst hw3)) | (go_at_call 17; ((with_reducible refine (at_prog HP.out (HPP.out _ _)).mono ?_); rintro e w4 ⟨⟨pp, rfl⟩, hw4⟩; replace hw4 := hw4.symm; subst hw4)) | (refine law_buildP HP.out rfl 57 #[(0, .tmp 15), (2, .tmp 18)] rfl _ rfl _ (built57n (bs nl) pp) ?_; obtain ⟨TG, hTG, -, -, -, hTs, -, hT1⟩ := tgt_letter (bs nl) false zeros pp zeros_bytes; rw [hTG]; have hTk : TG.size = k19 := hTs.trans HK57.out.symm; obtain ⟨y, hst, hyb, hyf⟩ := store_all (P := PD) TG.toList ((Fr.refl No w1).keep HB.out.1) (by rw [Array.length_toList, hTs, HZ.out.2]) hT1) | fail)
    refine bodyPost_ret_by (results_agg rfl _ (b := tb) (k := 19) (cs := TG) (Try.isAgg57 _) (Try.sizeOf57 _) rfl (load_block hyb hTs (fun j v hv => by simpa using hv))) rfl ?_
    exact ⟨nl, false, zeros, pp, zeros_bytes, by rw [hTG], (HB.out.2.1.trans (Fr.refl No w1)).ofNew hyf fun k hk => .inr (by rw [hk, HB.out.2.2]; exact Nat.le_refl _)⟩
end Go.Proofs.Ytnadendhboiliaa
