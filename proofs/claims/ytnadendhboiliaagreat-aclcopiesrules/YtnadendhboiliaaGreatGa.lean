/-
  CONTRACTS of the generators' Mod and Addr, over this seat's translation: what each call returns.
  Conditions: as each theorem says.
-/
import Derived.Test.YtnadendhboiliaaGreatCb
import Derived.Test.YtnadendhboiliaaGreatN2
namespace Go.Proofs.YtnadendhboiliaaGreat
open Go.ChangeShapes Go.WideShapes Go.ChangeAt Go.RowKit
set_option linter.unusedVariables false

set_option maxHeartbeats 1000000 in
set_option maxRecDepth 100000 in
theorem mod_fix (i : Int) (N : Nat) (h0 : 0 < N) (hN : N < 4611686018427387904) : ∃ p : Nat, p < N ∧ ∀ w,
    Calls Tryz.prog 25 #[.int .i64 i, .int .i64 N] w fun e w' => e = .returned (.int .i64 p) ∧ w' = w := by
  have hu : IntKind.u64.wrap (N : Int) = (N : Int) := by rw [show IntKind.u64.wrap (N : Int) = (N : Int) % 18446744073709551616 from rfl]; omega
  have hn0 : ¬ (N : Int) = 0 := by omega
  have hw : ∃ p : Nat, p < N ∧ wrap64 ((IntKind.u64.wrap i).tmod N) = p := by
    have h1 : 0 ≤ IntKind.u64.wrap i := by rw [show IntKind.u64.wrap i = i % 18446744073709551616 from rfl]; omega
    rw [Int.tmod_eq_emod_of_nonneg h1]
    have h2 := Int.emod_nonneg (IntKind.u64.wrap i) hn0
    have h3 := Int.emod_lt_of_pos (IntKind.u64.wrap i) (show (0 : Int) < N by omega)
    generalize IntKind.u64.wrap i % (N : Int) = q at h2 h3
    exact ⟨q.toNat, by omega, by unfold wrap64; omega⟩
  obtain ⟨p, hp, he⟩ := hw
  refine ⟨p, hp, fun w => ?_⟩
  have HE := Lib.hid (And.intro hp he)
  clear hp he
  go_enter Tryz.func25, Tryz.ntmps25
  go_wp2_with fail
  go_ret
  exact ⟨by rw [← HE.out.2]; rfl, rfl⟩


set_option maxRecDepth 10000 in
theorem put_adr16 (a0 a1 a2 a3 a4 a5 a6 a7 a8 a9 a10 a11 a12 a13 a14 a15 : Nat) : Array.foldl (fun (cs : Array Value) (x : Value × Nat) => cs.setIfInBounds (1 + x.snd) x.fst) ((adr false zeros).toArray.setIfInBounds 0 (.bool true)) (nums .u8 [a0, a1, a2, a3, a4, a5, a6, a7, a8, a9, a10, a11, a12, a13, a14, a15]).toArray.zipIdx 0 16 = (adr true [a0, a1, a2, a3, a4, a5, a6, a7, a8, a9, a10, a11, a12, a13, a14, a15]).toArray := by
  kernel_rfl

/-- What an answer of a generator of addresses is. -/
def GenA (w : World) (e : Ending) (w' : World) : Prop := ∃ c ys, Bytes ys ∧ validA c ys = true ∧ e = .returned (.agg (adr c ys).toArray) ∧ Fr No w w'

set_option maxHeartbeats 4000000 in
set_option maxRecDepth 100000 in
theorem addr_gen0 (n : Int) (w : World) (h : ∀ w', Calls Tryz.prog 25 #[.int .i64 n, .int .i64 14] w' fun e w'' => e = .returned (.int .i64 0) ∧ w'' = w') : Calls Tryz.prog 24 #[.int .i64 n] w (GenA w) := by
  obtain ⟨Y, hY⟩ : ∃ Y : Array Value, (adr false zeros).toArray = Y := ⟨_, rfl⟩
  obtain ⟨X, hX⟩ : ∃ X : Array Value, (nums .u8 zeros).toArray = X := ⟨_, rfl⟩
  have v30 := zero25
  have v28 := zero23
  rw [hY] at v30
  rw [hX] at v28
  have hYs : Y.size = 17 := by rw [← hY]; rfl
  have hXs : X.size = 16 := by rw [← hX]; rfl
  have hYne : ¬ Y = #[] := by intro e; rw [e] at hYs; cases hYs
  have hXne : ¬ X = #[] := by intro e; rw [e] at hXs; cases hXs
  have HM := Lib.hid h
  obtain ⟨ys, hys⟩ : ∃ ys : List Nat, ys = (v4Of 8 8 8 8) := ⟨_, rfl⟩
  have hyb : Bytes ys := by rw [hys]; exact v4_bytes (by omega) (by omega) (by omega) (by omega)
  have hyv : validA false ys = true := by rw [hys]; rfl
  obtain ⟨E, hE⟩ : ∃ E : Array Value, (adr false ys).toArray = E := ⟨_, rfl⟩
  have hEs : E.size = 17 := by rw [← hE, List.size_toArray, adr_length, hyb.1]
  have HV : Hid (∀ w', Calls Tryz.prog 27 #[.int .u8 8, .int .u8 8, .int .u8 8, .int .u8 8] w' fun e w'' => e = .returned (.agg E) ∧ Fr No w' w'') := fun w' => by
    have h := v4_ref 8 8 8 8 w'
    rw [← hys, hE] at h
    exact h
  have HE := Lib.hid (And.intro hyb (And.intro hyv (And.intro hE hEs)))
  clear h hY hX hys hyb hyv hE 
  go_enter Tryz.func24, Tryz.ntmps24
  have t3 := Tryz.underlying3
  have u3 := Tryz.runUnderlying3
  have g3 := Tryz.isAgg3
  have z3 := Tryz.sizeOf3
  have t4 := Tryz.underlying4
  have u4 := Tryz.runUnderlying4
  have g4 := Tryz.isAgg4
  have z4 := Tryz.sizeOf4
  have t5 := Tryz.underlying5
  have u5 := Tryz.runUnderlying5
  have g5 := Tryz.isAgg5
  have z5 := Tryz.sizeOf5
  have t23 := Tryz.underlying23
  have u23 := Tryz.runUnderlying23
  have g23 := Tryz.isAgg23
  have z23 := Tryz.sizeOf23
  have t25 := Tryz.underlying25
  have u25 := Tryz.runUnderlying25
  have g25 := Tryz.isAgg25
  have z25 := Tryz.sizeOf25
  have t57 := Tryz.underlying57
  have u57 := Tryz.runUnderlying57
  have g57 := Tryz.isAgg57
  have z57 := Tryz.sizeOf57
  have c25 := Tryz.call25
  have c27 := Tryz.call27
  have mixed : Tryz.prog.follows .mixedOrders = true := by kernel_rfl
  obtain ⟨k28, hk28⟩ : ∃ k, k = 16 := ⟨_, rfl⟩
  rw [← hk28] at z23
  have nk28 : ¬ k28 = 0 := by omega
  have HK23 := Lib.hid hk28
  obtain ⟨k30, hk30⟩ : ∃ k, k = 17 := ⟨_, rfl⟩
  rw [← hk30] at z25
  have nk30 : ¬ k30 = 0 := by omega
  have HK25 := Lib.hid hk30
  have hP : Tryz.prog = PD := rfl
  rw [hP] at t3 u3 g3 z3 t4 u4 g4 z4 t5 u5 g5 z5 t23 u23 g23 z23 t25 u25 g25 z25 t57 u57 g57 z57 c25 c27 mixed v28 v30 ⊢
  have HP := Lib.hid hP.symm
  clear hP hk28 hk30
  have hYk : Y.size = k30 := by rw [HK25.out]; exact hYs
  have hXk : X.size = k28 := by rw [HK23.out]; exact hXs
  have hEk : E.size = k30 := by rw [HK25.out]; exact hEs
  clear hYs hXs hEs
  go_wp2_with (first | (go_at_call 25; refine (at_prog HP.out (HM.out _)).mono ?_; rintro e w3 ⟨rfl, hw3⟩; subst hw3) | (go_at_call 27; refine (at_prog HP.out (HV.out _)).mono ?_; rintro e w4 ⟨rfl, hf4⟩; obtain ⟨y, hst, hyb, hyf⟩ := store_all (P := PD) E.toList (hf4.keep (heap_alloc_new w (.cells Y 25))) (by rw [Array.length_toList, hEk, hYk]) (by rw [← HE.out.2.2.1]; exact adr_one _ _); have HY : Hid (y.heap[w.heap.size]? = some (.cells E 25 (0, 0)) ∧ Fr No w y) := ⟨by simpa using hyb, ((Fr.alloc No w (.cells Y 25)).trans hf4).ofNew hyf fun k hk => .inr (by omega)⟩; clear hyb hyf hf4) | fail)
  refine bodyPost_ret_by (results_agg rfl _ (b := w.heap.size) (k := 17) (cs := E) (Tryz.isAgg25 _) (Tryz.sizeOf25 _) rfl (load_block HY.out.1 HE.out.2.2.2 (fun j v hv => by simpa using hv))) rfl ?_
  exact ⟨false, ys, HE.out.1, HE.out.2.1, by rw [HE.out.2.2.1], HY.out.2⟩

set_option maxHeartbeats 4000000 in
set_option maxRecDepth 100000 in
theorem addr_gen1 (n : Int) (w : World) (h : ∀ w', Calls Tryz.prog 25 #[.int .i64 n, .int .i64 14] w' fun e w'' => e = .returned (.int .i64 1) ∧ w'' = w') : Calls Tryz.prog 24 #[.int .i64 n] w (GenA w) := by
  obtain ⟨Y, hY⟩ : ∃ Y : Array Value, (adr false zeros).toArray = Y := ⟨_, rfl⟩
  obtain ⟨X, hX⟩ : ∃ X : Array Value, (nums .u8 zeros).toArray = X := ⟨_, rfl⟩
  have v30 := zero25
  have v28 := zero23
  rw [hY] at v30
  rw [hX] at v28
  have hYs : Y.size = 17 := by rw [← hY]; rfl
  have hXs : X.size = 16 := by rw [← hX]; rfl
  have hYne : ¬ Y = #[] := by intro e; rw [e] at hYs; cases hYs
  have hXne : ¬ X = #[] := by intro e; rw [e] at hXs; cases hXs
  have HM := Lib.hid h
  obtain ⟨ys, hys⟩ : ∃ ys : List Nat, ys = (v4Of 8 8 4 4) := ⟨_, rfl⟩
  have hyb : Bytes ys := by rw [hys]; exact v4_bytes (by omega) (by omega) (by omega) (by omega)
  have hyv : validA false ys = true := by rw [hys]; rfl
  obtain ⟨E, hE⟩ : ∃ E : Array Value, (adr false ys).toArray = E := ⟨_, rfl⟩
  have hEs : E.size = 17 := by rw [← hE, List.size_toArray, adr_length, hyb.1]
  have HV : Hid (∀ w', Calls Tryz.prog 27 #[.int .u8 8, .int .u8 8, .int .u8 4, .int .u8 4] w' fun e w'' => e = .returned (.agg E) ∧ Fr No w' w'') := fun w' => by
    have h := v4_ref 8 8 4 4 w'
    rw [← hys, hE] at h
    exact h
  have HE := Lib.hid (And.intro hyb (And.intro hyv (And.intro hE hEs)))
  clear h hY hX hys hyb hyv hE 
  go_enter Tryz.func24, Tryz.ntmps24
  have t3 := Tryz.underlying3
  have u3 := Tryz.runUnderlying3
  have g3 := Tryz.isAgg3
  have z3 := Tryz.sizeOf3
  have t4 := Tryz.underlying4
  have u4 := Tryz.runUnderlying4
  have g4 := Tryz.isAgg4
  have z4 := Tryz.sizeOf4
  have t5 := Tryz.underlying5
  have u5 := Tryz.runUnderlying5
  have g5 := Tryz.isAgg5
  have z5 := Tryz.sizeOf5
  have t23 := Tryz.underlying23
  have u23 := Tryz.runUnderlying23
  have g23 := Tryz.isAgg23
  have z23 := Tryz.sizeOf23
  have t25 := Tryz.underlying25
  have u25 := Tryz.runUnderlying25
  have g25 := Tryz.isAgg25
  have z25 := Tryz.sizeOf25
  have t57 := Tryz.underlying57
  have u57 := Tryz.runUnderlying57
  have g57 := Tryz.isAgg57
  have z57 := Tryz.sizeOf57
  have c25 := Tryz.call25
  have c27 := Tryz.call27
  have mixed : Tryz.prog.follows .mixedOrders = true := by kernel_rfl
  obtain ⟨k28, hk28⟩ : ∃ k, k = 16 := ⟨_, rfl⟩
  rw [← hk28] at z23
  have nk28 : ¬ k28 = 0 := by omega
  have HK23 := Lib.hid hk28
  obtain ⟨k30, hk30⟩ : ∃ k, k = 17 := ⟨_, rfl⟩
  rw [← hk30] at z25
  have nk30 : ¬ k30 = 0 := by omega
  have HK25 := Lib.hid hk30
  have hP : Tryz.prog = PD := rfl
  rw [hP] at t3 u3 g3 z3 t4 u4 g4 z4 t5 u5 g5 z5 t23 u23 g23 z23 t25 u25 g25 z25 t57 u57 g57 z57 c25 c27 mixed v28 v30 ⊢
  have HP := Lib.hid hP.symm
  clear hP hk28 hk30
  have hYk : Y.size = k30 := by rw [HK25.out]; exact hYs
  have hXk : X.size = k28 := by rw [HK23.out]; exact hXs
  have hEk : E.size = k30 := by rw [HK25.out]; exact hEs
  clear hYs hXs hEs
  go_wp2_with (first | (go_at_call 25; refine (at_prog HP.out (HM.out _)).mono ?_; rintro e w3 ⟨rfl, hw3⟩; subst hw3) | (go_at_call 27; refine (at_prog HP.out (HV.out _)).mono ?_; rintro e w4 ⟨rfl, hf4⟩; obtain ⟨y, hst, hyb, hyf⟩ := store_all (P := PD) E.toList (hf4.keep (heap_alloc_new w (.cells Y 25))) (by rw [Array.length_toList, hEk, hYk]) (by rw [← HE.out.2.2.1]; exact adr_one _ _); have HY : Hid (y.heap[w.heap.size]? = some (.cells E 25 (0, 0)) ∧ Fr No w y) := ⟨by simpa using hyb, ((Fr.alloc No w (.cells Y 25)).trans hf4).ofNew hyf fun k hk => .inr (by omega)⟩; clear hyb hyf hf4) | fail)
  refine bodyPost_ret_by (results_agg rfl _ (b := w.heap.size) (k := 17) (cs := E) (Tryz.isAgg25 _) (Tryz.sizeOf25 _) rfl (load_block HY.out.1 HE.out.2.2.2 (fun j v hv => by simpa using hv))) rfl ?_
  exact ⟨false, ys, HE.out.1, HE.out.2.1, by rw [HE.out.2.2.1], HY.out.2⟩

set_option maxHeartbeats 4000000 in
set_option maxRecDepth 100000 in
theorem addr_gen2 (n : Int) (w : World) (h : ∀ w', Calls Tryz.prog 25 #[.int .i64 n, .int .i64 14] w' fun e w'' => e = .returned (.int .i64 2) ∧ w'' = w') : Calls Tryz.prog 24 #[.int .i64 n] w (GenA w) := by
  obtain ⟨Y, hY⟩ : ∃ Y : Array Value, (adr false zeros).toArray = Y := ⟨_, rfl⟩
  obtain ⟨X, hX⟩ : ∃ X : Array Value, (nums .u8 zeros).toArray = X := ⟨_, rfl⟩
  have v30 := zero25
  have v28 := zero23
  rw [hY] at v30
  rw [hX] at v28
  have hYs : Y.size = 17 := by rw [← hY]; rfl
  have hXs : X.size = 16 := by rw [← hX]; rfl
  have hYne : ¬ Y = #[] := by intro e; rw [e] at hYs; cases hYs
  have hXne : ¬ X = #[] := by intro e; rw [e] at hXs; cases hXs
  have HM := Lib.hid h
  obtain ⟨ys, hys⟩ : ∃ ys : List Nat, ys = (v4Of 9 1 2 3) := ⟨_, rfl⟩
  have hyb : Bytes ys := by rw [hys]; exact v4_bytes (by omega) (by omega) (by omega) (by omega)
  have hyv : validA false ys = true := by rw [hys]; rfl
  obtain ⟨E, hE⟩ : ∃ E : Array Value, (adr false ys).toArray = E := ⟨_, rfl⟩
  have hEs : E.size = 17 := by rw [← hE, List.size_toArray, adr_length, hyb.1]
  have HV : Hid (∀ w', Calls Tryz.prog 27 #[.int .u8 9, .int .u8 1, .int .u8 2, .int .u8 3] w' fun e w'' => e = .returned (.agg E) ∧ Fr No w' w'') := fun w' => by
    have h := v4_ref 9 1 2 3 w'
    rw [← hys, hE] at h
    exact h
  have HE := Lib.hid (And.intro hyb (And.intro hyv (And.intro hE hEs)))
  clear h hY hX hys hyb hyv hE 
  go_enter Tryz.func24, Tryz.ntmps24
  have t3 := Tryz.underlying3
  have u3 := Tryz.runUnderlying3
  have g3 := Tryz.isAgg3
  have z3 := Tryz.sizeOf3
  have t4 := Tryz.underlying4
  have u4 := Tryz.runUnderlying4
  have g4 := Tryz.isAgg4
  have z4 := Tryz.sizeOf4
  have t5 := Tryz.underlying5
  have u5 := Tryz.runUnderlying5
  have g5 := Tryz.isAgg5
  have z5 := Tryz.sizeOf5
  have t23 := Tryz.underlying23
  have u23 := Tryz.runUnderlying23
  have g23 := Tryz.isAgg23
  have z23 := Tryz.sizeOf23
  have t25 := Tryz.underlying25
  have u25 := Tryz.runUnderlying25
  have g25 := Tryz.isAgg25
  have z25 := Tryz.sizeOf25
  have t57 := Tryz.underlying57
  have u57 := Tryz.runUnderlying57
  have g57 := Tryz.isAgg57
  have z57 := Tryz.sizeOf57
  have c25 := Tryz.call25
  have c27 := Tryz.call27
  have mixed : Tryz.prog.follows .mixedOrders = true := by kernel_rfl
  obtain ⟨k28, hk28⟩ : ∃ k, k = 16 := ⟨_, rfl⟩
  rw [← hk28] at z23
  have nk28 : ¬ k28 = 0 := by omega
  have HK23 := Lib.hid hk28
  obtain ⟨k30, hk30⟩ : ∃ k, k = 17 := ⟨_, rfl⟩
  rw [← hk30] at z25
  have nk30 : ¬ k30 = 0 := by omega
  have HK25 := Lib.hid hk30
  have hP : Tryz.prog = PD := rfl
  rw [hP] at t3 u3 g3 z3 t4 u4 g4 z4 t5 u5 g5 z5 t23 u23 g23 z23 t25 u25 g25 z25 t57 u57 g57 z57 c25 c27 mixed v28 v30 ⊢
  have HP := Lib.hid hP.symm
  clear hP hk28 hk30
  have hYk : Y.size = k30 := by rw [HK25.out]; exact hYs
  have hXk : X.size = k28 := by rw [HK23.out]; exact hXs
  have hEk : E.size = k30 := by rw [HK25.out]; exact hEs
  clear hYs hXs hEs
  go_wp2_with (first | (go_at_call 25; refine (at_prog HP.out (HM.out _)).mono ?_; rintro e w3 ⟨rfl, hw3⟩; subst hw3) | (go_at_call 27; refine (at_prog HP.out (HV.out _)).mono ?_; rintro e w4 ⟨rfl, hf4⟩; obtain ⟨y, hst, hyb, hyf⟩ := store_all (P := PD) E.toList (hf4.keep (heap_alloc_new w (.cells Y 25))) (by rw [Array.length_toList, hEk, hYk]) (by rw [← HE.out.2.2.1]; exact adr_one _ _); have HY : Hid (y.heap[w.heap.size]? = some (.cells E 25 (0, 0)) ∧ Fr No w y) := ⟨by simpa using hyb, ((Fr.alloc No w (.cells Y 25)).trans hf4).ofNew hyf fun k hk => .inr (by omega)⟩; clear hyb hyf hf4) | fail)
  refine bodyPost_ret_by (results_agg rfl _ (b := w.heap.size) (k := 17) (cs := E) (Tryz.isAgg25 _) (Tryz.sizeOf25 _) rfl (load_block HY.out.1 HE.out.2.2.2 (fun j v hv => by simpa using hv))) rfl ?_
  exact ⟨false, ys, HE.out.1, HE.out.2.1, by rw [HE.out.2.2.1], HY.out.2⟩

set_option maxHeartbeats 4000000 in
set_option maxRecDepth 100000 in
theorem addr_gen3 (n : Int) (w : World) (h : ∀ w', Calls Tryz.prog 25 #[.int .i64 n, .int .i64 14] w' fun e w'' => e = .returned (.int .i64 3) ∧ w'' = w') : Calls Tryz.prog 24 #[.int .i64 n] w (GenA w) := by
  obtain ⟨Y, hY⟩ : ∃ Y : Array Value, (adr false zeros).toArray = Y := ⟨_, rfl⟩
  obtain ⟨X, hX⟩ : ∃ X : Array Value, (nums .u8 zeros).toArray = X := ⟨_, rfl⟩
  have v30 := zero25
  have v28 := zero23
  rw [hY] at v30
  rw [hX] at v28
  have hYs : Y.size = 17 := by rw [← hY]; rfl
  have hXs : X.size = 16 := by rw [← hX]; rfl
  have hYne : ¬ Y = #[] := by intro e; rw [e] at hYs; cases hYs
  have hXne : ¬ X = #[] := by intro e; rw [e] at hXs; cases hXs
  have HM := Lib.hid h
  obtain ⟨ys, hys⟩ : ∃ ys : List Nat, ys = (v4Of 10 0 0 1) := ⟨_, rfl⟩
  have hyb : Bytes ys := by rw [hys]; exact v4_bytes (by omega) (by omega) (by omega) (by omega)
  have hyv : validA false ys = true := by rw [hys]; rfl
  obtain ⟨E, hE⟩ : ∃ E : Array Value, (adr false ys).toArray = E := ⟨_, rfl⟩
  have hEs : E.size = 17 := by rw [← hE, List.size_toArray, adr_length, hyb.1]
  have HV : Hid (∀ w', Calls Tryz.prog 27 #[.int .u8 10, .int .u8 0, .int .u8 0, .int .u8 1] w' fun e w'' => e = .returned (.agg E) ∧ Fr No w' w'') := fun w' => by
    have h := v4_ref 10 0 0 1 w'
    rw [← hys, hE] at h
    exact h
  have HE := Lib.hid (And.intro hyb (And.intro hyv (And.intro hE hEs)))
  clear h hY hX hys hyb hyv hE 
  go_enter Tryz.func24, Tryz.ntmps24
  have t3 := Tryz.underlying3
  have u3 := Tryz.runUnderlying3
  have g3 := Tryz.isAgg3
  have z3 := Tryz.sizeOf3
  have t4 := Tryz.underlying4
  have u4 := Tryz.runUnderlying4
  have g4 := Tryz.isAgg4
  have z4 := Tryz.sizeOf4
  have t5 := Tryz.underlying5
  have u5 := Tryz.runUnderlying5
  have g5 := Tryz.isAgg5
  have z5 := Tryz.sizeOf5
  have t23 := Tryz.underlying23
  have u23 := Tryz.runUnderlying23
  have g23 := Tryz.isAgg23
  have z23 := Tryz.sizeOf23
  have t25 := Tryz.underlying25
  have u25 := Tryz.runUnderlying25
  have g25 := Tryz.isAgg25
  have z25 := Tryz.sizeOf25
  have t57 := Tryz.underlying57
  have u57 := Tryz.runUnderlying57
  have g57 := Tryz.isAgg57
  have z57 := Tryz.sizeOf57
  have c25 := Tryz.call25
  have c27 := Tryz.call27
  have mixed : Tryz.prog.follows .mixedOrders = true := by kernel_rfl
  obtain ⟨k28, hk28⟩ : ∃ k, k = 16 := ⟨_, rfl⟩
  rw [← hk28] at z23
  have nk28 : ¬ k28 = 0 := by omega
  have HK23 := Lib.hid hk28
  obtain ⟨k30, hk30⟩ : ∃ k, k = 17 := ⟨_, rfl⟩
  rw [← hk30] at z25
  have nk30 : ¬ k30 = 0 := by omega
  have HK25 := Lib.hid hk30
  have hP : Tryz.prog = PD := rfl
  rw [hP] at t3 u3 g3 z3 t4 u4 g4 z4 t5 u5 g5 z5 t23 u23 g23 z23 t25 u25 g25 z25 t57 u57 g57 z57 c25 c27 mixed v28 v30 ⊢
  have HP := Lib.hid hP.symm
  clear hP hk28 hk30
  have hYk : Y.size = k30 := by rw [HK25.out]; exact hYs
  have hXk : X.size = k28 := by rw [HK23.out]; exact hXs
  have hEk : E.size = k30 := by rw [HK25.out]; exact hEs
  clear hYs hXs hEs
  go_wp2_with (first | (go_at_call 25; refine (at_prog HP.out (HM.out _)).mono ?_; rintro e w3 ⟨rfl, hw3⟩; subst hw3) | (go_at_call 27; refine (at_prog HP.out (HV.out _)).mono ?_; rintro e w4 ⟨rfl, hf4⟩; obtain ⟨y, hst, hyb, hyf⟩ := store_all (P := PD) E.toList (hf4.keep (heap_alloc_new w (.cells Y 25))) (by rw [Array.length_toList, hEk, hYk]) (by rw [← HE.out.2.2.1]; exact adr_one _ _); have HY : Hid (y.heap[w.heap.size]? = some (.cells E 25 (0, 0)) ∧ Fr No w y) := ⟨by simpa using hyb, ((Fr.alloc No w (.cells Y 25)).trans hf4).ofNew hyf fun k hk => .inr (by omega)⟩; clear hyb hyf hf4) | fail)
  refine bodyPost_ret_by (results_agg rfl _ (b := w.heap.size) (k := 17) (cs := E) (Tryz.isAgg25 _) (Tryz.sizeOf25 _) rfl (load_block HY.out.1 HE.out.2.2.2 (fun j v hv => by simpa using hv))) rfl ?_
  exact ⟨false, ys, HE.out.1, HE.out.2.1, by rw [HE.out.2.2.1], HY.out.2⟩

set_option maxHeartbeats 4000000 in
set_option maxRecDepth 100000 in
theorem addr_gen4 (n : Int) (w : World) (h : ∀ w', Calls Tryz.prog 25 #[.int .i64 n, .int .i64 14] w' fun e w'' => e = .returned (.int .i64 4) ∧ w'' = w') : Calls Tryz.prog 24 #[.int .i64 n] w (GenA w) := by
  obtain ⟨Y, hY⟩ : ∃ Y : Array Value, (adr false zeros).toArray = Y := ⟨_, rfl⟩
  obtain ⟨X, hX⟩ : ∃ X : Array Value, (nums .u8 zeros).toArray = X := ⟨_, rfl⟩
  have v30 := zero25
  have v28 := zero23
  rw [hY] at v30
  rw [hX] at v28
  have hYs : Y.size = 17 := by rw [← hY]; rfl
  have hXs : X.size = 16 := by rw [← hX]; rfl
  have hYne : ¬ Y = #[] := by intro e; rw [e] at hYs; cases hYs
  have hXne : ¬ X = #[] := by intro e; rw [e] at hXs; cases hXs
  have HM := Lib.hid h
  obtain ⟨ys, hys⟩ : ∃ ys : List Nat, ys = (v4Of 127 0 0 1) := ⟨_, rfl⟩
  have hyb : Bytes ys := by rw [hys]; exact v4_bytes (by omega) (by omega) (by omega) (by omega)
  have hyv : validA false ys = true := by rw [hys]; rfl
  obtain ⟨E, hE⟩ : ∃ E : Array Value, (adr false ys).toArray = E := ⟨_, rfl⟩
  have hEs : E.size = 17 := by rw [← hE, List.size_toArray, adr_length, hyb.1]
  have HV : Hid (∀ w', Calls Tryz.prog 27 #[.int .u8 127, .int .u8 0, .int .u8 0, .int .u8 1] w' fun e w'' => e = .returned (.agg E) ∧ Fr No w' w'') := fun w' => by
    have h := v4_ref 127 0 0 1 w'
    rw [← hys, hE] at h
    exact h
  have HE := Lib.hid (And.intro hyb (And.intro hyv (And.intro hE hEs)))
  clear h hY hX hys hyb hyv hE 
  go_enter Tryz.func24, Tryz.ntmps24
  have t3 := Tryz.underlying3
  have u3 := Tryz.runUnderlying3
  have g3 := Tryz.isAgg3
  have z3 := Tryz.sizeOf3
  have t4 := Tryz.underlying4
  have u4 := Tryz.runUnderlying4
  have g4 := Tryz.isAgg4
  have z4 := Tryz.sizeOf4
  have t5 := Tryz.underlying5
  have u5 := Tryz.runUnderlying5
  have g5 := Tryz.isAgg5
  have z5 := Tryz.sizeOf5
  have t23 := Tryz.underlying23
  have u23 := Tryz.runUnderlying23
  have g23 := Tryz.isAgg23
  have z23 := Tryz.sizeOf23
  have t25 := Tryz.underlying25
  have u25 := Tryz.runUnderlying25
  have g25 := Tryz.isAgg25
  have z25 := Tryz.sizeOf25
  have t57 := Tryz.underlying57
  have u57 := Tryz.runUnderlying57
  have g57 := Tryz.isAgg57
  have z57 := Tryz.sizeOf57
  have c25 := Tryz.call25
  have c27 := Tryz.call27
  have mixed : Tryz.prog.follows .mixedOrders = true := by kernel_rfl
  obtain ⟨k28, hk28⟩ : ∃ k, k = 16 := ⟨_, rfl⟩
  rw [← hk28] at z23
  have nk28 : ¬ k28 = 0 := by omega
  have HK23 := Lib.hid hk28
  obtain ⟨k30, hk30⟩ : ∃ k, k = 17 := ⟨_, rfl⟩
  rw [← hk30] at z25
  have nk30 : ¬ k30 = 0 := by omega
  have HK25 := Lib.hid hk30
  have hP : Tryz.prog = PD := rfl
  rw [hP] at t3 u3 g3 z3 t4 u4 g4 z4 t5 u5 g5 z5 t23 u23 g23 z23 t25 u25 g25 z25 t57 u57 g57 z57 c25 c27 mixed v28 v30 ⊢
  have HP := Lib.hid hP.symm
  clear hP hk28 hk30
  have hYk : Y.size = k30 := by rw [HK25.out]; exact hYs
  have hXk : X.size = k28 := by rw [HK23.out]; exact hXs
  have hEk : E.size = k30 := by rw [HK25.out]; exact hEs
  clear hYs hXs hEs
  go_wp2_with (first | (go_at_call 25; refine (at_prog HP.out (HM.out _)).mono ?_; rintro e w3 ⟨rfl, hw3⟩; subst hw3) | (go_at_call 27; refine (at_prog HP.out (HV.out _)).mono ?_; rintro e w4 ⟨rfl, hf4⟩; obtain ⟨y, hst, hyb, hyf⟩ := store_all (P := PD) E.toList (hf4.keep (heap_alloc_new w (.cells Y 25))) (by rw [Array.length_toList, hEk, hYk]) (by rw [← HE.out.2.2.1]; exact adr_one _ _); have HY : Hid (y.heap[w.heap.size]? = some (.cells E 25 (0, 0)) ∧ Fr No w y) := ⟨by simpa using hyb, ((Fr.alloc No w (.cells Y 25)).trans hf4).ofNew hyf fun k hk => .inr (by omega)⟩; clear hyb hyf hf4) | fail)
  refine bodyPost_ret_by (results_agg rfl _ (b := w.heap.size) (k := 17) (cs := E) (Tryz.isAgg25 _) (Tryz.sizeOf25 _) rfl (load_block HY.out.1 HE.out.2.2.2 (fun j v hv => by simpa using hv))) rfl ?_
  exact ⟨false, ys, HE.out.1, HE.out.2.1, by rw [HE.out.2.2.1], HY.out.2⟩

set_option maxHeartbeats 4000000 in
set_option maxRecDepth 100000 in
theorem addr_gen5 (n : Int) (w : World) (h : ∀ w', Calls Tryz.prog 25 #[.int .i64 n, .int .i64 14] w' fun e w'' => e = .returned (.int .i64 5) ∧ w'' = w') : Calls Tryz.prog 24 #[.int .i64 n] w (GenA w) := by
  obtain ⟨Y, hY⟩ : ∃ Y : Array Value, (adr false zeros).toArray = Y := ⟨_, rfl⟩
  obtain ⟨X, hX⟩ : ∃ X : Array Value, (nums .u8 zeros).toArray = X := ⟨_, rfl⟩
  have v30 := zero25
  have v28 := zero23
  rw [hY] at v30
  rw [hX] at v28
  have hYs : Y.size = 17 := by rw [← hY]; rfl
  have hXs : X.size = 16 := by rw [← hX]; rfl
  have hYne : ¬ Y = #[] := by intro e; rw [e] at hYs; cases hYs
  have hXne : ¬ X = #[] := by intro e; rw [e] at hXs; cases hXs
  have HM := Lib.hid h
  obtain ⟨z, hz⟩ : ∃ z : Nat, n / 16 % 256 = (z : Int) := ⟨(n / 16 % 256).toNat, by omega⟩
  have hz256 : z < 256 := by omega
  obtain ⟨ys, hys⟩ : ∃ ys : List Nat, ys = (v4Of 8 9 0 (z : Nat)) := ⟨_, rfl⟩
  have hyb : Bytes ys := by rw [hys]; exact v4_bytes (by omega) (by omega) (by omega) (by omega)
  have hyv : validA false ys = true := by rw [hys]; rfl
  obtain ⟨E, hE⟩ : ∃ E : Array Value, (adr false ys).toArray = E := ⟨_, rfl⟩
  have hEs : E.size = 17 := by rw [← hE, List.size_toArray, adr_length, hyb.1]
  have HV : Hid (∀ w', Calls Tryz.prog 27 #[.int .u8 8, .int .u8 9, .int .u8 0, .int .u8 (z : Nat)] w' fun e w'' => e = .returned (.agg E) ∧ Fr No w' w'') := fun w' => by
    have h := v4_ref 8 9 0 (z : Nat) w'
    rw [← hys, hE] at h
    exact h
  have HE := Lib.hid (And.intro hyb (And.intro hyv (And.intro hE hEs)))
  clear h hY hX hys hyb hyv hE 
  go_enter Tryz.func24, Tryz.ntmps24
  have t3 := Tryz.underlying3
  have u3 := Tryz.runUnderlying3
  have g3 := Tryz.isAgg3
  have z3 := Tryz.sizeOf3
  have t4 := Tryz.underlying4
  have u4 := Tryz.runUnderlying4
  have g4 := Tryz.isAgg4
  have z4 := Tryz.sizeOf4
  have t5 := Tryz.underlying5
  have u5 := Tryz.runUnderlying5
  have g5 := Tryz.isAgg5
  have z5 := Tryz.sizeOf5
  have t23 := Tryz.underlying23
  have u23 := Tryz.runUnderlying23
  have g23 := Tryz.isAgg23
  have z23 := Tryz.sizeOf23
  have t25 := Tryz.underlying25
  have u25 := Tryz.runUnderlying25
  have g25 := Tryz.isAgg25
  have z25 := Tryz.sizeOf25
  have t57 := Tryz.underlying57
  have u57 := Tryz.runUnderlying57
  have g57 := Tryz.isAgg57
  have z57 := Tryz.sizeOf57
  have c25 := Tryz.call25
  have c27 := Tryz.call27
  have mixed : Tryz.prog.follows .mixedOrders = true := by kernel_rfl
  obtain ⟨k28, hk28⟩ : ∃ k, k = 16 := ⟨_, rfl⟩
  rw [← hk28] at z23
  have nk28 : ¬ k28 = 0 := by omega
  have HK23 := Lib.hid hk28
  obtain ⟨k30, hk30⟩ : ∃ k, k = 17 := ⟨_, rfl⟩
  rw [← hk30] at z25
  have nk30 : ¬ k30 = 0 := by omega
  have HK25 := Lib.hid hk30
  have hP : Tryz.prog = PD := rfl
  rw [hP] at t3 u3 g3 z3 t4 u4 g4 z4 t5 u5 g5 z5 t23 u23 g23 z23 t25 u25 g25 z25 t57 u57 g57 z57 c25 c27 mixed v28 v30 ⊢
  have HP := Lib.hid hP.symm
  clear hP hk28 hk30
  have hYk : Y.size = k30 := by rw [HK25.out]; exact hYs
  have hXk : X.size = k28 := by rw [HK23.out]; exact hXs
  have hEk : E.size = k30 := by rw [HK25.out]; exact hEs
  clear hYs hXs hEs
  go_wp2_with (first | (go_at_call 25; refine (at_prog HP.out (HM.out _)).mono ?_; rintro e w3 ⟨rfl, hw3⟩; subst hw3) | (go_at_call 27; refine (at_prog HP.out (HV.out _)).mono ?_; rintro e w4 ⟨rfl, hf4⟩; obtain ⟨y, hst, hyb, hyf⟩ := store_all (P := PD) E.toList (hf4.keep (heap_alloc_new w (.cells Y 25))) (by rw [Array.length_toList, hEk, hYk]) (by rw [← HE.out.2.2.1]; exact adr_one _ _); have HY : Hid (y.heap[w.heap.size]? = some (.cells E 25 (0, 0)) ∧ Fr No w y) := ⟨by simpa using hyb, ((Fr.alloc No w (.cells Y 25)).trans hf4).ofNew hyf fun k hk => .inr (by omega)⟩; clear hyb hyf hf4) | fail)
  refine bodyPost_ret_by (results_agg rfl _ (b := w.heap.size) (k := 17) (cs := E) (Tryz.isAgg25 _) (Tryz.sizeOf25 _) rfl (load_block HY.out.1 HE.out.2.2.2 (fun j v hv => by simpa using hv))) rfl ?_
  exact ⟨false, ys, HE.out.1, HE.out.2.1, by rw [HE.out.2.2.1], HY.out.2⟩

set_option maxHeartbeats 4000000 in
set_option maxRecDepth 100000 in
theorem addr_gen6 (n : Int) (w : World) (h : ∀ w', Calls Tryz.prog 25 #[.int .i64 n, .int .i64 14] w' fun e w'' => e = .returned (.int .i64 6) ∧ w'' = w') : Calls Tryz.prog 24 #[.int .i64 n] w (GenA w) := by
  obtain ⟨Y, hY⟩ : ∃ Y : Array Value, (adr false zeros).toArray = Y := ⟨_, rfl⟩
  obtain ⟨X, hX⟩ : ∃ X : Array Value, (nums .u8 zeros).toArray = X := ⟨_, rfl⟩
  have v30 := zero25
  have v28 := zero23
  rw [hY] at v30
  rw [hX] at v28
  have hYs : Y.size = 17 := by rw [← hY]; rfl
  have hXs : X.size = 16 := by rw [← hX]; rfl
  have hYne : ¬ Y = #[] := by intro e; rw [e] at hYs; cases hYs
  have hXne : ¬ X = #[] := by intro e; rw [e] at hXs; cases hXs
  have HM := Lib.hid h
  obtain ⟨z, hz⟩ : ∃ z : Nat, n / 16 % 256 = (z : Int) := ⟨(n / 16 % 256).toNat, by omega⟩
  have hz256 : z < 256 := by omega
  obtain ⟨ys, hys⟩ : ∃ ys : List Nat, ys = [32, 1, 13, 184, 0, 0, 0, 0, 0, 0, 0, 0, 0, 0, 0, z] := ⟨_, rfl⟩
  have hyb : Bytes ys := by rw [hys]; exact ⟨rfl, fun x hx => by simp at hx; omega⟩
  have hyv : validA true ys = true := by rw [hys]; rfl
  obtain ⟨E, hE⟩ : ∃ E : Array Value, (adr true ys).toArray = E := ⟨_, rfl⟩
  have hEs : E.size = 17 := by rw [← hE, List.size_toArray, adr_length, hyb.1]
  obtain ⟨B, hB⟩ : ∃ B : Array Value, (nums .u8 ys).toArray = B := ⟨_, rfl⟩
  have hBs : B.size = 16 := by rw [← hB, List.size_toArray, nums_length, hyb.1]
  have f1 : (((((X.setIfInBounds 0 (.int .u8 32)).setIfInBounds 1 (.int .u8 1)).setIfInBounds 2 (.int .u8 13)).setIfInBounds 3 (.int .u8 184)).setIfInBounds 15 (.int .u8 (z : Nat))) = B := by rw [← hX, ← hB, hys]; rfl
  have f2 : Array.foldl (fun (cs : Array Value) (x : Value × Nat) => cs.setIfInBounds (1 + x.snd) x.fst) (Y.setIfInBounds 0 (.bool true)) B.zipIdx 0 16 = E := by rw [← hY, ← hB, ← hE, hys]; exact put_adr16 _ _ _ _ _ _ _ _ _ _ _ _ _ _ _ _
  have HE := Lib.hid (And.intro hyb (And.intro hyv (And.intro hE hEs)))
  clear h hY hX hys hyb hyv hE hB
  go_enter Tryz.func24, Tryz.ntmps24
  have t3 := Tryz.underlying3
  have u3 := Tryz.runUnderlying3
  have g3 := Tryz.isAgg3
  have z3 := Tryz.sizeOf3
  have t4 := Tryz.underlying4
  have u4 := Tryz.runUnderlying4
  have g4 := Tryz.isAgg4
  have z4 := Tryz.sizeOf4
  have t5 := Tryz.underlying5
  have u5 := Tryz.runUnderlying5
  have g5 := Tryz.isAgg5
  have z5 := Tryz.sizeOf5
  have t23 := Tryz.underlying23
  have u23 := Tryz.runUnderlying23
  have g23 := Tryz.isAgg23
  have z23 := Tryz.sizeOf23
  have t25 := Tryz.underlying25
  have u25 := Tryz.runUnderlying25
  have g25 := Tryz.isAgg25
  have z25 := Tryz.sizeOf25
  have t57 := Tryz.underlying57
  have u57 := Tryz.runUnderlying57
  have g57 := Tryz.isAgg57
  have z57 := Tryz.sizeOf57
  have c25 := Tryz.call25
  have c27 := Tryz.call27
  have mixed : Tryz.prog.follows .mixedOrders = true := by kernel_rfl
  obtain ⟨k28, hk28⟩ : ∃ k, k = 16 := ⟨_, rfl⟩
  rw [← hk28] at z23
  have nk28 : ¬ k28 = 0 := by omega
  have HK23 := Lib.hid hk28
  obtain ⟨k30, hk30⟩ : ∃ k, k = 17 := ⟨_, rfl⟩
  rw [← hk30] at z25
  have nk30 : ¬ k30 = 0 := by omega
  have HK25 := Lib.hid hk30
  have hP : Tryz.prog = PD := rfl
  rw [hP] at t3 u3 g3 z3 t4 u4 g4 z4 t5 u5 g5 z5 t23 u23 g23 z23 t25 u25 g25 z25 t57 u57 g57 z57 c25 c27 mixed v28 v30 ⊢
  have HP := Lib.hid hP.symm
  clear hP hk28 hk30
  have hYk : Y.size = k30 := by rw [HK25.out]; exact hYs
  have hXk : X.size = k28 := by rw [HK23.out]; exact hXs
  have hEk : E.size = k30 := by rw [HK25.out]; exact hEs
  have hBk : B.size = k28 := by rw [HK23.out]; exact hBs
  rw [← HK23.out] at f2
  have j2 : 1 + k28 ≤ k30 := by have := HK23.out; have := HK25.out; omega
  have i0 : 0 < k28 := by have := HK23.out; omega
  have i1 : 1 < k28 := by have := HK23.out; omega
  have i2 : 2 < k28 := by have := HK23.out; omega
  have i3 : 3 < k28 := by have := HK23.out; omega
  have i15 : 15 < k28 := by have := HK23.out; omega
  clear hBs
  clear hYs hXs hEs
  obtain ⟨y, hst, hyb, hyf⟩ := store_all (P := PD) E.toList (heap_alloc_new w (.cells Y 25)) (by rw [Array.length_toList, hEk, hYk]) (by rw [← HE.out.2.2.1]; exact adr_one _ _)
  have HY : Hid (y.heap[w.heap.size]? = some (.cells E 25 (0, 0)) ∧ Fr No w y) := ⟨by simpa using hyb, (Fr.alloc No w (.cells Y 25)).ofNew hyf fun k hk => .inr (by omega)⟩
  clear hyb hyf
  go_wp2_with (first | (go_at_call 25; refine (at_prog HP.out (HM.out _)).mono ?_; rintro e w3 ⟨rfl, hw3⟩; subst hw3) | fail)
  refine bodyPost_ret_by (results_agg rfl _ (b := w.heap.size) (k := 17) (cs := E) (Tryz.isAgg25 _) (Tryz.sizeOf25 _) rfl (load_block HY.out.1 HE.out.2.2.2 (fun j v hv => by simpa using hv))) rfl ?_
  exact ⟨true, ys, HE.out.1, HE.out.2.1, by rw [HE.out.2.2.1], HY.out.2⟩

set_option maxHeartbeats 4000000 in
set_option maxRecDepth 100000 in
theorem addr_gen7 (n : Int) (w : World) (h : ∀ w', Calls Tryz.prog 25 #[.int .i64 n, .int .i64 14] w' fun e w'' => e = .returned (.int .i64 7) ∧ w'' = w') : Calls Tryz.prog 24 #[.int .i64 n] w (GenA w) := by
  obtain ⟨Y, hY⟩ : ∃ Y : Array Value, (adr false zeros).toArray = Y := ⟨_, rfl⟩
  obtain ⟨X, hX⟩ : ∃ X : Array Value, (nums .u8 zeros).toArray = X := ⟨_, rfl⟩
  have v30 := zero25
  have v28 := zero23
  rw [hY] at v30
  rw [hX] at v28
  have hYs : Y.size = 17 := by rw [← hY]; rfl
  have hXs : X.size = 16 := by rw [← hX]; rfl
  have hYne : ¬ Y = #[] := by intro e; rw [e] at hYs; cases hYs
  have hXne : ¬ X = #[] := by intro e; rw [e] at hXs; cases hXs
  have HM := Lib.hid h
  obtain ⟨ys, hys⟩ : ∃ ys : List Nat, ys = [42, 0, 0, 0, 0, 0, 0, 0, 0, 0, 0, 0, 0, 0, 0, 5] := ⟨_, rfl⟩
  have hyb : Bytes ys := by rw [hys]; exact ⟨rfl, fun x hx => by simp at hx; omega⟩
  have hyv : validA true ys = true := by rw [hys]; rfl
  obtain ⟨E, hE⟩ : ∃ E : Array Value, (adr true ys).toArray = E := ⟨_, rfl⟩
  have hEs : E.size = 17 := by rw [← hE, List.size_toArray, adr_length, hyb.1]
  obtain ⟨B, hB⟩ : ∃ B : Array Value, (nums .u8 ys).toArray = B := ⟨_, rfl⟩
  have hBs : B.size = 16 := by rw [← hB, List.size_toArray, nums_length, hyb.1]
  have f1 : (((X.setIfInBounds 0 (.int .u8 42)).setIfInBounds 1 (.int .u8 0)).setIfInBounds 15 (.int .u8 5)) = B := by rw [← hX, ← hB, hys]; rfl
  have f2 : Array.foldl (fun (cs : Array Value) (x : Value × Nat) => cs.setIfInBounds (1 + x.snd) x.fst) (Y.setIfInBounds 0 (.bool true)) B.zipIdx 0 16 = E := by rw [← hY, ← hB, ← hE, hys]; exact put_adr16 _ _ _ _ _ _ _ _ _ _ _ _ _ _ _ _
  have HE := Lib.hid (And.intro hyb (And.intro hyv (And.intro hE hEs)))
  clear h hY hX hys hyb hyv hE hB
  go_enter Tryz.func24, Tryz.ntmps24
  have t3 := Tryz.underlying3
  have u3 := Tryz.runUnderlying3
  have g3 := Tryz.isAgg3
  have z3 := Tryz.sizeOf3
  have t4 := Tryz.underlying4
  have u4 := Tryz.runUnderlying4
  have g4 := Tryz.isAgg4
  have z4 := Tryz.sizeOf4
  have t5 := Tryz.underlying5
  have u5 := Tryz.runUnderlying5
  have g5 := Tryz.isAgg5
  have z5 := Tryz.sizeOf5
  have t23 := Tryz.underlying23
  have u23 := Tryz.runUnderlying23
  have g23 := Tryz.isAgg23
  have z23 := Tryz.sizeOf23
  have t25 := Tryz.underlying25
  have u25 := Tryz.runUnderlying25
  have g25 := Tryz.isAgg25
  have z25 := Tryz.sizeOf25
  have t57 := Tryz.underlying57
  have u57 := Tryz.runUnderlying57
  have g57 := Tryz.isAgg57
  have z57 := Tryz.sizeOf57
  have c25 := Tryz.call25
  have c27 := Tryz.call27
  have mixed : Tryz.prog.follows .mixedOrders = true := by kernel_rfl
  obtain ⟨k28, hk28⟩ : ∃ k, k = 16 := ⟨_, rfl⟩
  rw [← hk28] at z23
  have nk28 : ¬ k28 = 0 := by omega
  have HK23 := Lib.hid hk28
  obtain ⟨k30, hk30⟩ : ∃ k, k = 17 := ⟨_, rfl⟩
  rw [← hk30] at z25
  have nk30 : ¬ k30 = 0 := by omega
  have HK25 := Lib.hid hk30
  have hP : Tryz.prog = PD := rfl
  rw [hP] at t3 u3 g3 z3 t4 u4 g4 z4 t5 u5 g5 z5 t23 u23 g23 z23 t25 u25 g25 z25 t57 u57 g57 z57 c25 c27 mixed v28 v30 ⊢
  have HP := Lib.hid hP.symm
  clear hP hk28 hk30
  have hYk : Y.size = k30 := by rw [HK25.out]; exact hYs
  have hXk : X.size = k28 := by rw [HK23.out]; exact hXs
  have hEk : E.size = k30 := by rw [HK25.out]; exact hEs
  have hBk : B.size = k28 := by rw [HK23.out]; exact hBs
  rw [← HK23.out] at f2
  have j2 : 1 + k28 ≤ k30 := by have := HK23.out; have := HK25.out; omega
  have i0 : 0 < k28 := by have := HK23.out; omega
  have i1 : 1 < k28 := by have := HK23.out; omega
  have i15 : 15 < k28 := by have := HK23.out; omega
  clear hBs
  clear hYs hXs hEs
  obtain ⟨y, hst, hyb, hyf⟩ := store_all (P := PD) E.toList (heap_alloc_new w (.cells Y 25)) (by rw [Array.length_toList, hEk, hYk]) (by rw [← HE.out.2.2.1]; exact adr_one _ _)
  have HY : Hid (y.heap[w.heap.size]? = some (.cells E 25 (0, 0)) ∧ Fr No w y) := ⟨by simpa using hyb, (Fr.alloc No w (.cells Y 25)).ofNew hyf fun k hk => .inr (by omega)⟩
  clear hyb hyf
  go_wp2_with (first | (go_at_call 25; refine (at_prog HP.out (HM.out _)).mono ?_; rintro e w3 ⟨rfl, hw3⟩; subst hw3) | fail)
  refine bodyPost_ret_by (results_agg rfl _ (b := w.heap.size) (k := 17) (cs := E) (Tryz.isAgg25 _) (Tryz.sizeOf25 _) rfl (load_block HY.out.1 HE.out.2.2.2 (fun j v hv => by simpa using hv))) rfl ?_
  exact ⟨true, ys, HE.out.1, HE.out.2.1, by rw [HE.out.2.2.1], HY.out.2⟩

set_option maxHeartbeats 4000000 in
set_option maxRecDepth 100000 in
theorem addr_gen8 (n : Int) (w : World) (h : ∀ w', Calls Tryz.prog 25 #[.int .i64 n, .int .i64 14] w' fun e w'' => e = .returned (.int .i64 8) ∧ w'' = w') : Calls Tryz.prog 24 #[.int .i64 n] w (GenA w) := by
  obtain ⟨Y, hY⟩ : ∃ Y : Array Value, (adr false zeros).toArray = Y := ⟨_, rfl⟩
  obtain ⟨X, hX⟩ : ∃ X : Array Value, (nums .u8 zeros).toArray = X := ⟨_, rfl⟩
  have v30 := zero25
  have v28 := zero23
  rw [hY] at v30
  rw [hX] at v28
  have hYs : Y.size = 17 := by rw [← hY]; rfl
  have hXs : X.size = 16 := by rw [← hX]; rfl
  have hYne : ¬ Y = #[] := by intro e; rw [e] at hYs; cases hYs
  have hXne : ¬ X = #[] := by intro e; rw [e] at hXs; cases hXs
  have HM := Lib.hid h
  obtain ⟨ys, hys⟩ : ∃ ys : List Nat, ys = [254, 128, 0, 0, 0, 0, 0, 0, 0, 0, 0, 0, 0, 0, 0, 1] := ⟨_, rfl⟩
  have hyb : Bytes ys := by rw [hys]; exact ⟨rfl, fun x hx => by simp at hx; omega⟩
  have hyv : validA true ys = true := by rw [hys]; rfl
  obtain ⟨E, hE⟩ : ∃ E : Array Value, (adr true ys).toArray = E := ⟨_, rfl⟩
  have hEs : E.size = 17 := by rw [← hE, List.size_toArray, adr_length, hyb.1]
  obtain ⟨B, hB⟩ : ∃ B : Array Value, (nums .u8 ys).toArray = B := ⟨_, rfl⟩
  have hBs : B.size = 16 := by rw [← hB, List.size_toArray, nums_length, hyb.1]
  have f1 : (((X.setIfInBounds 0 (.int .u8 254)).setIfInBounds 1 (.int .u8 128)).setIfInBounds 15 (.int .u8 1)) = B := by rw [← hX, ← hB, hys]; rfl
  have f2 : Array.foldl (fun (cs : Array Value) (x : Value × Nat) => cs.setIfInBounds (1 + x.snd) x.fst) (Y.setIfInBounds 0 (.bool true)) B.zipIdx 0 16 = E := by rw [← hY, ← hB, ← hE, hys]; exact put_adr16 _ _ _ _ _ _ _ _ _ _ _ _ _ _ _ _
  have HE := Lib.hid (And.intro hyb (And.intro hyv (And.intro hE hEs)))
  clear h hY hX hys hyb hyv hE hB
  go_enter Tryz.func24, Tryz.ntmps24
  have t3 := Tryz.underlying3
  have u3 := Tryz.runUnderlying3
  have g3 := Tryz.isAgg3
  have z3 := Tryz.sizeOf3
  have t4 := Tryz.underlying4
  have u4 := Tryz.runUnderlying4
  have g4 := Tryz.isAgg4
  have z4 := Tryz.sizeOf4
  have t5 := Tryz.underlying5
  have u5 := Tryz.runUnderlying5
  have g5 := Tryz.isAgg5
  have z5 := Tryz.sizeOf5
  have t23 := Tryz.underlying23
  have u23 := Tryz.runUnderlying23
  have g23 := Tryz.isAgg23
  have z23 := Tryz.sizeOf23
  have t25 := Tryz.underlying25
  have u25 := Tryz.runUnderlying25
  have g25 := Tryz.isAgg25
  have z25 := Tryz.sizeOf25
  have t57 := Tryz.underlying57
  have u57 := Tryz.runUnderlying57
  have g57 := Tryz.isAgg57
  have z57 := Tryz.sizeOf57
  have c25 := Tryz.call25
  have c27 := Tryz.call27
  have mixed : Tryz.prog.follows .mixedOrders = true := by kernel_rfl
  obtain ⟨k28, hk28⟩ : ∃ k, k = 16 := ⟨_, rfl⟩
  rw [← hk28] at z23
  have nk28 : ¬ k28 = 0 := by omega
  have HK23 := Lib.hid hk28
  obtain ⟨k30, hk30⟩ : ∃ k, k = 17 := ⟨_, rfl⟩
  rw [← hk30] at z25
  have nk30 : ¬ k30 = 0 := by omega
  have HK25 := Lib.hid hk30
  have hP : Tryz.prog = PD := rfl
  rw [hP] at t3 u3 g3 z3 t4 u4 g4 z4 t5 u5 g5 z5 t23 u23 g23 z23 t25 u25 g25 z25 t57 u57 g57 z57 c25 c27 mixed v28 v30 ⊢
  have HP := Lib.hid hP.symm
  clear hP hk28 hk30
  have hYk : Y.size = k30 := by rw [HK25.out]; exact hYs
  have hXk : X.size = k28 := by rw [HK23.out]; exact hXs
  have hEk : E.size = k30 := by rw [HK25.out]; exact hEs
  have hBk : B.size = k28 := by rw [HK23.out]; exact hBs
  rw [← HK23.out] at f2
  have j2 : 1 + k28 ≤ k30 := by have := HK23.out; have := HK25.out; omega
  have i0 : 0 < k28 := by have := HK23.out; omega
  have i1 : 1 < k28 := by have := HK23.out; omega
  have i15 : 15 < k28 := by have := HK23.out; omega
  clear hBs
  clear hYs hXs hEs
  obtain ⟨y, hst, hyb, hyf⟩ := store_all (P := PD) E.toList (heap_alloc_new w (.cells Y 25)) (by rw [Array.length_toList, hEk, hYk]) (by rw [← HE.out.2.2.1]; exact adr_one _ _)
  have HY : Hid (y.heap[w.heap.size]? = some (.cells E 25 (0, 0)) ∧ Fr No w y) := ⟨by simpa using hyb, (Fr.alloc No w (.cells Y 25)).ofNew hyf fun k hk => .inr (by omega)⟩
  clear hyb hyf
  go_wp2_with (first | (go_at_call 25; refine (at_prog HP.out (HM.out _)).mono ?_; rintro e w3 ⟨rfl, hw3⟩; subst hw3) | fail)
  refine bodyPost_ret_by (results_agg rfl _ (b := w.heap.size) (k := 17) (cs := E) (Tryz.isAgg25 _) (Tryz.sizeOf25 _) rfl (load_block HY.out.1 HE.out.2.2.2 (fun j v hv => by simpa using hv))) rfl ?_
  exact ⟨true, ys, HE.out.1, HE.out.2.1, by rw [HE.out.2.2.1], HY.out.2⟩

set_option maxHeartbeats 4000000 in
set_option maxRecDepth 100000 in
theorem addr_gen9 (n : Int) (w : World) (h : ∀ w', Calls Tryz.prog 25 #[.int .i64 n, .int .i64 14] w' fun e w'' => e = .returned (.int .i64 9) ∧ w'' = w') : Calls Tryz.prog 24 #[.int .i64 n] w (GenA w) := by
  obtain ⟨Y, hY⟩ : ∃ Y : Array Value, (adr false zeros).toArray = Y := ⟨_, rfl⟩
  obtain ⟨X, hX⟩ : ∃ X : Array Value, (nums .u8 zeros).toArray = X := ⟨_, rfl⟩
  have v30 := zero25
  have v28 := zero23
  rw [hY] at v30
  rw [hX] at v28
  have hYs : Y.size = 17 := by rw [← hY]; rfl
  have hXs : X.size = 16 := by rw [← hX]; rfl
  have hYne : ¬ Y = #[] := by intro e; rw [e] at hYs; cases hYs
  have hXne : ¬ X = #[] := by intro e; rw [e] at hXs; cases hXs
  have HM := Lib.hid h
  obtain ⟨ys, hys⟩ : ∃ ys : List Nat, ys = [0, 0, 0, 0, 0, 0, 0, 0, 0, 0, 255, 255, 8, 8, 8, 8] := ⟨_, rfl⟩
  have hyb : Bytes ys := by rw [hys]; exact ⟨rfl, fun x hx => by simp at hx; omega⟩
  have hyv : validA true ys = true := by rw [hys]; rfl
  obtain ⟨E, hE⟩ : ∃ E : Array Value, (adr true ys).toArray = E := ⟨_, rfl⟩
  have hEs : E.size = 17 := by rw [← hE, List.size_toArray, adr_length, hyb.1]
  obtain ⟨B, hB⟩ : ∃ B : Array Value, (nums .u8 ys).toArray = B := ⟨_, rfl⟩
  have hBs : B.size = 16 := by rw [← hB, List.size_toArray, nums_length, hyb.1]
  have f1 : ((((((X.setIfInBounds 10 (.int .u8 255)).setIfInBounds 11 (.int .u8 255)).setIfInBounds 12 (.int .u8 8)).setIfInBounds 13 (.int .u8 8)).setIfInBounds 14 (.int .u8 8)).setIfInBounds 15 (.int .u8 8)) = B := by rw [← hX, ← hB, hys]; rfl
  have f2 : Array.foldl (fun (cs : Array Value) (x : Value × Nat) => cs.setIfInBounds (1 + x.snd) x.fst) (Y.setIfInBounds 0 (.bool true)) B.zipIdx 0 16 = E := by rw [← hY, ← hB, ← hE, hys]; exact put_adr16 _ _ _ _ _ _ _ _ _ _ _ _ _ _ _ _
  have HE := Lib.hid (And.intro hyb (And.intro hyv (And.intro hE hEs)))
  clear h hY hX hys hyb hyv hE hB
  go_enter Tryz.func24, Tryz.ntmps24
  have t3 := Tryz.underlying3
  have u3 := Tryz.runUnderlying3
  have g3 := Tryz.isAgg3
  have z3 := Tryz.sizeOf3
  have t4 := Tryz.underlying4
  have u4 := Tryz.runUnderlying4
  have g4 := Tryz.isAgg4
  have z4 := Tryz.sizeOf4
  have t5 := Tryz.underlying5
  have u5 := Tryz.runUnderlying5
  have g5 := Tryz.isAgg5
  have z5 := Tryz.sizeOf5
  have t23 := Tryz.underlying23
  have u23 := Tryz.runUnderlying23
  have g23 := Tryz.isAgg23
  have z23 := Tryz.sizeOf23
  have t25 := Tryz.underlying25
  have u25 := Tryz.runUnderlying25
  have g25 := Tryz.isAgg25
  have z25 := Tryz.sizeOf25
  have t57 := Tryz.underlying57
  have u57 := Tryz.runUnderlying57
  have g57 := Tryz.isAgg57
  have z57 := Tryz.sizeOf57
  have c25 := Tryz.call25
  have c27 := Tryz.call27
  have mixed : Tryz.prog.follows .mixedOrders = true := by kernel_rfl
  obtain ⟨k28, hk28⟩ : ∃ k, k = 16 := ⟨_, rfl⟩
  rw [← hk28] at z23
  have nk28 : ¬ k28 = 0 := by omega
  have HK23 := Lib.hid hk28
  obtain ⟨k30, hk30⟩ : ∃ k, k = 17 := ⟨_, rfl⟩
  rw [← hk30] at z25
  have nk30 : ¬ k30 = 0 := by omega
  have HK25 := Lib.hid hk30
  have hP : Tryz.prog = PD := rfl
  rw [hP] at t3 u3 g3 z3 t4 u4 g4 z4 t5 u5 g5 z5 t23 u23 g23 z23 t25 u25 g25 z25 t57 u57 g57 z57 c25 c27 mixed v28 v30 ⊢
  have HP := Lib.hid hP.symm
  clear hP hk28 hk30
  have hYk : Y.size = k30 := by rw [HK25.out]; exact hYs
  have hXk : X.size = k28 := by rw [HK23.out]; exact hXs
  have hEk : E.size = k30 := by rw [HK25.out]; exact hEs
  have hBk : B.size = k28 := by rw [HK23.out]; exact hBs
  rw [← HK23.out] at f2
  have j2 : 1 + k28 ≤ k30 := by have := HK23.out; have := HK25.out; omega
  have i10 : 10 < k28 := by have := HK23.out; omega
  have i11 : 11 < k28 := by have := HK23.out; omega
  have i12 : 12 < k28 := by have := HK23.out; omega
  have i13 : 13 < k28 := by have := HK23.out; omega
  have i14 : 14 < k28 := by have := HK23.out; omega
  have i15 : 15 < k28 := by have := HK23.out; omega
  clear hBs
  clear hYs hXs hEs
  obtain ⟨y, hst, hyb, hyf⟩ := store_all (P := PD) E.toList (heap_alloc_new w (.cells Y 25)) (by rw [Array.length_toList, hEk, hYk]) (by rw [← HE.out.2.2.1]; exact adr_one _ _)
  have HY : Hid (y.heap[w.heap.size]? = some (.cells E 25 (0, 0)) ∧ Fr No w y) := ⟨by simpa using hyb, (Fr.alloc No w (.cells Y 25)).ofNew hyf fun k hk => .inr (by omega)⟩
  clear hyb hyf
  go_wp2_with (first | (go_at_call 25; refine (at_prog HP.out (HM.out _)).mono ?_; rintro e w3 ⟨rfl, hw3⟩; subst hw3) | fail)
  refine bodyPost_ret_by (results_agg rfl _ (b := w.heap.size) (k := 17) (cs := E) (Tryz.isAgg25 _) (Tryz.sizeOf25 _) rfl (load_block HY.out.1 HE.out.2.2.2 (fun j v hv => by simpa using hv))) rfl ?_
  exact ⟨true, ys, HE.out.1, HE.out.2.1, by rw [HE.out.2.2.1], HY.out.2⟩

set_option maxHeartbeats 4000000 in
set_option maxRecDepth 100000 in
theorem addr_gen10 (n : Int) (w : World) (h : ∀ w', Calls Tryz.prog 25 #[.int .i64 n, .int .i64 14] w' fun e w'' => e = .returned (.int .i64 10) ∧ w'' = w') : Calls Tryz.prog 24 #[.int .i64 n] w (GenA w) := by
  obtain ⟨Y, hY⟩ : ∃ Y : Array Value, (adr false zeros).toArray = Y := ⟨_, rfl⟩
  obtain ⟨X, hX⟩ : ∃ X : Array Value, (nums .u8 zeros).toArray = X := ⟨_, rfl⟩
  have v30 := zero25
  have v28 := zero23
  rw [hY] at v30
  rw [hX] at v28
  have hYs : Y.size = 17 := by rw [← hY]; rfl
  have hXs : X.size = 16 := by rw [← hX]; rfl
  have hYne : ¬ Y = #[] := by intro e; rw [e] at hYs; cases hYs
  have hXne : ¬ X = #[] := by intro e; rw [e] at hXs; cases hXs
  have HM := Lib.hid h
  obtain ⟨ys, hys⟩ : ∃ ys : List Nat, ys = [32, 2, 0, 0, 0, 0, 0, 0, 0, 0, 0, 0, 0, 0, 0, 1] := ⟨_, rfl⟩
  have hyb : Bytes ys := by rw [hys]; exact ⟨rfl, fun x hx => by simp at hx; omega⟩
  have hyv : validA true ys = true := by rw [hys]; rfl
  obtain ⟨E, hE⟩ : ∃ E : Array Value, (adr true ys).toArray = E := ⟨_, rfl⟩
  have hEs : E.size = 17 := by rw [← hE, List.size_toArray, adr_length, hyb.1]
  obtain ⟨B, hB⟩ : ∃ B : Array Value, (nums .u8 ys).toArray = B := ⟨_, rfl⟩
  have hBs : B.size = 16 := by rw [← hB, List.size_toArray, nums_length, hyb.1]
  have f1 : (((X.setIfInBounds 0 (.int .u8 32)).setIfInBounds 1 (.int .u8 2)).setIfInBounds 15 (.int .u8 1)) = B := by rw [← hX, ← hB, hys]; rfl
  have f2 : Array.foldl (fun (cs : Array Value) (x : Value × Nat) => cs.setIfInBounds (1 + x.snd) x.fst) (Y.setIfInBounds 0 (.bool true)) B.zipIdx 0 16 = E := by rw [← hY, ← hB, ← hE, hys]; exact put_adr16 _ _ _ _ _ _ _ _ _ _ _ _ _ _ _ _
  have HE := Lib.hid (And.intro hyb (And.intro hyv (And.intro hE hEs)))
  clear h hY hX hys hyb hyv hE hB
  go_enter Tryz.func24, Tryz.ntmps24
  have t3 := Tryz.underlying3
  have u3 := Tryz.runUnderlying3
  have g3 := Tryz.isAgg3
  have z3 := Tryz.sizeOf3
  have t4 := Tryz.underlying4
  have u4 := Tryz.runUnderlying4
  have g4 := Tryz.isAgg4
  have z4 := Tryz.sizeOf4
  have t5 := Tryz.underlying5
  have u5 := Tryz.runUnderlying5
  have g5 := Tryz.isAgg5
  have z5 := Tryz.sizeOf5
  have t23 := Tryz.underlying23
  have u23 := Tryz.runUnderlying23
  have g23 := Tryz.isAgg23
  have z23 := Tryz.sizeOf23
  have t25 := Tryz.underlying25
  have u25 := Tryz.runUnderlying25
  have g25 := Tryz.isAgg25
  have z25 := Tryz.sizeOf25
  have t57 := Tryz.underlying57
  have u57 := Tryz.runUnderlying57
  have g57 := Tryz.isAgg57
  have z57 := Tryz.sizeOf57
  have c25 := Tryz.call25
  have c27 := Tryz.call27
  have mixed : Tryz.prog.follows .mixedOrders = true := by kernel_rfl
  obtain ⟨k28, hk28⟩ : ∃ k, k = 16 := ⟨_, rfl⟩
  rw [← hk28] at z23
  have nk28 : ¬ k28 = 0 := by omega
  have HK23 := Lib.hid hk28
  obtain ⟨k30, hk30⟩ : ∃ k, k = 17 := ⟨_, rfl⟩
  rw [← hk30] at z25
  have nk30 : ¬ k30 = 0 := by omega
  have HK25 := Lib.hid hk30
  have hP : Tryz.prog = PD := rfl
  rw [hP] at t3 u3 g3 z3 t4 u4 g4 z4 t5 u5 g5 z5 t23 u23 g23 z23 t25 u25 g25 z25 t57 u57 g57 z57 c25 c27 mixed v28 v30 ⊢
  have HP := Lib.hid hP.symm
  clear hP hk28 hk30
  have hYk : Y.size = k30 := by rw [HK25.out]; exact hYs
  have hXk : X.size = k28 := by rw [HK23.out]; exact hXs
  have hEk : E.size = k30 := by rw [HK25.out]; exact hEs
  have hBk : B.size = k28 := by rw [HK23.out]; exact hBs
  rw [← HK23.out] at f2
  have j2 : 1 + k28 ≤ k30 := by have := HK23.out; have := HK25.out; omega
  have i0 : 0 < k28 := by have := HK23.out; omega
  have i1 : 1 < k28 := by have := HK23.out; omega
  have i15 : 15 < k28 := by have := HK23.out; omega
  clear hBs
  clear hYs hXs hEs
  obtain ⟨y, hst, hyb, hyf⟩ := store_all (P := PD) E.toList (heap_alloc_new w (.cells Y 25)) (by rw [Array.length_toList, hEk, hYk]) (by rw [← HE.out.2.2.1]; exact adr_one _ _)
  have HY : Hid (y.heap[w.heap.size]? = some (.cells E 25 (0, 0)) ∧ Fr No w y) := ⟨by simpa using hyb, (Fr.alloc No w (.cells Y 25)).ofNew hyf fun k hk => .inr (by omega)⟩
  clear hyb hyf
  go_wp2_with (first | (go_at_call 25; refine (at_prog HP.out (HM.out _)).mono ?_; rintro e w3 ⟨rfl, hw3⟩; subst hw3) | fail)
  refine bodyPost_ret_by (results_agg rfl _ (b := w.heap.size) (k := 17) (cs := E) (Tryz.isAgg25 _) (Tryz.sizeOf25 _) rfl (load_block HY.out.1 HE.out.2.2.2 (fun j v hv => by simpa using hv))) rfl ?_
  exact ⟨true, ys, HE.out.1, HE.out.2.1, by rw [HE.out.2.2.1], HY.out.2⟩

set_option maxHeartbeats 4000000 in
set_option maxRecDepth 100000 in
theorem addr_gen11 (n : Int) (w : World) (h : ∀ w', Calls Tryz.prog 25 #[.int .i64 n, .int .i64 14] w' fun e w'' => e = .returned (.int .i64 11) ∧ w'' = w') : Calls Tryz.prog 24 #[.int .i64 n] w (GenA w) := by
  obtain ⟨Y, hY⟩ : ∃ Y : Array Value, (adr false zeros).toArray = Y := ⟨_, rfl⟩
  obtain ⟨X, hX⟩ : ∃ X : Array Value, (nums .u8 zeros).toArray = X := ⟨_, rfl⟩
  have v30 := zero25
  have v28 := zero23
  rw [hY] at v30
  rw [hX] at v28
  have hYs : Y.size = 17 := by rw [← hY]; rfl
  have hXs : X.size = 16 := by rw [← hX]; rfl
  have hYne : ¬ Y = #[] := by intro e; rw [e] at hYs; cases hYs
  have hXne : ¬ X = #[] := by intro e; rw [e] at hXs; cases hXs
  have HM := Lib.hid h
  obtain ⟨ys, hys⟩ : ∃ ys : List Nat, ys = [0, 0, 0, 0, 0, 0, 0, 0, 0, 0, 0, 0, 0, 0, 0, 1] := ⟨_, rfl⟩
  have hyb : Bytes ys := by rw [hys]; exact ⟨rfl, fun x hx => by simp at hx; omega⟩
  have hyv : validA true ys = true := by rw [hys]; rfl
  obtain ⟨E, hE⟩ : ∃ E : Array Value, (adr true ys).toArray = E := ⟨_, rfl⟩
  have hEs : E.size = 17 := by rw [← hE, List.size_toArray, adr_length, hyb.1]
  obtain ⟨B, hB⟩ : ∃ B : Array Value, (nums .u8 ys).toArray = B := ⟨_, rfl⟩
  have hBs : B.size = 16 := by rw [← hB, List.size_toArray, nums_length, hyb.1]
  have f1 : (X.setIfInBounds 15 (.int .u8 1)) = B := by rw [← hX, ← hB, hys]; rfl
  have f2 : Array.foldl (fun (cs : Array Value) (x : Value × Nat) => cs.setIfInBounds (1 + x.snd) x.fst) (Y.setIfInBounds 0 (.bool true)) B.zipIdx 0 16 = E := by rw [← hY, ← hB, ← hE, hys]; exact put_adr16 _ _ _ _ _ _ _ _ _ _ _ _ _ _ _ _
  have HE := Lib.hid (And.intro hyb (And.intro hyv (And.intro hE hEs)))
  clear h hY hX hys hyb hyv hE hB
  go_enter Tryz.func24, Tryz.ntmps24
  have t3 := Tryz.underlying3
  have u3 := Tryz.runUnderlying3
  have g3 := Tryz.isAgg3
  have z3 := Tryz.sizeOf3
  have t4 := Tryz.underlying4
  have u4 := Tryz.runUnderlying4
  have g4 := Tryz.isAgg4
  have z4 := Tryz.sizeOf4
  have t5 := Tryz.underlying5
  have u5 := Tryz.runUnderlying5
  have g5 := Tryz.isAgg5
  have z5 := Tryz.sizeOf5
  have t23 := Tryz.underlying23
  have u23 := Tryz.runUnderlying23
  have g23 := Tryz.isAgg23
  have z23 := Tryz.sizeOf23
  have t25 := Tryz.underlying25
  have u25 := Tryz.runUnderlying25
  have g25 := Tryz.isAgg25
  have z25 := Tryz.sizeOf25
  have t57 := Tryz.underlying57
  have u57 := Tryz.runUnderlying57
  have g57 := Tryz.isAgg57
  have z57 := Tryz.sizeOf57
  have c25 := Tryz.call25
  have c27 := Tryz.call27
  have mixed : Tryz.prog.follows .mixedOrders = true := by kernel_rfl
  obtain ⟨k28, hk28⟩ : ∃ k, k = 16 := ⟨_, rfl⟩
  rw [← hk28] at z23
  have nk28 : ¬ k28 = 0 := by omega
  have HK23 := Lib.hid hk28
  obtain ⟨k30, hk30⟩ : ∃ k, k = 17 := ⟨_, rfl⟩
  rw [← hk30] at z25
  have nk30 : ¬ k30 = 0 := by omega
  have HK25 := Lib.hid hk30
  have hP : Tryz.prog = PD := rfl
  rw [hP] at t3 u3 g3 z3 t4 u4 g4 z4 t5 u5 g5 z5 t23 u23 g23 z23 t25 u25 g25 z25 t57 u57 g57 z57 c25 c27 mixed v28 v30 ⊢
  have HP := Lib.hid hP.symm
  clear hP hk28 hk30
  have hYk : Y.size = k30 := by rw [HK25.out]; exact hYs
  have hXk : X.size = k28 := by rw [HK23.out]; exact hXs
  have hEk : E.size = k30 := by rw [HK25.out]; exact hEs
  have hBk : B.size = k28 := by rw [HK23.out]; exact hBs
  rw [← HK23.out] at f2
  have j2 : 1 + k28 ≤ k30 := by have := HK23.out; have := HK25.out; omega
  have i15 : 15 < k28 := by have := HK23.out; omega
  clear hBs
  clear hYs hXs hEs
  obtain ⟨y, hst, hyb, hyf⟩ := store_all (P := PD) E.toList (heap_alloc_new w (.cells Y 25)) (by rw [Array.length_toList, hEk, hYk]) (by rw [← HE.out.2.2.1]; exact adr_one _ _)
  have HY : Hid (y.heap[w.heap.size]? = some (.cells E 25 (0, 0)) ∧ Fr No w y) := ⟨by simpa using hyb, (Fr.alloc No w (.cells Y 25)).ofNew hyf fun k hk => .inr (by omega)⟩
  clear hyb hyf
  go_wp2_with (first | (go_at_call 25; refine (at_prog HP.out (HM.out _)).mono ?_; rintro e w3 ⟨rfl, hw3⟩; subst hw3) | fail)
  refine bodyPost_ret_by (results_agg rfl _ (b := w.heap.size) (k := 17) (cs := E) (Tryz.isAgg25 _) (Tryz.sizeOf25 _) rfl (load_block HY.out.1 HE.out.2.2.2 (fun j v hv => by simpa using hv))) rfl ?_
  exact ⟨true, ys, HE.out.1, HE.out.2.1, by rw [HE.out.2.2.1], HY.out.2⟩

set_option maxHeartbeats 4000000 in
set_option maxRecDepth 100000 in
theorem addr_gen12 (n : Int) (w : World) (h : ∀ w', Calls Tryz.prog 25 #[.int .i64 n, .int .i64 14] w' fun e w'' => e = .returned (.int .i64 12) ∧ w'' = w') : Calls Tryz.prog 24 #[.int .i64 n] w (GenA w) := by
  obtain ⟨Y, hY⟩ : ∃ Y : Array Value, (adr false zeros).toArray = Y := ⟨_, rfl⟩
  obtain ⟨X, hX⟩ : ∃ X : Array Value, (nums .u8 zeros).toArray = X := ⟨_, rfl⟩
  have v30 := zero25
  have v28 := zero23
  rw [hY] at v30
  rw [hX] at v28
  have hYs : Y.size = 17 := by rw [← hY]; rfl
  have hXs : X.size = 16 := by rw [← hX]; rfl
  have hYne : ¬ Y = #[] := by intro e; rw [e] at hYs; cases hYs
  have hXne : ¬ X = #[] := by intro e; rw [e] at hXs; cases hXs
  have HM := Lib.hid h
  obtain ⟨z, hz⟩ : ∃ z : Nat, n / 16 % 256 = (z : Int) := ⟨(n / 16 % 256).toNat, by omega⟩
  have hz256 : z < 256 := by omega
  obtain ⟨ys, hys⟩ : ∃ ys : List Nat, ys = [32, 1, 0, 0, 0, 0, 0, 0, 0, 0, 0, 0, 0, 0, 0, z] := ⟨_, rfl⟩
  have hyb : Bytes ys := by rw [hys]; exact ⟨rfl, fun x hx => by simp at hx; omega⟩
  have hyv : validA true ys = true := by rw [hys]; rfl
  obtain ⟨E, hE⟩ : ∃ E : Array Value, (adr true ys).toArray = E := ⟨_, rfl⟩
  have hEs : E.size = 17 := by rw [← hE, List.size_toArray, adr_length, hyb.1]
  obtain ⟨B, hB⟩ : ∃ B : Array Value, (nums .u8 ys).toArray = B := ⟨_, rfl⟩
  have hBs : B.size = 16 := by rw [← hB, List.size_toArray, nums_length, hyb.1]
  have f1 : (((X.setIfInBounds 0 (.int .u8 32)).setIfInBounds 1 (.int .u8 1)).setIfInBounds 15 (.int .u8 (z : Nat))) = B := by rw [← hX, ← hB, hys]; rfl
  have f2 : Array.foldl (fun (cs : Array Value) (x : Value × Nat) => cs.setIfInBounds (1 + x.snd) x.fst) (Y.setIfInBounds 0 (.bool true)) B.zipIdx 0 16 = E := by rw [← hY, ← hB, ← hE, hys]; exact put_adr16 _ _ _ _ _ _ _ _ _ _ _ _ _ _ _ _
  have HE := Lib.hid (And.intro hyb (And.intro hyv (And.intro hE hEs)))
  clear h hY hX hys hyb hyv hE hB
  go_enter Tryz.func24, Tryz.ntmps24
  have t3 := Tryz.underlying3
  have u3 := Tryz.runUnderlying3
  have g3 := Tryz.isAgg3
  have z3 := Tryz.sizeOf3
  have t4 := Tryz.underlying4
  have u4 := Tryz.runUnderlying4
  have g4 := Tryz.isAgg4
  have z4 := Tryz.sizeOf4
  have t5 := Tryz.underlying5
  have u5 := Tryz.runUnderlying5
  have g5 := Tryz.isAgg5
  have z5 := Tryz.sizeOf5
  have t23 := Tryz.underlying23
  have u23 := Tryz.runUnderlying23
  have g23 := Tryz.isAgg23
  have z23 := Tryz.sizeOf23
  have t25 := Tryz.underlying25
  have u25 := Tryz.runUnderlying25
  have g25 := Tryz.isAgg25
  have z25 := Tryz.sizeOf25
  have t57 := Tryz.underlying57
  have u57 := Tryz.runUnderlying57
  have g57 := Tryz.isAgg57
  have z57 := Tryz.sizeOf57
  have c25 := Tryz.call25
  have c27 := Tryz.call27
  have mixed : Tryz.prog.follows .mixedOrders = true := by kernel_rfl
  obtain ⟨k28, hk28⟩ : ∃ k, k = 16 := ⟨_, rfl⟩
  rw [← hk28] at z23
  have nk28 : ¬ k28 = 0 := by omega
  have HK23 := Lib.hid hk28
  obtain ⟨k30, hk30⟩ : ∃ k, k = 17 := ⟨_, rfl⟩
  rw [← hk30] at z25
  have nk30 : ¬ k30 = 0 := by omega
  have HK25 := Lib.hid hk30
  have hP : Tryz.prog = PD := rfl
  rw [hP] at t3 u3 g3 z3 t4 u4 g4 z4 t5 u5 g5 z5 t23 u23 g23 z23 t25 u25 g25 z25 t57 u57 g57 z57 c25 c27 mixed v28 v30 ⊢
  have HP := Lib.hid hP.symm
  clear hP hk28 hk30
  have hYk : Y.size = k30 := by rw [HK25.out]; exact hYs
  have hXk : X.size = k28 := by rw [HK23.out]; exact hXs
  have hEk : E.size = k30 := by rw [HK25.out]; exact hEs
  have hBk : B.size = k28 := by rw [HK23.out]; exact hBs
  rw [← HK23.out] at f2
  have j2 : 1 + k28 ≤ k30 := by have := HK23.out; have := HK25.out; omega
  have i0 : 0 < k28 := by have := HK23.out; omega
  have i1 : 1 < k28 := by have := HK23.out; omega
  have i15 : 15 < k28 := by have := HK23.out; omega
  clear hBs
  clear hYs hXs hEs
  obtain ⟨y, hst, hyb, hyf⟩ := store_all (P := PD) E.toList (heap_alloc_new w (.cells Y 25)) (by rw [Array.length_toList, hEk, hYk]) (by rw [← HE.out.2.2.1]; exact adr_one _ _)
  have HY : Hid (y.heap[w.heap.size]? = some (.cells E 25 (0, 0)) ∧ Fr No w y) := ⟨by simpa using hyb, (Fr.alloc No w (.cells Y 25)).ofNew hyf fun k hk => .inr (by omega)⟩
  clear hyb hyf
  go_wp2_with (first | (go_at_call 25; refine (at_prog HP.out (HM.out _)).mono ?_; rintro e w3 ⟨rfl, hw3⟩; subst hw3) | fail)
  refine bodyPost_ret_by (results_agg rfl _ (b := w.heap.size) (k := 17) (cs := E) (Tryz.isAgg25 _) (Tryz.sizeOf25 _) rfl (load_block HY.out.1 HE.out.2.2.2 (fun j v hv => by simpa using hv))) rfl ?_
  exact ⟨true, ys, HE.out.1, HE.out.2.1, by rw [HE.out.2.2.1], HY.out.2⟩

set_option maxHeartbeats 4000000 in
set_option maxRecDepth 100000 in
theorem addr_gen13 (n : Int) (w : World) (h : ∀ w', Calls Tryz.prog 25 #[.int .i64 n, .int .i64 14] w' fun e w'' => e = .returned (.int .i64 13) ∧ w'' = w') : Calls Tryz.prog 24 #[.int .i64 n] w (GenA w) := by
  obtain ⟨Y, hY⟩ : ∃ Y : Array Value, (adr false zeros).toArray = Y := ⟨_, rfl⟩
  obtain ⟨X, hX⟩ : ∃ X : Array Value, (nums .u8 zeros).toArray = X := ⟨_, rfl⟩
  have v30 := zero25
  have v28 := zero23
  rw [hY] at v30
  rw [hX] at v28
  have hYs : Y.size = 17 := by rw [← hY]; rfl
  have hXs : X.size = 16 := by rw [← hX]; rfl
  have hYne : ¬ Y = #[] := by intro e; rw [e] at hYs; cases hYs
  have hXne : ¬ X = #[] := by intro e; rw [e] at hXs; cases hXs
  have HM := Lib.hid h
  obtain ⟨z, hz⟩ : ∃ z : Nat, n / 16 % 256 = (z : Int) := ⟨(n / 16 % 256).toNat, by omega⟩
  have hz256 : z < 256 := by omega
  obtain ⟨ys, hys⟩ : ∃ ys : List Nat, ys = [42, 0, 0, 0, 0, 0, 0, 0, 0, 0, 0, 0, 0, 0, 0, z] := ⟨_, rfl⟩
  have hyb : Bytes ys := by rw [hys]; exact ⟨rfl, fun x hx => by simp at hx; omega⟩
  have hyv : validA true ys = true := by rw [hys]; rfl
  obtain ⟨E, hE⟩ : ∃ E : Array Value, (adr true ys).toArray = E := ⟨_, rfl⟩
  have hEs : E.size = 17 := by rw [← hE, List.size_toArray, adr_length, hyb.1]
  obtain ⟨B, hB⟩ : ∃ B : Array Value, (nums .u8 ys).toArray = B := ⟨_, rfl⟩
  have hBs : B.size = 16 := by rw [← hB, List.size_toArray, nums_length, hyb.1]
  have f1 : (((X.setIfInBounds 0 (.int .u8 42)).setIfInBounds 1 (.int .u8 0)).setIfInBounds 15 (.int .u8 (z : Nat))) = B := by rw [← hX, ← hB, hys]; rfl
  have f2 : Array.foldl (fun (cs : Array Value) (x : Value × Nat) => cs.setIfInBounds (1 + x.snd) x.fst) (Y.setIfInBounds 0 (.bool true)) B.zipIdx 0 16 = E := by rw [← hY, ← hB, ← hE, hys]; exact put_adr16 _ _ _ _ _ _ _ _ _ _ _ _ _ _ _ _
  have HE := Lib.hid (And.intro hyb (And.intro hyv (And.intro hE hEs)))
  clear h hY hX hys hyb hyv hE hB
  go_enter Tryz.func24, Tryz.ntmps24
  have t3 := Tryz.underlying3
  have u3 := Tryz.runUnderlying3
  have g3 := Tryz.isAgg3
  have z3 := Tryz.sizeOf3
  have t4 := Tryz.underlying4
  have u4 := Tryz.runUnderlying4
  have g4 := Tryz.isAgg4
  have z4 := Tryz.sizeOf4
  have t5 := Tryz.underlying5
  have u5 := Tryz.runUnderlying5
  have g5 := Tryz.isAgg5
  have z5 := Tryz.sizeOf5
  have t23 := Tryz.underlying23
  have u23 := Tryz.runUnderlying23
  have g23 := Tryz.isAgg23
  have z23 := Tryz.sizeOf23
  have t25 := Tryz.underlying25
  have u25 := Tryz.runUnderlying25
  have g25 := Tryz.isAgg25
  have z25 := Tryz.sizeOf25
  have t57 := Tryz.underlying57
  have u57 := Tryz.runUnderlying57
  have g57 := Tryz.isAgg57
  have z57 := Tryz.sizeOf57
  have c25 := Tryz.call25
  have c27 := Tryz.call27
  have mixed : Tryz.prog.follows .mixedOrders = true := by kernel_rfl
  obtain ⟨k28, hk28⟩ : ∃ k, k = 16 := ⟨_, rfl⟩
  rw [← hk28] at z23
  have nk28 : ¬ k28 = 0 := by omega
  have HK23 := Lib.hid hk28
  obtain ⟨k30, hk30⟩ : ∃ k, k = 17 := ⟨_, rfl⟩
  rw [← hk30] at z25
  have nk30 : ¬ k30 = 0 := by omega
  have HK25 := Lib.hid hk30
  have hP : Tryz.prog = PD := rfl
  rw [hP] at t3 u3 g3 z3 t4 u4 g4 z4 t5 u5 g5 z5 t23 u23 g23 z23 t25 u25 g25 z25 t57 u57 g57 z57 c25 c27 mixed v28 v30 ⊢
  have HP := Lib.hid hP.symm
  clear hP hk28 hk30
  have hYk : Y.size = k30 := by rw [HK25.out]; exact hYs
  have hXk : X.size = k28 := by rw [HK23.out]; exact hXs
  have hEk : E.size = k30 := by rw [HK25.out]; exact hEs
  have hBk : B.size = k28 := by rw [HK23.out]; exact hBs
  rw [← HK23.out] at f2
  have j2 : 1 + k28 ≤ k30 := by have := HK23.out; have := HK25.out; omega
  have i0 : 0 < k28 := by have := HK23.out; omega
  have i1 : 1 < k28 := by have := HK23.out; omega
  have i15 : 15 < k28 := by have := HK23.out; omega
  clear hBs
  clear hYs hXs hEs
  obtain ⟨y, hst, hyb, hyf⟩ := store_all (P := PD) E.toList (heap_alloc_new w (.cells Y 25)) (by rw [Array.length_toList, hEk, hYk]) (by rw [← HE.out.2.2.1]; exact adr_one _ _)
  have HY : Hid (y.heap[w.heap.size]? = some (.cells E 25 (0, 0)) ∧ Fr No w y) := ⟨by simpa using hyb, (Fr.alloc No w (.cells Y 25)).ofNew hyf fun k hk => .inr (by omega)⟩
  clear hyb hyf
  go_wp2_with (first | (go_at_call 25; refine (at_prog HP.out (HM.out _)).mono ?_; rintro e w3 ⟨rfl, hw3⟩; subst hw3) | fail)
  refine bodyPost_ret_by (results_agg rfl _ (b := w.heap.size) (k := 17) (cs := E) (Tryz.isAgg25 _) (Tryz.sizeOf25 _) rfl (load_block HY.out.1 HE.out.2.2.2 (fun j v hv => by simpa using hv))) rfl ?_
  exact ⟨true, ys, HE.out.1, HE.out.2.1, by rw [HE.out.2.2.1], HY.out.2⟩

theorem addr_gen (n : Int) (w : World) : Calls Tryz.prog 24 #[.int .i64 n] w (GenA w) := by
  have key : ∃ p : Nat, p < 14 ∧ ∀ w', Calls Tryz.prog 25 #[.int .i64 n, .int .i64 14] w' fun e w'' => e = .returned (.int .i64 p) ∧ w'' = w' := mod_fix n 14 (by decide) (by decide)
  obtain ⟨p, hp, h⟩ := key
  match p, hp with
  | 0, _ => exact addr_gen0 n w h
  | 1, _ => exact addr_gen1 n w h
  | 2, _ => exact addr_gen2 n w h
  | 3, _ => exact addr_gen3 n w h
  | 4, _ => exact addr_gen4 n w h
  | 5, _ => exact addr_gen5 n w h
  | 6, _ => exact addr_gen6 n w h
  | 7, _ => exact addr_gen7 n w h
  | 8, _ => exact addr_gen8 n w h
  | 9, _ => exact addr_gen9 n w h
  | 10, _ => exact addr_gen10 n w h
  | 11, _ => exact addr_gen11 n w h
  | 12, _ => exact addr_gen12 n w h
  | 13, _ => exact addr_gen13 n w h
end Go.Proofs.YtnadendhboiliaaGreat
