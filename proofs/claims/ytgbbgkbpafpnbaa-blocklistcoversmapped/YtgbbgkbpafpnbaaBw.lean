/-
  CONTRACT of awake, over this seat's translation: the fixed example gives what it should.
  Conditions: none.
-/
import Derived.Test.YtgbbgkbpafpnbaaBi
namespace Go.Proofs.Ytgbbgkbpafpnbaa
open Go.ChangeShapes Go.WideShapes Go.ChangeAt Go.RowKit
set_option linter.unusedVariables false

theorem bx1 : bIdx false (v4Of 127 0 0 1) = 3 := by decide +kernel
theorem bx2 : bIdx false (v4Of 8 8 8 8) = -1 := by decide +kernel
theorem bx3 : bIdx true hxOne = 9 := by decide +kernel
set_option maxHeartbeats 2000000 in
set_option maxRecDepth 100000 in
theorem bawake_any (w : World) : Calls Try.prog 10 #[] w fun e w' => e = .returned (.bool true) ∧ Fr No w w' := by
  obtain ⟨A, hA⟩ : ∃ A, (adr false (v4Of 127 0 0 1)).toArray = A := ⟨_, rfl⟩
  obtain ⟨B, hB⟩ : ∃ A, (adr false (v4Of 8 8 8 8)).toArray = A := ⟨_, rfl⟩
  obtain ⟨E, hE⟩ : ∃ A, (adr true hxOne).toArray = A := ⟨_, rfl⟩
  obtain ⟨U, hU⟩ : ∃ A, (nums .u8 zeros).toArray = A := ⟨_, rfl⟩
  obtain ⟨O, hO⟩ : ∃ A, (nums .u8 hxOne).toArray = A := ⟨_, rfl⟩
  obtain ⟨Z, hZ⟩ : ∃ A, (adr false zeros).toArray = A := ⟨_, rfl⟩
  have v22 := zero22
  have v24 := zero24
  rw [hU] at v22
  rw [hZ] at v24
  have b1 := hxB1
  rw [hU, hO] at b1
  have b2 := hxE1
  rw [hZ, hO, hE] at b2
  have hUs : U.size = 16 := by rw [← hU]; rfl
  have hZs : Z.size = 17 := by rw [← hZ]; rfl
  have hOs : O.size = 16 := by rw [← hO]; rfl
  have HA : Hid (∀ w', Calls Try.prog 19 #[.int .u8 127, .int .u8 0, .int .u8 0, .int .u8 1] w' fun e w'' => e = .returned (.agg A) ∧ Fr No w' w'') := fun w' => by rw [← hA]; exact v4_ref 127 0 0 1 w'
  have HB : Hid (∀ w', Calls Try.prog 19 #[.int .u8 8, .int .u8 8, .int .u8 8, .int .u8 8] w' fun e w'' => e = .returned (.agg B) ∧ Fr No w' w'') := fun w' => by rw [← hB]; exact v4_ref 8 8 8 8 w'
  have HC1 : Hid (∀ w', Calls Try.prog 13 #[.agg A] w' fun e w'' => e = .returned (.bool true) ∧ Fr No w' w'') := fun w' => by
    have h := contains_any false (v4Of 127 0 0 1) (v4_bytes (by decide) (by decide) (by decide) (by decide)) w'
    rw [bx1, hA] at h
    exact h
  have HC2 : Hid (∀ w', Calls Try.prog 13 #[.agg B] w' fun e w'' => e = .returned (.bool false) ∧ Fr No w' w'') := fun w' => by
    have h := contains_any false (v4Of 8 8 8 8) (v4_bytes (by decide) (by decide) (by decide) (by decide)) w'
    rw [bx2, hB] at h
    exact h
  have HI : Hid (∀ w', Calls Try.prog 11 #[.agg E] w' fun e w'' => e = .returned (.int .i64 9) ∧ Fr No w' w'') := fun w' => by
    have h := index_any true hxOne hxOne_bytes w'
    rw [bx3, hE] at h
    exact h
  clear hA hB hE hU hO hZ
  go_enter Try.func10, Try.ntmps10
  have t3 := Try.underlying3
  have u3 := Try.runUnderlying3
  have g3 := Try.isAgg3
  have z3 := Try.sizeOf3
  have t4 := Try.underlying4
  have u4 := Try.runUnderlying4
  have g4 := Try.isAgg4
  have z4 := Try.sizeOf4
  have t5 := Try.underlying5
  have u5 := Try.runUnderlying5
  have g5 := Try.isAgg5
  have z5 := Try.sizeOf5
  have t22 := Try.underlying22
  have u22 := Try.runUnderlying22
  have g22 := Try.isAgg22
  have z22 := Try.sizeOf22
  have t24 := Try.underlying24
  have u24 := Try.runUnderlying24
  have g24 := Try.isAgg24
  have z24 := Try.sizeOf24
  have t25 := Try.underlying25
  have u25 := Try.runUnderlying25
  have g25 := Try.isAgg25
  have z25 := Try.sizeOf25
  have t28 := Try.underlying28
  have u28 := Try.runUnderlying28
  have g28 := Try.isAgg28
  have z28 := Try.sizeOf28
  have c11 := Try.call11
  have c13 := Try.call13
  have c16 := Try.call16
  have c19 := Try.call19
  have mixed : Try.prog.follows .mixedOrders = true := by kernel_rfl
  obtain ⟨k16, hk16⟩ : ∃ k, k = 16 := ⟨_, rfl⟩
  rw [← hk16] at z22
  have nk16 : ¬ k16 = 0 := by omega
  have HK22 := Lib.hid hk16
  obtain ⟨k30, hk30⟩ : ∃ k, k = 17 := ⟨_, rfl⟩
  rw [← hk30] at z24
  have nk30 : ¬ k30 = 0 := by omega
  have HK24 := Lib.hid hk30
  have hP : Try.prog = PD := rfl
  rw [hP] at t3 u3 g3 z3 t4 u4 g4 z4 t5 u5 g5 z5 t22 u22 g22 z22 t24 u24 g24 z24 t25 u25 g25 z25 t28 u28 g28 z28 c11 c13 c16 c19 mixed v22 v24 ⊢
  have HP := Lib.hid hP.symm
  clear hP hk16 hk30
  have hUk : U.size = k16 := by rw [HK22.out]; exact hUs
  have hZk : Z.size = k30 := by rw [HK24.out]; exact hZs
  have hOk : O.size = k16 := by rw [HK22.out]; exact hOs
  have b2' : Array.foldl (fun (cs : Array Value) (x : Value × Nat) => cs.setIfInBounds (1 + x.snd) x.fst) (Z.setIfInBounds 0 (.bool true)) O.zipIdx 0 k16 = E := by rw [HK22.out]; exact b2
  have n1 : ¬ U = #[] := fun h => by { rw [h, HK22.out] at hUk; cases hUk }
  have n2 : ¬ Z = #[] := fun h => by { rw [h, HK24.out] at hZk; cases hZk }
  have n3 : ¬ k30 < 1 + k16 := by rw [HK24.out, HK22.out]; decide
  have n4 : ¬ k16 < 16 := by rw [HK22.out]; decide
  have n5 : 15 < k16 := by rw [HK22.out]; decide
  clear b2 hUs hZs hOs
  go_wp2_with (first | (go_at_call 19; first | ((with_reducible refine (at_prog HP.out (HA.out _)).mono ?_); rintro e w1 ⟨rfl, hf1⟩) | ((with_reducible refine (at_prog HP.out (HB.out _)).mono ?_); rintro e w3 ⟨rfl, hf3⟩)) | (go_at_call 13; first | ((with_reducible refine (at_prog HP.out (HC1.out _)).mono ?_); rintro e w2 ⟨rfl, hf2⟩) | ((with_reducible refine (at_prog HP.out (HC2.out _)).mono ?_); rintro e w4 ⟨rfl, hf4⟩)) | (go_at_call 11; ((with_reducible refine (at_prog HP.out (HI.out _)).mono ?_); rintro e w5 ⟨rfl, hf5⟩)) | (go_at_call 16; ((with_reducible refine (at_prog HP.out (prefixes_any _)).mono ?_); rintro e w6 ⟨g6, rfl, -, -, hf6⟩)) | fail)
  go_ret
  exact ⟨rfl, ((((hf1.trans hf2).trans hf3).trans hf4).trans hf5).trans hf6⟩
end Go.Proofs.Ytgbbgkbpafpnbaa
