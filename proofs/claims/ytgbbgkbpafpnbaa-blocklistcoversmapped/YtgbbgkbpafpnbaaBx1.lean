/-
  THE LAW BlocklistCoversMapped: cases of its walk.
  Conditions: the four are bytes, as each case says.
-/
import Derived.Test.YtgbbgkbpafpnbaaBy
import Derived.Deep.DeepCutAuto
import Derived.Deep.CutBlock
namespace Go.Proofs.Ytgbbgkbpafpnbaa
open Go.ChangeShapes Go.WideShapes Go.ChangeAt Go.RowKit
set_option linter.unusedVariables false

set_option maxHeartbeats 4000000 in
set_option maxRecDepth 100000 in
theorem covers_1 (a b c d : Nat) (ha : a < 256) (hb : b < 256) (hc : c < 256) (hd : d < 256) (hcs : a = 10) (w : World) :
    Calls Try.prog 5 #[.int .u8 a, .int .u8 b, .int .u8 c, .int .u8 d] w fun e w' => e = .returned (.bool true) ∧ Fr No w w' := by
  obtain ⟨M, hM⟩ : ∃ A, (adr true (mapX a b c d)).toArray = A := ⟨_, rfl⟩
  obtain ⟨T, hT⟩ : ∃ A, (adr true (natX a b c d)).toArray = A := ⟨_, rfl⟩
  obtain ⟨F, hF⟩ : ∃ A, (adr false (v4Of a b c d)).toArray = A := ⟨_, rfl⟩
  obtain ⟨M0, hM0⟩ : ∃ A, (nums .u8 (mapX a b c d)).toArray = A := ⟨_, rfl⟩
  obtain ⟨T0, hT0⟩ : ∃ A, (nums .u8 (natX a b c d)).toArray = A := ⟨_, rfl⟩
  obtain ⟨Z, hZ⟩ : ∃ A, (adr false zeros).toArray = A := ⟨_, rfl⟩
  have v24 := zero24
  rw [hZ] at v24
  have B1 := built_map a b c d
  have B2 := built_nat a b c d
  have B3 := built_adrM a b c d
  have B4 := built_adrN a b c d
  rw [hM0] at B1 B3
  rw [hT0] at B2 B4
  rw [hM] at B3
  rw [hT] at B4
  replace B1 := Lib.hid B1
  replace B2 := Lib.hid B2
  replace B3 := Lib.hid B3
  replace B4 := Lib.hid B4
  have hMs : M.size = 17 := by rw [← hM]; rfl
  have hTs : T.size = 17 := by rw [← hT]; rfl
  have hFs : F.size = 17 := by rw [← hF]; rfl
  have hZs : Z.size = 17 := by rw [← hZ]; rfl
  have hM1 : ∀ u ∈ M.toList, u.oneCell' = true := by rw [← hM]; exact adr_one _ _
  have hT1 : ∀ u ∈ T.toList, u.oneCell' = true := by rw [← hT]; exact adr_one _ _
  have hF1 : ∀ u ∈ F.toList, u.oneCell' = true := by rw [← hF]; exact adr_one _ _
  have HF : Hid (∀ w', Calls Try.prog 19 #[.int .u8 a, .int .u8 b, .int .u8 c, .int .u8 d] w' fun e w'' => e = .returned (.agg F) ∧ Fr No w' w'') := fun w' => by rw [← hF]; exact v4_ref a b c d w'
  have HCM : Hid (∀ w', Calls Try.prog 13 #[.agg M] w' fun e w'' => e = .returned (.bool true) ∧ Fr No w' w'') := fun w' => by rw [← hM]; exact contains_is (map_bytes ha hb hc hd) rfl true (by rw [idxM]; rfl) w'
  have HIM : Hid (∀ w', Calls Try.prog 11 #[.agg M] w' fun e w'' => e = .returned (.int .i64 10) ∧ Fr No w' w'') := fun w' => by rw [← hM]; exact index_is (map_bytes ha hb hc hd) 10 (idxM a b c d) w'
  have HCT : Hid (∀ w', Calls Try.prog 13 #[.agg T] w' fun e w'' => e = .returned (.bool true) ∧ Fr No w' w'') := fun w' => by rw [← hT]; exact contains_is (nat_bytes ha hb hc hd) rfl true (by rw [idxN]; rfl) w'
  have HIT : Hid (∀ w', Calls Try.prog 11 #[.agg T] w' fun e w'' => e = .returned (.int .i64 11) ∧ Fr No w' w'') := fun w' => by rw [← hT]; exact index_is (nat_bytes ha hb hc hd) 11 (idxN a b c d) w'
  have HCF : Hid (∀ w', Calls Try.prog 13 #[.agg F] w' fun e w'' => e = .returned (.bool true) ∧ Fr No w' w'') := fun w' => by
    rw [← hF]
    exact contains_is (v4_bytes ha hb hc hd) rfl true (decide_eq_true ((idx4 ha hb).2 (by omega))) w'
  have ea0 : ((a : Int) == 0) = false := beq_eq_false_iff_ne.2 (by omega)
  have ea10 : ((a : Int) == 10) = true := beq_iff_eq.2 (by omega)
  have ea127 : ((a : Int) == 127) = false := beq_eq_false_iff_ne.2 (by omega)
  have ea100 : ((a : Int) == 100) = false := beq_eq_false_iff_ne.2 (by omega)
  have ea169 : ((a : Int) == 169) = false := beq_eq_false_iff_ne.2 (by omega)
  have ea172 : ((a : Int) == 172) = false := beq_eq_false_iff_ne.2 (by omega)
  have ea192 : ((a : Int) == 192) = false := beq_eq_false_iff_ne.2 (by omega)
  have ga : decide ((224 : Int) ≤ (a : Int)) = false := decide_eq_false (by omega)
  clear hM hT hF hM0 hT0 hZ ha hb hc hd hcs
  obtain ⟨za, hza⟩ : ∃ z : Int, (a : Int) = z := ⟨_, rfl⟩
  obtain ⟨zb, hzb⟩ : ∃ z : Int, (b : Int) = z := ⟨_, rfl⟩
  obtain ⟨zc, hzc⟩ : ∃ z : Int, (c : Int) = z := ⟨_, rfl⟩
  obtain ⟨zd, hzd⟩ : ∃ z : Int, (d : Int) = z := ⟨_, rfl⟩
  rw [hza, hzb, hzc, hzd] at B1 B2 HF
  rw [hza, hzb, hzc, hzd]
  rw [hza] at ea0 ea10 ea127 ea100 ea169 ea172 ea192 ga
  clear hza hzb hzc hzd
  go_enter Try.func5, Try.ntmps5
  have t3 := Try.underlying3
  have u3 := Try.runUnderlying3
  have g3 := Try.isAgg3
  have z3 := Try.sizeOf3
  have t4 := Try.underlying4
  have u4 := Try.runUnderlying4
  have g4 := Try.isAgg4
  have z4 := Try.sizeOf4
  have t5 := Try.underlying5
  have u5 := Try.runUnderlying5
  have g5 := Try.isAgg5
  have z5 := Try.sizeOf5
  have t22 := Try.underlying22
  have u22 := Try.runUnderlying22
  have g22 := Try.isAgg22
  have z22 := Try.sizeOf22
  have t24 := Try.underlying24
  have u24 := Try.runUnderlying24
  have g24 := Try.isAgg24
  have z24 := Try.sizeOf24
  have c10 := Try.call10
  have c11 := Try.call11
  have c13 := Try.call13
  have c19 := Try.call19
  have mixed : Try.prog.follows .mixedOrders = true := by kernel_rfl
  obtain ⟨k30, hk30⟩ : ∃ k, k = 17 := ⟨_, rfl⟩
  rw [← hk30] at z24
  have nk30 : ¬ k30 = 0 := by omega
  have HK24 := Lib.hid hk30
  have hP : Try.prog = PD := rfl
  rw [hP] at t3 u3 g3 z3 t4 u4 g4 z4 t5 u5 g5 z5 t22 u22 g22 z22 t24 u24 g24 z24 c10 c11 c13 c19 mixed v24 ⊢
  have HP := Lib.hid hP.symm
  clear hP hk30
  have hMk : M.size = k30 := by rw [HK24.out]; exact hMs
  have hTk : T.size = k30 := by rw [HK24.out]; exact hTs
  have hFk : F.size = k30 := by rw [HK24.out]; exact hFs
  have hZk : Z.size = k30 := by rw [HK24.out]; exact hZs
  clear hMs hTs hFs hZs
  obtain ⟨y1, hst1, hyb1, hyf1⟩ := store_all (P := PD) M.toList (heap_alloc_new w (.cells Z 24)) (by rw [Array.length_toList, hMk, hZk]) hM1
  obtain ⟨y2, hst2, hyb2, hyf2⟩ := store_all (P := PD) T.toList (heap_alloc_new y1 (.cells Z 24)) (by rw [Array.length_toList, hTk, hZk]) hT1
  have K1 : Fr No w y1 := (Fr.alloc No w _).ofNew hyf1 (fun k hk => .inr (by rw [hk]; exact Nat.le_refl _))
  have K2 : Fr No y1 y2 := (Fr.alloc No y1 _).ofNew hyf2 (fun k hk => .inr (by rw [hk]; exact Nat.le_refl _))
  have HX : Hid (Fr No w y2 ∧ y2.heap[w.heap.size]? = some (.cells M 24 (0, 0)) ∧ y2.heap[y1.heap.size]? = some (.cells T 24 (0, 0))) := ⟨K1.trans K2, by simpa using K2.keep hyb1, by simpa using hyb2⟩
  obtain ⟨x1, hx1⟩ : ∃ x, w.heap.size = x := ⟨_, rfl⟩
  obtain ⟨x2, hx2⟩ : ∃ x, y1.heap.size = x := ⟨_, rfl⟩
  rw [hx1, hx2] at HX
  rw [hx1] at hst1
  rw [hx2] at hst2
  clear hyb1 hyb2 hyf1 hyf2 K1 K2
  go_upto_region 3 with (first | (refine law_buildD HP.out rfl 22 #[(10, .const (.int .u8 255)), (11, .const (.int .u8 255)), (12, .tmp 12), (13, .tmp 13), (14, .tmp 14), (15, .tmp 15)] rfl [(10, .int .u8 255), (11, .int .u8 255), (12, .int .u8 za), (13, .int .u8 zb), (14, .int .u8 zc), (15, .int .u8 zd)] rfl M0 B1.out ?_) | (refine law_buildD HP.out rfl 22 #[(0, .const (.int .u8 0)), (1, .const (.int .u8 100)), (2, .const (.int .u8 255)), (3, .const (.int .u8 155)), (12, .tmp 18), (13, .tmp 19), (14, .tmp 20), (15, .tmp 21)] rfl [(0, .int .u8 0), (1, .int .u8 100), (2, .int .u8 255), (3, .int .u8 155), (12, .int .u8 za), (13, .int .u8 zb), (14, .int .u8 zc), (15, .int .u8 zd)] rfl T0 B2.out ?_) | (refine law_buildD HP.out rfl 24 #[(0, .const (.bool true)), (1, .tmp 16)] rfl [(0, .bool true), (1, .agg M0)] rfl M B3.out ?_) | (refine law_buildD HP.out rfl 24 #[(0, .const (.bool true)), (1, .tmp 22)] rfl [(0, .bool true), (1, .agg T0)] rfl T B4.out ?_) | fail)
  clear hst1 hst2 hx1 hx2
  go_wp2_with (first | (go_at_call 19; ((with_reducible refine (at_prog HP.out (HF.out _)).mono ?_); rintro e w3 ⟨rfl, hf3⟩; obtain ⟨y3, hst3, hyb3, hyf3⟩ := store_all (P := PD) F.toList (heap_alloc_new w3 (.cells Z 24)) (by rw [Array.length_toList, hFk, hZk]) hF1; have K3 : Fr No y2 y3 := (hf3.trans (Fr.alloc No w3 _)).ofNew hyf3 (fun k hk => .inr (by rw [hk]; exact hf3.size)))) | (go_at_call 10; ((with_reducible refine (at_prog HP.out (bawake_any _)).mono ?_); rintro e w4 ⟨rfl, hf4⟩; have K4 := K3.trans hf4; have l1 : Sem.run PD (loadCellsFrom ⟨x1, 0, none⟩ 0 k30 #[]) w4 = .ok M w4 := load_block (K4.keep HX.out.2.1) hMk (fun j v hv => by simpa using hv))) | (go_at_call 13; first | ((with_reducible refine (at_prog HP.out (HCM.out _)).mono ?_); rintro e w5 ⟨rfl, hf5⟩; have K5 := K4.trans hf5; have l2 : Sem.run PD (loadCellsFrom ⟨x1, 0, none⟩ 0 k30 #[]) w5 = .ok M w5 := load_block (K5.keep HX.out.2.1) hMk (fun j v hv => by simpa using hv)) | ((with_reducible refine (at_prog HP.out (HCT.out _)).mono ?_); rintro e w7 ⟨rfl, hf7⟩; have K7 := K6.trans hf7; have l4 : Sem.run PD (loadCellsFrom ⟨x2, 0, none⟩ 0 k30 #[]) w7 = .ok T w7 := load_block (K7.keep HX.out.2.2) hTk (fun j v hv => by simpa using hv))) | (go_at_call 11; first | ((with_reducible refine (at_prog HP.out (HIM.out _)).mono ?_); rintro e w6 ⟨rfl, hf6⟩; have K6 := K5.trans hf6; have l3 : Sem.run PD (loadCellsFrom ⟨x2, 0, none⟩ 0 k30 #[]) w6 = .ok T w6 := load_block (K6.keep HX.out.2.2) hTk (fun j v hv => by simpa using hv)) | ((with_reducible refine (at_prog HP.out (HIT.out _)).mono ?_); rintro e w8 ⟨rfl, hf8⟩; have K8 := K7.trans hf8; have l5 : Sem.run PD (loadCellsFrom ⟨w3.heap.size, 0, none⟩ 0 k30 #[]) w8 = .ok F w8 := load_block ((((((hf4.trans hf5).trans hf6).trans hf7).trans hf8)).keep hyb3) hFk (fun j v hv => by simpa using hv))) | fail)
  refine (at_prog HP.out (HCF.out _)).mono ?_
  rintro e w9 ⟨rfl, hf9⟩
  have HZ := Lib.hid (HX.out.1.trans (K8.trans hf9))
  clear HCF HCM HCT HIM HIT HF HX B1 B2 B3 B4 l1 l2 l3 l4 l5 K3 K4 K5 K6 K7 K8 hf3 hf4 hf5 hf6 hf7 hf8 hf9 hst3 hyb3 hyf3 hM1 hT1 hF1 v24 hMk hTk hFk hZk c10 c11 c13 c19
  simp only []
  go_step
  simp only [List.append]
  go_wp2_with fail
  all_goals (
    go_ret
    exact ⟨rfl, HZ.out⟩)
end Go.Proofs.Ytgbbgkbpafpnbaa
