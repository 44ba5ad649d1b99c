/-
  CONTRACT of common of package trie, over this seat's translation: the call returns the common prefix.
  Conditions: both are valid and of one family.
-/
import Derived.Test.YtnbohhiooigmbaaPu
import Derived.Test.YtnbohhiooigmbaaCb
import Derived.Deep.RegionHeld3
import Derived.BigQuiet
import Derived.Deep.DeepCutAuto
import Derived.Deep.CutBlock
namespace Go.Proofs.Ytnbohhiooigmbaa
open Go.ChangeShapes Go.WideShapes Go.ChangeAt Go.RowKit
set_option linter.unusedVariables false

set_option maxHeartbeats 4000000 in
set_option maxRecDepth 100000 in
theorem com_any (p q : Px) (hp : okP p) (hq : okP q) (hb : p.b = q.b) (w : World) :
    Calls Try.prog 62 #[.agg (pfx p.b p.xs p.n).toArray, .agg (pfx q.b q.xs q.n).toArray] w fun e w' => e = .returned (.agg (pfx (com p q).b (com p q).xs (com p q).n).toArray) ∧ Fr No w w' := by
  obtain ⟨Z, hZ⟩ : ∃ Z : Array Value, noP.toArray = Z := ⟨_, rfl⟩
  have v40 := zero31
  rw [hZ] at v40
  have hz18 : Z.size = 18 := by rw [← hZ]; rfl
  obtain ⟨P, hP0, -, hP17, hPs, hPA, -⟩ := pfx_letter p.b p.xs p.n hp.1
  obtain ⟨Q, hQ0, -, hQ17, hQs, hQA, -⟩ := pfx_letter q.b q.xs q.n hq.1
  obtain ⟨A, hA, -, hsz, -⟩ := adr_letter p.b p.xs hp.1
  obtain ⟨B, hB, -, hszb, -⟩ := adr_letter q.b q.xs hq.1
  rw [hA] at hPA
  rw [hB] at hQA
  rw [hP0, hQ0]
  have hp0 := hp.parts.2.1
  have hq0 := hq.parts.2.1
  have hp1 := ok_le hp
  have hq1 := ok_le hq
  obtain ⟨K, hK⟩ : ∃ K : Nat, (K : Int) = min p.n q.n := ⟨(min p.n q.n).toNat, by omega⟩
  have hKp : (K : Int) ≤ p.n := by omega
  have hK128 : K ≤ 128 := by omega
  -- what PrefixOf gives
  obtain ⟨C, hC⟩ : ∃ C : Nat → Array Value, (fun k : Nat => (pfx p.b (pofX p.b p.xs (k : Int)) (k : Int)).toArray) = C := ⟨_, rfl⟩
  have hCk : ∀ k : Nat, (pfx p.b (pofX p.b p.xs (k : Int)) (k : Int)).toArray = C k := fun k => by rw [← hC]
  have hCs : ∀ k, (C k).size = 18 := fun k => by rw [← hCk, List.size_toArray]; exact pfx_length (pofX_bytes hp.1 _).1
  have hC1 : ∀ k, ∀ u ∈ (C k).toList, u.oneCell' = true := fun k => by rw [← hCk]; intro u hu; exact pfx_one _ _ _ u (by simpa using hu)
  have hC17 : ∀ k : Nat, (C k)[17]? = some (.int .i64 k) := fun k => by
    obtain ⟨T, hT, -, hT17, -, -, -⟩ := pfx_letter p.b (pofX p.b p.xs (k : Int)) (k : Int) (pofX_bytes hp.1 _)
    rw [← hCk, hT]; exact hT17
  have HPO : Hid (∀ k : Nat, k ≤ K → ∀ w', Calls Try.prog 72 #[.agg A, .int .i64 (k : Int)] w' fun e w'' => e = .returned (.tuple #[.agg (C k), .bool true]) ∧ Fr No w' w'') := fun k hk w' => by
    have h := pof_any p.b p.xs (k : Int) hp.1 w'
    have hb := pofB_ok hp (k := k) (by omega)
    unfold pofT at h
    rw [hb, if_pos rfl, hCk, hA] at h
    exact h
  obtain ⟨hs, hhs⟩ : ∃ hs : Nat → Bool, (fun k : Nat => has (pofP p.b p.xs (k : Int)) q.b q.xs) = hs := ⟨_, rfl⟩
  have HCT : Hid (∀ (k : Nat) w', Calls Try.prog 61 #[.agg (C k), .agg B] w' fun e w'' => e = .returned (.bool (hs k)) ∧ Fr No w' w'') := fun k w' => by
    rw [← hCk, ← hB, ← hhs]
    exact cont_any p.b q.b _ q.xs _ (pofX_bytes hp.1 _) hq.1 w'
  have HK0 : Hid ((∀ k, hs (k + 1) = true → comK p q (k + 1) = k + 1) ∧ (∀ k, hs (k + 1) = false → comK p q (k + 1) = comK p q k) ∧ hs 0 = true ∧ comK p q 0 = 0 ∧ (min p.n q.n).toNat = K ∧ ∀ k : Nat, comK p q K = k → (pfx (com p q).b (com p q).xs (com p q).n).toArray = C k) := by
    refine ⟨fun k hk => ?_, fun k hk => ?_, ?_, rfl, by omega, fun k hk => ?_⟩
    · rw [← hhs] at hk
      rw [comK, if_pos hk]
    · rw [← hhs] at hk
      have hk2 : has (pofP p.b p.xs ((k + 1 : Nat) : Int)) q.b q.xs = false := hk
      rw [comK, if_neg (by rw [hk2]; decide)]
    · rw [← hhs]
      exact (pofP_has hp hq hb (k := 0) (by omega)).2 fun i hi => absurd hi (Nat.not_lt_zero _)
    · have hc : com p q = pofP p.b p.xs k := by unfold com; rw [show (min p.n q.n).toNat = K by omega, hk]
      rw [hc, ← hCk]; rfl
  obtain ⟨b1, b2, b3, hF⟩ := alloc3 w (.cells P 31) (.cells Q 31) (.cells Z 31)
  have HB : Hid ((((w.alloc (.cells P 31)).alloc (.cells Q 31)).alloc (.cells Z 31)).heap[w.heap.size]? = some (.cells P 31 (0, 0)) ∧ (((w.alloc (.cells P 31)).alloc (.cells Q 31)).alloc (.cells Z 31)).heap[w.heap.size + 1]? = some (.cells Q 31 (0, 0)) ∧ (((w.alloc (.cells P 31)).alloc (.cells Q 31)).alloc (.cells Z 31)).heap[w.heap.size + 1 + 1]? = some (.cells Z 31 (0, 0)) ∧ Fr No w (((w.alloc (.cells P 31)).alloc (.cells Q 31)).alloc (.cells Z 31))) := ⟨b1, b2, b3, hF⟩
  have l1 : Sem.run Try.prog (loadCellsFrom ⟨w.heap.size, 0, none⟩ 0 17 #[]) (((w.alloc (.cells P 31)).alloc (.cells Q 31)).alloc (.cells Z 31)) = .ok A (((w.alloc (.cells P 31)).alloc (.cells Q 31)).alloc (.cells Z 31)) := load_block b1 hsz (adr_part hsz hPA)
  have c1 : (((w.alloc (.cells P 31)).alloc (.cells Q 31)).alloc (.cells Z 31)).cell? ⟨w.heap.size, 17, none⟩ = some (.int .i64 p.n) := by rw [cell_of_row _ _ _ _ _ _ b1]; exact hP17
  have c2 : (((w.alloc (.cells P 31)).alloc (.cells Q 31)).alloc (.cells Z 31)).cell? ⟨w.heap.size + 1, 17, none⟩ = some (.int .i64 q.n) := by rw [cell_of_row _ _ _ _ _ _ b2]; exact hQ17
  have HPA := Lib.hid (And.intro (adr_part hsz hPA) (And.intro (adr_part hszb hQA) (And.intro hCs (And.intro hC1 hC17))))
  have hmin : min p.n q.n = (K : Int) := hK.symm
  clear b1 b2 b3 hF hZ hP0 hQ0 hA hB hPA hQA hP17 hQ17 hC hCk hCs hC1 hC17 hhs hK hp0 hq0 hp1 hq1 hp hq hb
  go_enter Try.func62, Try.ntmps62
  have t3 := Try.underlying3
  have u3 := Try.runUnderlying3
  have g3 := Try.isAgg3
  have z3 := Try.sizeOf3
  have t4 := Try.underlying4
  have u4 := Try.runUnderlying4
  have g4 := Try.isAgg4
  have z4 := Try.sizeOf4
  have t29 := Try.underlying29
  have u29 := Try.runUnderlying29
  have g29 := Try.isAgg29
  have z29 := Try.sizeOf29
  have t31 := Try.underlying31
  have u31 := Try.runUnderlying31
  have g31 := Try.isAgg31
  have z31 := Try.sizeOf31
  have c61 := Try.call61
  have c72 := Try.call72
  have mixed : Try.prog.follows .mixedOrders = true := by kernel_rfl
  obtain ⟨k30, hk30⟩ : ∃ k, k = 17 := ⟨_, rfl⟩
  rw [← hk30] at z29
  have nk30 : ¬ k30 = 0 := by omega
  have HK29 := Lib.hid hk30
  obtain ⟨k40, hk40⟩ : ∃ k, k = 18 := ⟨_, rfl⟩
  rw [← hk40] at z31
  have nk40 : ¬ k40 = 0 := by omega
  have HK31 := Lib.hid hk40
  have hP : Try.prog = PD := rfl
  rw [hP] at t3 u3 g3 z3 t4 u4 g4 z4 t29 u29 g29 z29 t31 u31 g31 z31 c61 c72 mixed v40 l1 ⊢
  have HP := Lib.hid hP.symm
  clear hP hk30 hk40
  rw [← HK29.out] at l1
  have hAk : A.size = k30 := by rw [HK29.out]; exact hsz
  have hBk : B.size = k30 := by rw [HK29.out]; exact hszb
  have hZk : Z.size = k40 := by rw [HK31.out]; exact hz18
  have hCk : ∀ k, (C k).size = k40 := fun k => by rw [HK31.out]; exact HPA.out.2.2.1 k
  clear hsz hszb hz18 hPs hQs
  go_wp2_with (first | (go_at_call 72; go_loud (refine (at_prog HP.out (HPO.out K (Nat.le_refl _) _)).mono ?_; rintro e w3 ⟨rfl, hf3⟩; obtain ⟨y, hst, hyb, hyf⟩ := store_all (P := PD) (C K).toList (heap_alloc_new w3 (.cells Z 31)) (by rw [Array.length_toList, hCk, hZk]) (HPA.out.2.2.2.1 K))) | fail)
  obtain ⟨cb, hcb⟩ : ∃ cb, w3.heap.size = cb := ⟨_, rfl⟩
  obtain ⟨m, hm⟩ : ∃ m, w.heap.size = m := ⟨_, rfl⟩
  have hsz3 : (((w.alloc (.cells P 31)).alloc (.cells Q 31)).alloc (.cells Z 31)).heap.size = m + 1 + 1 + 1 := by rw [← hm]; simp
  have hge := hf3.size
  rw [hsz3, hcb] at hge
  have HN : Hid (Fr No w y ∧ y.heap[m]? = some (.cells P 31 (0, 0)) ∧ y.heap[m + 1]? = some (.cells Q 31 (0, 0)) ∧ y.heap[m + 1 + 1]? = some (.cells Z 31 (0, 0)) ∧ y.heap[cb]? = some (.cells (C K) 31 (0, 0)) ∧ m + 1 + 1 < cb) := by
    have h0 : Fr No (((w.alloc (.cells P 31)).alloc (.cells Q 31)).alloc (.cells Z 31)) y := (hf3.trans (Fr.alloc No w3 (.cells Z 31))).ofNew hyf fun k hk => .inr (by rw [hk]; exact hf3.size)
    rw [← hm]
    exact ⟨HB.out.2.2.2.trans h0, h0.keep HB.out.1, h0.keep HB.out.2.1, h0.keep HB.out.2.2.1, by rw [← hcb]; simpa using hyb, by rw [hm]; omega⟩
  rw [hcb, hm]
  have Hm := Lib.hid hm
  clear hst hyb hyf hf3 hsz3 hge hcb hm HB l1 c1 c2
  go_loopg [6] (K + 1) (fun g s wr => ∃ k : Nat, s = .bool true ∧ k ≤ K ∧ k < g ∧ Hid (comK p q k = comK p q K ∧ Fr (fun j => j = cb) y wr ∧ wr.heap[cb]? = some (.cells (C k) 31 (0, 0))))
  case atStart => exact ⟨K, rfl, Nat.le_refl _, by omega, rfl, Fr.refl _ _, HN.out.2.2.2.2.1⟩
  case round =>
    obtain ⟨k, rfl, hkK, hkg, HR⟩ := hrel
    have HL : Hid (∀ w', Fr No wr w' → Sem.run PD (loadCellsFrom ⟨m, 0, none⟩ 0 k30 #[]) w' = .ok A w' ∧ Sem.run PD (loadCellsFrom ⟨m + 1, 0, none⟩ 0 k30 #[]) w' = .ok B w' ∧ Sem.run PD (loadCellsFrom ⟨cb, 0, none⟩ 0 k40 #[]) w' = .ok (C k) w' ∧ w'.heap[m + 1 + 1]? = some (.cells Z 31 (0, 0)) ∧ w'.heap[cb]? = some (.cells (C k) 31 (0, 0))) := fun w' hf => by
      have kb : ∀ j o, j ≠ cb → y.heap[j]? = some o → w'.heap[j]? = some o := fun j o hj h => hf.keep ((HR.out.2.1.block j (Array.getElem?_eq_some_iff.1 h).1 hj).trans h)
      have hlt := HN.out.2.2.2.2.2
      have h1 := hf.keep HR.out.2.2
      exact ⟨load_block (kb m _ (by omega) HN.out.2.1) hAk HPA.out.1, load_block (kb (m + 1) _ (by omega) HN.out.2.2.1) hBk HPA.out.2.1, load_block h1 (hCk k) (fun j v hv => by simpa using hv), kb (m + 1 + 1) _ (by omega) HN.out.2.2.2.1, h1⟩
    have lb := (HL.out wr (Fr.refl _ _)).2.1
    have lc := (HL.out wr (Fr.refl _ _)).2.2.1
    cases hk : hs k
    · obtain ⟨j, rfl⟩ : ∃ j, k = j + 1 := ⟨k - 1, by
        cases k with
        | zero => rw [HK0.out.2.2.1] at hk; cases hk
        | succ j => rfl⟩
      have HE : Hid (comK p q j = comK p q K) := by have h := HK0.out.2.1 j hk; rw [HR.out.1] at h; exact h.symm
      have HCT2 : Hid (∀ w', Calls Try.prog 61 #[.agg (C (j + 1)), .agg B] w' fun e w'' => e = .returned (.bool false) ∧ Fr No w' w'') := fun w' => by rw [← hk]; exact HCT.out (j + 1) w'
      have HPO2 := Lib.hid (HPO.out j (by omega))
      have HC17 : Hid (∀ w', Fr No wr w' → w'.cell? ⟨cb, 17, none⟩ = some (.int .i64 ((j : Int) + 1))) := fun w' hf => by
        rw [cell_of_row _ _ _ _ _ _ (HL.out w' hf).2.2.2.2, HPA.out.2.2.2.2]
        simp
      have hj0 : (0 : Int) ≤ (j : Int) := by omega
      have hj1 : (j : Int) ≤ 128 := by omega
      clear hk
      go_wp2_with (first | (go_at_call 61; go_loud (refine (at_prog HP.out (HCT2.out _)).mono ?_; rintro e w5 ⟨rfl, hf5⟩; have la5 := (HL.out w5 hf5).1; have c5 := HC17.out w5 hf5)) | (go_at_call 72; go_loud (refine (at_prog HP.out (HPO2.out _)).mono ?_; rintro e w6 ⟨rfl, hf6⟩; have f6 := hf5.trans hf6; obtain ⟨y6, hst6, hyb6, hyf6⟩ := store_all (P := PD) (C j).toList (HL.out w6 f6).2.2.2.2 (by rw [Array.length_toList, hCk, hCk]) (HPA.out.2.2.2.1 j))) | fail)
      go_roundg (j + 1)
      case measure => exact hkg
      case rel => exact ⟨j, rfl, by omega, by omega, HE.out, (HR.out.2.1.trans f6.no).trans hyf6, by simpa using hyb6⟩
    · have HE : Hid (comK p q K = k) := by
        show _ = _
        rw [← HR.out.1]
        cases k with
        | zero => exact HK0.out.2.2.2.1
        | succ j => exact HK0.out.1 j hk
      have HCT2 : Hid (∀ w', Calls Try.prog 61 #[.agg (C k), .agg B] w' fun e w'' => e = .returned (.bool true) ∧ Fr No w' w'') := fun w' => by rw [← hk]; exact HCT.out k w'
      clear hk
      go_wp2_with (first | (go_at_call 61; go_loud (refine (at_prog HP.out (HCT2.out _)).mono ?_; rintro e w5 ⟨rfl, hf5⟩; have lc5 := (HL.out w5 hf5).2.2.1; obtain ⟨y5, hst5, hyb5, hyf5⟩ := store_all (P := PD) (C k).toList (HL.out w5 hf5).2.2.2.1 (by rw [Array.length_toList, hCk, hZk]) (HPA.out.2.2.2.1 k))) | fail)
      refine bodyPost_ret_by (results_agg rfl _ (b := m + 1 + 1) (k := 18) (cs := C k) (Try.isAgg31 _) (Try.sizeOf31 _) rfl (load_block hyb5 (HPA.out.2.2.1 k) (fun j v hv => by simpa using hv))) rfl ?_
      have h1 : Fr No w wr := HN.out.1.ofNew HR.out.2.1 fun j hj => .inr (by rw [hj, Hm.out]; have := HN.out.2.2.2.2.2; omega)
      exact ⟨by rw [HK0.out.2.2.2.2.2 k HE.out], (h1.trans hf5).ofNew hyf5 fun j hj => .inr (by rw [hj, Hm.out]; omega)⟩
end Go.Proofs.Ytnbohhiooigmbaa
